/- Packets in order: order.sorted walked. -/
import Derived.Test.YtejoedanhonpkaaOrT0
set_option linter.unusedVariables false
set_option linter.unusedSimpArgs false
namespace Go.Proofs.Ytejoedanhonpkaa
open Go.RowKit Go.Shelf Go.Sort
set_option maxRecDepth 100000
theorem rankF_enters (o : Nat) (ho : o < 5) : ∀ args w, (callFunc (rankF o) args).run Try.prog w = .ok (.enter (rankF o) args) w := by
  obtain rfl | rfl | rfl | rfl | rfl := (by omega : o = 0 ∨ o = 1 ∨ o = 2 ∨ o = 3 ∨ o = 4)
  · exact enters_of Try.func35 (by kernel_rfl) rfl
  · exact enters_of Try.func36 (by kernel_rfl) rfl
  · exact enters_of Try.func37 (by kernel_rfl) rfl
  · exact enters_of Try.func38 (by kernel_rfl) rfl
  · exact enters_of Try.func39 (by kernel_rfl) rfl
/-- A struct stored in the middle of a block, in a drawn region. -/
theorem run_store_mid {P : Program} {tmps : Array Value} {df : List Deferred} {ty : TypeId} {kx ky : Nat} {d : Option Tmp} {tt : TypeId} {ps : String} {af : Array Edge} {gd : Option (Nat × Bool)} {w : World} {g o : Nat} {cells : Array Value} (hx : tmps[kx]?.getD undef = .pointer (some ⟨g, o, none⟩)) (hy : tmps[ky]?.getD undef = .agg cells)
    (ht : w.there g o cells.size) (hi : (P.info? ty).map (·.size) = some cells.size) (h1 : cells.all (·.oneCell') = true) :
    (execOp (Act.eval ⟨tmps, df⟩) ⟨d, .store ty (.tmp kx) (.tmp ky), tt, ps, af, gd⟩).run P w = .ok .skip (w.setCells g o cells.toList) := by
  have hx' : Act.eval ⟨tmps, df⟩ (.tmp kx) = .pointer (some ⟨g, o, none⟩) := (Array.getD_eq_getD_getElem? ..).trans hx
  have hy' : Act.eval ⟨tmps, df⟩ (.tmp ky) = .agg cells := (Array.getD_eq_getD_getElem? ..).trans hy
  unfold execOp
  simp only [hx', hy', Instr.storeAt, Instr.sureAddr, Sem.run_bind, Sem.run_pure, Result.andThen_ok, run_storeVar_mid w g o ty cells ht hi h1]
theorem cells6 {w : World} {b : Nat} {a0 a1 a2 a3 a4 a5 : Value} {t : TypeId} (h : w.heap[b]? = some (.cells #[a0, a1, a2, a3, a4, a5] t (0, 0))) :
    w.cell? ⟨b, 0, none⟩ = some a0 ∧ w.cell? ⟨b, 1, none⟩ = some a1 ∧ w.cell? ⟨b, 2, none⟩ = some a2 ∧ w.cell? ⟨b, 3, none⟩ = some a3 ∧ w.cell? ⟨b, 4, none⟩ = some a4 ∧ w.cell? ⟨b, 5, none⟩ = some a5 := by
  simp [World.cell?, h]
/-- Between two rounds of the first loop. -/
structure SI (w wr : World) (bc ba n i o : Nat) (L : List Pk) : Prop where
  bel : Below w.heap.size w wr
  fc : wr.heap[bc]? = some (.cells #[(.func (.func 29) #[] #[])] 70 (0, 0))
  ra : RowsAt wr ba 12 n i (encR o) L
  lt : w.heap.size ≤ bc ∧ bc < ba ∧ ba < wr.heap.size
theorem SI.below {w wr w2 : World} {bc ba n i o : Nat} {L : List Pk} (h : SI w wr bc ba n i o L) (hb : Below wr.heap.size wr w2) : SI w w2 bc ba n i o L :=
  ⟨h.bel.trans (hb.mono h.bel.size), (hb.block _ (by have := h.lt; omega)).trans h.fc, h.ra.below hb h.lt.2.2, ⟨h.lt.1, h.lt.2.1, Nat.lt_of_lt_of_le h.lt.2.2 hb.size⟩⟩
theorem size_setCells (b : Nat) : ∀ (vs : List Value) (o : Nat) (w : World), (w.setCells b o vs).heap.size = w.heap.size
  | [], _, _ => rfl
  | v :: r, o, w => by rw [World.setCells, size_setCells b r]; simp [World.setCell]
theorem heap_setCells (b : Nat) : ∀ (vs : List Value) (o : Nat) (w : World) (k : Nat), k ≠ b → (w.setCells b o vs).heap[k]? = w.heap[k]?
  | [], _, _, _, _ => rfl
  | v :: r, o, w, k, h => by rw [World.setCells, heap_setCells b r _ _ k h]; exact Below.heap_setCell _ _ _ _ h
theorem SI.put {w wr : World} {bc ba n i o : Nat} {L : List Pk} (h : SI w wr bc ba n i o L) {x : Pk} (hx : L[i]? = some x) (hi : i < n) : SI w (wr.setCells ba (i * 12) (encR o x)) bc ba n (i + 1) o L :=
  ⟨below_setCells (by have := h.lt; omega) _ _ _ h.bel, (heap_setCells _ _ _ _ _ (by have := h.lt; omega)).trans h.fc, h.ra.put (encR_len o) hx hi, ⟨h.lt.1, h.lt.2.1, by rw [size_setCells]; exact h.lt.2.2⟩⟩
set_option maxHeartbeats 8000000 in
theorem sorted_any (o : Nat) (ho : o < 5) (PL : List Pk) (A : Option Addr) (n c : Nat) (w : World) (hL : PkR w A PL) (hl : PL.length = n) (hn : n ≤ 13000000) :
    Calls Try.prog 28 #[.slice A n c, .func (.func (rankF o)) #[] #[], (.func (.func 29) #[] #[])] w fun e w' => ∃ (M : List Pk) (B : Option Addr) (c' : Nat), e = .returned (.slice B n c') ∧ M.Perm PL ∧ Srt o M ∧ PkR w' B M ∧ Below w.heap.size w w' := by
  have RK := Lib.hid (fun x u => rankF_any o ho x u)
  have EN := rankF_enters o ho
  obtain ⟨kf, hkf⟩ : ∃ k, rankF o = k := ⟨_, rfl⟩
  rw [hkf] at RK EN ⊢
  clear hkf
  have HLL := Lib.hid hL
  have HN := Lib.hid hl
  obtain ⟨X0, hX0⟩ : ∃ X, w.alloc (.cells #[(.func (.func 29) #[] #[])] 70) = X := ⟨_, rfl⟩
  obtain ⟨X1, hX1⟩ : ∃ X, X0.alloc (.cells (madeCells #[.int .i64 0, .int .i64 0, .int .i64 0, .int .i64 0, .int .i64 0, .int .i64 0, .int .i64 0, .int .i64 0, .int .i64 0, .int .i64 0, .int .i64 0, .int .i64 0] (n * 12)) 87) = X := ⟨_, rfl⟩
  have hmk := hmkRk X0 n (by omega)
  have hb0 : Below w.heap.size w X0 := by rw [← hX0]; exact (Below.refl _ _).alloc (Nat.le_refl _) _
  have hs0 : X0.heap.size = w.heap.size + 1 := by rw [← hX0, World.size_alloc]
  have HS1 : Hid (SI w X1 w.heap.size (w.heap.size + 1) n 0 o PL) := Lib.hid (by
    rw [← hX1]
    refine ⟨hb0.alloc (by omega) _, ?_, ⟨?_, fun j x hj => absurd hj (Nat.not_lt_zero _)⟩, ⟨Nat.le_refl _, Nat.lt_succ_self _, by rw [World.size_alloc]; omega⟩⟩
    · rw [Below.heap_alloc X0 _ _ (by omega), ← hX0]; exact World.alloc_heap_new w _
    · have := there_made X0 87 #[.int .i64 0, .int .i64 0, .int .i64 0, .int .i64 0, .int .i64 0, .int .i64 0, .int .i64 0, .int .i64 0, .int .i64 0, .int .i64 0, .int .i64 0, .int .i64 0] (n * 12)
      rwa [hs0] at this)
  clear hL hl hb0
  go_enter Try.func28, Try.ntmps28
  rw [hs0, hX1] at hmk
  go_upto_region 2 with fail
  clear hmk hX1 hX0 hs0
  obtain ⟨bc, hbc⟩ : ∃ b, w.heap.size = b := ⟨_, rfl⟩
  have HBC := Lib.hid hbc
  rw [hbc] at HS1 ⊢
  clear hbc
  obtain ⟨ba, hba⟩ : ∃ b, bc + 1 = b := ⟨_, rfl⟩
  rw [hba] at HS1 ⊢
  clear hba
  go_wp2_with fail
  go_loopg [8, 9, 18] n (fun g v8 v9 v18 wr => ∃ i : Nat, i + g = n ∧ v18 = .int .i64 (i : Int) ∧ Hid (SI w wr bc ba n i o PL))
  case atStart => exact ⟨0, by omega, rfl, HS1⟩
  case round =>
    obtain ⟨i, hig, rfl, HI⟩ := hrel
    clear HS1
    by_cases hlt : i < n
    · obtain ⟨g1, rfl⟩ : ∃ g1, gk = g1 + 1 := ⟨gk - 1, by omega⟩
      obtain ⟨x, hx⟩ : ∃ x, PL[i]? = some x := ⟨_, List.getElem?_eq_getElem (by rw [HN.out]; exact hlt)⟩
      have hI : (i : Int) < (n : Int) ∧ (0 : Int) ≤ (i : Int) := by omega
      obtain ⟨ga, oa, rfl, hga, k0, k1, k2, k3, k4, k5⟩ := (HLL.out.below (HI.out.bel.mono (Nat.le_refl _))) i x hx
      have HX := Lib.hid hx
      clear hx
      go_upto_region 5 with fail
      obtain ⟨zx, hz⟩ : ∃ zx, wr.heap.size = zx := ⟨_, rfl⟩
      rw [hz]
      obtain ⟨X, hX⟩ : ∃ X, wr.alloc (.cells #[.int .i64 x.ly, .int .i64 x.rs, .int .i64 x.cp, .int .i64 x.pc, .int .i64 x.dn, .int .i64 x.ac] 66) = X := ⟨_, rfl⟩
      have hzX : X.heap[zx]? = some (.cells #[.int .i64 x.ly, .int .i64 x.rs, .int .i64 x.cp, .int .i64 x.pc, .int .i64 x.dn, .int .i64 x.ac] 66 (0, 0)) := by rw [← hX, ← hz]; exact World.alloc_heap_new wr _
      have HI2 : Hid (SI w X bc ba n i o PL ∧ X.heap[zx]? = some (.cells #[.int .i64 x.ly, .int .i64 x.rs, .int .i64 x.cp, .int .i64 x.pc, .int .i64 x.dn, .int .i64 x.ac] 66 (0, 0)) ∧ ba < zx ∧ zx < X.heap.size) := Lib.hid ⟨by rw [← hX]; exact HI.out.below ((Below.refl _ _).alloc (Nat.le_refl _) _), hzX, by rw [← hz]; exact HI.out.lt.2.2, (Array.getElem?_eq_some_iff.1 hzX).1⟩
      rw [hX]
      clear hX hzX hz k0 k1 k2 k3 k4 k5
      obtain ⟨a0, a1, a2, a3, a4, a5, ha⟩ := rk_six o x
      have RKx : Hid (∀ u, Calls Try.prog kf #[.agg #[.int .i64 x.ly, .int .i64 x.rs, .int .i64 x.cp, .int .i64 x.pc, .int .i64 x.dn, .int .i64 x.ac]] u fun e w' => e = .returned (.agg #[.int .i64 a0, .int .i64 a1, .int .i64 a2, .int .i64 a3, .int .i64 a4, .int .i64 a5]) ∧ Below u.heap.size u w') := Lib.hid (fun u => by
        have := RK.out x u
        rw [ha] at this
        exact this)
      have HE : Hid (encR o x = [.int .i64 x.ly, .int .i64 x.rs, .int .i64 x.cp, .int .i64 x.pc, .int .i64 x.dn, .int .i64 x.ac, .int .i64 a0, .int .i64 a1, .int .i64 a2, .int .i64 a3, .int .i64 a4, .int .i64 a5]) := Lib.hid (by unfold encR; rw [ha]; rfl)
      clear ha
      obtain ⟨VL, hVL⟩ : ∃ VL : Unit → List (Nat × Nat × Value), VL = fun z => [(0, 23, .slice (some ⟨ba, 0, none⟩) n n), (1, 24, .int .i64 (i : Int)), (2, 25, .agg #[.int .i64 x.ly, .int .i64 x.rs, .int .i64 x.cp, .int .i64 x.pc, .int .i64 x.dn, .int .i64 x.ac]), (3, 26, .func (.func kf) #[] #[]), (4, 27, .agg #[.int .i64 x.ly, .int .i64 x.rs, .int .i64 x.cp, .int .i64 x.pc, .int .i64 x.dn, .int .i64 x.ac]), (5, 28, .agg #[.int .i64 a0, .int .i64 a1, .int .i64 a2, .int .i64 a3, .int .i64 a4, .int .i64 a5]), (6, 29, .agg #[.int .i64 x.ly, .int .i64 x.rs, .int .i64 x.cp, .int .i64 x.pc, .int .i64 x.dn, .int .i64 x.ac, .int .i64 a0, .int .i64 a1, .int .i64 a2, .int .i64 a3, .int .i64 a4, .int .i64 a5]), (7, 30, .pointer (some ⟨ba, i * 12, none⟩))] := ⟨_, rfl⟩
      have hok : ∀ z, manyOk 52 (VL z) := fun z => by rw [hVL]; exact ⟨by simp, by simp, by simp⟩
      have HVL := Lib.hid hVL
      have hvi : ∀ z, ∀ x ∈ VL z, x.1 < 9 := fun z => by rw [hVL]; simp
      have HOK := Lib.hid hok
      have HVI := Lib.hid hvi
      clear hVL hok hvi
      refine (wpIn_wide (n := 9)).1 (regionIn_many (N := 52) (w := _) VL (fun L z w' => (bif L 8 then (SI w w' bc ba n (i + 1) o PL) else (SI w w' bc ba n i o PL) ∧ w'.heap[zx]? = some (.cells #[.int .i64 x.ly, .int .i64 x.rs, .int .i64 x.cp, .int .i64 x.pc, .int .i64 x.dn, .int .i64 x.ac] 66 (0, 0)) ∧ ba < zx ∧ zx < w'.heap.size)) [(1, .func (.func kf) #[] #[]), (7, .slice (some ⟨ba, 0, none⟩) n n), (8, .int .i64 (i : Int)), (9, .pointer (some ⟨zx, 0, none⟩))] (by kernel_rfl) (by kernel_rfl) rfl (by simp only [List.forall_mem_cons, List.not_mem_nil, false_imp_iff, implies_true, and_true]; exact ⟨rfl, rfl, rfl, rfl⟩) HVI.out () ?start ?step ?fin)
      case start => exact ⟨HI2.out.1.below (below_drewN (Below.refl _ _) 1), HI2.out.2.1, HI2.out.2.2.1, HI2.out.2.2.2⟩
      case step =>
        intro gg_ hgN hgF ii_ hii_ L z w' hph hs hu
        have hF1 := hgF (1, .func (.func kf) #[] #[]) (by simp)
        have hF7 := hgF (7, .slice (some ⟨ba, 0, none⟩) n n) (by simp)
        have hF8 := hgF (8, .int .i64 (i : Int)) (by simp)
        have hF9 := hgF (9, .pointer (some ⟨zx, 0, none⟩)) (by simp)
        have hL := hu.1
        have hii_ : ii_ < 9 := hii_
        clear hgF
        obtain rfl | rfl | rfl | rfl | rfl | rfl | rfl | rfl | rfl := (by omega : ii_ = 0 ∨ ii_ = 1 ∨ ii_ = 2 ∨ ii_ = 3 ∨ ii_ = 4 ∨ ii_ = 5 ∨ ii_ = 6 ∨ ii_ = 7 ∨ ii_ = 8)
        · skip
          have n8 : L 8 = false := not_yet hL fun h => shut_at hs 8 0 (by kernel_rfl) (h)
          try simp only [n8, hL, cond_true, cond_false] at hph
          have e7 : (many gg_ L (VL z))[7]?.getD undef = .slice (some ⟨ba, 0, none⟩) n n := many_out hgN (HOK.out z).1 (by rw [HVL.out]; rfl) hF7
          refine opIn_run (v := .slice (some ⟨ba, 0, none⟩) n n) (w' := w') rfl rfl (fun c h => by cases h) (fun _ => trivial) ?_ ⟨z, by exact many_put (HOK.out _) 0 23 _ (by rw [HVL.out]; simp) hL, by simp only [upd, n8, hL, Nat.reduceBEq, cond_true, cond_false]; exact hph⟩
          go_simp
        · skip
          have n8 : L 8 = false := not_yet hL fun h => shut_at hs 8 1 (by kernel_rfl) (h)
          try simp only [n8, hL, cond_true, cond_false] at hph
          have e8 : (many gg_ L (VL z))[8]?.getD undef = .int .i64 (i : Int) := many_out hgN (HOK.out z).1 (by rw [HVL.out]; rfl) hF8
          refine opIn_run (v := .int .i64 (i : Int)) (w' := w') rfl rfl (fun c h => by cases h) (fun _ => trivial) ?_ ⟨z, by exact many_put (HOK.out _) 1 24 _ (by rw [HVL.out]; simp) hL, by simp only [upd, n8, hL, Nat.reduceBEq, cond_true, cond_false]; exact hph⟩
          go_simp
        · skip
          have n8 : L 8 = false := not_yet hL fun h => shut_at hs 8 2 (by kernel_rfl) (h)
          try simp only [n8, hL, cond_true, cond_false] at hph
          obtain ⟨g0, g1, g2, g3, g4, g5⟩ := cells6 hph.2.1
          have e9 : (many gg_ L (VL z))[9]?.getD undef = .pointer (some ⟨zx, 0, none⟩) := many_out hgN (HOK.out z).1 (by rw [HVL.out]; rfl) hF9
          refine opIn_run (v := .agg #[.int .i64 x.ly, .int .i64 x.rs, .int .i64 x.cp, .int .i64 x.pc, .int .i64 x.dn, .int .i64 x.ac]) (w' := w') rfl rfl (fun c h => by cases h) (fun _ => trivial) ?_ ⟨z, by exact many_put (HOK.out _) 2 25 _ (by rw [HVL.out]; simp) hL, by simp only [upd, n8, hL, Nat.reduceBEq, cond_true, cond_false]; exact hph⟩
          go_simp
        · skip
          have n8 : L 8 = false := not_yet hL fun h => shut_at hs 8 3 (by kernel_rfl) (h)
          try simp only [n8, hL, cond_true, cond_false] at hph
          have e1 : (many gg_ L (VL z))[1]?.getD undef = .func (.func kf) #[] #[] := many_out hgN (HOK.out z).1 (by rw [HVL.out]; rfl) hF1
          refine opIn_run (v := .func (.func kf) #[] #[]) (w' := w') rfl rfl (fun c h => by cases h) (fun _ => trivial) ?_ ⟨z, by exact many_put (HOK.out _) 3 26 _ (by rw [HVL.out]; simp) hL, by simp only [upd, n8, hL, Nat.reduceBEq, cond_true, cond_false]; exact hph⟩
          go_simp
        · skip
          have n8 : L 8 = false := not_yet hL fun h => shut_at hs 8 4 (by kernel_rfl) (h)
          try simp only [n8, hL, cond_true, cond_false] at hph
          obtain ⟨g0, g1, g2, g3, g4, g5⟩ := cells6 hph.2.1
          have e9 : (many gg_ L (VL z))[9]?.getD undef = .pointer (some ⟨zx, 0, none⟩) := many_out hgN (HOK.out z).1 (by rw [HVL.out]; rfl) hF9
          refine opIn_run (v := .agg #[.int .i64 x.ly, .int .i64 x.rs, .int .i64 x.cp, .int .i64 x.pc, .int .i64 x.dn, .int .i64 x.ac]) (w' := w') rfl rfl (fun c h => by cases h) (fun _ => trivial) ?_ ⟨z, by exact many_put (HOK.out _) 4 27 _ (by rw [HVL.out]; simp) hL, by simp only [upd, n8, hL, Nat.reduceBEq, cond_true, cond_false]; exact hph⟩
          go_simp
        · skip
          have y3 : L 3 = true := up_at hu 3 (by kernel_rfl)
          have y4 : L 4 = true := up_at hu 4 (by kernel_rfl)
          have n8 : L 8 = false := not_yet hL fun h => shut_at hs 8 5 (by kernel_rfl) (h)
          try simp only [y3, y4, n8, hL, cond_true, cond_false] at hph
          have e26 : (many gg_ L (VL z))[26]?.getD undef = .func (.func kf) #[] #[] := many_eval hgN (HOK.out z).1 (by rw [HVL.out]; simp [lookM, y3])
          have e27 : (many gg_ L (VL z))[27]?.getD undef = .agg #[.int .i64 x.ly, .int .i64 x.rs, .int .i64 x.cp, .int .i64 x.pc, .int .i64 x.dn, .int .i64 x.ac] := many_eval hgN (HOK.out z).1 (by rw [HVL.out]; simp [lookM, y4])
          refine opIn_call (f := kf) (args := #[.agg #[.int .i64 x.ly, .int .i64 x.rs, .int .i64 x.cp, .int .i64 x.pc, .int .i64 x.dn, .int .i64 x.ac]]) (w' := w') rfl rfl (fun c h => by cases h) (fun _ => trivial) rfl (by go_simp) ((callsIn_wide.2 (RKx.out w')).mono ?_)
          rintro e w2 ⟨rfl, hb⟩
          exact ⟨_, rfl, z, by exact many_put (HOK.out _) 5 28 _ (by rw [HVL.out]; simp) hL, by simp only [upd, y3, y4, n8, hL, Nat.reduceBEq, cond_true, cond_false]; exact ⟨hph.1.below hb, (hb.block _ hph.2.2.2).trans hph.2.1, hph.2.2.1, Nat.lt_of_lt_of_le hph.2.2.2 hb.size⟩⟩
        · skip
          have y2 : L 2 = true := up_at hu 2 (by kernel_rfl)
          have y5 : L 5 = true := up_at hu 5 (by kernel_rfl)
          have n8 : L 8 = false := not_yet hL fun h => shut_at hs 8 6 (by kernel_rfl) (h)
          try simp only [y2, y5, n8, hL, cond_true, cond_false] at hph
          have e25 : (many gg_ L (VL z))[25]?.getD undef = .agg #[.int .i64 x.ly, .int .i64 x.rs, .int .i64 x.cp, .int .i64 x.pc, .int .i64 x.dn, .int .i64 x.ac] := many_eval hgN (HOK.out z).1 (by rw [HVL.out]; simp [lookM, y2])
          have e28 : (many gg_ L (VL z))[28]?.getD undef = .agg #[.int .i64 a0, .int .i64 a1, .int .i64 a2, .int .i64 a3, .int .i64 a4, .int .i64 a5] := many_eval hgN (HOK.out z).1 (by rw [HVL.out]; simp [lookM, y5])
          refine opIn_run (v := .agg #[.int .i64 x.ly, .int .i64 x.rs, .int .i64 x.cp, .int .i64 x.pc, .int .i64 x.dn, .int .i64 x.ac, .int .i64 a0, .int .i64 a1, .int .i64 a2, .int .i64 a3, .int .i64 a4, .int .i64 a5]) (w' := w') rfl rfl (fun c h => by cases h) (fun _ => trivial) ?_ ⟨z, by exact many_put (HOK.out _) 6 29 _ (by rw [HVL.out]; simp) hL, by simp only [upd, y2, y5, n8, hL, Nat.reduceBEq, cond_true, cond_false]; exact hph⟩
          go_simp
        · skip
          have y0 : L 0 = true := up_at hu 0 (by kernel_rfl)
          have y1 : L 1 = true := up_at hu 1 (by kernel_rfl)
          have y2 : L 2 = true := up_at hu 2 (by kernel_rfl)
          have y3 : L 3 = true := up_at hu 3 (by kernel_rfl)
          have y4 : L 4 = true := up_at hu 4 (by kernel_rfl)
          have y5 : L 5 = true := up_at hu 5 (by kernel_rfl)
          have y6 : L 6 = true := up_at hu 6 (by kernel_rfl)
          have n8 : L 8 = false := not_yet hL fun h => shut_at hs 8 7 (by kernel_rfl) (h)
          try simp only [y0, y1, y2, y3, y4, y5, y6, n8, hL, cond_true, cond_false] at hph
          have e23 : (many gg_ L (VL z))[23]?.getD undef = .slice (some ⟨ba, 0, none⟩) n n := many_eval hgN (HOK.out z).1 (by rw [HVL.out]; simp [lookM, y0])
          have e24 : (many gg_ L (VL z))[24]?.getD undef = .int .i64 (i : Int) := many_eval hgN (HOK.out z).1 (by rw [HVL.out]; simp [lookM, y1])
          refine opIn_run (v := .pointer (some ⟨ba, i * 12, none⟩)) (w' := w') rfl rfl (fun c h => by cases h) (fun _ => trivial) ?_ ⟨z, by exact many_put (HOK.out _) 7 30 _ (by rw [HVL.out]; simp) hL, by simp only [upd, y0, y1, y2, y3, y4, y5, y6, n8, hL, Nat.reduceBEq, cond_true, cond_false]; exact hph⟩
          go_simp
        · skip
          have y0 : L 0 = true := up_at hu 0 (by kernel_rfl)
          have y1 : L 1 = true := up_at hu 1 (by kernel_rfl)
          have y2 : L 2 = true := up_at hu 2 (by kernel_rfl)
          have y3 : L 3 = true := up_at hu 3 (by kernel_rfl)
          have y4 : L 4 = true := up_at hu 4 (by kernel_rfl)
          have y5 : L 5 = true := up_at hu 5 (by kernel_rfl)
          have y6 : L 6 = true := up_at hu 6 (by kernel_rfl)
          have y7 : L 7 = true := up_at hu 7 (by kernel_rfl)
          try simp only [y0, y1, y2, y3, y4, y5, y6, y7, hL, cond_true, cond_false] at hph
          have e29 : (many gg_ L (VL z))[29]?.getD undef = .agg #[.int .i64 x.ly, .int .i64 x.rs, .int .i64 x.cp, .int .i64 x.pc, .int .i64 x.dn, .int .i64 x.ac, .int .i64 a0, .int .i64 a1, .int .i64 a2, .int .i64 a3, .int .i64 a4, .int .i64 a5] := many_eval hgN (HOK.out z).1 (by rw [HVL.out]; simp [lookM, y6])
          have e30 : (many gg_ L (VL z))[30]?.getD undef = .pointer (some ⟨ba, i * 12, none⟩) := many_eval hgN (HOK.out z).1 (by rw [HVL.out]; simp [lookM, y7])
          refine opIn_skip (w' := w'.setCells ba (i * 12) [.int .i64 x.ly, .int .i64 x.rs, .int .i64 x.cp, .int .i64 x.pc, .int .i64 x.dn, .int .i64 x.ac, .int .i64 a0, .int .i64 a1, .int .i64 a2, .int .i64 a3, .int .i64 a4, .int .i64 a5]) rfl rfl (fun c h => by cases h) (fun _ => trivial) ?_ ⟨z, by exact many_none 8 _ (by rw [HVL.out]; simp), by simp only [upd, y0, y1, y2, y3, y4, y5, y6, y7, hL, Nat.reduceBEq, cond_true, cond_false]; exact (by rw [← HE.out]; exact hph.1.put HX.out hlt)⟩
          exact run_store_mid e30 e29 (there_sub hph.1.ra.th (Nat.zero_le _) (by show i * 12 + 12 ≤ 0 + n * 12; omega)) (by kernel_rfl) (by kernel_rfl)
      case fin =>
        intro L z w' hall hph
        have l8 := hall 8 (by decide)
        simp only [l8, cond_true] at hph
        clear l8
        rw [HVL.out]
        dsimp only [manyL, List.set_cons_zero, List.set_cons_succ]
        clear hall HVL HOK HVI
        have HP := Lib.hid hph
        clear hph HI2 HI
        go_wp2_with fail
        go_roundg g1
        case rel => exact ⟨i + 1, by omega, by go_num, HP⟩
        case measure => omega
    · obtain rfl : i = n := by omega
      have hnlt : ¬ (i : Int) < (i : Int) := by omega
      have SF := sortf_any o bc ba i PL.toArray wr (blkc HI.out.fc 0) (by have := HI.out.lt; omega) (HI.out.ra.holds HN.out) HI.out.lt.2.2 (by rw [List.size_toArray, HN.out]; omega)
      rw [List.size_toArray, HN.out] at SF
      have SFH := Lib.hid SF
      clear SF
      go_upto_region 8 with (go_at_call 44; refine SFH.out.mono ?_; rintro e w5 ⟨rfl, d5, hd1, hd2, hd3, hd4, hd5⟩)
      obtain ⟨X6, hX6⟩ : ∃ X, w5.alloc (.cells (madeCells #[.int .i64 0, .int .i64 0, .int .i64 0, .int .i64 0, .int .i64 0, .int .i64 0] (i * 6)) 66) = X := ⟨_, rfl⟩
      have hmk := hmkPk w5 i (by omega)
      rw [hX6] at hmk
      obtain ⟨bo, hbo⟩ : ∃ b, w5.heap.size = b := ⟨_, rfl⟩
      rw [hbo] at hmk
      have hd1' : d5.size = i := hd1
      have hbl5 : Below w.heap.size w w5 := HI.out.bel.grown hd5 HI.out.bel.size (fun k e => by injection e with e; have := HI.out.lt; omega)
      have hlb : ba < bo := by rw [← hbo]; exact Nat.lt_of_lt_of_le HI.out.lt.2.2 hd5.size
      have HT0 : Hid (Below bo w5 X6 ∧ RowsAt X6 bo 6 i 0 Pk.vals d5.toList ∧ bo < X6.heap.size) := Lib.hid (by
        rw [← hX6]
        refine ⟨by rw [← hbo]; exact (Below.refl _ _).alloc (Nat.le_refl _) _, ⟨?_, fun j x hj => absurd hj (Nat.not_lt_zero _)⟩, by rw [World.size_alloc]; omega⟩
        have := there_made w5 66 #[.int .i64 0, .int .i64 0, .int .i64 0, .int .i64 0, .int .i64 0, .int .i64 0] (i * 6)
        rwa [hbo] at this)
      have HD := Lib.hid (And.intro hd1' (And.intro hd2 (And.intro hd3 (And.intro hd4 hbl5))))
      have HBO := Lib.hid hbo
      clear hd1 hd2 hd3 hd4 hd5 hd1' hbl5 SFH HI hX6 hbo
      go_wp2_with fail
      clear hmk
      go_loopg [11, 12, 40] i (fun g v11 v12 v40 wr => ∃ j : Nat, j + g = i ∧ v40 = .int .i64 (j : Int) ∧ Hid (Below bo w5 wr ∧ RowsAt wr bo 6 i j Pk.vals d5.toList ∧ bo < wr.heap.size))
      case atStart => exact ⟨0, by omega, rfl, HT0⟩
      case round =>
        obtain ⟨j, hjg, rfl, HJ⟩ := hrel
        clear HT0
        by_cases hjt : j < i
        · obtain ⟨g1, rfl⟩ : ∃ g1, gk = g1 + 1 := ⟨gk - 1, by omega⟩
          have hJI : (j : Int) < (i : Int) ∧ (0 : Int) ≤ (j : Int) := by omega
          have hjd : j < d5.size := by rw [HD.out.1]; exact hjt
          obtain ⟨x, hx⟩ : ∃ x, d5.toList[j]? = some x := ⟨_, List.getElem?_eq_getElem (by simpa using hjd)⟩
          have hx2 : d5[j]! = x := by
            rw [getElem!_pos d5 j hjd]
            obtain ⟨_, e⟩ := List.getElem?_eq_some_iff.1 hx
            simpa using e
          have hc : ∀ c v, (encR o x)[c]? = some v → wr.cell? ⟨ba, j * 12 + c, none⟩ = some v := fun c v hv => by
            have hcl : c < 12 := by rw [← encR_len o x]; exact (List.getElem?_eq_some_iff.1 hv).1
            have h1 := (HD.out.2.2.2.1.cell hjd hcl).1
            rw [hx2, Nat.zero_add, getElem!_pos (encR o x) c (by rw [encR_len]; exact hcl)] at h1
            rw [HJ.out.1.cell (p := ⟨ba, j * 12 + c, none⟩) hlb, h1]
            obtain ⟨_, e⟩ := List.getElem?_eq_some_iff.1 hv
            rw [e]
          obtain ⟨a0, a1, a2, a3, a4, a5, ha⟩ := rk_six o x
          have he : encR o x = [.int .i64 x.ly, .int .i64 x.rs, .int .i64 x.cp, .int .i64 x.pc, .int .i64 x.dn, .int .i64 x.ac, .int .i64 a0, .int .i64 a1, .int .i64 a2, .int .i64 a3, .int .i64 a4, .int .i64 a5] := by unfold encR; rw [ha]; rfl
          rw [he] at hc
          have c0 := hc 0 _ rfl
          have c1 := hc 1 _ rfl
          have c2 := hc 2 _ rfl
          have c3 := hc 3 _ rfl
          have c4 := hc 4 _ rfl
          have c5 := hc 5 _ rfl
          have c6 := hc 6 _ rfl
          have c7 := hc 7 _ rfl
          have c8 := hc 8 _ rfl
          have c9 := hc 9 _ rfl
          have c10 := hc 10 _ rfl
          have c11 := hc 11 _ rfl
          rw [Nat.add_zero] at c0
          have HXX := Lib.hid hx
          clear hc he ha hx hx2
          go_upto_region 12 with fail
          obtain ⟨X, hX⟩ : ∃ X, wr.alloc (.cells #[.int .i64 x.ly, .int .i64 x.rs, .int .i64 x.cp, .int .i64 x.pc, .int .i64 x.dn, .int .i64 x.ac, .int .i64 a0, .int .i64 a1, .int .i64 a2, .int .i64 a3, .int .i64 a4, .int .i64 a5] 87) = X := ⟨_, rfl⟩
          obtain ⟨zx, hzx⟩ : ∃ zx, wr.heap.size = zx := ⟨_, rfl⟩
          have hzX : X.heap[zx]? = some (.cells #[.int .i64 x.ly, .int .i64 x.rs, .int .i64 x.cp, .int .i64 x.pc, .int .i64 x.dn, .int .i64 x.ac, .int .i64 a0, .int .i64 a1, .int .i64 a2, .int .i64 a3, .int .i64 a4, .int .i64 a5] 87 (0, 0)) := by rw [← hX, ← hzx]; exact World.alloc_heap_new wr _
          have HX6 : Hid (Below bo w5 X ∧ RowsAt X bo 6 i j Pk.vals d5.toList ∧ bo < X.heap.size) := Lib.hid (by
            have hb : Below wr.heap.size wr X := by rw [← hX]; exact (Below.refl _ _).alloc (Nat.le_refl _) _
            exact ⟨HJ.out.1.trans (hb.mono (Nat.le_of_lt HJ.out.2.2)), HJ.out.2.1.below hb HJ.out.2.2, Nat.lt_of_lt_of_le HJ.out.2.2 hb.size⟩)
          rw [hX, hzx]
          have y0 := blkc hzX 0
          have y1 := blkc hzX 1
          have y2 := blkc hzX 2
          have y3 := blkc hzX 3
          have y4 := blkc hzX 4
          have y5 := blkc hzX 5
          simp only [List.getElem?_toArray, List.getElem?_cons_zero, List.getElem?_cons_succ] at y0 y1 y2 y3 y4 y5
          clear c0 c1 c2 c3 c4 c5 c6 c7 c8 c9 c10 c11 hX hzx hzX HJ
          go_wp2_with (refine wpList_store_mid (op := ⟨none, _, _, _, _, _⟩) rfl 66 _ _ rfl bo (j * 6) #[.int .i64 x.ly, .int .i64 x.rs, .int .i64 x.cp, .int .i64 x.pc, .int .i64 x.dn, .int .i64 x.ac] rfl rfl (there_sub HX6.out.2.1.th (Nat.zero_le _) (by show j * 6 + 6 ≤ 0 + i * 6; omega)) (by kernel_rfl) (by kernel_rfl) ?_)
          go_roundg g1
          case rel => exact ⟨j + 1, by omega, by go_num, Lib.hid ⟨below_setCells (Nat.le_refl _) _ _ _ HX6.out.1, HX6.out.2.1.put (fun _ => rfl) HXX.out hjt, by rw [size_setCells]; exact HX6.out.2.2⟩⟩
          case measure => omega
        · obtain rfl : j = i := by omega
          have hnjt : ¬ (j : Int) < (j : Int) := by omega
          go_wp2
          go_ret
          exact ⟨d5.toList, _, ⟨j, rfl⟩, by simpa using HD.out.2.1, HD.out.2.2.1, HJ.out.2.1.pk (by simpa using HD.out.1) HJ.out.2.2, HD.out.2.2.2.2.trans (HJ.out.1.mono (by rw [← HBO.out]; exact HD.out.2.2.2.2.size))⟩
end Go.Proofs.Ytejoedanhonpkaa
