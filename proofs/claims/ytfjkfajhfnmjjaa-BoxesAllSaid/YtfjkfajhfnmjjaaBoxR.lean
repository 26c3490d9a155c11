/- Package boxes: Read by its contract. -/
import Derived.Test.YtfjkfajhfnmjjaaBoxQ
set_option linter.unusedVariables false
set_option linter.unusedSimpArgs false
namespace Go.Proofs.Ytfjkfajhfnmjjaa
open Go.RowKit Go.Shelf
attribute [local go_sem] Oper.semAt_some
attribute [local go_sem ↓] appSem_eq
theorem all_any (A : Option Addr) (n c : Nat) (w : World) : Calls Try.prog 17 #[.slice A n c] w fun e w' => e = .returned (.func (.func 22) #[] #[.pointer (some ⟨w.heap.size, 0, none⟩)]) ∧ w' = w.alloc (.cells #[.slice A n c] 24) := by
  go_enter Try.func17, Try.ntmps17
  go_wp2
  go_ret
  exact ⟨rfl, rfl⟩
/-- Boxes in memory. -/
structure BoxL (w : World) (q : Nat) (V : Value) (bs : List (List Int × List Int)) : Prop where
  ex : ∃ its : List (List Int × List Int × Value), bs = its.map (fun t => (t.1, t.2.1)) ∧ w.ownsRow q 42 2 V its.length (its.flatMap fun t => [.string (strOf t.1), t.2.2]) ∧ ∀ t ∈ its, w.ownsRow q 5 1 t.2.2 t.2.1.length (t.2.1.map (Value.int .u8))
theorem own_kept {w w' : World} {base e s n : Nat} {v : Value} {xs : List Value} {r : Option Nat} (h : w.ownsRow base e s v n xs) (hg : w.grownBy w' r) (hr : ∀ k, r = some k → k < base ∨ ∃ cs t fr, w.heap[k]? = some (.cells cs t fr) ∧ t ≠ e) : w'.ownsRow base e s v n xs := by
  refine ownsRow_keep h hg.size fun k hk => hg.block k (own_lt h hk).2 fun hk2 => ?_
  rcases hr k hk2.symm with h1 | ⟨cs, t, fr, h1, h2⟩
  · have := (own_lt h hk).1; omega
  · rcases h.2 with ⟨rfl, _⟩ | ⟨g, cap, cur, rfl, _, hgb, _⟩
    · simp [Value.ownBlock] at hk
    · obtain rfl : g = k := by simpa [Value.ownBlock] using hk
      rw [hgb] at h1
      cases h1
      exact h2 rfl
theorem own_blk {w : World} {base e s n : Nat} {v : Value} {xs : List Value} (h : w.ownsRow base e s v n xs) {k : Nat} (hk : v.ownBlock = some k) : ∃ cs fr, w.heap[k]? = some (.cells cs e fr) := by
  rcases h.2 with ⟨rfl, _⟩ | ⟨g, cap, cur, rfl, _, hgb, _⟩
  · simp [Value.ownBlock] at hk
  · obtain rfl : g = k := by simpa [Value.ownBlock] using hk
    exact ⟨_, _, hgb⟩
theorem BoxL.kept {w w' : World} {q : Nat} {V : Value} {bs : List (List Int × List Int)} (h : BoxL w q V bs) {r : Option Nat} (hg : w.grownBy w' r) (hr : ∀ k, r = some k → k < q) : BoxL w' q V bs := by
  obtain ⟨its, h1, h2, h3⟩ := h.ex
  exact ⟨its, h1, own_kept h2 hg fun k e => .inl (hr k e), fun t ht => own_kept (h3 t ht) hg fun k e => .inl (hr k e)⟩
theorem BoxL.len {w : World} {q : Nat} {V : Value} {bs : List (List Int × List Int)} (h : BoxL w q V bs) : ∃ A c, V = .slice A bs.length c := by
  obtain ⟨its, rfl, h2, h3⟩ := h.ex
  obtain ⟨A, c, rfl, _⟩ := own_any h2
  exact ⟨A, c, by rw [List.length_map]⟩
theorem info42 : (Try.prog.info? 42).map (fun i => (i.zero, i.size, i.bytes)) = some (some (.agg #[.string ⟨#[]⟩, .slice none 0 0]), 2, 40) := by kernel_rfl
theorem BoxL.app {w : World} {q z : Nat} {V v : Value} {bs : List (List Int × List Int)} {k d : List Int} (h : BoxL w q V bs) (hv : w.ownsRow q 5 1 v d.length (d.map (Value.int .u8))) (hz : w.heap[z]? = some (.cells #[.string (strOf k), v] 42 (0, 0))) (hb : q ≤ w.heap.size) (hm : bs.length ≤ 1000) :
    ∃ V' w', (appSem #[22, 22] 22 #[V, .slice (some ⟨z, 0, none⟩) 1 1]).run Try.prog w = .ok V' w' ∧ BoxL w' q V' (bs ++ [(k, d)]) ∧ w.grownBy w' V.ownBlock := by
  obtain ⟨i0, hi, hzz⟩ := Option.map_eq_some_iff.1 info42
  simp only [Prod.mk.injEq] at hzz
  obtain ⟨hz0, hz1, hz2⟩ := hzz
  obtain ⟨its, rfl, h2, h3⟩ := h.ex
  rw [List.length_map] at hm
  obtain ⟨va, vc, rfl, _⟩ := own_any hv
  obtain ⟨v', w', hr, hown', hg, _, hat⟩ := run_append_own_at (P := Try.prog) w q 22 22 42 i0 _ 2 40 (by kernel_rfl) hi hz0 hz1 hz2 rfl (by decide) V its.length _ h2 ⟨z, 0, none⟩ 1 1 [.string (strOf k), .slice va d.length vc] rfl (fun j u hu => by
    rcases j with _ | _ | j
    · simp at hu; subst hu; simp [World.cell?, Addr.add, hz]
    · simp at hu; subst hu; simp [World.cell?, Addr.add, hz]
    · simp at hu) (fun u hu => by
    simp at hu
    rcases hu with rfl | rfl <;> rfl) (by unfold maxLen; omega) (by omega) hb
  have hne : ∀ j, V.ownBlock = some j → ∃ cs t fr, w.heap[j]? = some (.cells cs t fr) ∧ t ≠ 5 := fun j hj => by
    obtain ⟨cs, fr, e⟩ := own_blk h2 hj
    exact ⟨cs, _, fr, e, by decide⟩
  refine ⟨v', w', hr, ⟨its ++ [(k, d, .slice va d.length vc)], by simp, by simpa using hown', fun t ht => ?_⟩, hg⟩
  rcases List.mem_append.1 ht with ht | ht
  · exact own_kept (h3 t ht) hg fun j hj => .inr (hne j hj)
  · obtain rfl : t = (k, d, .slice va d.length vc) := by simpa using ht
    exact own_kept hv hg fun j hj => .inr (hne j hj)
/-- Between the rounds of Read. -/
structure RdI (w : World) (q : Nat) (pre : List (List Int × List Int)) (A : World) : Prop where
  ex : ∃ V, A.heap[w.heap.size + 1 + 1]? = some (.cells #[V] 22 (0, 0)) ∧ BoxL A q V pre
  r0 : A.heap[w.heap.size]? = some (.cells #[.slice none 0 0] 22 (0, 0))
  r1 : A.heap[w.heap.size + 1]? = some (.cells #[.int .i64 0] 31 (0, 0))
  q : w.heap.size + 4 < q ∧ q ≤ A.heap.size
  bel : Below w.heap.size w A
/-- Read has found an error. -/
structure RdX (w : World) (R : Res) (A : World) : Prop where
  ex : ∃ c, R = .bad c ∧ A.heap[w.heap.size + 1]? = some (.cells #[.int .i64 c] 31 (0, 0))
  r0 : A.heap[w.heap.size]? = some (.cells #[.slice none 0 0] 22 (0, 0))
  bel : Below w.heap.size w A
theorem RdI.grown {w : World} {q p : Nat} {pre : List (List Int × List Int)} {A A' : World} (h : RdI w q pre A) (hp : w.heap.size + 4 ≤ p) (hpq : p < q) (hg : A.grownBy A' (some p)) : RdI w q pre A' := by
  obtain ⟨V, h1, h2⟩ := h.ex
  have kp : ∀ k, k < w.heap.size + 4 → A'.heap[k]? = A.heap[k]? := fun k hk => hg.block k (by have := h.q; omega) (fun e => by injection e with e; omega)
  exact ⟨⟨V, (kp _ (by omega)).trans h1, h2.kept hg (fun k e => by injection e with e; omega)⟩, (kp _ (by omega)).trans h.r0, (kp _ (by omega)).trans h.r1, ⟨h.q.1, Nat.le_trans h.q.2 hg.size⟩, h.bel.grown hg (by have := h.q; omega) (fun k e => by injection e with e; omega)⟩
theorem RdX.grown {w : World} {R : Res} {p : Nat} {A A' : World} (h : RdX w R A) (hp : w.heap.size + 4 ≤ p) (hg : A.grownBy A' (some p)) : RdX w R A' := by
  obtain ⟨c, h1, h2⟩ := h.ex
  have kp : ∀ k o, k < w.heap.size + 4 → A.heap[k]? = some o → A'.heap[k]? = some o := fun k o hk ho => (hg.block k (Array.getElem?_eq_some_iff.1 ho).1 (fun e => by injection e with e; omega)).trans ho
  exact ⟨⟨c, h1, kp _ _ (by omega) h2⟩, kp _ _ (by omega) h.r0, h.bel.grown hg h.bel.size (fun k e => by injection e with e; omega)⟩
set_option maxRecDepth 100000 in
set_option maxHeartbeats 4000000 in
set_option pp.deepTerms true in
set_option pp.maxSteps 10000000 in
theorem read_any (A0 : Option Addr) (len cap : Nat) (bs : List Int) (w : World) (hbl : bs.length = len) (hA : A0 = none → len = 0 ∧ cap = 0) (hL : Lst w w.heap.size A0 (bs.map (Value.int .u8))) (hlen : len ≤ 100000) (hby : ∀ x ∈ bs, 0 ≤ x ∧ x ≤ 255) :
    Calls Try.prog 11 #[.slice A0 len cap] w fun e w' => Below w.heap.size w w' ∧ match rdF (bs.length + 1) 0 bs with
      | .bad c => e = .returned (.tuple #[.slice none 0 0, .int .i64 c])
      | .good l => ∃ V, e = .returned (.tuple #[V, .int .i64 0]) ∧ BoxL w' w.heap.size V l := by
  obtain ⟨R, hR⟩ : ∃ R, rdF (bs.length + 1) 0 bs = R := ⟨_, rfl⟩
  rw [hR]
  have HR := Lib.hid hR.symm
  have HARG := Lib.hid (And.intro hbl (And.intro hA (And.intro hL hby)))
  clear hR hbl hA hL hby
  refine callsIn_wide (n := 9) |>.1 ?_
  have hF1 : Fence.wide.fn 17 := trivial
  refine callsIn_of_wp_marks Try.func11 rfl trivial ?_ rfl
  simp only [Try.ntmps11, List.size_toArray, List.length_cons, List.length_nil, Nat.reduceAdd, Nat.reduceSub, Array.replicate_succ, Array.replicate_zero, List.push_toArray, List.append_toArray, List.nil_append, List.cons_append]
  gi_wp2_with (gi_at_call 17; refine (callsIn_wide.2 (all_any _ _ _ _)).mono ?_; rintro e w' ⟨rfl, rfl⟩)
  obtain ⟨W4, hW4⟩ : ∃ W4, (((w.alloc (.cells #[.slice none 0 0] 22)).alloc (.cells #[.int .i64 0] 31)).alloc (.cells #[.slice none 0 0] 22)).alloc (.cells #[.slice A0 len cap] 24) = W4 := ⟨_, rfl⟩
  have hB4 : Below w.heap.size w W4 := by rw [← hW4]; exact (((((Below.refl _ w).alloc (Nat.le_refl _) _).alloc (by simp) _).alloc (by simp; omega) _).alloc (by simp; omega) _)
  have hz4 : W4.heap.size = w.heap.size + 1 + 1 + 1 + 1 := by rw [← hW4]; simp
  have kk : ∀ (V : World) (o : Obj) (k : Nat), k < V.heap.size → (V.alloc o).heap[k]? = V.heap[k]? := fun V o k hk => Below.heap_alloc V o k hk
  have nn : ∀ (V : World) (o : Obj) (k : Nat), V.heap.size = k → (V.alloc o).heap[k]? = some o := fun V o k hk => by rw [← hk]; exact World.alloc_heap_new V o
  have q0 : W4.heap[w.heap.size]? = some (.cells #[.slice none 0 0] 22 (0, 0)) := by rw [← hW4, kk _ _ _ (by simp <;> omega), kk _ _ _ (by simp <;> omega), kk _ _ _ (by simp)]; exact nn _ _ _ rfl
  have q1 : W4.heap[w.heap.size + 1]? = some (.cells #[.int .i64 0] 31 (0, 0)) := by rw [← hW4, kk _ _ _ (by simp <;> omega), kk _ _ _ (by simp <;> omega)]; exact nn _ _ _ (by simp)
  have q2 : W4.heap[w.heap.size + 1 + 1]? = some (.cells #[.slice none 0 0] 22 (0, 0)) := by rw [← hW4, kk _ _ _ (by simp)]; exact nn _ _ _ (by simp)
  have q3 : W4.heap[w.heap.size + 1 + 1 + 1]? = some (.cells #[.slice A0 len cap] 24 (0, 0)) := by rw [← hW4]; exact nn _ _ _ (by simp)
  rw [hW4]
  clear hW4 kk nn
  have hL4 : Lst W4 W4.heap.size A0 (bs.map (Value.int .u8)) := fun i u hu => by
    obtain ⟨b, o, e, hlt, hcell⟩ := HARG.out.2.2.1 i u hu
    exact ⟨b, o, e, by omega, (hB4.cell (p := ⟨b, o + i, none⟩) hlt).trans hcell⟩
  refine wpIn_rangeAll (w.heap.size + 1 + 1 + 1) A0 len cap bs R rfl q3 HARG.out.1 HARG.out.2.1 hL4 hlen HARG.out.2.2.2 HR.out rfl (fun q pre A => RdI w q pre A) (fun A => RdX w R A) ?h0
    (fun q p pre A A' hp hpq _ hi hg => hi.grown (by omega) hpq hg) (fun p A A' hp hx hg => hx.grown (by omega) hg)
    (fun z kd V e => { tmps := #[.slice A0 len cap, undef, .pointer (some ⟨w.heap.size, 0, none⟩), .pointer (some ⟨w.heap.size + 1, 0, none⟩), .pointer (some ⟨w.heap.size + 1 + 1, 0, none⟩), .pointer (some ⟨z, 0, none⟩), .int .i64 e, .slice A0 len cap, .func (.func 22) #[] #[.pointer (some ⟨w.heap.size + 1 + 1 + 1, 0, none⟩)], .agg #[kd, V], .int .i64 e, undef, undef, undef, undef, undef, undef, undef, undef, undef, undef, undef, undef, undef, undef, undef], defers := [] })
    ?asg ?body ?err ?done ?stop
  case h0 =>
    intro q A hq hb hqA
    exact ⟨⟨_, (hb.block _ (by omega)).trans q2, ⟨[], rfl, World.ownsRow_nil _ _ _ _, fun t ht => by simp at ht⟩⟩, (hb.block _ (by omega)).trans q0, (hb.block _ (by omega)).trans q1, ⟨by omega, hqA⟩, hB4.trans (hb.mono (by omega))⟩
  case asg =>
    intro l s va n1 c1 e A K hK
    gi_wp2
    exact hK
  case body =>
    intro l q pre kd d V z A hi hq hqA hown hz h100 hle
    obtain ⟨va, vc, rfl, _⟩ := own_any hown
    obtain ⟨VL, hv, hbox⟩ := hi.ex
    obtain ⟨LA, Lc, rfl⟩ := hbox.len
    have c0 := blk_cell hi.r0 0
    have c1 := blk_cell hi.r1 0
    have c2 := blk_cell hv 0
    have z0 := blk_cell hz 0
    have z1 := blk_cell hz 1
    have f0 := blk_frozen hi.r0 0
    have f1 := blk_frozen hi.r1 0
    have f2 := blk_frozen hv 0
    simp at c0 c1 c2 z0 z1
    have HI := Lib.hid hi
    have HV := Lib.hid hv
    have HZ := Lib.hid hz
    by_cases hn : pre.length = 100
    · have hR4 := h100 hn
      rw [hn] at c2
      have HX : Hid (RdX w R ((A.setCell ⟨w.heap.size, 0, none⟩ (.slice none 0 0)).setCell ⟨w.heap.size + 1, 0, none⟩ (.int .i64 4))) := Lib.hid ⟨⟨4, hR4, by
          have := blk_set (w := A.setCell ⟨w.heap.size, 0, none⟩ (.slice none 0 0)) (p := w.heap.size + 1) (by rw [Below.heap_setCell _ _ _ _ (by simp)]; exact hi.r1) 0 (.int .i64 4)
          simpa using this⟩, by
          rw [Below.heap_setCell _ _ _ _ (by simp)]
          have := blk_set hi.r0 0 (.slice none 0 0)
          simpa using this, (hi.bel.setCell (p := ⟨w.heap.size, 0, none⟩) (Nat.le_refl _) _).setCell (p := ⟨w.heap.size + 1, 0, none⟩) (by show w.heap.size ≤ w.heap.size + 1; omega) _⟩
      clear hi hv hz hbox hown h100
      gi_wp2
      refine ⟨.inr ⟨rfl, HX.out⟩, by simp [World.setCell], fun k hk _ => ?_⟩
      rw [Below.heap_setCell _ _ _ _ (by simp; omega), Below.heap_setCell _ _ _ _ (by simp; omega)]
    · obtain ⟨m, hm⟩ : ∃ m, pre.length = m := ⟨_, rfl⟩
      have hbox2 : BoxL (A.alloc (.cells #[.string (strOf kd), .slice va d.length vc] 42)) q (.slice LA pre.length Lc) pre := hbox.kept (World.grownBy_alloc A _ none) (fun k e => by cases e)
      have hown2 : (A.alloc (.cells #[.string (strOf kd), .slice va d.length vc] 42)).ownsRow q 5 1 (.slice va d.length vc) d.length (d.map (Value.int .u8)) := own_kept hown (World.grownBy_alloc A _ none) (fun k e => by cases e)
      obtain ⟨V', w', hr, hb', hg'⟩ := hbox2.app (z := A.heap.size) hown2 (World.alloc_heap_new A _) (by simp; omega) (by omega)
      have hrow := hbox.ex
      have hLq : ∀ k, (Value.slice LA pre.length Lc).ownBlock = some k → q ≤ k := fun k hk => by
        obtain ⟨its, _, h2, _⟩ := hbox2.ex
        exact (own_lt h2 hk).1
      have kp : ∀ k o, k < q → A.heap[k]? = some o → w'.heap[k]? = some o := fun k o hk ho => by
        have h1 := (Below.heap_alloc A (.cells #[.string (strOf kd), .slice va d.length vc] 42) k (Array.getElem?_eq_some_iff.1 ho).1).trans ho
        exact (hg'.block k (Array.getElem?_eq_some_iff.1 h1).1 (fun e => by have := hLq k e.symm; omega)).trans h1
      have kpE : ∀ k, k < q → w'.heap[k]? = A.heap[k]? := fun k hk => by
        have h1 := Below.heap_alloc A (.cells #[.string (strOf kd), .slice va d.length vc] 42) k (by omega)
        exact (hg'.block k (by simp; omega) (fun e => by have := hLq k e.symm; omega)).trans h1
      have hs' : A.heap.size ≤ w'.heap.size := by have := hg'.size; rw [World.size_alloc] at this; omega
      have hbel' : Below w.heap.size w w' := (hi.bel.alloc (by have := hi.bel.size; omega) _).grown hg' (by have := hi.bel.size; simp; omega) (fun k e => by have := hLq k e; omega)
      obtain ⟨itA, itc, hV'⟩ := hb'.len
      rw [List.length_append, List.length_singleton, hm] at hV'
      subst hV'
      have HN : Hid (RdI w q (pre ++ [(kd, d)]) (w'.setCell ⟨w.heap.size + 1 + 1, 0, none⟩ (.slice itA (m + 1) itc))) := Lib.hid ⟨⟨.slice itA (m + 1) itc, by
          have := blk_set (kp _ _ (by omega) hv) 0 (.slice itA (m + 1) itc)
          simpa using this, hb'.kept (grown_set w' (w.heap.size + 1 + 1) 0 _) (fun k e => by cases e; show w.heap.size + 1 + 1 < q; have := hi.q.1; omega)⟩, by
          rw [Below.heap_setCell _ _ _ _ (by show w.heap.size ≠ w.heap.size + 1 + 1; omega)]; exact kp _ _ (by omega) hi.r0, by
          rw [Below.heap_setCell _ _ _ _ (by show w.heap.size + 1 ≠ w.heap.size + 1 + 1; omega)]; exact kp _ _ (by omega) hi.r1, ⟨hi.q.1, by simp [World.setCell]; omega⟩, hbel'.setCell (p := ⟨w.heap.size + 1 + 1, 0, none⟩) (by show w.heap.size ≤ w.heap.size + 1 + 1; omega) _⟩
      have d2 := (World.cell?_of_block (w := A) (a := ⟨w.heap.size + 1 + 1, 0, none⟩) (kpE _ (by show w.heap.size + 1 + 1 < q; omega))).trans c2
      have e2 : w'.frozen? ⟨w.heap.size + 1 + 1, 0, none⟩ = false := blk_frozen (kp _ _ (by omega) hv) 0
      have hn100 : ((m : Int) == 100) = false := by simp; omega
      have hlt : pre.length < 100 := by omega
      have KE := Lib.hid kpE
      have HS := Lib.hid hs'
      rw [hm] at c2 hr d2
      have HLT := Lib.hid hlt
      clear hi hv hz hbox hown h100 hbox2 hown2 hb' hg' hrow hLq kp kpE hs' hbel' hle hn hlt
      gi_wp2
      refine ⟨.inl ⟨rfl, HN.out, HLT.out⟩, by have := HS.out; simp [World.setCell]; exact this, fun k hk hkq => ?_⟩
      rw [Below.heap_setCell _ _ _ _ (by simp; omega)]
      exact KE.out k hkq
  case err =>
    intro l q pre ce z A hi hq hqA hz hce hRc
    have c0 := blk_cell hi.r0 0
    have c1 := blk_cell hi.r1 0
    have f0 := blk_frozen hi.r0 0
    have f1 := blk_frozen hi.r1 0
    have hne : ¬ ce = 0 := by omega
    have heq : (ce == 0) = false := by simpa using hne
    simp at c0 c1
    have HX : Hid (RdX w R ((A.setCell ⟨w.heap.size, 0, none⟩ (.slice none 0 0)).setCell ⟨w.heap.size + 1, 0, none⟩ (.int .i64 ce))) := Lib.hid ⟨⟨ce, hRc, by
        have := blk_set (w := A.setCell ⟨w.heap.size, 0, none⟩ (.slice none 0 0)) (p := w.heap.size + 1) (by rw [Below.heap_setCell _ _ _ _ (by simp)]; exact hi.r1) 0 (.int .i64 ce)
        simpa using this⟩, by
        rw [Below.heap_setCell _ _ _ _ (by simp)]
        have := blk_set hi.r0 0 (.slice none 0 0)
        simpa using this, (hi.bel.setCell (p := ⟨w.heap.size, 0, none⟩) (Nat.le_refl _) _).setCell (p := ⟨w.heap.size + 1, 0, none⟩) (by show w.heap.size ≤ w.heap.size + 1; omega) _⟩
    clear hi hz hRc
    gi_wp2
    refine ⟨HX.out, fun k hk _ => ?_⟩
    rw [Below.heap_setCell _ _ _ _ (by simp; omega), Below.heap_setCell _ _ _ _ (by simp; omega)]
  case done =>
    intro q pre A hRp hi hq hd
    rw [hz4] at hd
    obtain ⟨VL, hv, hbox⟩ := hi.ex
    obtain ⟨LA, Lc, rfl⟩ := hbox.len
    have c0 := blk_cell hi.r0 0
    have c1 := blk_cell hi.r1 0
    have c2 := blk_cell hv 0
    have f0 := blk_frozen hi.r0 0
    have f1 := blk_frozen hi.r1 0
    simp at c0 c1 c2
    have HI := Lib.hid hi
    have HBX := Lib.hid hbox
    have HD := Lib.hid hd
    subst hRp
    have HS1 : Hid (Below w.heap.size w ((A.setCell ⟨w.heap.size, 0, none⟩ (.slice LA pre.length Lc)).setCell ⟨w.heap.size + 1, 0, none⟩ (.int .i64 0)) ∧ ((A.setCell ⟨w.heap.size, 0, none⟩ (.slice LA pre.length Lc)).setCell ⟨w.heap.size + 1, 0, none⟩ (.int .i64 0)).cell? ⟨w.heap.size, 0, none⟩ = some (.slice LA pre.length Lc) ∧ ((A.setCell ⟨w.heap.size, 0, none⟩ (.slice LA pre.length Lc)).setCell ⟨w.heap.size + 1, 0, none⟩ (.int .i64 0)).cell? ⟨w.heap.size + 1, 0, none⟩ = some (.int .i64 0)) := Lib.hid ⟨(hi.bel.setCell (p := ⟨w.heap.size, 0, none⟩) (Nat.le_refl _) _).setCell (p := ⟨w.heap.size + 1, 0, none⟩) (by show w.heap.size ≤ w.heap.size + 1; omega) _, by
        rw [World.cell?_of_block (Below.heap_setCell _ _ _ _ (by simp))]
        have := blk_cell (blk_set hi.r0 0 (.slice LA pre.length Lc)) 0
        simpa using this, by
        have := blk_cell (blk_set (w := A.setCell ⟨w.heap.size, 0, none⟩ (.slice LA pre.length Lc)) (p := w.heap.size + 1) (by rw [Below.heap_setCell _ _ _ _ (by simp)]; exact hi.r1) 0 (.int .i64 0)) 0
        simpa using this⟩
    clear hi hv hbox hd
    have hd2 : ((A.setCell ⟨w.heap.size, 0, none⟩ (.slice LA pre.length Lc)).setCell ⟨w.heap.size + 1, 0, none⟩ (.int .i64 0)).heap[w.heap.size + 1 + 1 + 1 + 1]? = some (.deferred (some [])) := by
      rw [Below.heap_setCell _ _ _ _ (by simp; omega), Below.heap_setCell _ _ _ _ (by simp; omega)]; exact HD.out
    have hbx : BoxL ((A.setCell ⟨w.heap.size, 0, none⟩ (.slice LA pre.length Lc)).setCell ⟨w.heap.size + 1, 0, none⟩ (.int .i64 0)) q (.slice LA pre.length Lc) pre :=
      (HBX.out.kept (grown_set A w.heap.size 0 _) (fun k e => by cases e; show w.heap.size < q; omega)).kept (grown_set _ (w.heap.size + 1) 0 _) (fun k e => by cases e; show w.heap.size + 1 < q; omega)
    have HB2 := Lib.hid (And.intro hd2 hbx)
    clear hd2 hbx
    gi_wp2
    refine ⟨by simp, .inl ⟨_, _, rfl, run_takeDeferred HB2.out.1, ?_⟩⟩
    obtain ⟨W9, hW9⟩ : ∃ W9, (A.setCell ⟨w.heap.size, 0, none⟩ (.slice LA pre.length Lc)).setCell ⟨w.heap.size + 1, 0, none⟩ (.int .i64 0) = W9 := ⟨_, rfl⟩
    rw [hW9] at HS1 HB2 ⊢
    clear hW9 c0 c1 c2 f0 f1
    obtain ⟨b1, b2, b3⟩ := HS1.out
    have d0 := (World.cell?_of_block (w := W9) (a := ⟨w.heap.size, 0, none⟩) (w' := W9.putObj (w.heap.size + 1 + 1 + 1 + 1) (.deferred none)) (World.putObj_heap_other (by show w.heap.size ≠ w.heap.size + 1 + 1 + 1 + 1; omega))).trans b2
    have d1 := (World.cell?_of_block (w := W9) (a := ⟨w.heap.size + 1, 0, none⟩) (w' := W9.putObj (w.heap.size + 1 + 1 + 1 + 1) (.deferred none)) (World.putObj_heap_other (by show w.heap.size + 1 ≠ w.heap.size + 1 + 1 + 1 + 1; omega))).trans b3
    refine ⟨.tuple #[.slice LA pre.length Lc, .int .i64 0], by simp [results, Try.f11, go_sem, d0, d1], b1.trans (belowK_b (w := w) (Nat.le_refl _) W9 (w.heap.size + 1 + 1 + 1 + 1) _ _ (by omega) HB2.out.1 rfl rfl), _, rfl, ?_⟩
    have hp := HB2.out.2.kept (grownBy_putObj' W9 (w.heap.size + 1 + 1 + 1 + 1) (.deferred none)) (fun k e => by cases e; omega)
    obtain ⟨its, e1, e2, e3⟩ := hp.ex
    exact ⟨its, e1, own_mono e2 (by omega), fun t ht => own_mono (e3 t ht) (by omega)⟩
  case stop =>
    intro A hx hd
    rw [hz4] at hd
    obtain ⟨c, hRc, h1⟩ := hx.ex
    subst hRc
    have c0 := blk_cell hx.r0 0
    have c1 := blk_cell h1 0
    simp at c0 c1
    have hbel := hx.bel
    clear hx h1
    gi_wp2
    refine ⟨by simp, .inl ⟨_, _, rfl, run_takeDeferred hd, ?_⟩⟩
    have d0 := (World.cell?_of_block (w := A) (a := ⟨w.heap.size, 0, none⟩) (w' := A.putObj (w.heap.size + 1 + 1 + 1 + 1) (.deferred none)) (World.putObj_heap_other (by show w.heap.size ≠ w.heap.size + 1 + 1 + 1 + 1; omega))).trans c0
    have d1 := (World.cell?_of_block (w := A) (a := ⟨w.heap.size + 1, 0, none⟩) (w' := A.putObj (w.heap.size + 1 + 1 + 1 + 1) (.deferred none)) (World.putObj_heap_other (by show w.heap.size + 1 ≠ w.heap.size + 1 + 1 + 1 + 1; omega))).trans c1
    exact ⟨.tuple #[.slice none 0 0, .int .i64 c], by simp [results, Try.f11, go_sem, d0, d1], hbel.trans (belowK_b (w := w) (Nat.le_refl _) A (w.heap.size + 1 + 1 + 1 + 1) _ _ (by omega) hd rfl rfl), rfl⟩
end Go.Proofs.Ytfjkfajhfnmjjaa
