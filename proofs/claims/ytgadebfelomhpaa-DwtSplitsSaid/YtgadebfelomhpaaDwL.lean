/- lines of package dwt, by its contract. -/
import Derived.Test.YtgadebfelomhpaaDwB
import Derived.Test.YtgadebfelomhpaaOnly
set_option linter.unusedVariables false
set_option linter.unusedSimpArgs false
namespace Go.Proofs.Ytgadebfelomhpaa
open Go.RowKit

theorem sum_cast {a b m : Nat} (h : a + b = m) : (a : Int) + (b : Int) = (m : Int) := by omega
theorem own_cell {w : World} {lo g n c : Nat} {r : Nat → Int} (h : w.ownsRow lo 3 1 (.slice (some ⟨g, 0, none⟩) n c) n ((ranged r n).map (Value.int .i64))) {m : Nat} (hm : m < n) : w.cell? ⟨g, m, none⟩ = some (.int .i64 (r m)) := by
  rw [h.cellAt m (by omega), List.getElem?_map, ranged_get _ _ _ hm]; rfl
theorem own_set {w : World} {lo g n c : Nat} {r s : Nat → Int} (h : w.ownsRow lo 3 1 (.slice (some ⟨g, 0, none⟩) n c) n ((ranged r n).map (Value.int .i64))) {m : Nat} (u : Int) (hm : m < n) (hs : ∀ i, i < n → s i = if i = m then u else r i) :
    (w.setCell ⟨g, m, none⟩ (.int .i64 u)).ownsRow lo 3 1 (.slice (some ⟨g, 0, none⟩) n c) n ((ranged s n).map (Value.int .i64)) ∧ w.grownBy (w.setCell ⟨g, m, none⟩ (.int .i64 u)) (some g) := by
  have S := h.stored m (.int .i64 u)
  refine ⟨?_, S.2⟩
  have S1 := S.1
  rw [← List.map_set, ranged_set _ _ _ _ hm] at S1
  rw [ranged_congr hs]
  exact S1
theorem own_map {w : World} {lo g n c : Nat} {r s : Nat → Int} (h : w.ownsRow lo 3 1 (.slice (some ⟨g, 0, none⟩) n c) n ((ranged r n).map (Value.int .i64))) (hs : ∀ i, i < n → r i = s i) : w.ownsRow lo 3 1 (.slice (some ⟨g, 0, none⟩) n c) n ((ranged s n).map (Value.int .i64)) := by
  rw [← ranged_congr hs]; exact h
theorem own_other {w w' : World} {lo g g' n c : Nat} {xs : List Value} (h : w.ownsRow lo 3 1 (.slice (some ⟨g, 0, none⟩) n c) n xs) (hg : w.grownBy w' (some g')) (hne : g ≠ g') : w'.ownsRow lo 3 1 (.slice (some ⟨g, 0, none⟩) n c) n xs := by
  refine ownsRow_keep h hg.size (fun k hk => ?_)
  simp only [Value.ownBlock, Option.some.injEq] at hk
  subst hk
  exact hg.block _ (own_lt h rfl).2 (by intro e; injection e with e; exact hne e)
/-- What is above is the callee's own. -/
theorem grown_of_below {w w' : World} (h : Below w.heap.size w w') (row : Option Nat) : w.grownBy w' row := ⟨h.os, h.tape, h.output, h.size, fun k hk _ => h.block k hk⟩
/-- A block that is new is nobody's. -/
theorem grown_new {w w1 w2 : World} {z : Nat} {row : Option Nat} (h : w.grownBy w1 row) (k : w1.grownBy w2 (some z)) (hz : w.heap.size ≤ z) : w.grownBy w2 row :=
  ⟨k.os.trans h.os, k.tape.trans h.tape, k.output.trans h.output, Nat.le_trans h.size k.size, fun i hi hr => (k.block i (Nat.lt_of_lt_of_le hi h.size) (by intro e; injection e with e; omega)).trans (h.block i hi hr)⟩

theorem row_other {w w' : World} {A : Option Addr} {n c g : Nat} {l : List Int} (h : RowI w A n c l) (hg : w.grownBy w' (some g)) (hA : ∀ b o, A = some ⟨b, o, none⟩ → b ≠ g) : RowI w' A n c l := by
  refine ⟨h.1, h.2.1, h.2.2.1, h.2.2.2.1, fun i u hu => ?_⟩
  obtain ⟨b, o, e, hb, hc⟩ := h.2.2.2.2 i u hu
  exact ⟨b, o, e, Nat.lt_of_lt_of_le hb hg.size, hg.cell hc (by
    have := hA b o e
    intro e2; injection e2 with e2; exact this e2)⟩
theorem made_ranged (w : World) (n : Nat) (h3 : n ≤ 1000) : (w.alloc (Obj.cells (madeCells #[Value.int IntKind.i64 0] n) 3)).ownsRow w.heap.size 3 1 (.slice (some ⟨w.heap.size, 0, none⟩) n n) n ((ranged (fun _ => 0) n).map (Value.int .i64)) := by
  have h := World.ownsRow_lit (base := w.heap.size) (e := 3) (size := 1) w (madeCells #[Value.int IntKind.i64 0] n) n (Nat.le_refl _) (by unfold maxLen; omega) (by rw [size_madeCells]; omega)
  rw [toList_madeCells_one] at h
  have e : List.replicate n (Value.int .i64 0) = (ranged (fun _ => (0 : Int)) n).map (Value.int .i64) := by
    unfold ranged; rw [List.map_map]
    apply List.ext_getElem?
    intro i
    rw [List.getElem?_map]
    rcases Nat.lt_or_ge i n with hi | hi
    · rw [List.getElem?_replicate_of_lt hi, List.getElem?_range hi]; rfl
    · rw [List.getElem?_eq_none (by simpa using hi), List.getElem?_eq_none (by simpa using hi)]; rfl
  rw [e] at h
  exact h
set_option maxHeartbeats 4000000 in
theorem lines_any (k : Nat) (fr : Array Value) (hk : Enters Try.prog k) (g n c count apart length stride lo : Nat) (r : Nat → Int) (F : List Int → List Int) (ln ps : Nat → Nat) (w : World)
    (hn : n ≤ 100000) (h1 : count ≤ 1000) (h2 : apart ≤ 1000) (h3 : length ≤ 1000) (h4 : stride ≤ 1000)
    (hown : w.ownsRow lo 3 1 (.slice (some ⟨g, 0, none⟩) n c) n ((ranged r n).map (Value.int .i64)))
    (hpos : ∀ i j, i < count → j < length → i * apart + j * stride < n ∧ ln (i * apart + j * stride) = i ∧ ps (i * apart + j * stride) = j)
    (hall : ∀ m, m < n → ln m < count ∧ ps m < length ∧ m = ln m * apart + ps m * stride)
    (hF : ∀ i A cc w1, i < count → w.grownBy w1 (some g) → RowI w1 A length cc (ranged (fun j => r (i * apart + j * stride)) length) →
      Calls Try.prog k (#[.slice A length cc] ++ fr) w1 fun e w2 => ∃ A' c', e = .returned (.slice A' length c') ∧ RowO w1.heap.size w2 A' length c' (F (ranged (fun j => r (i * apart + j * stride)) length)) ∧ Below w1.heap.size w1 w2) :
    Calls Try.prog 35 #[.slice (some ⟨g, 0, none⟩) n c, .int .i64 (count : Int), .int .i64 (apart : Int), .int .i64 (length : Int), .int .i64 (stride : Int), .func (.func k) #[] fr] w fun e w' => e = .returned (.tuple #[]) ∧
      w'.ownsRow lo 3 1 (.slice (some ⟨g, 0, none⟩) n c) n ((ranged (fun m => (F (ranged (fun j => r (ln m * apart + j * stride)) length)).getD (ps m) 0) n).map (Value.int .i64)) ∧ w.grownBy w' (some g) := by
  obtain ⟨T, hT⟩ : ∃ T : Nat → Int, (fun m => (F (ranged (fun j => r (ln m * apart + j * stride)) length)).getD (ps m) 0) = T := ⟨_, rfl⟩
  have hTi : ∀ i j, i < count → j < length → (F (ranged (fun j => r (i * apart + j * stride)) length)).getD j 0 = T (i * apart + j * stride) := fun i j hi hj => by
    obtain ⟨_, p1, p2⟩ := hpos i j hi hj
    rw [← hT]
    simp only [p1, p2]
  rw [hT]
  have hgl : g < w.heap.size := (own_lt hown rfl).2
  have HP := Lib.hid hpos
  have HA := Lib.hid hall
  have HF := Lib.hid hF
  have HT := Lib.hid hTi
  have hmk := fun u => hmkn u length h3
  have HO := Lib.hid hown
  clear hpos hall hF hT hTi hown
  go_enter Try.func35, Try.ntmps35
  go_wp2
  obtain ⟨z, hz⟩ : ∃ z, w.heap.size = z := ⟨_, rfl⟩
  have hln0 : (w.alloc (Obj.cells (madeCells #[Value.int IntKind.i64 0] length) 3)).ownsRow z 3 1 (.slice (some ⟨z, 0, none⟩) length length) length ((ranged (fun _ => 0) length).map (Value.int .i64)) := by
    have h := World.ownsRow_lit (base := w.heap.size) (e := 3) (size := 1) w (madeCells #[Value.int IntKind.i64 0] length) length (Nat.le_refl _) (by unfold maxLen; omega) (by rw [size_madeCells]; omega)
    rw [toList_madeCells_one] at h
    have e : List.replicate length (Value.int .i64 0) = (ranged (fun _ => (0 : Int)) length).map (Value.int .i64) := by
      unfold ranged; rw [List.map_map]
      apply List.ext_getElem?
      intro i
      rw [List.getElem?_map]
      rcases Nat.lt_or_ge i length with hi | hi
      · rw [List.getElem?_replicate_of_lt hi, List.getElem?_range hi]; rfl
      · rw [List.getElem?_eq_none (by simpa using hi), List.getElem?_eq_none (by simpa using hi)]; rfl
    rw [e, hz] at h
    exact h
  have hgr0 : w.grownBy (w.alloc (Obj.cells (madeCells #[Value.int IntKind.i64 0] length) 3)) (some g) := World.grownBy_alloc _ _ _
  have S0 := Lib.hid (And.intro (HO.out.alloc (Obj.cells (madeCells #[Value.int IntKind.i64 0] length) 3)) (And.intro hln0 hgr0))
  rw [hz]
  have hzg : g ≠ z := by omega
  have HZ := Lib.hid hz
  clear hln0 hgr0 HO hz hmk
  generalize (w.alloc (Obj.cells (madeCells #[Value.int IntKind.i64 0] length) 3)) = W0 at *
  go_loopw [20] (fun iv wr => ∃ (i : Nat) (q : Nat → Int), i ≤ count ∧ iv = .int .i64 (i : Int) ∧
      Hid (wr.ownsRow lo 3 1 (.slice (some ⟨g, 0, none⟩) n c) n ((ranged (fun m => if ln m < i then T m else r m) n).map (Value.int .i64)) ∧ wr.ownsRow z 3 1 (.slice (some ⟨z, 0, none⟩) length length) length ((ranged q length).map (Value.int .i64)) ∧ w.grownBy wr (some g))) (fun iv _ => count - (intOf iv).toNat)
  case atStart => exact ⟨0, fun _ => 0, by omega, rfl, Lib.hid ⟨own_map S0.out.1 (fun i _ => by rw [if_neg (by omega)]), S0.out.2⟩⟩
  case round =>
    obtain ⟨i, q, hi, rfl, S⟩ := hrel
    by_cases ci : i < count
    · have ci' : (i : Int) < (count : Int) := by omega
      obtain ⟨wo, rfl⟩ : ∃ wo : World, wo = wr := ⟨_, rfl⟩
      obtain ⟨m1, e1⟩ : ∃ m1, i * apart = m1 := ⟨_, rfl⟩
      have q1 : wrap64 ((i : Int) * (apart : Int)) = (m1 : Int) := by rw [← e1]; exact wr_mul _ _ (by omega) (by omega)
      have E1 := Lib.hid e1
      clear e1
      go_wp2
      go_loopw [24] (fun jv wr => ∃ j : Nat, j ≤ length ∧ jv = .int .i64 (j : Int) ∧
          Hid (wr.ownsRow lo 3 1 (.slice (some ⟨g, 0, none⟩) n c) n ((ranged (fun m => if ln m < i then T m else r m) n).map (Value.int .i64)) ∧ wr.ownsRow z 3 1 (.slice (some ⟨z, 0, none⟩) length length) length ((ranged (fun t => if t < j then r (i * apart + t * stride) else q t) length).map (Value.int .i64)) ∧ w.grownBy wr (some g))) (fun jv _ => length - (intOf jv).toNat)
      case atStart => exact ⟨0, by omega, rfl, Lib.hid ⟨S.out.1, own_map S.out.2.1 (fun i _ => by rw [if_neg (by omega)]), S.out.2.2⟩⟩
      case round =>
        obtain ⟨j, hj, rfl, S1⟩ := hrel
        clear S
        by_cases cj : j < length
        · have cj' : (j : Int) < (length : Int) := by omega
          obtain ⟨m2, e2⟩ : ∃ m2, j * stride = m2 := ⟨_, rfl⟩
          have q2 : wrap64 ((j : Int) * (stride : Int)) = (m2 : Int) := by rw [← e2]; exact wr_mul _ _ (by omega) (by omega)
          obtain ⟨m, e3⟩ : ∃ m, m1 + m2 = m := ⟨_, rfl⟩
          have q3 := sum_cast e3
          have p := HP.out i j ci cj
          rw [E1.out, e2, e3] at p
          have hmn := p.1
          have f1 := own_cell S1.out.1 hmn
          simp only [p.2.1, Nat.lt_irrefl, if_false] at f1
          have f2 := own_cell S1.out.2.1 cj
          simp only [Nat.lt_irrefl, if_false] at f2
          have f3 := S1.out.2.1.frozenAt j
          have hst := own_set (s := fun t => if t < j + 1 then r (i * apart + t * stride) else q t) S1.out.2.1 (r m) cj (fun t _ => by
            by_cases c1 : t = j
            · subst c1; rw [if_pos (by omega), if_pos rfl, E1.out, e2, e3]
            · rw [if_neg c1]
              by_cases c2 : t < j
              · rw [if_pos (by omega), if_pos c2]
              · rw [if_neg (by omega), if_neg c2])
          have S2 := Lib.hid (And.intro (own_other S1.out.1 hst.2 hzg) (And.intro hst.1 (grown_new S1.out.2.2 hst.2 (Nat.le_of_eq HZ.out))))
          generalize r m = x at *
          clear hst S1 e2 e3 p
          go_wp2
          go_roundw
          case rel => exact ⟨j + 1, by omega, by go_num, S2⟩
          case measure => simp [intOf]; omega
        · obtain rfl : length = j := by omega
          have hl2 := own_map (s := fun t => r (i * apart + t * stride)) S1.out.2.1 (fun t ht => if_pos ht)
          have C := Lib.hid (HF.out i _ _ wr ci S1.out.2.2 (RowO.row hl2))
          have HL2 := Lib.hid hl2
          clear hl2
          go_wp2_with fail
          rw [hk, Oper.upon_enter]
          refine C.out.mono ?_
          rintro e w2 ⟨A', c', rfl, hrow, hb⟩
          have hA : ∀ b o, A' = some ⟨b, o, none⟩ → b ≠ g := fun b o e => by
            rintro rfl
            rcases hrow.2 with ⟨hv, _⟩ | ⟨g', cap, cur, hv, hg', _⟩
            · injection hv with hv; rw [e] at hv; cases hv
            · injection hv with hv
              rw [e] at hv
              injection hv with hv
              injection hv with hv
              have : b < wr.heap.size := (own_lt S1.out.1 rfl).2
              omega
          have S3 : Hid (w2.ownsRow lo 3 1 (.slice (some ⟨g, 0, none⟩) n c) n ((ranged (fun m => if ln m < i ∨ ln m = i ∧ ps m < 0 then T m else r m) n).map (Value.int .i64)) ∧ w2.ownsRow z 3 1 (.slice (some ⟨z, 0, none⟩) length length) length ((ranged (fun t => r (i * apart + t * stride)) length).map (Value.int .i64)) ∧ w.grownBy w2 (some g) ∧ RowI w2 A' length c' (F (ranged (fun j => r (i * apart + j * stride)) length))) :=
            Lib.hid ⟨own_map (own_other S1.out.1 (grown_of_below hb (some z)) hzg) (fun m hm => by
                by_cases c1 : ln m < i
                · rw [if_pos c1, if_pos (Or.inl c1)]
                · rw [if_neg c1, if_neg (by omega)]), own_other HL2.out (grown_of_below hb (some g)) (Ne.symm hzg), S1.out.2.2.trans (grown_of_below hb (some g)), RowO.row hrow⟩
          have HAb := Lib.hid hA
          clear C S1 HL2 hb hrow hA cj
          go_wp2
          go_loopw [45] (fun jv wr => ∃ j : Nat, j ≤ length ∧ jv = .int .i64 (j : Int) ∧
              Hid (wr.ownsRow lo 3 1 (.slice (some ⟨g, 0, none⟩) n c) n ((ranged (fun m => if ln m < i ∨ ln m = i ∧ ps m < j then T m else r m) n).map (Value.int .i64)) ∧ wr.ownsRow z 3 1 (.slice (some ⟨z, 0, none⟩) length length) length ((ranged (fun t => r (i * apart + t * stride)) length).map (Value.int .i64)) ∧ w.grownBy wr (some g) ∧ RowI wr A' length c' (F (ranged (fun j => r (i * apart + j * stride)) length)))) (fun jv _ => length - (intOf jv).toNat)
          case atStart => exact ⟨0, by omega, rfl, S3⟩
          case round =>
            obtain ⟨j, hj, rfl, S4⟩ := hrel
            clear S3
            by_cases cj : j < length
            · have cj' : (j : Int) < (length : Int) := by omega
              obtain ⟨m2, e2⟩ : ∃ m2, j * stride = m2 := ⟨_, rfl⟩
              have q2 : wrap64 ((j : Int) * (stride : Int)) = (m2 : Int) := by rw [← e2]; exact wr_mul _ _ (by omega) (by omega)
              obtain ⟨m, e3⟩ : ∃ m, m1 + m2 = m := ⟨_, rfl⟩
              have q3 := sum_cast e3
              have p := HP.out i j ci cj
              have ht := HT.out i j ci cj
              rw [E1.out, e2, e3] at p ht
              have hmn := p.1
              obtain ⟨b, o, hA', hbl, f1⟩ := S4.out.2.2.2.cell cj
              have hbg := HAb.out b o hA'
              subst hA'
              rw [E1.out] at f1
              rw [ht] at f1
              obtain ⟨v0, f2⟩ : ∃ v0, wr.cell? ⟨g, m, none⟩ = some (.int .i64 v0) := ⟨_, own_cell S4.out.1 hmn⟩
              have f3 := S4.out.1.frozenAt m
              have hst := own_set (s := fun m => if ln m < i ∨ ln m = i ∧ ps m < j + 1 then T m else r m) S4.out.1 (T m) hmn (fun t htn => by
                by_cases c1 : t = m
                · subst c1; rw [if_pos rfl, if_pos (Or.inr ⟨p.2.1, by omega⟩)]
                · rw [if_neg c1]
                  have hu : ¬ (ln t = i ∧ ps t = j) := fun hu => c1 (by
                    have := (HA.out t htn).2.2
                    rw [hu.1, hu.2, E1.out, e2, e3] at this
                    exact this)
                  by_cases c2 : ln t < i ∨ ln t = i ∧ ps t < j
                  · rw [if_pos c2, if_pos (by omega)]
                  · rw [if_neg c2, if_neg (by omega)])
              have S5 := Lib.hid (And.intro hst.1 (And.intro (own_other S4.out.2.1 hst.2 (Ne.symm hzg)) (And.intro (S4.out.2.2.1.trans hst.2) (row_other S4.out.2.2.2 hst.2 (fun b' o' e => by injection e with e; injection e with e _; omega)))))
              generalize T m = x at *
              clear hst S4 e2 e3 p ht
              go_wp2
              go_roundw
              case rel => exact ⟨j + 1, by omega, by go_num, S5⟩
              case measure => simp [intOf]; omega
            · obtain rfl : length = j := by omega
              go_wp2
              go_roundw
              case rel => exact ⟨i + 1, _, by omega, by go_num, Lib.hid ⟨own_map S4.out.1 (fun m hm => by
                have := (HA.out m hm).2.1
                by_cases c2 : ln m < i + 1
                · rw [if_pos c2, if_pos (by omega)]
                · rw [if_neg c2, if_neg (by omega)]), S4.out.2.1, S4.out.2.2.1⟩⟩
              case measure => simp [intOf]; omega
    · obtain rfl : i = count := by omega
      go_wp2
      go_end0
      refine ⟨rfl, own_map S.out.1 (fun m hm => ?_), S.out.2.2⟩
      rw [if_pos (HA.out m hm).1]
end Go.Proofs.Ytgadebfelomhpaa
