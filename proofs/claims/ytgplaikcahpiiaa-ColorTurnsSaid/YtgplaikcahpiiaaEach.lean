/- each of package color, by its contract. -/
import Derived.Test.YtgplaikcahpiiaaMem
import Derived.RegionTactic
import Derived.ChangeAlike
import Derived.Shelf.Abstract
set_option linter.unusedVariables false
namespace Go.Proofs.Ytgplaikcahpiiaa
open Go.RowKit

/-- Column i of the lists. -/
def col (ls : List (Option Addr × Nat × List Int)) (i : Nat) : List Int := ls.map fun p => p.2.2.getD i 0
def outL (g : List Int → Int) (ls : List (Option Addr × Nat × List Int)) (n : Nat) : List Int := (List.range n).map fun i => g (col ls i)

theorem two_rows (w : World) (m n : Nat) (hm : m ≤ maxLen) (hn : n ≤ maxLen) (W : World)
    (hW : ((w.alloc (Obj.cells (madeCells #[Value.int IntKind.i64 0] m) 3)).alloc (Obj.cells (madeCells #[Value.int IntKind.i64 0] n) 3)).drew = W) :
    W.ownsRow w.heap.size 3 1 (.slice (some ⟨w.heap.size + 1, 0, none⟩) n n) n (List.replicate n (Value.int .i64 0)) ∧
    W.ownsRow w.heap.size 3 1 (.slice (some ⟨w.heap.size, 0, none⟩) m m) m (List.replicate m (Value.int .i64 0)) ∧ Below w.heap.size w W := by
  subst hW
  refine ⟨?_, ?_, ?_⟩
  · have h := World.ownsRow_lit (base := w.heap.size) (e := 3) (size := 1) (w.alloc (Obj.cells (madeCells #[Value.int IntKind.i64 0] m) 3)) (madeCells #[Value.int IntKind.i64 0] n) n (by simp) hn (by rw [size_madeCells]; simp)
    rw [toList_madeCells_one] at h
    have := h.drew
    simpa using this
  · have h := World.ownsRow_lit (base := w.heap.size) (e := 3) (size := 1) w (madeCells #[Value.int IntKind.i64 0] m) m (by simp) hm (by rw [size_madeCells]; simp)
    rw [toList_madeCells_one] at h
    exact (h.alloc _).drew
  · exact below_drewN (((Below.refl _ _).alloc (Nat.le_refl _) _).alloc (by simp) _) 1

set_option maxHeartbeats 2000000 in
theorem each_any (k : Nat) (fr : Array Value) (g : List Int → Int) (w : World) (b : Nat) (ls : List (Option Addr × Nat × List Int)) (n m : Nat)
    (hm : ls.length = m) (hm1 : 1 ≤ m) (hm3 : m ≤ 3) (hn : n ≤ 1000)
    (hk : Enters Try.prog k) (hb : b < w.heap.size) (hc : ∀ j p, ls[j]? = some p → w.cell? ⟨b, j, none⟩ = some (.slice p.1 n p.2.1))
    (hl : ∀ p ∈ ls, p.2.2.length = n ∧ Lst w w.heap.size p.1 (p.2.2.map (Value.int .i64)))
    (hf : ∀ i x w1, i < n → Below w.heap.size w w1 → (∀ j u, (col ls i)[j]? = some u → w1.cell? ⟨x, j, none⟩ = some (.int .i64 u)) →
      Calls Try.prog k (#[.slice (some ⟨x, 0, none⟩) m m] ++ fr) w1 fun e w2 => e = .returned (.int .i64 (g (col ls i))) ∧ Drew w1 w2) :
    Calls Try.prog 28 #[.func (.func k) #[] fr, .slice (some ⟨b, 0, none⟩) m m] w fun e w' =>
      ∃ v, e = .returned v ∧ w'.ownsRow w.heap.size 3 1 v n ((outL g ls n).map (Value.int .i64)) ∧ Below w.heap.size w w' := by
  have hcm : ∀ j, j < m → ∃ A c l, ls[j]? = some (A, c, l) ∧ l.length = n ∧ w.cell? ⟨b, j, none⟩ = some (.slice A n c) ∧ Lst w w.heap.size A (l.map (Value.int .i64)) := fun j hj => by
    obtain ⟨p, hp⟩ : ∃ p, ls[j]? = some p := ⟨_, List.getElem?_eq_getElem (by omega)⟩
    have h1 := hl p (List.mem_of_getElem? hp)
    exact ⟨p.1, p.2.1, p.2.2, hp, h1.1, hc j p hp, h1.2⟩
  have HM := Lib.hid hcm
  have HF := Lib.hid hf
  have HL := Lib.hid hm
  clear hcm hf hc hl hm
  have hmk : ∀ (u : World) (q : Nat), q ≤ 1000 → (Instr.makeSlice 22 (.int .i64 (q : Int)) (.int .i64 (q : Int))).run Try.prog u = .ok (.slice (some ⟨u.heap.size, 0, none⟩) q q) (u.alloc (.cells (madeCells #[.int .i64 0] q) 3)) := fun u q hq =>
    run_make_row' 22 3 (.int .i64 0) 8 Try.underlying22 Try.info3 rfl .i64 .i64 q (by omega) (by omega) u
  obtain ⟨A0, c0, l0, e0, q0, f0, L0⟩ := HM.out 0 (by omega)
  go_enter Try.func28, Try.ntmps28
  go_wp2
  go_loopw [5, 19] (fun nv i wr => ∃ j : Nat, j ≤ m ∧ i = .int .i64 j ∧ nv = .int .i64 n ∧ w = wr) (fun _ i _ => m - (intOf i).toNat)
  case atStart => exact ⟨0, by omega, rfl, rfl, rfl⟩
  case round =>
    obtain ⟨j, hj, rfl, rfl, rfl⟩ := hrel
    by_cases c1 : j < m
    · obtain ⟨A, c, l, e1, q1, f1, L1⟩ := HM.out j c1
      go_wp2
      go_roundw
      case rel => exact ⟨j + 1, by omega, by go_num, by simp⟩
      case measure => simp [intOf]; omega
    · obtain rfl : m = j := by omega
      have h1 := fun u => hmk u n hn
      have h2 := fun u => hmk u m (by omega)
      go_wp2
      go_region
      · obtain ⟨W, hW⟩ : ∃ W, ((w.alloc (Obj.cells (madeCells #[Value.int IntKind.i64 0] n) 3)).alloc (Obj.cells (madeCells #[Value.int IntKind.i64 0] m) 3)).drew = W := ⟨_, rfl⟩
        obtain ⟨hX, hO, hB⟩ := two_rows w n m (by unfold maxLen; omega) (by unfold maxLen; omega) W hW
        have hne : w.heap.size ≠ w.heap.size + 1 := by omega
        have hx1 : w.heap.size ≤ w.heap.size + 1 := by omega
        have ho1 : w.heap.size ≤ w.heap.size := by omega
        rw [hW]
        clear hW h1 h2 hmk e0 f0 L0
        go_wp2
        go_loopw [35] (fun i wr => ∃ (q : Nat) (rest : List Value) (xs : List Value), q ≤ n ∧ i = .int .i64 q ∧ rest.length = n - q ∧ wr.ownsRow w.heap.size 3 1 (.slice (some ⟨w.heap.size, 0, none⟩) n n) n ((outL g ls q).map (Value.int .i64) ++ rest) ∧
            wr.ownsRow w.heap.size 3 1 (.slice (some ⟨w.heap.size + 1, 0, none⟩) m m) m xs ∧ Below w.heap.size w wr) (fun i _ => n - (intOf i).toNat)
        case atStart => exact ⟨0, List.replicate n (Value.int .i64 0), _, by omega, rfl, by simp, by simpa [outL] using hO, hX, hB⟩
        case round =>
          obtain ⟨q, rest, xs, hq, rfl, hr, hO2, hX2, hB2⟩ := hrel
          clear hO hX hB
          by_cases c2 : q < n
          · go_wp2
            go_loopw [40] (fun i wr2 => ∃ (t : Nat) (xs : List Value), t ≤ m ∧ i = .int .i64 t ∧ wr2.ownsRow w.heap.size 3 1 (.slice (some ⟨w.heap.size, 0, none⟩) n n) n ((outL g ls q).map (Value.int .i64) ++ rest) ∧
              wr2.ownsRow w.heap.size 3 1 (.slice (some ⟨w.heap.size + 1, 0, none⟩) m m) m xs ∧ (∀ p u, p < t → (col ls q)[p]? = some u → xs[p]? = some (.int .i64 u)) ∧ Below w.heap.size w wr2) (fun i _ => m - (intOf i).toNat)
            case atStart => exact ⟨0, xs, by omega, rfl, hO2, hX2, fun p u hp => absurd hp (by omega), hB2⟩
            case round =>
              obtain ⟨t, xs3, ht, rfl, hO3, hX3, hV3, hB3⟩ := hrel
              clear hO2 hX2 hB2
              by_cases c3 : t < m
              · obtain ⟨A, c, l, e1, q1, f1, L1⟩ := HM.out t c3
                have f2 := (hB3.cell hb).trans f1
                obtain ⟨b2, o2, rfl, hb2, f3⟩ := (L1.below hB3) q (.int .i64 (l.getD q 0)) (by rw [List.getElem?_map, List.getElem?_eq_getElem (by omega), List.getD_eq_getElem?_getD, List.getElem?_eq_getElem (by omega)]; try rfl)
                have f4 := hX3.cellAt t (by omega)
                have f5 := hX3.frozenAt t
                obtain ⟨u0, hu0⟩ : ∃ u0, xs3[t]? = some u0 := ⟨_, List.getElem?_eq_getElem (by have := hX3.1; omega)⟩
                rw [hu0] at f4
                have S := hX3.stored t (.int .i64 (l.getD q 0))
                have hO4 := hO3.kept S.2 (Or.inr (by simp [Value.ownBlock]))
                have hB4 := hB3.setCell (p := ⟨w.heap.size + 1, t, none⟩) hx1 (.int .i64 (l.getD q 0))
                have hcq : ∀ u, (col ls q)[t]? = some u → u = l.getD q 0 := fun u hu => by
                  unfold col at hu
                  rw [List.getElem?_map, e1] at hu
                  simpa using hu.symm
                have HS := Lib.hid S.1
                have HO := Lib.hid hO4
                have HB := Lib.hid hB4
                have HV := Lib.hid hV3
                have hlen3 := hX3.1
                clear S hO4 hB4 hV3 hX3 hO3
                generalize l.getD q 0 = z at *
                go_wp2
                go_roundw
                case rel =>
                  refine ⟨t + 1, _, by omega, by go_num, HO.out, HS.out, ?_, HB.out⟩
                  intro p u hp hu
                  by_cases hpt : p = t
                  · subst hpt
                    rw [hcq u hu, List.getElem?_set_self (by omega)]
                  · rw [List.getElem?_set_ne (by omega)]
                    exact HV.out p u (by omega) hu
                case measure => simp [intOf]; omega
              · obtain rfl : m = t := by omega
                have hcl : (col ls q).length = m := by unfold col; rw [List.length_map]; exact HL.out
                have hcol : xs3 = (col ls q).map (Value.int .i64) := by
                  apply List.ext_getElem?
                  intro p
                  by_cases hp : p < m
                  · rw [List.getElem?_map, List.getElem?_eq_getElem (by omega : p < (col ls q).length)]
                    exact hV3 p _ hp (List.getElem?_eq_getElem (by omega))
                  · rw [List.getElem?_eq_none (by have := hX3.1; omega), List.getElem?_eq_none (by rw [List.length_map]; omega)]
                have HF2 := Lib.hid (HF.out q (w.heap.size + 1) wr c2 hB3 (fun p u hu => by
                  have hp : p < m := by
                    rcases Nat.lt_or_ge p m with h | h
                    · exact h
                    · rw [List.getElem?_eq_none (by omega)] at hu; cases hu
                  rw [hX3.cellAt p (by omega)]
                  exact hV3 p u hp hu))
                have hout : outL g ls (q + 1) = outL g ls q ++ [g (col ls q)] := by
                  unfold outL; rw [List.range_succ, List.map_append]; rfl
                have hlo : (outL g ls q).length = q := by unfold outL; simp
                obtain ⟨r0, rest', rfl⟩ : ∃ r0 rest', rest = r0 :: rest' := by
                  cases rest with
                  | nil => simp at hr; omega
                  | cons a l => exact ⟨a, l, rfl⟩
                have HO := Lib.hid hout
                have HLo := Lib.hid hlo
                clear hV3 hcol hout hlo HM
                generalize g (col ls q) = z at *
                have c4 : (q : Int) < (n : Int) := by omega
                go_wp2_with fail
                rw [hk, Oper.upon_enter]
                refine HF2.out.mono ?_
                rintro e w3 ⟨rfl, dn, hd⟩
                have hO5 : w3.ownsRow w.heap.size 3 1 (.slice (some ⟨w.heap.size, 0, none⟩) n n) n ((outL g ls q).map (Value.int .i64) ++ r0 :: rest') := by rw [hd]; exact hO3
                have hX5 : w3.ownsRow w.heap.size 3 1 (.slice (some ⟨w.heap.size + 1, 0, none⟩) m m) m xs3 := by rw [hd]; exact hX3
                have hB5 : Below w.heap.size w w3 := Drew.to hB3 ⟨dn, hd⟩
                clear hd hO3 hX3 hB3 HF2 HF
                have f4 := hO5.cellAt q (by omega)
                rw [List.getElem?_append_right (by rw [List.length_map, HLo.out]; omega), List.length_map, HLo.out, Nat.sub_self, List.getElem?_cons_zero] at f4
                have f5 := hO5.frozenAt q
                have S := hO5.stored q (.int .i64 z)
                have hX6 := hX5.kept S.2 (Or.inr (by simp [Value.ownBlock]))
                have hB6 := hB5.setCell (p := ⟨w.heap.size, q, none⟩) ho1 (.int .i64 z)
                have HS := Lib.hid S.1
                have HX := Lib.hid hX6
                have HB := Lib.hid hB6
                clear S hX6 hB6 hO5 hX5 hB5
                go_wp2
                go_roundw
                case rel =>
                  refine ⟨q + 1, rest', xs3, by omega, by go_num, by simp at hr; omega, ?_, HX.out, HB.out⟩
                  have h := HS.out
                  rw [List.set_append_right _ _ (by rw [List.length_map, HLo.out]; omega), List.length_map, HLo.out, Nat.sub_self, List.set_cons_zero] at h
                  rw [HO.out, List.map_append, List.append_assoc]
                  exact h
                case measure => simp [intOf]; omega
          · obtain rfl : n = q := by omega
            obtain rfl : rest = [] := List.eq_nil_of_length_eq_zero (by omega)
            go_wp2
            go_ret
            exact ⟨_, rfl, by simpa using hO2, hB2⟩
      · obtain ⟨W, hW⟩ : ∃ W, ((w.alloc (Obj.cells (madeCells #[Value.int IntKind.i64 0] m) 3)).alloc (Obj.cells (madeCells #[Value.int IntKind.i64 0] n) 3)).drew = W := ⟨_, rfl⟩
        obtain ⟨hO, hX, hB⟩ := two_rows w m n (by unfold maxLen; omega) (by unfold maxLen; omega) W hW
        have hne : w.heap.size + 1 ≠ w.heap.size := by omega
        have hx1 : w.heap.size ≤ w.heap.size := by omega
        have ho1 : w.heap.size ≤ w.heap.size + 1 := by omega
        rw [hW]
        clear hW h1 h2 hmk e0 f0 L0
        go_wp2
        go_loopw [35] (fun i wr => ∃ (q : Nat) (rest : List Value) (xs : List Value), q ≤ n ∧ i = .int .i64 q ∧ rest.length = n - q ∧ wr.ownsRow w.heap.size 3 1 (.slice (some ⟨w.heap.size + 1, 0, none⟩) n n) n ((outL g ls q).map (Value.int .i64) ++ rest) ∧
            wr.ownsRow w.heap.size 3 1 (.slice (some ⟨w.heap.size, 0, none⟩) m m) m xs ∧ Below w.heap.size w wr) (fun i _ => n - (intOf i).toNat)
        case atStart => exact ⟨0, List.replicate n (Value.int .i64 0), _, by omega, rfl, by simp, by simpa [outL] using hO, hX, hB⟩
        case round =>
          obtain ⟨q, rest, xs, hq, rfl, hr, hO2, hX2, hB2⟩ := hrel
          clear hO hX hB
          by_cases c2 : q < n
          · go_wp2
            go_loopw [40] (fun i wr2 => ∃ (t : Nat) (xs : List Value), t ≤ m ∧ i = .int .i64 t ∧ wr2.ownsRow w.heap.size 3 1 (.slice (some ⟨w.heap.size + 1, 0, none⟩) n n) n ((outL g ls q).map (Value.int .i64) ++ rest) ∧
              wr2.ownsRow w.heap.size 3 1 (.slice (some ⟨w.heap.size, 0, none⟩) m m) m xs ∧ (∀ p u, p < t → (col ls q)[p]? = some u → xs[p]? = some (.int .i64 u)) ∧ Below w.heap.size w wr2) (fun i _ => m - (intOf i).toNat)
            case atStart => exact ⟨0, xs, by omega, rfl, hO2, hX2, fun p u hp => absurd hp (by omega), hB2⟩
            case round =>
              obtain ⟨t, xs3, ht, rfl, hO3, hX3, hV3, hB3⟩ := hrel
              clear hO2 hX2 hB2
              by_cases c3 : t < m
              · obtain ⟨A, c, l, e1, q1, f1, L1⟩ := HM.out t c3
                have f2 := (hB3.cell hb).trans f1
                obtain ⟨b2, o2, rfl, hb2, f3⟩ := (L1.below hB3) q (.int .i64 (l.getD q 0)) (by rw [List.getElem?_map, List.getElem?_eq_getElem (by omega), List.getD_eq_getElem?_getD, List.getElem?_eq_getElem (by omega)]; try rfl)
                have f4 := hX3.cellAt t (by omega)
                have f5 := hX3.frozenAt t
                obtain ⟨u0, hu0⟩ : ∃ u0, xs3[t]? = some u0 := ⟨_, List.getElem?_eq_getElem (by have := hX3.1; omega)⟩
                rw [hu0] at f4
                have S := hX3.stored t (.int .i64 (l.getD q 0))
                have hO4 := hO3.kept S.2 (Or.inr (by simp [Value.ownBlock]))
                have hB4 := hB3.setCell (p := ⟨w.heap.size, t, none⟩) hx1 (.int .i64 (l.getD q 0))
                have hcq : ∀ u, (col ls q)[t]? = some u → u = l.getD q 0 := fun u hu => by
                  unfold col at hu
                  rw [List.getElem?_map, e1] at hu
                  simpa using hu.symm
                have HS := Lib.hid S.1
                have HO := Lib.hid hO4
                have HB := Lib.hid hB4
                have HV := Lib.hid hV3
                have hlen3 := hX3.1
                clear S hO4 hB4 hV3 hX3 hO3
                generalize l.getD q 0 = z at *
                go_wp2
                go_roundw
                case rel =>
                  refine ⟨t + 1, _, by omega, by go_num, HO.out, HS.out, ?_, HB.out⟩
                  intro p u hp hu
                  by_cases hpt : p = t
                  · subst hpt
                    rw [hcq u hu, List.getElem?_set_self (by omega)]
                  · rw [List.getElem?_set_ne (by omega)]
                    exact HV.out p u (by omega) hu
                case measure => simp [intOf]; omega
              · obtain rfl : m = t := by omega
                have hcl : (col ls q).length = m := by unfold col; rw [List.length_map]; exact HL.out
                have hcol : xs3 = (col ls q).map (Value.int .i64) := by
                  apply List.ext_getElem?
                  intro p
                  by_cases hp : p < m
                  · rw [List.getElem?_map, List.getElem?_eq_getElem (by omega : p < (col ls q).length)]
                    exact hV3 p _ hp (List.getElem?_eq_getElem (by omega))
                  · rw [List.getElem?_eq_none (by have := hX3.1; omega), List.getElem?_eq_none (by rw [List.length_map]; omega)]
                have HF2 := Lib.hid (HF.out q (w.heap.size) wr c2 hB3 (fun p u hu => by
                  have hp : p < m := by
                    rcases Nat.lt_or_ge p m with h | h
                    · exact h
                    · rw [List.getElem?_eq_none (by omega)] at hu; cases hu
                  rw [hX3.cellAt p (by omega)]
                  exact hV3 p u hp hu))
                have hout : outL g ls (q + 1) = outL g ls q ++ [g (col ls q)] := by
                  unfold outL; rw [List.range_succ, List.map_append]; rfl
                have hlo : (outL g ls q).length = q := by unfold outL; simp
                obtain ⟨r0, rest', rfl⟩ : ∃ r0 rest', rest = r0 :: rest' := by
                  cases rest with
                  | nil => simp at hr; omega
                  | cons a l => exact ⟨a, l, rfl⟩
                have HO := Lib.hid hout
                have HLo := Lib.hid hlo
                clear hV3 hcol hout hlo HM
                generalize g (col ls q) = z at *
                have c4 : (q : Int) < (n : Int) := by omega
                go_wp2_with fail
                rw [hk, Oper.upon_enter]
                refine HF2.out.mono ?_
                rintro e w3 ⟨rfl, dn, hd⟩
                have hO5 : w3.ownsRow w.heap.size 3 1 (.slice (some ⟨w.heap.size + 1, 0, none⟩) n n) n ((outL g ls q).map (Value.int .i64) ++ r0 :: rest') := by rw [hd]; exact hO3
                have hX5 : w3.ownsRow w.heap.size 3 1 (.slice (some ⟨w.heap.size, 0, none⟩) m m) m xs3 := by rw [hd]; exact hX3
                have hB5 : Below w.heap.size w w3 := Drew.to hB3 ⟨dn, hd⟩
                clear hd hO3 hX3 hB3 HF2 HF
                have f4 := hO5.cellAt q (by omega)
                rw [List.getElem?_append_right (by rw [List.length_map, HLo.out]; omega), List.length_map, HLo.out, Nat.sub_self, List.getElem?_cons_zero] at f4
                have f5 := hO5.frozenAt q
                have S := hO5.stored q (.int .i64 z)
                have hX6 := hX5.kept S.2 (Or.inr (by simp [Value.ownBlock]))
                have hB6 := hB5.setCell (p := ⟨w.heap.size + 1, q, none⟩) ho1 (.int .i64 z)
                have HS := Lib.hid S.1
                have HX := Lib.hid hX6
                have HB := Lib.hid hB6
                clear S hX6 hB6 hO5 hX5 hB5
                go_wp2
                go_roundw
                case rel =>
                  refine ⟨q + 1, rest', xs3, by omega, by go_num, by simp at hr; omega, ?_, HX.out, HB.out⟩
                  have h := HS.out
                  rw [List.set_append_right _ _ (by rw [List.length_map, HLo.out]; omega), List.length_map, HLo.out, Nat.sub_self, List.set_cons_zero] at h
                  rw [HO.out, List.map_append, List.append_assoc]
                  exact h
                case measure => simp [intOf]; omega
          · obtain rfl : n = q := by omega
            obtain rfl : rest = [] := List.eq_nil_of_length_eq_zero (by omega)
            go_wp2
            go_ret
            exact ⟨_, rfl, by simpa using hO2, hB2⟩
end Go.Proofs.Ytgplaikcahpiiaa
