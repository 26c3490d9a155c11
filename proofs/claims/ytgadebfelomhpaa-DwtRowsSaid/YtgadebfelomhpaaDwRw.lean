/- DwtRows, walked. -/
import Derived.Test.YtgadebfelomhpaaDwRo
set_option linter.unusedVariables false
set_option linter.unusedSimpArgs false
namespace Go.Proofs.Ytgadebfelomhpaa
open Go.RowKit

attribute [local go_sem ↓] appSem_eq in
set_option maxHeartbeats 8000000 in
set_option maxRecDepth 100000 in
set_option pp.deepTerms true in
set_option pp.maxSteps 10000000 in
theorem rows_false (a0 : Int) (b1 : Option Addr) (len1 cap1 : Nat) (l1 : List Int) (w : World) (h1 : RowI w b1 len1 cap1 l1) :
    Calls Try.prog 7 #[.int .i64 a0, .slice b1 len1 cap1, .bool false] w fun e w' => e = .returned (.bool true) ∧ Below w.heap.size w w' := by
  have H1 := Lib.hid h1
  have hl1 : (len1 : Int) ≤ 9223372036854775807 := by have := h1.2.1; have := h1.2.2.1; unfold maxLen at this; omega
  clear h1
  go_enter Try.func7, Try.ntmps7
  go_wp2_with fail
  refine (known10 _).mono ?_
  rintro e wk ⟨rfl, bk⟩
  have HB1 := Lib.hid bk
  clear bk
  go_wp2_with fail
  refine (within10 a0 40 wk (by omega) (by omega)).mono ?_
  rintro e w' ⟨rfl, rfl⟩
  obtain ⟨xn, hxn⟩ : ∃ n : Nat, a0 % 40 = (n : Int) := ⟨(a0 % 40).toNat, by omega⟩
  have hx40 : xn < 40 := by omega
  rw [hxn]
  clear hxn
  go_wp2_with fail
  refine (within10 (len1 : Int) 12 wk (by omega) (by omega)).mono ?_
  rintro e w' ⟨rfl, rfl⟩
  obtain ⟨k, hk⟩ : ∃ n : Nat, 1 + (len1 : Int) % 12 = (n : Int) := ⟨(1 + (len1 : Int) % 12).toNat, by omega⟩
  have hk12 : 1 ≤ k ∧ k ≤ 12 := by omega
  obtain ⟨q0, hq0⟩ : ∃ q, (len1 : Int) % 12 = q := ⟨_, rfl⟩
  rw [hq0] at hk ⊢
  have hq0b : 0 ≤ q0 ∧ q0 < 12 := by omega
  clear hq0
  go_wp2_with fail
  refine (plane_row k hk12 wk (H1.out.keep HB1.out (Nat.le_refl _))).mono ?_
  rintro e wp ⟨L, Ap, cp, rfl, hrow, hbd, bp⟩
  clear hk
  have HBD := Lib.hid hbd
  have hB2 := HB1.out.trans (bp.mono HB1.out.size)
  obtain ⟨X1, hX1⟩ : ∃ v, (xn : Int) + (k : Int) = v := ⟨_, rfl⟩
  have hd := fun W c A h => split_across (A := A) (c := c) (L := L) xn k hk12 hx40 W h HBD.out
  rw [hX1] at hd
  have HD := Lib.hid hd
  obtain ⟨W9, hW9⟩ : ∃ W9, ((wp.alloc (Obj.cells #[.int .i64 0, .int .i64 0, .int .i64 (k : Int), .int .i64 1] 23)).alloc (Obj.cells #[.int .i64 (xn : Int), .int .i64 2, .int .i64 X1, .int .i64 3] 23)) = W9 := ⟨_, rfl⟩
  have hB9 : Below w.heap.size w W9 := by rw [← hW9]; exact (hB2.alloc hB2.size _).alloc (by simp; have := hB2.size; omega) _
  have hB29 : Below wp.heap.size wp W9 := by rw [← hW9]; exact ((Below.refl _ wp).alloc (Nat.le_refl _) _).alloc (by simp) _
  have HR9 := Lib.hid (hrow.keep hB29 (Nat.le_refl _))
  have HB9 := Lib.hid hB9
  have HW9 := Lib.hid hW9
  have HBD2 := HBD
  clear hbd hB2 hd hB9 hB29 hW9 hrow bp HB1 H1 HBD
  go_wp2_with fail
  clear hX1
  rw [HW9.out]
  refine (HD.out _ _ _ HR9.out).mono ?_
  rintro e w5 ⟨A5, c5, rfl, hb5, b5⟩
  have HR5 := Lib.hid (HR9.out.keep b5 (Nat.le_refl _))
  have HB5 := Lib.hid (HB9.out.trans (b5.mono HB9.out.size))
  have HS5 := Lib.hid hb5
  clear hb5 b5 HR9 HB9 HD HW9
  go_wp2_with fail
  refine (rs9_all (xn : Int) (xn % 2) HR5.out (by omega) (by omega) (by omega) (fun i => by have := HBD2.out i; omega)).mono ?_
  rintro e w6 ⟨A6, c6, rfl, hx6, b6⟩
  have HX6 := Lib.hid hx6.row
  have HB6 := Lib.hid (HB5.out.trans (b6.mono HB5.out.size))
  have HS6 := Lib.hid (HS5.out.keep b6 (Nat.le_refl _))
  have hLl := HR5.out.1
  have hspl := sp_len (e := xn % 2) (n := k) (l := L) (by omega) hLl
  have hm := lowN_le (xn % 2) k
  obtain ⟨T, hT⟩ : ∃ T, (SP (xn % 2) k L).take (lowN (xn % 2) k) = T := ⟨_, rfl⟩
  obtain ⟨D, hD⟩ : ∃ D, (SP (xn % 2) k L).drop (lowN (xn % 2) k) = D := ⟨_, rfl⟩
  have hTD : T ++ D = SP (xn % 2) k L := by rw [← hT, ← hD]; exact List.take_append_drop _ _
  rw [hT, hD] at HS6
  rw [← hTD] at HX6
  have hlen : T.length + D.length = k := by rw [← List.length_append, hTD]; exact hspl
  clear hx6 b6 HS5 HB5 HR5 HBD2 hLl hspl hm hT hD hTD
  obtain ⟨b, o, At, ct, rfl, hbb, m0, rt⟩ := HS6.out.at (i := 0) (l := T) rfl
  obtain ⟨b', o', A1, c1, hA', _, m1, r1⟩ := HS6.out.at (i := 1) (l := D) rfl
  cases hA'
  obtain ⟨b', o', A2, c2, hA', _, m2, r2⟩ := HS6.out.at (i := 2) (l := []) rfl
  cases hA'
  obtain ⟨b', o', A3, c3, hA', _, m3, r3⟩ := HS6.out.at (i := 3) (l := []) rfl
  cases hA'
  obtain ⟨mt, hmt⟩ : ∃ m, T.length = m := ⟨_, rfl⟩
  obtain ⟨md, hmd⟩ : ∃ m, D.length = m := ⟨_, rfl⟩
  rw [hmt] at m0 rt hlen
  rw [hmd] at m1 r1 hlen
  change w6.cell? ⟨b, o, none⟩ = _ at m0
  change w6.cell? ⟨b, _, none⟩ = some (.slice _ _ _) at m1
  change w6.cell? ⟨b, _, none⟩ = some (.slice _ 0 _) at m2
  change w6.cell? ⟨b, _, none⟩ = some (.slice _ 0 _) at m3
  have HE : Hid (Below w6.heap.size w6 (w6.alloc (Obj.cells #[] 3))) := Lib.hid ((Below.refl _ w6).alloc (Nat.le_refl _) _)
  obtain ⟨v7, w7, run7, own7, g7, _⟩ := app_row (w := w6.alloc (Obj.cells #[] 3)) (base := w6.heap.size) (v := .slice (some ⟨w6.heap.size, 0, none⟩) 0 0) (n := 0) (X := []) (World.ownsRow_made w6 #[] 0 (Nat.le_refl _) (by unfold maxLen; omega) rfl) (rt.keep HE.out (Nat.le_refl _)) (by simp) (by omega)
  rw [Nat.zero_add, List.nil_append] at own7
  have hb7 : Below w6.heap.size w6 w7 := HE.out.grown g7 (by simp) (by simp [Value.ownBlock])
  obtain ⟨v8, w8, run8, own8, g8, _⟩ := app_row own7 (r1.keep hb7 (Nat.le_refl _)) hb7.size (by omega)
  rw [hlen] at own8
  have hb8 : Below w6.heap.size w6 w8 := hb7.grown g8 hb7.size (fun k hk => (own7.lt k hk).1)
  obtain ⟨A7, c7, rfl, _, _, _⟩ := own_any own7
  obtain ⟨A8, c8, rfl, _, _, _⟩ := own_any own8
  have r8 : RowI w8 A8 k c8 (T ++ D) := RowO.row (lo := w6.heap.size) own8
  have hq := ints_q r8 (HX6.out.keep hb8 (Nat.le_refl _))
  have HQ := Lib.hid hq
  have HB8 := Lib.hid (HB6.out.trans (hb8.mono HB6.out.size))
  clear HX6 HS6 HB6 hq r8 hb8 g8 own8 hb7 g7 own7 rt r1 r2 r3 HE hmt hmd
  go_wp2_with fail
  refine HQ.out.mono ?_
  rintro e w9 ⟨rfl, nd, rfl⟩
  go_wp2
  go_ret
  exact ⟨rfl, below_drewN HB8.out nd⟩
attribute [local go_sem ↓] appSem_eq in
set_option maxHeartbeats 8000000 in
set_option maxRecDepth 100000 in
set_option pp.deepTerms true in
set_option pp.maxSteps 10000000 in
theorem rows_true (a0 : Int) (b1 : Option Addr) (len1 cap1 : Nat) (l1 : List Int) (w : World) (h1 : RowI w b1 len1 cap1 l1) :
    Calls Try.prog 7 #[.int .i64 a0, .slice b1 len1 cap1, .bool true] w fun e w' => e = .returned (.bool true) ∧ Below w.heap.size w w' := by
  have H1 := Lib.hid h1
  have hl1 : (len1 : Int) ≤ 9223372036854775807 := by have := h1.2.1; have := h1.2.2.1; unfold maxLen at this; omega
  clear h1
  go_enter Try.func7, Try.ntmps7
  go_wp2_with fail
  refine (known10 _).mono ?_
  rintro e wk ⟨rfl, bk⟩
  have HB1 := Lib.hid bk
  clear bk
  go_wp2_with fail
  refine (within10 a0 40 wk (by omega) (by omega)).mono ?_
  rintro e w' ⟨rfl, rfl⟩
  obtain ⟨xn, hxn⟩ : ∃ n : Nat, a0 % 40 = (n : Int) := ⟨(a0 % 40).toNat, by omega⟩
  have hx40 : xn < 40 := by omega
  rw [hxn]
  clear hxn
  go_wp2_with fail
  refine (within10 (len1 : Int) 12 wk (by omega) (by omega)).mono ?_
  rintro e w' ⟨rfl, rfl⟩
  obtain ⟨k, hk⟩ : ∃ n : Nat, 1 + (len1 : Int) % 12 = (n : Int) := ⟨(1 + (len1 : Int) % 12).toNat, by omega⟩
  have hk12 : 1 ≤ k ∧ k ≤ 12 := by omega
  obtain ⟨q0, hq0⟩ : ∃ q, (len1 : Int) % 12 = q := ⟨_, rfl⟩
  rw [hq0] at hk ⊢
  have hq0b : 0 ≤ q0 ∧ q0 < 12 := by omega
  clear hq0
  go_wp2_with fail
  refine (plane_row k hk12 wk (H1.out.keep HB1.out (Nat.le_refl _))).mono ?_
  rintro e wp ⟨L, Ap, cp, rfl, hrow, hbd, bp⟩
  clear hk
  have HBD := Lib.hid hbd
  have hB2 := HB1.out.trans (bp.mono HB1.out.size)
  obtain ⟨X1, hX1⟩ : ∃ v, (xn : Int) + (k : Int) = v := ⟨_, rfl⟩
  have hd := fun W c A h => split_down (A := A) (c := c) (L := L) xn k hk12 hx40 W h HBD.out
  rw [hX1] at hd
  have HD := Lib.hid hd
  obtain ⟨W9, hW9⟩ : ∃ W9, ((wp.alloc (Obj.cells #[.int .i64 0, .int .i64 0, .int .i64 (k : Int), .int .i64 1] 23)).alloc (Obj.cells #[.int .i64 4, .int .i64 (xn : Int), .int .i64 5, .int .i64 X1] 23)) = W9 := ⟨_, rfl⟩
  have hB9 : Below w.heap.size w W9 := by rw [← hW9]; exact (hB2.alloc hB2.size _).alloc (by simp; have := hB2.size; omega) _
  have hB29 : Below wp.heap.size wp W9 := by rw [← hW9]; exact ((Below.refl _ wp).alloc (Nat.le_refl _) _).alloc (by simp) _
  have HR9 := Lib.hid (hrow.keep hB29 (Nat.le_refl _))
  have HB9 := Lib.hid hB9
  have HW9 := Lib.hid hW9
  have HBD2 := HBD
  clear hbd hB2 hd hB9 hB29 hW9 hrow bp HB1 H1 HBD
  go_wp2_with fail
  clear hX1
  rw [HW9.out]
  refine (HD.out _ _ _ HR9.out).mono ?_
  rintro e w5 ⟨A5, c5, rfl, hb5, b5⟩
  have HR5 := Lib.hid (HR9.out.keep b5 (Nat.le_refl _))
  have HB5 := Lib.hid (HB9.out.trans (b5.mono HB9.out.size))
  have HS5 := Lib.hid hb5
  clear hb5 b5 HR9 HB9 HD HW9
  go_wp2_with fail
  refine (rs9_all (xn : Int) (xn % 2) HR5.out (by omega) (by omega) (by omega) (fun i => by have := HBD2.out i; omega)).mono ?_
  rintro e w6 ⟨A6, c6, rfl, hx6, b6⟩
  have HX6 := Lib.hid hx6.row
  have HB6 := Lib.hid (HB5.out.trans (b6.mono HB5.out.size))
  have HS6 := Lib.hid (HS5.out.keep b6 (Nat.le_refl _))
  have hLl := HR5.out.1
  have hspl := sp_len (e := xn % 2) (n := k) (l := L) (by omega) hLl
  have hm := lowN_le (xn % 2) k
  obtain ⟨T, hT⟩ : ∃ T, (SP (xn % 2) k L).take (lowN (xn % 2) k) = T := ⟨_, rfl⟩
  obtain ⟨D, hD⟩ : ∃ D, (SP (xn % 2) k L).drop (lowN (xn % 2) k) = D := ⟨_, rfl⟩
  have hTD : T ++ D = SP (xn % 2) k L := by rw [← hT, ← hD]; exact List.take_append_drop _ _
  rw [hT, hD] at HS6
  rw [← hTD] at HX6
  have hlen : T.length + D.length = k := by rw [← List.length_append, hTD]; exact hspl
  clear hx6 b6 HS5 HB5 HR5 HBD2 hLl hspl hm hT hD hTD
  obtain ⟨b, o, At, ct, rfl, hbb, m0, rt⟩ := HS6.out.at (i := 0) (l := T) rfl
  obtain ⟨b', o', A1, c1, hA', _, m1, r1⟩ := HS6.out.at (i := 1) (l := []) rfl
  cases hA'
  obtain ⟨b', o', A2, c2, hA', _, m2, r2⟩ := HS6.out.at (i := 2) (l := D) rfl
  cases hA'
  obtain ⟨b', o', A3, c3, hA', _, m3, r3⟩ := HS6.out.at (i := 3) (l := []) rfl
  cases hA'
  obtain ⟨mt, hmt⟩ : ∃ m, T.length = m := ⟨_, rfl⟩
  obtain ⟨md, hmd⟩ : ∃ m, D.length = m := ⟨_, rfl⟩
  rw [hmt] at m0 rt hlen
  rw [hmd] at m2 r2 hlen
  change w6.cell? ⟨b, o, none⟩ = _ at m0
  change w6.cell? ⟨b, _, none⟩ = some (.slice _ 0 _) at m1
  change w6.cell? ⟨b, _, none⟩ = some (.slice _ _ _) at m2
  change w6.cell? ⟨b, _, none⟩ = some (.slice _ 0 _) at m3
  have HE : Hid (Below w6.heap.size w6 (w6.alloc (Obj.cells #[] 3))) := Lib.hid ((Below.refl _ w6).alloc (Nat.le_refl _) _)
  obtain ⟨v7, w7, run7, own7, g7, _⟩ := app_row (w := w6.alloc (Obj.cells #[] 3)) (base := w6.heap.size) (v := .slice (some ⟨w6.heap.size, 0, none⟩) 0 0) (n := 0) (X := []) (World.ownsRow_made w6 #[] 0 (Nat.le_refl _) (by unfold maxLen; omega) rfl) (rt.keep HE.out (Nat.le_refl _)) (by simp) (by omega)
  rw [Nat.zero_add, List.nil_append] at own7
  have hb7 : Below w6.heap.size w6 w7 := HE.out.grown g7 (by simp) (by simp [Value.ownBlock])
  obtain ⟨v8, w8, run8, own8, g8, _⟩ := app_row own7 (r2.keep hb7 (Nat.le_refl _)) hb7.size (by omega)
  rw [hlen] at own8
  have hb8 : Below w6.heap.size w6 w8 := hb7.grown g8 hb7.size (fun k hk => (own7.lt k hk).1)
  obtain ⟨A7, c7, rfl, _, _, _⟩ := own_any own7
  obtain ⟨A8, c8, rfl, _, _, _⟩ := own_any own8
  have r8 : RowI w8 A8 k c8 (T ++ D) := RowO.row (lo := w6.heap.size) own8
  have hq := ints_q r8 (HX6.out.keep hb8 (Nat.le_refl _))
  have HQ := Lib.hid hq
  have HB8 := Lib.hid (HB6.out.trans (hb8.mono HB6.out.size))
  clear HX6 HS6 HB6 hq r8 hb8 g8 own8 hb7 g7 own7 rt r1 r2 r3 HE hmt hmd
  go_wp2_with fail
  refine HQ.out.mono ?_
  rintro e w9 ⟨rfl, nd, rfl⟩
  go_wp2
  go_ret
  exact ⟨rfl, below_drewN HB8.out nd⟩
theorem walk_dwtRows (a0 : Int) (b1 : Option Addr) (len1 cap1 : Nat) (z1 : List Int) (a2 : Bool) (w : World) (w1 : IsRow .i64 w b1 len1 cap1 z1) :
    Calls Try.prog 7 #[.int .i64 a0, .slice b1 len1 cap1, .bool a2] w fun e w' => e = .returned (.bool true) ∧ Below w.heap.size w w' := by
  cases a2 with
  | false => exact rows_false a0 b1 len1 cap1 _ w (rowI_is w1)
  | true => exact rows_true a0 b1 len1 cap1 _ w (rowI_is w1)
end Go.Proofs.Ytgadebfelomhpaa
