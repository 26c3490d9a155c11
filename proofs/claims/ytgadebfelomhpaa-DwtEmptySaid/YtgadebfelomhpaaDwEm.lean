/- DwtEmpty, walked. -/
import Derived.Test.YtgadebfelomhpaaDwG
import Derived.Outline
set_option linter.unusedVariables false
set_option linter.unusedSimpArgs false
namespace Go.Proofs.Ytgadebfelomhpaa
open Go.RowKit

theorem it_empty {g : Geo} (h : g.w = 0 ∨ g.h = 0) (k : Nat) : (itG g k).w = 0 ∨ (itG g k).h = 0 := by
  have := itG_le g k
  omega
theorem quar_empty {g : Geo} (h : g.w = 0 ∨ g.h = 0) (Q : Nat → Nat → Int) (k : Nat) : (quar g Q k).length = 0 := by
  rw [quar_len]
  have h1 := qX_le g k
  have h2 := qY_le g k
  rcases h with h | h
  · rw [show qW g k = 0 from by omega, Nat.zero_mul]
  · rw [show qH g k = 0 from by omega, Nat.mul_zero]
theorem low_empty {g : Geo} (h : g.w = 0 ∨ g.h = 0) (P : Nat → Nat → Int) (k : Nat) : (lowest g P k).length = 0 := by
  unfold lowest
  rw [flat_len]
  rcases it_empty h k with e | e <;> rw [e] <;> simp
theorem bands_empty {g : Geo} (h : g.w = 0 ∨ g.h = 0) (P : Nat → Nat → Int) (n k : Nat) : ∀ l ∈ bandsK g P n k, l.length = 0 := by
  induction k with
  | zero =>
    intro l hl
    simp [bandsK] at hl
    subst hl
    exact low_empty h P n
  | succ k ih =>
    intro l hl
    unfold bandsK at hl
    rw [List.mem_append] at hl
    rcases hl with hl | hl
    · exact ih l hl
    · simp [highs] at hl
      rcases hl with rfl | rfl | rfl <;> exact quar_empty (it_empty h _) _ _

set_option maxHeartbeats 8000000 in
set_option maxRecDepth 100000 in
set_option pp.deepTerms true in
set_option pp.maxSteps 10000000 in
theorem empty_false (a0 a1 a2 : Int) (w : World) :
    Calls Try.prog 9 #[.int .i64 a0, .int .i64 a1, .int .i64 a2, .bool false] w fun e w' => e = .returned (.bool true) ∧ Below w.heap.size w w' := by
  go_enter Try.func9, Try.ntmps9
  go_wp2_with fail
  refine (known10 _).mono ?_
  rintro e wk ⟨rfl, bk⟩
  have HB1 := Lib.hid bk
  clear bk
  go_wp2_with fail
  refine (within10 a0 50 wk (by omega) (by omega)).mono ?_
  rintro e w' ⟨rfl, rfl⟩
  obtain ⟨xn, hxn⟩ : ∃ n : Nat, a0 % 50 = (n : Int) := ⟨(a0 % 50).toNat, by omega⟩
  have hx50 : xn < 50 := by omega
  rw [hxn]
  clear hxn
  go_wp2_with fail
  refine (within10 a1 50 wk (by omega) (by omega)).mono ?_
  rintro e w' ⟨rfl, rfl⟩
  obtain ⟨yn, hyn⟩ : ∃ n : Nat, a1 % 50 = (n : Int) := ⟨(a1 % 50).toNat, by omega⟩
  have hy50 : yn < 50 := by omega
  rw [hyn]
  clear hyn
  go_wp2_with fail
  refine (within10 a2 6 wk (by omega) (by omega)).mono ?_
  rintro e w' ⟨rfl, rfl⟩
  obtain ⟨n, hn⟩ : ∃ n : Nat, a2 % 6 = (n : Int) := ⟨(a2 % 6).toNat, by omega⟩
  have hn5 : n ≤ 5 := by omega
  rw [hn]
  clear hn
  obtain ⟨y5, hy5⟩ : ∃ v, (yn : Int) + 5 = v := ⟨_, rfl⟩
  obtain ⟨x5, hx5⟩ : ∃ v, (xn : Int) + 5 = v := ⟨_, rfl⟩
  obtain ⟨g, hg⟩ : ∃ g : Geo, (⟨xn, yn, 0, 5⟩ : Geo) = g := ⟨_, rfl⟩
  have hgx : g.x ≤ 90000 ∧ g.y ≤ 90000 := by rw [← hg]; simp only; omega
  have hgw : g.w ≤ 300 ∧ g.h ≤ 300 := by rw [← hg]; simp only; omega
  have hge : g.w = 0 ∨ g.h = 0 := by rw [← hg]; first | exact Or.inl rfl | exact Or.inr rfl
  have hg0 : g.w * g.h = 0 := by rcases hge with e | e <;> rw [e] <;> simp
  have hR : rectV g = .agg #[.int .i64 (xn : Int), .int .i64 (yn : Int), .int .i64 (xn : Int), .int .i64 y5] := by
    rw [← hg, ← hy5]; unfold rectV; simp
  obtain ⟨m3, hm3⟩ : ∃ m3, 3 * n + 1 = m3 := ⟨_, rfl⟩
  have hd := fun W A c h => dsplit_any g (fun _ _ => 0) n A c W hgw (by omega) hgx hn5 (fun x y hx hy => by omega) h
  rw [hR, hg0, hm3] at hd
  have HD := Lib.hid hd
  have hj := fun W A c h => djoin_6 g (fun _ _ => 0) n (n + 1) 0 0 A c W hgw (by omega) hgx hn5 (fun x y hx hy => by omega) (by omega) (low_empty hge _ 0) h
  obtain ⟨n1, hn1⟩ : ∃ n1, n + 1 = n1 := ⟨_, rfl⟩
  rw [hR, hm3, hn1] at hj
  have HJ := Lib.hid hj
  have HR := Lib.hid hR
  have HM3 := Lib.hid hm3
  have hm16 : m3 ≤ 16 := by omega
  have HN1 := Lib.hid hn1
  have HGE := Lib.hid hge
  clear hd hj hR hm3 hn1 hge hg0 hgx hgw hg
  have HX9 := Lib.hid (RA.new wk (xn : Int) (yn : Int) (xn : Int) y5)
  have HB9 : Hid (Below w.heap.size w (wk.alloc (Obj.cells #[.int .i64 (xn : Int), .int .i64 (yn : Int), .int .i64 (xn : Int), .int .i64 y5] 23))) := Lib.hid (HB1.out.alloc HB1.out.size _)
  go_wp2_with fail
  clear hy5 hx5
  obtain ⟨W9, hW9⟩ : ∃ W9, (wk.alloc (Obj.cells #[.int .i64 (xn : Int), .int .i64 (yn : Int), .int .i64 (xn : Int), .int .i64 y5] 23)) = W9 := ⟨_, rfl⟩
  obtain ⟨w9b, hw9b⟩ : ∃ q, wk.heap.size = q := ⟨_, rfl⟩
  rw [hW9] at HX9 HB9 ⊢
  rw [hw9b] at HX9 ⊢
  clear hW9 hw9b
  refine (HD.out W9 none 0 ⟨by rw [flat_len]; rcases HGE.out with e | e <;> rw [e] <;> simp, Nat.le_refl _, by unfold maxLen; omega, (fun _ => ⟨rfl, rfl⟩), by
    have e : ∀ l : List Int, l.length = 0 → l = [] := fun l h => List.eq_nil_of_length_eq_zero h
    rw [e (flat g.w g.h fun _ _ => 0) (by rw [flat_len]; rcases HGE.out with e | e <;> rw [e] <;> simp)]
    exact Lst.nil⟩).mono ?_
  rintro e w5 ⟨A5, c5, rfl, hb5, b5⟩
  have HX5 := Lib.hid (HX9.out.keep b5 HX9.out.lt)
  have HB5 := Lib.hid (HB9.out.trans (b5.mono HB9.out.size))
  have HS5 := Lib.hid hb5
  have hlen := hb5.1
  clear hb5 b5 HX9 HB9 HD
  go_wp2
  go_loopw [11] (fun iv wr => ∃ i : Nat, i ≤ m3 ∧ iv = .int .i64 (i : Int) ∧ Hid (RowsI wr A5 m3 c5 (bandsL g (fun _ _ => 0) n) ∧ RA wr w9b (xn : Int) (yn : Int) (xn : Int) y5 ∧ Below w.heap.size w wr)) (fun iv _ => m3 - (intOf iv).toNat)
  case atStart => exact ⟨0, by omega, rfl, Lib.hid ⟨HS5.out, HX5.out, HB5.out⟩⟩
  case round =>
    obtain ⟨i, hi, rfl, S⟩ := hrel
    clear HS5 HX5 HB5
    by_cases ci : i < m3
    · have ci' : (i : Int) < (m3 : Int) := by omega
      obtain ⟨l, hl⟩ : ∃ l, (bandsL g (fun _ _ => 0) n)[i]? = some l := ⟨_, List.getElem?_eq_getElem (by omega)⟩
      have hl0 : l.length = 0 := bands_empty HGE.out _ n n l (List.mem_of_getElem? hl)
      obtain ⟨b, o, A', c', hA, hbb, hc, _⟩ := S.out.1.at hl
      rw [hl0] at hc
      subst hA
      clear hl hl0
      go_wp2
      go_roundw
      case rel => exact ⟨i + 1, by omega, by go_num, S⟩
      case measure => simp [intOf]; omega
    · obtain rfl : m3 = i := by omega
      obtain ⟨f0, f1, f2, f3, _⟩ := S.out.2.1.cells
      have hm := HM3.out
      have hn := HN1.out
      have e1 : 3 * (n : Int) + 1 = (m3 : Int) := by omega
      have e2 : (n : Int) + 1 = (n1 : Int) := by omega
      have e3 : ((m3 : Int) == (m3 : Int)) = true := beq_self_eq_true _
      have e4 : ¬ (m3 : Int) < (m3 : Int) := by omega
      clear hm hn
      go_wp2_with fail
      refine (HJ.out _ _ _ S.out.1).mono ?_
      rintro e w6 ⟨A6, c6, rfl, hr6, b6⟩
      have HB6 := Lib.hid (S.out.2.2.trans (b6.mono S.out.2.2.size))
      clear hr6 b6 S f0 f1 f2 f3
      go_wp2
      go_ret
      exact ⟨rfl, HB6.out⟩
set_option maxHeartbeats 8000000 in
set_option maxRecDepth 100000 in
set_option pp.deepTerms true in
set_option pp.maxSteps 10000000 in
theorem empty_true (a0 a1 a2 : Int) (w : World) :
    Calls Try.prog 9 #[.int .i64 a0, .int .i64 a1, .int .i64 a2, .bool true] w fun e w' => e = .returned (.bool true) ∧ Below w.heap.size w w' := by
  go_enter Try.func9, Try.ntmps9
  go_wp2_with fail
  refine (known10 _).mono ?_
  rintro e wk ⟨rfl, bk⟩
  have HB1 := Lib.hid bk
  clear bk
  go_wp2_with fail
  refine (within10 a0 50 wk (by omega) (by omega)).mono ?_
  rintro e w' ⟨rfl, rfl⟩
  obtain ⟨xn, hxn⟩ : ∃ n : Nat, a0 % 50 = (n : Int) := ⟨(a0 % 50).toNat, by omega⟩
  have hx50 : xn < 50 := by omega
  rw [hxn]
  clear hxn
  go_wp2_with fail
  refine (within10 a1 50 wk (by omega) (by omega)).mono ?_
  rintro e w' ⟨rfl, rfl⟩
  obtain ⟨yn, hyn⟩ : ∃ n : Nat, a1 % 50 = (n : Int) := ⟨(a1 % 50).toNat, by omega⟩
  have hy50 : yn < 50 := by omega
  rw [hyn]
  clear hyn
  go_wp2_with fail
  refine (within10 a2 6 wk (by omega) (by omega)).mono ?_
  rintro e w' ⟨rfl, rfl⟩
  obtain ⟨n, hn⟩ : ∃ n : Nat, a2 % 6 = (n : Int) := ⟨(a2 % 6).toNat, by omega⟩
  have hn5 : n ≤ 5 := by omega
  rw [hn]
  clear hn
  obtain ⟨y5, hy5⟩ : ∃ v, (yn : Int) + 5 = v := ⟨_, rfl⟩
  obtain ⟨x5, hx5⟩ : ∃ v, (xn : Int) + 5 = v := ⟨_, rfl⟩
  obtain ⟨g, hg⟩ : ∃ g : Geo, (⟨xn, yn, 5, 0⟩ : Geo) = g := ⟨_, rfl⟩
  have hgx : g.x ≤ 90000 ∧ g.y ≤ 90000 := by rw [← hg]; simp only; omega
  have hgw : g.w ≤ 300 ∧ g.h ≤ 300 := by rw [← hg]; simp only; omega
  have hge : g.w = 0 ∨ g.h = 0 := by rw [← hg]; first | exact Or.inl rfl | exact Or.inr rfl
  have hg0 : g.w * g.h = 0 := by rcases hge with e | e <;> rw [e] <;> simp
  have hR : rectV g = .agg #[.int .i64 (xn : Int), .int .i64 (yn : Int), .int .i64 x5, .int .i64 (yn : Int)] := by
    rw [← hg, ← hx5]; unfold rectV; simp
  obtain ⟨m3, hm3⟩ : ∃ m3, 3 * n + 1 = m3 := ⟨_, rfl⟩
  have hd := fun W A c h => dsplit_any g (fun _ _ => 0) n A c W hgw (by omega) hgx hn5 (fun x y hx hy => by omega) h
  rw [hR, hg0, hm3] at hd
  have HD := Lib.hid hd
  have hj := fun W A c h => djoin_6 g (fun _ _ => 0) n (n + 1) 0 0 A c W hgw (by omega) hgx hn5 (fun x y hx hy => by omega) (by omega) (low_empty hge _ 0) h
  obtain ⟨n1, hn1⟩ : ∃ n1, n + 1 = n1 := ⟨_, rfl⟩
  rw [hR, hm3, hn1] at hj
  have HJ := Lib.hid hj
  have HR := Lib.hid hR
  have HM3 := Lib.hid hm3
  have hm16 : m3 ≤ 16 := by omega
  have HN1 := Lib.hid hn1
  have HGE := Lib.hid hge
  clear hd hj hR hm3 hn1 hge hg0 hgx hgw hg
  have HX9 := Lib.hid (RA.new wk (xn : Int) (yn : Int) x5 (yn : Int))
  have HB9 : Hid (Below w.heap.size w (wk.alloc (Obj.cells #[.int .i64 (xn : Int), .int .i64 (yn : Int), .int .i64 x5, .int .i64 (yn : Int)] 23))) := Lib.hid (HB1.out.alloc HB1.out.size _)
  go_wp2_with fail
  clear hy5 hx5
  obtain ⟨W9, hW9⟩ : ∃ W9, (wk.alloc (Obj.cells #[.int .i64 (xn : Int), .int .i64 (yn : Int), .int .i64 x5, .int .i64 (yn : Int)] 23)) = W9 := ⟨_, rfl⟩
  obtain ⟨w9b, hw9b⟩ : ∃ q, wk.heap.size = q := ⟨_, rfl⟩
  rw [hW9] at HX9 HB9 ⊢
  rw [hw9b] at HX9 ⊢
  clear hW9 hw9b
  refine (HD.out W9 none 0 ⟨by rw [flat_len]; rcases HGE.out with e | e <;> rw [e] <;> simp, Nat.le_refl _, by unfold maxLen; omega, (fun _ => ⟨rfl, rfl⟩), by
    have e : ∀ l : List Int, l.length = 0 → l = [] := fun l h => List.eq_nil_of_length_eq_zero h
    rw [e (flat g.w g.h fun _ _ => 0) (by rw [flat_len]; rcases HGE.out with e | e <;> rw [e] <;> simp)]
    exact Lst.nil⟩).mono ?_
  rintro e w5 ⟨A5, c5, rfl, hb5, b5⟩
  have HX5 := Lib.hid (HX9.out.keep b5 HX9.out.lt)
  have HB5 := Lib.hid (HB9.out.trans (b5.mono HB9.out.size))
  have HS5 := Lib.hid hb5
  have hlen := hb5.1
  clear hb5 b5 HX9 HB9 HD
  go_wp2
  go_loopw [11] (fun iv wr => ∃ i : Nat, i ≤ m3 ∧ iv = .int .i64 (i : Int) ∧ Hid (RowsI wr A5 m3 c5 (bandsL g (fun _ _ => 0) n) ∧ RA wr w9b (xn : Int) (yn : Int) x5 (yn : Int) ∧ Below w.heap.size w wr)) (fun iv _ => m3 - (intOf iv).toNat)
  case atStart => exact ⟨0, by omega, rfl, Lib.hid ⟨HS5.out, HX5.out, HB5.out⟩⟩
  case round =>
    obtain ⟨i, hi, rfl, S⟩ := hrel
    clear HS5 HX5 HB5
    by_cases ci : i < m3
    · have ci' : (i : Int) < (m3 : Int) := by omega
      obtain ⟨l, hl⟩ : ∃ l, (bandsL g (fun _ _ => 0) n)[i]? = some l := ⟨_, List.getElem?_eq_getElem (by omega)⟩
      have hl0 : l.length = 0 := bands_empty HGE.out _ n n l (List.mem_of_getElem? hl)
      obtain ⟨b, o, A', c', hA, hbb, hc, _⟩ := S.out.1.at hl
      rw [hl0] at hc
      subst hA
      clear hl hl0
      go_wp2
      go_roundw
      case rel => exact ⟨i + 1, by omega, by go_num, S⟩
      case measure => simp [intOf]; omega
    · obtain rfl : m3 = i := by omega
      obtain ⟨f0, f1, f2, f3, _⟩ := S.out.2.1.cells
      have hm := HM3.out
      have hn := HN1.out
      have e1 : 3 * (n : Int) + 1 = (m3 : Int) := by omega
      have e2 : (n : Int) + 1 = (n1 : Int) := by omega
      have e3 : ((m3 : Int) == (m3 : Int)) = true := beq_self_eq_true _
      have e4 : ¬ (m3 : Int) < (m3 : Int) := by omega
      clear hm hn
      go_wp2_with fail
      refine (HJ.out _ _ _ S.out.1).mono ?_
      rintro e w6 ⟨A6, c6, rfl, hr6, b6⟩
      have HB6 := Lib.hid (S.out.2.2.trans (b6.mono S.out.2.2.size))
      clear hr6 b6 S f0 f1 f2 f3
      go_wp2
      go_ret
      exact ⟨rfl, HB6.out⟩
theorem walk_dwtEmpty (a0 a1 a2 : Int) (a3 : Bool) (w : World) :
    Calls Try.prog 9 #[.int .i64 a0, .int .i64 a1, .int .i64 a2, .bool a3] w fun e w' => e = .returned (.bool true) ∧ Below w.heap.size w w' := by
  cases a3 with
  | false => exact empty_false a0 a1 a2 w
  | true => exact empty_true a0 a1 a2 w
end Go.Proofs.Ytgadebfelomhpaa
