/- Join of package dwt, by its contract. -/
import Derived.Test.YtgadebfelomhpaaDwI
set_option linter.unusedVariables false
set_option linter.unusedSimpArgs false
namespace Go.Proofs.Ytgadebfelomhpaa
open Go.RowKit

theorem wr3 {i k : Nat} (h : 3 * i = k) (hk : k ≤ 1000) : IntKind.i64.wrap (3 * (i : Int)) = (k : Int) := by
  rw [show 3 * (i : Int) = (k : Int) from by omega]; exact IntWalk.i64_in _ (by omega)
theorem wrk {a b j : Nat} (h : a + j = b) (hk : b ≤ 1000) : IntKind.i64.wrap ((a : Int) + (j : Int)) = (b : Int) := by
  rw [show (a : Int) + (j : Int) = (b : Int) from by omega]; exact IntWalk.i64_in _ (by omega)
theorem rowsI_four (Y : World) {A0 A1 A2 A3 : Option Addr} {n0 n1 n2 n3 c0 c1 c2 c3 : Nat} {l0 l1 l2 l3 : List Int} (h0 : RowI Y A0 n0 c0 l0) (h1 : RowI Y A1 n1 c1 l1) (h2 : RowI Y A2 n2 c2 l2) (h3 : RowI Y A3 n3 c3 l3) :
    RowsI (Y.alloc (.cells #[.slice A0 n0 c0, .slice A1 n1 c1, .slice A2 n2 c2, .slice A3 n3 c3] 24)) (some ⟨Y.heap.size, 0, none⟩) 4 4 [l0, l1, l2, l3] := by
  have hb : Below Y.heap.size Y (Y.alloc (.cells #[.slice A0 n0 c0, .slice A1 n1 c1, .slice A2 n2 c2, .slice A3 n3 c3] 24)) := (Below.refl _ _).alloc (Nat.le_refl _) _
  have k : ∀ {A n c l}, RowI Y A n c l → RowS (fun b => b < (Y.alloc (.cells #[.slice A0 n0 c0, .slice A1 n1 c1, .slice A2 n2 c2, .slice A3 n3 c3] 24)).heap.size) (Y.alloc (.cells #[.slice A0 n0 c0, .slice A1 n1 c1, .slice A2 n2 c2, .slice A3 n3 c3] 24)) A n c l := fun h => (h.keep hb (Nat.le_refl _)).rowS
  refine ⟨rfl, Nat.le_refl _, by unfold maxLen; omega, (fun e => by cases e), fun i l hi => ?_⟩
  rcases i with _ | _ | _ | _ | i
  · simp at hi; subst hi; have e := h0.1; subst e
    exact ⟨_, 0, A0, c0, rfl, by simp, by rw [World.cell?_alloc_new]; rfl, k h0⟩
  · simp at hi; subst hi; have e := h1.1; subst e
    exact ⟨_, 0, A1, c1, rfl, by simp, by rw [World.cell?_alloc_new]; rfl, k h1⟩
  · simp at hi; subst hi; have e := h2.1; subst e
    exact ⟨_, 0, A2, c2, rfl, by simp, by rw [World.cell?_alloc_new]; rfl, k h2⟩
  · simp at hi; subst hi; have e := h3.1; subst e
    exact ⟨_, 0, A3, c3, rfl, by simp, by rw [World.cell?_alloc_new]; rfl, k h3⟩
  · simp at hi
def rectC (g : Geo) : List Value := [.int .i64 (g.x : Int), .int .i64 (g.y : Int), .int .i64 ((g.x + g.w : Nat) : Int), .int .i64 ((g.y + g.h : Nat) : Int)]
theorem rectC_of {g : Geo} {a0 a1 a2 a3 : Int} (e : rectV g = .agg #[.int .i64 a0, .int .i64 a1, .int .i64 a2, .int .i64 a3]) : rectC g = [.int .i64 a0, .int .i64 a1, .int .i64 a2, .int .i64 a3] := by
  obtain ⟨e0, e1, e2, e3⟩ := rect_ints e
  rw [e0, e1, e2, e3]; rfl
def rectsL (g : Geo) : Nat → List Value
  | 0 => []
  | k + 1 => rectsL g k ++ rectC (itG g k)
theorem rectsL_len (g : Geo) (k : Nat) : (rectsL g k).length = k * 4 := by
  induction k with
  | zero => rfl
  | succ k ih => unfold rectsL; rw [List.length_append, ih]; show k * 4 + 4 = _; omega
theorem rectsL_at (g : Geo) {k i j : Nat} (hi : i < k) (hj : j < 4) : (rectsL g k)[i * 4 + j]? = (rectC (itG g i))[j]? := by
  induction k with
  | zero => omega
  | succ k ih =>
    unfold rectsL
    by_cases e : i = k
    · subst e
      rw [List.getElem?_append_right (by rw [rectsL_len]; omega), rectsL_len, show i * 4 + j - i * 4 = j from by omega]
    · rw [List.getElem?_append_left (by rw [rectsL_len]; omega)]
      exact ih (by omega)
theorem rects_cells {w : World} {lo b c k i : Nat} {g : Geo} (h : w.ownsRow lo 23 4 (.slice (some ⟨b, 0, none⟩) k c) k (rectsL g k)) (hi : i < k) {a0 a1 a2 a3 : Int} (e : rectV (itG g i) = .agg #[.int .i64 a0, .int .i64 a1, .int .i64 a2, .int .i64 a3]) :
    w.cell? ⟨b, i * 4, none⟩ = some (.int .i64 a0) ∧ w.cell? ⟨b, i * 4 + 1, none⟩ = some (.int .i64 a1) ∧ w.cell? ⟨b, i * 4 + 2, none⟩ = some (.int .i64 a2) ∧ w.cell? ⟨b, i * 4 + 3, none⟩ = some (.int .i64 a3) := by
  have hc := rectC_of e
  refine ⟨?_, ?_, ?_, ?_⟩
  · rw [h.cellAt (i * 4) (by omega), show i * 4 = i * 4 + 0 from rfl, rectsL_at g hi (by omega), hc]; rfl
  · rw [h.cellAt (i * 4 + 1) (by omega), rectsL_at g hi (by omega), hc]; rfl
  · rw [h.cellAt (i * 4 + 2) (by omega), rectsL_at g hi (by omega), hc]; rfl
  · rw [h.cellAt (i * 4 + 3) (by omega), rectsL_at g hi (by omega), hc]; rfl
theorem cell_four_new (w : World) (a b c d : Value) (t : TypeId) : ∀ j u, [a, b, c, d][j]? = some u → (w.alloc (.cells #[a, b, c, d] t)).cell? ((⟨w.heap.size, 0, none⟩ : Addr).add j) = some u := by
  intro j u hu
  rcases j with _ | _ | _ | _ | j
  · simp at hu; subst hu; show (w.alloc _).cell? ⟨w.heap.size, 0, none⟩ = _; rw [World.cell?_alloc_new]; rfl
  · simp at hu; subst hu; show (w.alloc _).cell? ⟨w.heap.size, 1, none⟩ = _; rw [World.cell?_alloc_new]; rfl
  · simp at hu; subst hu; show (w.alloc _).cell? ⟨w.heap.size, 2, none⟩ = _; rw [World.cell?_alloc_new]; rfl
  · simp at hu; subst hu; show (w.alloc _).cell? ⟨w.heap.size, 3, none⟩ = _; rw [World.cell?_alloc_new]; rfl
  · simp at hu
theorem Try.info23 : (Try.prog.info? 23).map (fun i => (i.zero, i.size, i.bytes)) = some (some (.agg #[.int .i64 0, .int .i64 0, .int .i64 0, .int .i64 0]), 4, 32) := by kernel_rfl

set_option maxHeartbeats 8000000 in
set_option maxRecDepth 100000 in
set_option pp.deepTerms true in
set_option pp.maxSteps 10000000 in
theorem djoin_K (g : Geo) (P : Nat → Nat → Int) (K0 : Int) (n res : Nat) (AB : Option Addr) (cB : Nat) (w : World) (hw : g.w ≤ 300 ∧ g.h ≤ 300) (hwh : g.w * g.h ≤ 1000) (hx : g.x ≤ 90000 ∧ g.y ≤ 90000) (hn : n ≤ 5) (hK0 : 0 ≤ K0) (hKn : ∀ k, k < n → bdG K0 k ≤ 200000000) (hbd : Bd K0 g.w g.h P) (hres : 1 ≤ res ∧ res ≤ n + 1) (hrow : RowsI w AB (3 * n + 1) cB (bandsL g P n)) :
    Calls Try.prog 18 #[rectV g, .int .i64 (n : Int), .slice AB (3 * n + 1) cB, .int .i64 (res : Int)] w fun e w' => ∃ A' c', e = .returned (.slice A' (lowest g P (n + 1 - res)).length c') ∧ RowI w' A' (lowest g P (n + 1 - res)).length c' (lowest g P (n + 1 - res)) ∧ Below w.heap.size w w' := by
  have HB := Lib.hid hbd
  have HKN := Lib.hid hKn
  have HQS : Hid (RowsS (fun b => b < w.heap.size) w AB (3 * n + 1) cB (bandsL g P n)) := Lib.hid hrow
  have HAL := Lib.hid (fun W => allowed_any g n W (by omega) hx hn)
  obtain ⟨a0, a1, a2, a3, hR⟩ := rect_open g
  have HR := Lib.hid hR
  rw [hR] at HAL ⊢
  clear hR hrow hbd hKn
  have HB0 : Hid (Below w.heap.size w (w.alloc (Obj.cells #[.int .i64 a0, .int .i64 a1, .int .i64 a2, .int .i64 a3] 23))) := Lib.hid ((Below.refl _ w).alloc (Nat.le_refl _) _)
  have HX0 := Lib.hid (RA.new w a0 a1 a2 a3)
  obtain ⟨ires, hires⟩ : ∃ v : Int, (res : Int) = v := ⟨_, rfl⟩
  have c1 : decide ((res : Int) < 1) = false := by simp; omega
  have c2 : decide ((n : Int) + 1 < (res : Int)) = false := by simp; omega
  obtain ⟨m3, hm3⟩ : ∃ m3, 3 * n + 1 = m3 := ⟨_, rfl⟩
  have c3 : 3 * (n : Int) + 1 = (m3 : Int) := by omega
  have c4 : ((m3 : Int) != (m3 : Int)) = false := bne_self_eq_false _
  rw [hm3] at HQS ⊢
  have HM3 := Lib.hid hm3
  have HRES := Lib.hid hres
  clear hm3 hires
  go_enter Try.func18, Try.ntmps18
  go_wp2_with fail
  refine (HAL.out _).mono ?_
  rintro e w1 ⟨rfl, b1⟩
  have HX1 := Lib.hid (HX0.out.keep b1 HX0.out.lt)
  have HB1 := Lib.hid (HB0.out.trans (b1.mono HB0.out.size))
  obtain ⟨f0, f1, f2, f3, _⟩ := HX1.out.cells
  clear HX0 HB0 b1 HAL
  go_wp2
  obtain ⟨rb, hrb⟩ : ∃ rb, w1.heap.size = rb := ⟨_, rfl⟩
  have hO0 : (w1.alloc (Obj.cells #[Value.int IntKind.i64 a0, Value.int IntKind.i64 a1, Value.int IntKind.i64 a2, Value.int IntKind.i64 a3] 23)).ownsRow rb 23 4 (.slice (some ⟨rb, 0, none⟩) 1 1) 1 (rectsL g 1) := by
    have h := World.ownsRow_lit (base := w1.heap.size) (e := 23) (size := 4) w1 #[Value.int IntKind.i64 a0, Value.int IntKind.i64 a1, Value.int IntKind.i64 a2, Value.int IntKind.i64 a3] 1 (Nat.le_refl _) (by unfold maxLen; omega) rfl
    rw [hrb] at h
    have e : rectsL g 1 = [Value.int IntKind.i64 a0, Value.int IntKind.i64 a1, Value.int IntKind.i64 a2, Value.int IntKind.i64 a3] := rectC_of (g := g) HR.out
    rw [e]
    exact h
  have hBW : Below w.heap.size w (w1.alloc (Obj.cells #[Value.int IntKind.i64 a0, Value.int IntKind.i64 a1, Value.int IntKind.i64 a2, Value.int IntKind.i64 a3] 23)) := HB1.out.alloc HB1.out.size _
  have hrw : w.heap.size ≤ rb := by rw [← hrb]; exact HB1.out.size
  have hrz : rb ≤ (w1.alloc (Obj.cells #[Value.int IntKind.i64 a0, Value.int IntKind.i64 a1, Value.int IntKind.i64 a2, Value.int IntKind.i64 a3] 23)).heap.size := by rw [← hrb]; simp
  have HO0 := Lib.hid hO0
  have HBW := Lib.hid hBW
  rw [hrb]
  clear hrb hO0 hBW f0 f1 f2 f3 HX1 HB1 c1 c2 c3 c4
  generalize (w1.alloc (Obj.cells #[Value.int IntKind.i64 a0, Value.int IntKind.i64 a1, Value.int IntKind.i64 a2, Value.int IntKind.i64 a3] 23)) = W2 at *
  obtain ⟨i3, hi3, hz0, hz1, hz2⟩ := info_parts Try.info23
  go_loopw [9, 40] (fun v kv wr => ∃ k : Nat, k ≤ n ∧ kv = .int .i64 (k : Int) ∧ Hid (wr.ownsRow rb 23 4 v (k + 1) (rectsL g (k + 1)) ∧ Below rb W2 wr)) (fun _ kv _ => n - (intOf kv).toNat)
  case atStart => exact ⟨0, by omega, rfl, Lib.hid ⟨HO0.out, Below.refl _ _⟩⟩
  case round =>
    obtain ⟨k, hk, rfl, S⟩ := hrel
    clear HO0
    by_cases ck : k < n
    · have ck' : (k : Int) < (n : Int) := by omega
      obtain ⟨b, cap, hv, hb1, hb2, hcap, hmx⟩ := own_form S.out.1 (by omega)
      subst hv
      obtain ⟨r0, r1, r2, r3, hr⟩ := rect_open (itG g k)
      obtain ⟨h0, h1, h2, h3, hh⟩ := rect_open (itG g (k + 1))
      obtain ⟨f0, f1, f2, f3⟩ := rects_cells S.out.1 (i := k) (by omega) hr
      have hxx := itG_x g k
      have hww := itG_le g k
      have HHF : Hid (∀ W, Calls Try.prog 25 #[.agg #[.int .i64 r0, .int .i64 r1, .int .i64 r2, .int .i64 r3]] W fun e w' => e = .returned (.agg #[.int .i64 h0, .int .i64 h1, .int .i64 h2, .int .i64 h3]) ∧ Below W.heap.size W w') := Lib.hid (fun W => by
        have hf := half_any (itG g k) W (by omega) (by omega)
        rw [hr, show rectV (itG g k).half = _ from hh] at hf
        exact hf)
      have HH := Lib.hid hh
      obtain ⟨wo, rfl⟩ : ∃ wo : World, wo = wr := ⟨_, rfl⟩
      have hki : (k : Int) < (k : Int) + 1 := by omega
      clear hr hh
      go_wp2_with fail
      refine (HHF.out _).mono ?_
      rintro e w3 ⟨rfl, b3⟩
      have hO3 : w3.ownsRow rb 23 4 (.slice (some ⟨b, 0, none⟩) (k + 1) cap) (k + 1) (rectsL g (k + 1)) := S.out.1.kept (grown_of_below b3 none) (Or.inr (by simp [Value.ownBlock]))
      have HO3 := Lib.hid hO3
      have HB3 := Lib.hid (S.out.2.trans (b3.mono (Nat.le_trans hrz S.out.2.size)))
      have hrs : rb ≤ w3.heap.size := Nat.le_trans (Nat.le_trans hrz S.out.2.size) b3.size
      clear S b3 hO3 f0 f1 f2 f3 HHF
      go_wp2_with (at_builtin; refine wpList_append_own _ rfl _ _ 51 rfl rb 23 i3 (.agg #[.int .i64 0, .int .i64 0, .int .i64 0, .int .i64 0]) 4 32 Try.underlying51 hi3 hz0 hz1 hz2 rfl (by decide) _ _ _ rfl (HO3.out.alloc _) ⟨w3.heap.size, 0, none⟩ 1 1 [.int .i64 h0, .int .i64 h1, .int .i64 h2, .int .i64 h3] rfl rfl (cell_four_new _ _ _ _ _ _) (by simp [Value.oneCell']) (by unfold maxLen; omega) (by omega) (by simp; omega) ?_; intro v' w5 hown5 hgr5 _)
      have S2 : Hid (w5.ownsRow rb 23 4 v' (k + 1 + 1) (rectsL g (k + 1 + 1)) ∧ Below rb W2 w5) := Lib.hid ⟨by
        have e : rectsL g (k + 1 + 1) = rectsL g (k + 1) ++ [.int .i64 h0, .int .i64 h1, .int .i64 h2, .int .i64 h3] := by
          rw [← rectC_of HH.out]; rfl
        rw [e]; exact hown5, (HB3.out.alloc hrs _).grown hgr5 (by simp; omega) (fun q e => (own_lt HO3.out e).1)⟩
      clear hown5 hgr5 HO3 HB3 HH
      go_wp2
      go_roundw
      case rel => exact ⟨k + 1, by omega, by go_num, S2⟩
      case measure => simp [intOf]; omega
    · obtain rfl : n = k := by omega
      obtain ⟨b, cap, hv, hb1, hb2, hcap, hmx⟩ := own_form S.out.1 (by omega)
      subst hv
      obtain ⟨r0, r1, r2, r3, hr⟩ := rect_open (itG g n)
      have hVb : ∀ b, b < w.heap.size → wr.heap[b]? = w.heap[b]? := fun b hb => (S.out.2.block b (by omega)).trans (HBW.out.block b hb)
      have hQr := HQS.out.keep hVb
      obtain ⟨bb, ob, A0, c0, hAB, hbb, m0, hr0⟩ := hQr.2.2.2.2 0 _ (bandsK_zero g P n n)
      subst hAB
      change wr.cell? ⟨bb, ob, none⟩ = _ at m0
      have hww := itG_le g n
      have hxx := itG_x g n
      have hL : (lowest g P n).length = (itG g n).w * (itG g n).h := flat_len _ _ _
      have hL2 : (lowest g P n).length ≤ 1000 := by rw [hL]; exact Nat.le_trans (Nat.mul_le_mul hww.1 hww.2) hwh
      have hm3p : (0 : Int) < (m3 : Int) := by have := HM3.out; omega
      have HAR : Hid (∀ W, Calls Try.prog 22 #[.agg #[.int .i64 r0, .int .i64 r1, .int .i64 r2, .int .i64 r3]] W fun e w' => e = .returned (.int .i64 ((lowest g P n).length : Int)) ∧ Below W.heap.size W w') := Lib.hid (fun W => by
        have ha := area_any (itG g n) W (by omega) (by omega)
        rw [hr, ← hL] at ha
        exact ha)
      have HRN := Lib.hid hr
      have HR0 := Lib.hid hr0.row
      have HVB := Lib.hid hVb
      have HOW : Hid (wr.ownsRow rb 23 4 (.slice (some ⟨b, 0, none⟩) (n + 1) cap) (n + 1) (rectsL g (n + 1))) := Lib.hid S.out.1
      have HBR : Hid (Below w.heap.size w wr) := Lib.hid (HBW.out.trans (S.out.2.mono hrw))
      have hrs0 : rb ≤ wr.heap.size := Nat.le_trans hrz S.out.2.size
      clear S hVb hQr hr0 hr hL
      go_wp2_with fail
      refine (clone_int HR0.out hL2).mono ?_
      rintro e w3 ⟨v, rfl, hown, b3⟩
      obtain ⟨Ap, cp, rfl, _, _, _⟩ := own_any hown
      have hO3 : w3.ownsRow rb 23 4 (.slice (some ⟨b, 0, none⟩) (n + 1) cap) (n + 1) (rectsL g (n + 1)) := HOW.out.kept (grown_of_below b3 none) (Or.inr (by simp [Value.ownBlock]))
      obtain ⟨f0, f1, f2, f3⟩ := rects_cells hO3 (i := n) (by omega) HRN.out
      have HP3 : Hid (RowI w3 Ap (lowest g P n).length cp (lowest g P n)) := Lib.hid (RowO.row hown)
      have HO3 := Lib.hid hO3
      have HB3 := Lib.hid (HBR.out.trans (b3.mono HBR.out.size))
      have HRW3 := Lib.hid b3.size
      have HV3 : Hid (∀ b, b < w.heap.size → w3.heap[b]? = w.heap[b]?) := Lib.hid (fun b hb => (b3.block b (Nat.lt_of_lt_of_le hb HBR.out.size)).trans (HVB.out b hb))
      obtain ⟨L0, hL0⟩ : ∃ L0, (lowest g P n).length = L0 := ⟨_, rfl⟩
      rw [hL0] at HP3 HAR ⊢
      have HL0 := Lib.hid hL0
      have hnn : (n : Int) < (n : Int) + 1 := by omega
      have heq : ((L0 : Int) != (L0 : Int)) = false := bne_self_eq_false _
      clear hown b3 hO3 m0 HR0 HOW HBR HVB hL0
      go_wp2_with fail
      refine (HAR.out _).mono ?_
      rintro e w4 ⟨rfl, b4⟩
      have HP4 := Lib.hid (HP3.out.keep b4 (Nat.le_refl _))
      have HO4 : Hid (w4.ownsRow rb 23 4 (.slice (some ⟨b, 0, none⟩) (n + 1) cap) (n + 1) (rectsL g (n + 1))) := Lib.hid (HO3.out.kept (grown_of_below b4 none) (Or.inr (by simp [Value.ownBlock])))
      have HB4 := Lib.hid (HB3.out.trans (b4.mono HB3.out.size))
      have HV4 : Hid (∀ b, b < w.heap.size → w4.heap[b]? = w.heap[b]?) := Lib.hid (fun b hb => (b4.block b (Nat.lt_of_lt_of_le hb HB3.out.size)).trans (HV3.out b hb))
      have hrb4 : rb ≤ w4.heap.size := Nat.le_trans hrs0 (Nat.le_trans HRW3.out b4.size)
      obtain ⟨R, hR⟩ : ∃ R, res - 1 = R := ⟨_, rfl⟩
      have e1 : (res : Int) - 1 = (R : Int) := by omega
      have hRn : R ≤ n := by omega
      have HRR := Lib.hid hR
      clear f0 f1 f2 f3 b4 HP3 HO3 HB3 HV3 HAR hR HRN
      go_wp2
      clear e1 heq hnn
      go_loopw [11, 66] (fun pv kv wr => ∃ (i : Nat) (A' : Option Addr) (L c' : Nat), i ≤ R ∧ kv = .int .i64 (i : Int) ∧ pv = .slice A' L c' ∧ Hid (L = (lowest g P (n - i)).length ∧ RowI wr A' L c' (lowest g P (n - i)) ∧ Below w4.heap.size w4 wr)) (fun _ kv _ => R - (intOf kv).toNat)
      case atStart => exact ⟨0, Ap, L0, cp, by omega, rfl, rfl, Lib.hid ⟨HL0.out.symm, HP4.out, Below.refl _ _⟩⟩
      case round =>
        obtain ⟨i, Aq, lq, cq, hi, rfl, rfl, S⟩ := hrel
        clear HP4
        by_cases ci : i < R
        · have ci' : (i : Int) < (R : Int) := by omega
          obtain ⟨q, hq⟩ : ∃ q, n - 1 - i = q := ⟨_, rfl⟩
          have hqn : q < n := by omega
          have hVw : ∀ b, b < w.heap.size → wr.heap[b]? = w.heap[b]? := fun b hb => (S.out.2.2.block b (Nat.lt_of_lt_of_le hb HB4.out.size)).trans (HV4.out b hb)
          have hQw := HQS.out.keep hVw
          obtain ⟨t1, t2, t3⟩ := bandsK_at g P n n i (by omega)
          rw [hq] at t1 t2 t3
          obtain ⟨x1, y1, A1, c1, e1, g1, m1, s1⟩ := hQw.2.2.2.2 _ _ t1
          obtain ⟨x2, y2, A2, c2, e2, g2, m2, s2⟩ := hQw.2.2.2.2 _ _ t2
          obtain ⟨x3, y3, A3, c3, e3, g3, m3', s3⟩ := hQw.2.2.2.2 _ _ t3
          injection e1 with e1; injection e1 with e1 f1; subst e1 f1
          injection e2 with e2; injection e2 with e2 f2; subst e2 f2
          injection e3 with e3; injection e3 with e3 f3; subst e3 f3
          obtain ⟨l1, hl1⟩ : ∃ l1, (quar (itG g q) (itP g P (q + 1)) 1).length = l1 := ⟨_, rfl⟩
          obtain ⟨l2, hl2⟩ : ∃ l2, (quar (itG g q) (itP g P (q + 1)) 2).length = l2 := ⟨_, rfl⟩
          obtain ⟨l3, hl3⟩ : ∃ l3, (quar (itG g q) (itP g P (q + 1)) 3).length = l3 := ⟨_, rfl⟩
          rw [hl1] at m1 s1
          rw [hl2] at m2 s2
          rw [hl3] at m3' s3
          obtain ⟨k0, hk0⟩ : ∃ k0, 3 * i = k0 := ⟨_, rfl⟩
          obtain ⟨k1, hk1⟩ : ∃ k1, k0 + 1 = k1 := ⟨_, rfl⟩
          obtain ⟨k2, hk2⟩ : ∃ k2, k0 + 2 = k2 := ⟨_, rfl⟩
          obtain ⟨k3, hk3⟩ : ∃ k3, k0 + 3 = k3 := ⟨_, rfl⟩
          rw [hk0, hk1] at m1
          rw [hk0, hk2] at m2
          rw [hk0, hk3] at m3'
          have hkm : k3 < m3 := by have := HM3.out; omega
          have p0 : IntKind.i64.wrap (3 * (i : Int)) = (k0 : Int) := wr3 hk0 (by omega)
          have p1 : IntKind.i64.wrap ((k0 : Int) + 1) = (k1 : Int) := wrk hk1 (by omega)
          have p2 : IntKind.i64.wrap ((k0 : Int) + 2) = (k2 : Int) := wrk hk2 (by omega)
          have p3 : IntKind.i64.wrap ((k0 : Int) + 3) = (k3 : Int) := wrk hk3 (by omega)
          have b1' : (k1 : Int) < (m3 : Int) := by omega
          have b2' : (k2 : Int) < (m3 : Int) := by omega
          have b3' : (k3 : Int) < (m3 : Int) := by omega
          have e5 : (n : Int) - 1 - (i : Int) = (q : Int) := by omega
          have hni : n - i = q + 1 := by omega
          have hni2 : n - (i + 1) = q := by omega
          obtain ⟨Y, hY⟩ : ∃ Y, wr.drew = Y := ⟨_, rfl⟩
          have HYE := Lib.hid hY
          have HM : Hid (Y.cell? ⟨bb, ob + k1, none⟩ = some (.slice A1 l1 c1) ∧ Y.cell? ⟨bb, ob + k2, none⟩ = some (.slice A2 l2 c2) ∧ Y.cell? ⟨bb, ob + k3, none⟩ = some (.slice A3 l3 c3)) := Lib.hid (by rw [← hY]; exact ⟨m1, m2, m3'⟩)
          have HS : Hid (RowI Y Aq lq cq (lowest g P (n - i)) ∧ RowI Y A1 l1 c1 (quar (itG g q) (itP g P (q + 1)) 1) ∧ RowI Y A2 l2 c2 (quar (itG g q) (itP g P (q + 1)) 2) ∧ RowI Y A3 l3 c3 (quar (itG g q) (itP g P (q + 1)) 3)) := Lib.hid (by
            rw [← hY]; exact ⟨S.out.2.1.drew (Drew.mk _ 1), s1.row.drew (Drew.mk _ 1), s2.row.drew (Drew.mk _ 1), s3.row.drew (Drew.mk _ 1)⟩)
          have HYB : Hid (Below w4.heap.size w4 Y) := Lib.hid (by rw [← hY]; exact below_drewN S.out.2.2 1)
          clear hVw hQw t1 t2 t3 m1 m2 m3' s1 s2 s3 g1 g2 g3 hq hk0 hk1 hk2 hk3 hl1 hl2 hl3 S hY
          go_wp2
          refine (wpIn_wide (n := 9)).1 (regionIn_inv (w := wr) (Inv := fun L a' w' => a' = { tmps := #[.agg #[.int .i64 a0, .int .i64 a1, .int .i64 a2, .int .i64 a3], .int .i64 (n : Int), .slice (some ⟨bb, ob, none⟩) m3 cB, .int .i64 (res : Int), .pointer (some ⟨w.heap.size, 0, none⟩), undef, undef, undef, u8, .slice (some ⟨b, 0, none⟩) (n + 1) cap, u10, .slice Aq lq cq, .int .i64 (i : Int), bif L 20 then .slice (some ⟨Y.heap.size, 0, none⟩) 4 4 else u13, u14, .agg #[.int .i64 a0, .int .i64 a1, .int .i64 a2, .int .i64 a3], .int .i64 (n : Int), .bool true, .bool false, .bool false, .int .i64 (res : Int), .bool false, .bool false, .bool false, .int .i64 (res : Int), .int .i64 (n : Int), .int .i64 ((n : Int) + 1), .bool false, .bool false, .bool false, .slice (some ⟨bb, ob, none⟩) m3 cB, .int .i64 (m3 : Int), .int .i64 (n : Int), .int .i64 (3 * (n : Int)), .int .i64 (m3 : Int), .bool false, .bool false, .agg #[.int .i64 a0, .int .i64 a1, .int .i64 a2, .int .i64 a3], .slice (some ⟨rb, 0, none⟩) 1 1, .int .i64 (n : Int), .int .i64 (n : Int), .bool false, u42, u43, u44, u45, u46, u47, u48, u49, u50, u51, .slice (some ⟨bb, ob, none⟩) m3 cB, .pointer (some ⟨bb, ob, none⟩), .slice A0 L0 c0, .slice Ap L0 cp, .slice Ap L0 cp, .int .i64 (L0 : Int), .slice (some ⟨b, 0, none⟩) (n + 1) cap, .int .i64 (n : Int), .pointer (some ⟨b, n * 4, none⟩), .agg #[.int .i64 r0, .int .i64 r1, .int .i64 r2, .int .i64 r3], .int .i64 (L0 : Int), .bool false, .int .i64 (res : Int), .int .i64 (R : Int), .int .i64 (i : Int), .bool true, .int .i64 (i : Int), bif L 0 then .slice Aq lq cq else u69, bif L 1 then .slice (some ⟨bb, ob, none⟩) m3 cB else u70, bif L 2 then .int .i64 (i : Int) else u71, bif L 3 then .int .i64 (k0 : Int) else u72, bif L 4 then .int .i64 (k1 : Int) else u73, bif L 5 then .pointer (some ⟨bb, ob + k1, none⟩) else u74, bif L 6 then .slice A1 l1 c1 else u75, bif L 7 then .slice (some ⟨bb, ob, none⟩) m3 cB else u76, bif L 8 then .int .i64 (i : Int) else u77, bif L 9 then .int .i64 (k0 : Int) else u78, bif L 10 then .int .i64 (k2 : Int) else u79, bif L 11 then .pointer (some ⟨bb, ob + k2, none⟩) else u80, bif L 12 then .slice A2 l2 c2 else u81, bif L 13 then .slice (some ⟨bb, ob, none⟩) m3 cB else u82, bif L 14 then .int .i64 (i : Int) else u83, bif L 15 then .int .i64 (k0 : Int) else u84, bif L 16 then .int .i64 (k3 : Int) else u85, bif L 17 then .pointer (some ⟨bb, ob + k3, none⟩) else u86, bif L 18 then .slice A3 l3 c3 else u87, bif L 19 then .slice (some ⟨Y.heap.size, 0, none⟩) 4 4 else u88, u89, u90, u91, u92, u93, u94, u95, u96, u97, u98, u99, u100, u101, u102, u103, undef], defers := [] } ∧ (bif L 19 then (w' = Y.alloc (.cells #[.slice Aq lq cq, .slice A1 l1 c1, .slice A2 l2 c2, .slice A3 l3 c3] 24)) else w' = Y)) (by kernel_rfl) (by kernel_rfl) ?start ?step ?fin)
          case start => exact ⟨rfl, HYE.out⟩
          case step =>
            intro i hi L a' w' hI hs hu
            obtain ⟨rfl, hph⟩ := hI
            have hL := hu.1
            have hi : i < 21 := hi
            obtain rfl | rfl | rfl | rfl | rfl | rfl | rfl | rfl | rfl | rfl | rfl | rfl | rfl | rfl | rfl | rfl | rfl | rfl | rfl | rfl | rfl := (by omega : i = 0 ∨ i = 1 ∨ i = 2 ∨ i = 3 ∨ i = 4 ∨ i = 5 ∨ i = 6 ∨ i = 7 ∨ i = 8 ∨ i = 9 ∨ i = 10 ∨ i = 11 ∨ i = 12 ∨ i = 13 ∨ i = 14 ∨ i = 15 ∨ i = 16 ∨ i = 17 ∨ i = 18 ∨ i = 19 ∨ i = 20)
            · skip
              have n19 : L 19 = false := not_yet hL fun h => shut_at hs 19 0 (by kernel_rfl) (h)
              refine opIn_run (v := .slice Aq lq cq) (w' := _) rfl rfl (fun c h => by cases h) (fun _ => trivial) ?_ ⟨by simp [Act.put, upd, n19, hL], by simpa [upd] using hph⟩
              simp only [n19, hL, cond_true, cond_false]
              go_simp
            · skip
              have n19 : L 19 = false := not_yet hL fun h => shut_at hs 5 1 (by kernel_rfl) (shut_at hs 6 5 (by kernel_rfl) (shut_at hs 19 6 (by kernel_rfl) (h)))
              refine opIn_run (v := .slice (some ⟨bb, ob, none⟩) m3 cB) (w' := _) rfl rfl (fun c h => by cases h) (fun _ => trivial) ?_ ⟨by simp [Act.put, upd, n19, hL], by simpa [upd] using hph⟩
              simp only [n19, hL, cond_true, cond_false]
              go_simp
            · skip
              have n19 : L 19 = false := not_yet hL fun h => shut_at hs 3 2 (by kernel_rfl) (shut_at hs 4 3 (by kernel_rfl) (shut_at hs 5 4 (by kernel_rfl) (shut_at hs 6 5 (by kernel_rfl) (shut_at hs 19 6 (by kernel_rfl) (h)))))
              refine opIn_run (v := .int .i64 (i : Int)) (w' := _) rfl rfl (fun c h => by cases h) (fun _ => trivial) ?_ ⟨by simp [Act.put, upd, n19, hL], by simpa [upd] using hph⟩
              simp only [n19, hL, cond_true, cond_false]
              go_simp
            · skip
              have y2 : L 2 = true := up_at hu 2 (by kernel_rfl)
              have n19 : L 19 = false := not_yet hL fun h => shut_at hs 4 3 (by kernel_rfl) (shut_at hs 5 4 (by kernel_rfl) (shut_at hs 6 5 (by kernel_rfl) (shut_at hs 19 6 (by kernel_rfl) (h))))
              refine opIn_run (v := .int .i64 (k0 : Int)) (w' := _) rfl rfl (fun c h => by cases h) (fun _ => trivial) ?_ ⟨by simp [Act.put, upd, y2, n19, hL], by simpa [upd] using hph⟩
              simp only [y2, n19, hL, cond_true, cond_false]
              go_simp
            · skip
              have y2 : L 2 = true := shut_at hs 3 2 (by kernel_rfl) (up_at hu 3 (by kernel_rfl))
              have y3 : L 3 = true := up_at hu 3 (by kernel_rfl)
              have n19 : L 19 = false := not_yet hL fun h => shut_at hs 5 4 (by kernel_rfl) (shut_at hs 6 5 (by kernel_rfl) (shut_at hs 19 6 (by kernel_rfl) (h)))
              refine opIn_run (v := .int .i64 (k1 : Int)) (w' := _) rfl rfl (fun c h => by cases h) (fun _ => trivial) ?_ ⟨by simp [Act.put, upd, y2, y3, n19, hL], by simpa [upd] using hph⟩
              simp only [y2, y3, n19, hL, cond_true, cond_false]
              go_simp
            · skip
              have y1 : L 1 = true := up_at hu 1 (by kernel_rfl)
              have y2 : L 2 = true := shut_at hs 3 2 (by kernel_rfl) (shut_at hs 4 3 (by kernel_rfl) (up_at hu 4 (by kernel_rfl)))
              have y3 : L 3 = true := shut_at hs 4 3 (by kernel_rfl) (up_at hu 4 (by kernel_rfl))
              have y4 : L 4 = true := up_at hu 4 (by kernel_rfl)
              have n19 : L 19 = false := not_yet hL fun h => shut_at hs 6 5 (by kernel_rfl) (shut_at hs 19 6 (by kernel_rfl) (h))
              refine opIn_run (v := .pointer (some ⟨bb, ob + k1, none⟩)) (w' := _) rfl rfl (fun c h => by cases h) (fun _ => trivial) ?_ ⟨by simp [Act.put, upd, y1, y2, y3, y4, n19, hL], by simpa [upd] using hph⟩
              simp only [y1, y2, y3, y4, n19, hL, cond_true, cond_false]
              go_simp
            · skip
              have y1 : L 1 = true := shut_at hs 5 1 (by kernel_rfl) (up_at hu 5 (by kernel_rfl))
              have y2 : L 2 = true := shut_at hs 3 2 (by kernel_rfl) (shut_at hs 4 3 (by kernel_rfl) (shut_at hs 5 4 (by kernel_rfl) (up_at hu 5 (by kernel_rfl))))
              have y3 : L 3 = true := shut_at hs 4 3 (by kernel_rfl) (shut_at hs 5 4 (by kernel_rfl) (up_at hu 5 (by kernel_rfl)))
              have y4 : L 4 = true := shut_at hs 5 4 (by kernel_rfl) (up_at hu 5 (by kernel_rfl))
              have y5 : L 5 = true := up_at hu 5 (by kernel_rfl)
              have n19 : L 19 = false := not_yet hL fun h => shut_at hs 19 6 (by kernel_rfl) (h)
              simp only [y1, y2, y3, y4, y5, n19, hL, cond_true, cond_false] at hph
              have hph := hph.symm
              subst hph
              have k := HM.out.1
              refine opIn_run (v := .slice A1 l1 c1) (w' := Y) rfl rfl (fun c h => by cases h) (fun _ => trivial) ?_ ⟨by simp [Act.put, upd, y1, y2, y3, y4, y5, n19, hL], by simp [upd, y1, y2, y3, y4, y5, n19, hL]⟩
              simp only [y1, y2, y3, y4, y5, n19, hL, cond_true, cond_false]
              go_simp
            · skip
              have n19 : L 19 = false := not_yet hL fun h => shut_at hs 11 7 (by kernel_rfl) (shut_at hs 12 11 (by kernel_rfl) (shut_at hs 19 12 (by kernel_rfl) (h)))
              refine opIn_run (v := .slice (some ⟨bb, ob, none⟩) m3 cB) (w' := _) rfl rfl (fun c h => by cases h) (fun _ => trivial) ?_ ⟨by simp [Act.put, upd, n19, hL], by simpa [upd] using hph⟩
              simp only [n19, hL, cond_true, cond_false]
              go_simp
            · skip
              have n19 : L 19 = false := not_yet hL fun h => shut_at hs 9 8 (by kernel_rfl) (shut_at hs 10 9 (by kernel_rfl) (shut_at hs 11 10 (by kernel_rfl) (shut_at hs 12 11 (by kernel_rfl) (shut_at hs 19 12 (by kernel_rfl) (h)))))
              refine opIn_run (v := .int .i64 (i : Int)) (w' := _) rfl rfl (fun c h => by cases h) (fun _ => trivial) ?_ ⟨by simp [Act.put, upd, n19, hL], by simpa [upd] using hph⟩
              simp only [n19, hL, cond_true, cond_false]
              go_simp
            · skip
              have y8 : L 8 = true := up_at hu 8 (by kernel_rfl)
              have n19 : L 19 = false := not_yet hL fun h => shut_at hs 10 9 (by kernel_rfl) (shut_at hs 11 10 (by kernel_rfl) (shut_at hs 12 11 (by kernel_rfl) (shut_at hs 19 12 (by kernel_rfl) (h))))
              refine opIn_run (v := .int .i64 (k0 : Int)) (w' := _) rfl rfl (fun c h => by cases h) (fun _ => trivial) ?_ ⟨by simp [Act.put, upd, y8, n19, hL], by simpa [upd] using hph⟩
              simp only [y8, n19, hL, cond_true, cond_false]
              go_simp
            · skip
              have y8 : L 8 = true := shut_at hs 9 8 (by kernel_rfl) (up_at hu 9 (by kernel_rfl))
              have y9 : L 9 = true := up_at hu 9 (by kernel_rfl)
              have n19 : L 19 = false := not_yet hL fun h => shut_at hs 11 10 (by kernel_rfl) (shut_at hs 12 11 (by kernel_rfl) (shut_at hs 19 12 (by kernel_rfl) (h)))
              refine opIn_run (v := .int .i64 (k2 : Int)) (w' := _) rfl rfl (fun c h => by cases h) (fun _ => trivial) ?_ ⟨by simp [Act.put, upd, y8, y9, n19, hL], by simpa [upd] using hph⟩
              simp only [y8, y9, n19, hL, cond_true, cond_false]
              go_simp
            · skip
              have y7 : L 7 = true := up_at hu 7 (by kernel_rfl)
              have y8 : L 8 = true := shut_at hs 9 8 (by kernel_rfl) (shut_at hs 10 9 (by kernel_rfl) (up_at hu 10 (by kernel_rfl)))
              have y9 : L 9 = true := shut_at hs 10 9 (by kernel_rfl) (up_at hu 10 (by kernel_rfl))
              have y10 : L 10 = true := up_at hu 10 (by kernel_rfl)
              have n19 : L 19 = false := not_yet hL fun h => shut_at hs 12 11 (by kernel_rfl) (shut_at hs 19 12 (by kernel_rfl) (h))
              refine opIn_run (v := .pointer (some ⟨bb, ob + k2, none⟩)) (w' := _) rfl rfl (fun c h => by cases h) (fun _ => trivial) ?_ ⟨by simp [Act.put, upd, y7, y8, y9, y10, n19, hL], by simpa [upd] using hph⟩
              simp only [y7, y8, y9, y10, n19, hL, cond_true, cond_false]
              go_simp
            · skip
              have y7 : L 7 = true := shut_at hs 11 7 (by kernel_rfl) (up_at hu 11 (by kernel_rfl))
              have y8 : L 8 = true := shut_at hs 9 8 (by kernel_rfl) (shut_at hs 10 9 (by kernel_rfl) (shut_at hs 11 10 (by kernel_rfl) (up_at hu 11 (by kernel_rfl))))
              have y9 : L 9 = true := shut_at hs 10 9 (by kernel_rfl) (shut_at hs 11 10 (by kernel_rfl) (up_at hu 11 (by kernel_rfl)))
              have y10 : L 10 = true := shut_at hs 11 10 (by kernel_rfl) (up_at hu 11 (by kernel_rfl))
              have y11 : L 11 = true := up_at hu 11 (by kernel_rfl)
              have n19 : L 19 = false := not_yet hL fun h => shut_at hs 19 12 (by kernel_rfl) (h)
              simp only [y7, y8, y9, y10, y11, n19, hL, cond_true, cond_false] at hph
              have hph := hph.symm
              subst hph
              have k := HM.out.2.1
              refine opIn_run (v := .slice A2 l2 c2) (w' := Y) rfl rfl (fun c h => by cases h) (fun _ => trivial) ?_ ⟨by simp [Act.put, upd, y7, y8, y9, y10, y11, n19, hL], by simp [upd, y7, y8, y9, y10, y11, n19, hL]⟩
              simp only [y7, y8, y9, y10, y11, n19, hL, cond_true, cond_false]
              go_simp
            · skip
              have n19 : L 19 = false := not_yet hL fun h => shut_at hs 17 13 (by kernel_rfl) (shut_at hs 18 17 (by kernel_rfl) (shut_at hs 19 18 (by kernel_rfl) (h)))
              refine opIn_run (v := .slice (some ⟨bb, ob, none⟩) m3 cB) (w' := _) rfl rfl (fun c h => by cases h) (fun _ => trivial) ?_ ⟨by simp [Act.put, upd, n19, hL], by simpa [upd] using hph⟩
              simp only [n19, hL, cond_true, cond_false]
              go_simp
            · skip
              have n19 : L 19 = false := not_yet hL fun h => shut_at hs 15 14 (by kernel_rfl) (shut_at hs 16 15 (by kernel_rfl) (shut_at hs 17 16 (by kernel_rfl) (shut_at hs 18 17 (by kernel_rfl) (shut_at hs 19 18 (by kernel_rfl) (h)))))
              refine opIn_run (v := .int .i64 (i : Int)) (w' := _) rfl rfl (fun c h => by cases h) (fun _ => trivial) ?_ ⟨by simp [Act.put, upd, n19, hL], by simpa [upd] using hph⟩
              simp only [n19, hL, cond_true, cond_false]
              go_simp
            · skip
              have y14 : L 14 = true := up_at hu 14 (by kernel_rfl)
              have n19 : L 19 = false := not_yet hL fun h => shut_at hs 16 15 (by kernel_rfl) (shut_at hs 17 16 (by kernel_rfl) (shut_at hs 18 17 (by kernel_rfl) (shut_at hs 19 18 (by kernel_rfl) (h))))
              refine opIn_run (v := .int .i64 (k0 : Int)) (w' := _) rfl rfl (fun c h => by cases h) (fun _ => trivial) ?_ ⟨by simp [Act.put, upd, y14, n19, hL], by simpa [upd] using hph⟩
              simp only [y14, n19, hL, cond_true, cond_false]
              go_simp
            · skip
              have y14 : L 14 = true := shut_at hs 15 14 (by kernel_rfl) (up_at hu 15 (by kernel_rfl))
              have y15 : L 15 = true := up_at hu 15 (by kernel_rfl)
              have n19 : L 19 = false := not_yet hL fun h => shut_at hs 17 16 (by kernel_rfl) (shut_at hs 18 17 (by kernel_rfl) (shut_at hs 19 18 (by kernel_rfl) (h)))
              refine opIn_run (v := .int .i64 (k3 : Int)) (w' := _) rfl rfl (fun c h => by cases h) (fun _ => trivial) ?_ ⟨by simp [Act.put, upd, y14, y15, n19, hL], by simpa [upd] using hph⟩
              simp only [y14, y15, n19, hL, cond_true, cond_false]
              go_simp
            · skip
              have y13 : L 13 = true := up_at hu 13 (by kernel_rfl)
              have y14 : L 14 = true := shut_at hs 15 14 (by kernel_rfl) (shut_at hs 16 15 (by kernel_rfl) (up_at hu 16 (by kernel_rfl)))
              have y15 : L 15 = true := shut_at hs 16 15 (by kernel_rfl) (up_at hu 16 (by kernel_rfl))
              have y16 : L 16 = true := up_at hu 16 (by kernel_rfl)
              have n19 : L 19 = false := not_yet hL fun h => shut_at hs 18 17 (by kernel_rfl) (shut_at hs 19 18 (by kernel_rfl) (h))
              refine opIn_run (v := .pointer (some ⟨bb, ob + k3, none⟩)) (w' := _) rfl rfl (fun c h => by cases h) (fun _ => trivial) ?_ ⟨by simp [Act.put, upd, y13, y14, y15, y16, n19, hL], by simpa [upd] using hph⟩
              simp only [y13, y14, y15, y16, n19, hL, cond_true, cond_false]
              go_simp
            · skip
              have y13 : L 13 = true := shut_at hs 17 13 (by kernel_rfl) (up_at hu 17 (by kernel_rfl))
              have y14 : L 14 = true := shut_at hs 15 14 (by kernel_rfl) (shut_at hs 16 15 (by kernel_rfl) (shut_at hs 17 16 (by kernel_rfl) (up_at hu 17 (by kernel_rfl))))
              have y15 : L 15 = true := shut_at hs 16 15 (by kernel_rfl) (shut_at hs 17 16 (by kernel_rfl) (up_at hu 17 (by kernel_rfl)))
              have y16 : L 16 = true := shut_at hs 17 16 (by kernel_rfl) (up_at hu 17 (by kernel_rfl))
              have y17 : L 17 = true := up_at hu 17 (by kernel_rfl)
              have n19 : L 19 = false := not_yet hL fun h => shut_at hs 19 18 (by kernel_rfl) (h)
              simp only [y13, y14, y15, y16, y17, n19, hL, cond_true, cond_false] at hph
              have hph := hph.symm
              subst hph
              have k := HM.out.2.2
              refine opIn_run (v := .slice A3 l3 c3) (w' := Y) rfl rfl (fun c h => by cases h) (fun _ => trivial) ?_ ⟨by simp [Act.put, upd, y13, y14, y15, y16, y17, n19, hL], by simp [upd, y13, y14, y15, y16, y17, n19, hL]⟩
              simp only [y13, y14, y15, y16, y17, n19, hL, cond_true, cond_false]
              go_simp
            · skip
              have y0 : L 0 = true := up_at hu 0 (by kernel_rfl)
              have y1 : L 1 = true := shut_at hs 5 1 (by kernel_rfl) (shut_at hs 6 5 (by kernel_rfl) (up_at hu 6 (by kernel_rfl)))
              have y2 : L 2 = true := shut_at hs 3 2 (by kernel_rfl) (shut_at hs 4 3 (by kernel_rfl) (shut_at hs 5 4 (by kernel_rfl) (shut_at hs 6 5 (by kernel_rfl) (up_at hu 6 (by kernel_rfl)))))
              have y3 : L 3 = true := shut_at hs 4 3 (by kernel_rfl) (shut_at hs 5 4 (by kernel_rfl) (shut_at hs 6 5 (by kernel_rfl) (up_at hu 6 (by kernel_rfl))))
              have y4 : L 4 = true := shut_at hs 5 4 (by kernel_rfl) (shut_at hs 6 5 (by kernel_rfl) (up_at hu 6 (by kernel_rfl)))
              have y5 : L 5 = true := shut_at hs 6 5 (by kernel_rfl) (up_at hu 6 (by kernel_rfl))
              have y6 : L 6 = true := up_at hu 6 (by kernel_rfl)
              have y7 : L 7 = true := shut_at hs 11 7 (by kernel_rfl) (shut_at hs 12 11 (by kernel_rfl) (up_at hu 12 (by kernel_rfl)))
              have y8 : L 8 = true := shut_at hs 9 8 (by kernel_rfl) (shut_at hs 10 9 (by kernel_rfl) (shut_at hs 11 10 (by kernel_rfl) (shut_at hs 12 11 (by kernel_rfl) (up_at hu 12 (by kernel_rfl)))))
              have y9 : L 9 = true := shut_at hs 10 9 (by kernel_rfl) (shut_at hs 11 10 (by kernel_rfl) (shut_at hs 12 11 (by kernel_rfl) (up_at hu 12 (by kernel_rfl))))
              have y10 : L 10 = true := shut_at hs 11 10 (by kernel_rfl) (shut_at hs 12 11 (by kernel_rfl) (up_at hu 12 (by kernel_rfl)))
              have y11 : L 11 = true := shut_at hs 12 11 (by kernel_rfl) (up_at hu 12 (by kernel_rfl))
              have y12 : L 12 = true := up_at hu 12 (by kernel_rfl)
              have y13 : L 13 = true := shut_at hs 17 13 (by kernel_rfl) (shut_at hs 18 17 (by kernel_rfl) (up_at hu 18 (by kernel_rfl)))
              have y14 : L 14 = true := shut_at hs 15 14 (by kernel_rfl) (shut_at hs 16 15 (by kernel_rfl) (shut_at hs 17 16 (by kernel_rfl) (shut_at hs 18 17 (by kernel_rfl) (up_at hu 18 (by kernel_rfl)))))
              have y15 : L 15 = true := shut_at hs 16 15 (by kernel_rfl) (shut_at hs 17 16 (by kernel_rfl) (shut_at hs 18 17 (by kernel_rfl) (up_at hu 18 (by kernel_rfl))))
              have y16 : L 16 = true := shut_at hs 17 16 (by kernel_rfl) (shut_at hs 18 17 (by kernel_rfl) (up_at hu 18 (by kernel_rfl)))
              have y17 : L 17 = true := shut_at hs 18 17 (by kernel_rfl) (up_at hu 18 (by kernel_rfl))
              have y18 : L 18 = true := up_at hu 18 (by kernel_rfl)
              simp only [y0, y1, y2, y3, y4, y5, y6, y7, y8, y9, y10, y11, y12, y13, y14, y15, y16, y17, y18, hL, cond_true, cond_false] at hph
              have hph := hph.symm
              subst hph
              refine opIn_run (v := .slice (some ⟨Y.heap.size, 0, none⟩) 4 4) (w' := Y.alloc (.cells #[.slice Aq lq cq, .slice A1 l1 c1, .slice A2 l2 c2, .slice A3 l3 c3] 24)) rfl rfl (fun c h => by cases h) (fun _ => trivial) ?_ ⟨by simp [Act.put, upd, y0, y1, y2, y3, y4, y5, y6, y7, y8, y9, y10, y11, y12, y13, y14, y15, y16, y17, y18, hL], by simp [upd, y0, y1, y2, y3, y4, y5, y6, y7, y8, y9, y10, y11, y12, y13, y14, y15, y16, y17, y18, hL]⟩
              simp only [y0, y1, y2, y3, y4, y5, y6, y7, y8, y9, y10, y11, y12, y13, y14, y15, y16, y17, y18, hL, cond_true, cond_false]
              go_simp
            · skip
              have y0 : L 0 = true := up_at hu 0 (by kernel_rfl)
              have y1 : L 1 = true := up_at hu 1 (by kernel_rfl)
              have y2 : L 2 = true := up_at hu 2 (by kernel_rfl)
              have y3 : L 3 = true := up_at hu 3 (by kernel_rfl)
              have y4 : L 4 = true := up_at hu 4 (by kernel_rfl)
              have y5 : L 5 = true := up_at hu 5 (by kernel_rfl)
              have y6 : L 6 = true := up_at hu 6 (by kernel_rfl)
              have y7 : L 7 = true := up_at hu 7 (by kernel_rfl)
              have y8 : L 8 = true := up_at hu 8 (by kernel_rfl)
              have y9 : L 9 = true := up_at hu 9 (by kernel_rfl)
              have y10 : L 10 = true := up_at hu 10 (by kernel_rfl)
              have y11 : L 11 = true := up_at hu 11 (by kernel_rfl)
              have y12 : L 12 = true := up_at hu 12 (by kernel_rfl)
              have y13 : L 13 = true := up_at hu 13 (by kernel_rfl)
              have y14 : L 14 = true := up_at hu 14 (by kernel_rfl)
              have y15 : L 15 = true := up_at hu 15 (by kernel_rfl)
              have y16 : L 16 = true := up_at hu 16 (by kernel_rfl)
              have y17 : L 17 = true := up_at hu 17 (by kernel_rfl)
              have y18 : L 18 = true := up_at hu 18 (by kernel_rfl)
              have y19 : L 19 = true := up_at hu 19 (by kernel_rfl)
              refine opIn_run (v := .slice (some ⟨Y.heap.size, 0, none⟩) 4 4) (w' := _) rfl rfl (fun c h => by cases h) (fun _ => trivial) ?_ ⟨by simp [Act.put, upd, y0, y1, y2, y3, y4, y5, y6, y7, y8, y9, y10, y11, y12, y13, y14, y15, y16, y17, y18, y19, hL], by simpa [upd] using hph⟩
              simp only [y0, y1, y2, y3, y4, y5, y6, y7, y8, y9, y10, y11, y12, y13, y14, y15, y16, y17, y18, y19, hL, cond_true, cond_false]
              go_simp
          case fin =>
            intro L a' w' hall hI
            obtain ⟨rfl, hph⟩ := hI
            have l0 := hall 0 (by decide)
            have l1 := hall 1 (by decide)
            have l2 := hall 2 (by decide)
            have l3 := hall 3 (by decide)
            have l4 := hall 4 (by decide)
            have l5 := hall 5 (by decide)
            have l6 := hall 6 (by decide)
            have l7 := hall 7 (by decide)
            have l8 := hall 8 (by decide)
            have l9 := hall 9 (by decide)
            have l10 := hall 10 (by decide)
            have l11 := hall 11 (by decide)
            have l12 := hall 12 (by decide)
            have l13 := hall 13 (by decide)
            have l14 := hall 14 (by decide)
            have l15 := hall 15 (by decide)
            have l16 := hall 16 (by decide)
            have l17 := hall 17 (by decide)
            have l18 := hall 18 (by decide)
            have l19 := hall 19 (by decide)
            have l20 := hall 20 (by decide)
            simp only [l0, l1, l2, l3, l4, l5, l6, l7, l8, l9, l10, l11, l12, l13, l14, l15, l16, l17, l18, l19, l20, cond_true] at hph ⊢
            have hph := hph.symm
            subst hph
            clear l0 l1 l2 l3 l4 l5 l6 l7 l8 l9 l10 l11 l12 l13 l14 l15 l16 l17 l18 l19 l20 hall
            -- REST
            obtain ⟨rq0, rq1, rq2, rq3, hrq⟩ := rect_open (itG g q)
            have hwq := itG_le g q
            have hxq := itG_x g q
            have hqq : RowsI (Y.alloc (.cells #[.slice Aq lq cq, .slice A1 l1 c1, .slice A2 l2 c2, .slice A3 l3 c3] 24)) (some ⟨Y.heap.size, 0, none⟩) 4 4 (quars (itG g q) (liftP (itG g q) (itP g P q))) := by
              refine rowsI_four Y (l0 := quar (itG g q) (itP g P (q + 1)) 0) ?_ HS.out.2.1 HS.out.2.2.1 HS.out.2.2.2
              have h := HS.out.1
              rw [hni] at h
              rw [quar_low]
              exact h
            have hjs := join_step (itG g q) (itP g P q) (bdG K0 q) _ _ _ (by omega) (Nat.le_trans (Nat.mul_le_mul hwq.1 hwq.2) hwh) (by omega) ⟨bdG_pos hK0 q, HKN.out q hqn⟩ (itP_bdG hK0 HB.out q) hqq
            rw [hrq] at hjs
            have HJ := Lib.hid hjs
            have hYs : rb ≤ Y.heap.size := Nat.le_trans hrb4 HYB.out.size
            have hO5 : (Y.alloc (.cells #[.slice Aq lq cq, .slice A1 l1 c1, .slice A2 l2 c2, .slice A3 l3 c3] 24)).ownsRow rb 23 4 (.slice (some ⟨b, 0, none⟩) (n + 1) cap) (n + 1) (rectsL g (n + 1)) := (HO4.out.kept (grown_of_below HYB.out none) (Or.inr (by simp [Value.ownBlock]))).alloc _
            obtain ⟨f0, f1, f2, f3⟩ := rects_cells hO5 (i := q) (by omega) hrq
            have HB5 : Hid (Below w4.heap.size w4 (Y.alloc (.cells #[.slice Aq lq cq, .slice A1 l1 c1, .slice A2 l2 c2, .slice A3 l3 c3] 24))) := Lib.hid (HYB.out.alloc HYB.out.size _)
            have hq1 : (q : Int) < (n : Int) + 1 := by omega
            have hln : (itG g q).w * (itG g q).h = (lowest g P q).length := (flat_len _ _ _).symm
            rw [hln] at HJ
            clear p0 p1 p2 p3 b1' b2' b3' hO5 hqq hjs hrq HM HS HYE
            go_wp2_with fail
            refine HJ.out.mono ?_
            rintro e w6 ⟨A6, c6, rfl, hr6, b6⟩
            have S6 : Hid ((lowest g P q).length = (lowest g P (n - (i + 1))).length ∧ RowI w6 A6 (lowest g P q).length c6 (lowest g P (n - (i + 1))) ∧ Below w4.heap.size w4 w6) := Lib.hid (by
              rw [hni2]
              exact ⟨rfl, hr6, HB5.out.trans (b6.mono HB5.out.size)⟩)
            clear hr6 b6 HB5 HJ f0 f1 f2 f3 HYB hYs hq1 hln e5
            generalize (lowest g P q).length = Lq at *
            clear hni hni2
            go_wp2
            go_roundw
            case rel => exact ⟨i + 1, A6, Lq, c6, by omega, by go_num, rfl, S6⟩
            case measure => simp [intOf]; omega
        · obtain rfl : i = R := by omega
          obtain ⟨s1, s2, s3⟩ := S.out
          have e : n - i = n + 1 - res := by have := HRR.out; omega
          rw [e] at s1 s2
          subst s1
          have H2 := Lib.hid s2
          have H3 := Lib.hid (HB4.out.trans (s3.mono HB4.out.size))
          clear S s2 s3 e
          go_wp2
          go_ret
          exact ⟨Aq, cq, rfl, H2.out, H3.out⟩
end Go.Proofs.Ytgadebfelomhpaa
