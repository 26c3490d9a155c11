/- DwtFlat, walked. -/
import Derived.Test.YtgadebfelomhpaaDwG
import Derived.Outline
set_option linter.unusedVariables false
set_option linter.unusedSimpArgs false
namespace Go.Proofs.Ytgadebfelomhpaa
open Go.RowKit

theorem lowF_const (n : Nat) (c : Int) (r : Nat → Int) (hn : 2 ≤ n) (hr : ∀ i, i < n → r i = c) : ∀ i, i < n → lowF 0 n r i = if i % 2 = 0 then c else 0 := by
  have h1 : ∀ i, i < n → passF hP 1 n r i = if i % 2 = 0 then c else 0 := fun i hi => by
    unfold passF
    by_cases hp : i % 2 = 1
    · rw [if_pos hp, if_neg (by omega), hr i hi, hr _ (lo_par hn hp hi).1, hr _ (hi_par hn hp hi).1]
      unfold hP; omega
    · rw [if_neg hp, if_pos (by omega), hr i hi]
  intro i hi
  show passF hU 0 n (passF hP (1 - 0) n r) i = _
  unfold passF
  by_cases hp : i % 2 = 0
  · rw [if_pos hp, if_pos hp]
    have l1 := lo_par hn hp hi
    have l2 := hi_par hn hp hi
    have e1 := h1 i hi
    have e2 := h1 _ l1.1
    have e3 := h1 _ l2.1
    rw [if_pos hp] at e1
    rw [if_neg l1.2] at e2
    rw [if_neg l2.2] at e3
    unfold passF at e1 e2 e3
    show hU (if i % 2 = 1 then _ else _) ((if loI i % 2 = 1 then _ else _) + (if hiI n i % 2 = 1 then _ else _)) = c
    rw [e1, e2, e3]
    unfold hU; omega
  · rw [if_neg hp, if_neg hp]
    have e1 := h1 i hi
    rw [if_neg hp] at e1
    unfold passF at e1
    exact e1
theorem sp_const (n : Nat) (c : Int) (r : Nat → Int) (hr : ∀ i, i < n → r i = c) : ∀ i, i < n → (SP 0 n (ranged r n)).getD i 0 = if i < lowN 0 n then c else 0 := by
  intro i hi
  unfold SP
  by_cases hn : n ≤ 1
  · rw [if_pos hn, if_neg (by omega), ranged_getD _ hi, hr i hi, if_pos (by unfold lowN; omega)]
  · rw [if_neg hn]
    have hl := lowF_const n c (fun i => (ranged r n).getD i 0) (by omega) (fun i hi => by rw [ranged_getD _ hi, hr i hi])
    unfold lowN
    by_cases h1 : i < (n + 1 - 0) / 2
    · rw [if_pos h1, split_low h1, hl _ (by omega), if_pos (by omega)]
    · obtain ⟨j, rfl⟩ : ∃ j, i = (n + 1 - 0) / 2 + j := ⟨i - (n + 1 - 0) / 2, by omega⟩
      rw [if_neg h1, split_high (by omega), hl _ (by omega), if_neg (by omega)]
/-- A plane that is the same everywhere, lifted from an even place on. -/
theorem lift_const {g : Geo} {P : Nat → Nat → Int} {c : Int} (hx : g.x = 0) (hy : g.y = 0) (hP : ∀ x y, x < g.w → y < g.h → P x y = c) : ∀ x y, x < g.w → y < g.h → liftP g P x y = if x < g.half.w ∧ y < g.half.h then c else 0 := by
  have ew : g.half.w = lowN 0 g.w := by unfold Geo.half; rw [hx]
  have eh : g.half.h = lowN 0 g.h := by unfold Geo.half; rw [hy]
  have e1 : g.x % 2 = 0 := by rw [hx]
  have e2 : g.y % 2 = 0 := by rw [hy]
  have h1 : ∀ x y, x < g.w → y < g.h → colsF (g.y % 2) g.h P x y = if y < g.half.h then c else 0 := fun x y hxw hyh => by
    unfold colsF
    rw [e2, sp_const g.h c _ (fun y hy => hP x y hxw hy) y hyh, eh]
  intro x y hxw hyh
  unfold liftP rowsF
  rw [e1]
  by_cases hy2 : y < g.half.h
  · rw [sp_const g.w c _ (fun x hx => by rw [h1 x y hx hyh, if_pos hy2]) x hxw, ew]
    by_cases hx2 : x < lowN 0 g.w
    · rw [if_pos hx2, if_pos ⟨hx2, hy2⟩]
    · rw [if_neg hx2, if_neg (fun h => hx2 h.1)]
  · rw [sp_const g.w 0 _ (fun x hx => by rw [h1 x y hx hyh, if_neg hy2]) x hxw, ite_self, if_neg (fun h => hy2 h.2)]
theorem it_const {g : Geo} {P : Nat → Nat → Int} {c : Int} (hx : g.x = 0) (hy : g.y = 0) (hP : ∀ x y, x < g.w → y < g.h → P x y = c) (k : Nat) : (itG g k).x = 0 ∧ (itG g k).y = 0 ∧ ∀ x y, x < (itG g k).w → y < (itG g k).h → itP g P k x y = c := by
  induction k with
  | zero => exact ⟨hx, hy, hP⟩
  | succ k ih =>
    obtain ⟨h1, h2, h3⟩ := ih
    refine ⟨?_, ?_, fun x y hx hy => ?_⟩
    · show ((itG g k).x + 1) / 2 = 0; omega
    · show ((itG g k).y + 1) / 2 = 0; omega
    · have hw : x < (itG g k).half.w := hx
      have hh : y < (itG g k).half.h := hy
      show liftP (itG g k) (itP g P k) x y = c
      rw [lift_const h1 h2 h3 x y (Nat.lt_of_lt_of_le hw (half_w _)) (Nat.lt_of_lt_of_le hh (half_h _)), if_pos ⟨hw, hh⟩]
theorem quar_const {g : Geo} {P : Nat → Nat → Int} {c : Int} (hx : g.x = 0) (hy : g.y = 0) (hP : ∀ x y, x < g.w → y < g.h → P x y = c) {k : Nat} (h1 : 1 ≤ k) (h4 : k < 4) : ∀ v ∈ quar g (liftP g P) k, v = 0 := by
  intro v hv
  unfold quar flat ranged at hv
  obtain ⟨i, hi, rfl⟩ := List.mem_map.1 hv
  have hi := List.mem_range.1 hi
  have hw0 : 0 < qW g k := by rcases Nat.eq_zero_or_pos (qW g k) with e | e; · rw [e] at hi; simp at hi
                              · exact e
  have hxm := Nat.mod_lt i hw0
  have hym := Nat.div_lt_of_lt_mul hi
  have a1 := qX_le g k
  have a2 := qY_le g k
  unfold subF
  rw [lift_const hx hy hP _ _ (by omega) (by omega), if_neg]
  rintro ⟨b1, b2⟩
  generalize i / qW g k = t at *
  rcases (by omega : k = 1 ∨ k = 2 ∨ k = 3) with rfl | rfl | rfl
  · have : qX g 1 = g.half.w := rfl
    omega
  · have : qY g 2 = g.half.h := rfl
    omega
  · have : qX g 3 = g.half.w := rfl
    omega
theorem low_const {g : Geo} {P : Nat → Nat → Int} {c : Int} (hx : g.x = 0) (hy : g.y = 0) (hP : ∀ x y, x < g.w → y < g.h → P x y = c) (n : Nat) : ∀ v ∈ lowest g P n, v = c := by
  intro v hv
  unfold lowest flat ranged at hv
  obtain ⟨i, hi, rfl⟩ := List.mem_map.1 hv
  have hi := List.mem_range.1 hi
  have hw0 : 0 < (itG g n).w := by rcases Nat.eq_zero_or_pos (itG g n).w with e | e; · rw [e] at hi; simp at hi
                                   · exact e
  exact (it_const hx hy hP n).2.2 _ _ (Nat.mod_lt _ hw0) (Nat.div_lt_of_lt_mul hi)
theorem bands_const {g : Geo} {P : Nat → Nat → Int} {c : Int} (hx : g.x = 0) (hy : g.y = 0) (hP : ∀ x y, x < g.w → y < g.h → P x y = c) (n k : Nat) : ∀ i l, 1 ≤ i → (bandsK g P n k)[i]? = some l → ∀ v ∈ l, v = 0 := by
  induction k with
  | zero =>
    intro i l hi hl
    rw [List.getElem?_eq_none (by simp [bandsK]; omega)] at hl
    cases hl
  | succ k ih =>
    intro i l hi hl
    unfold bandsK at hl
    rcases Nat.lt_or_ge i (bandsK g P n k).length with h | h
    · rw [List.getElem?_append_left h] at hl
      exact ih i l hi hl
    · rw [List.getElem?_append_right h] at hl
      have hm := List.mem_of_getElem? hl
      have q := it_const hx hy hP (n - 1 - k)
      simp [highs] at hm
      rcases hm with rfl | rfl | rfl
      · exact quar_const q.1 q.2.1 q.2.2 (by omega) (by omega)
      · exact quar_const q.1 q.2.1 q.2.2 (by omega) (by omega)
      · exact quar_const q.1 q.2.1 q.2.2 (by omega) (by omega)
theorem itG_pos {g : Geo} (hx : g.x = 0) (hy : g.y = 0) (hw : 1 ≤ g.w) (hh : 1 ≤ g.h) (k : Nat) : (itG g k).x = 0 ∧ (itG g k).y = 0 ∧ 1 ≤ (itG g k).w ∧ 1 ≤ (itG g k).h := by
  induction k with
  | zero => exact ⟨hx, hy, hw, hh⟩
  | succ k ih =>
    obtain ⟨h1, h2, h3, h4⟩ := ih
    refine ⟨?_, ?_, ?_, ?_⟩
    · show ((itG g k).x + 1) / 2 = 0; omega
    · show ((itG g k).y + 1) / 2 = 0; omega
    · show 1 ≤ lowN ((itG g k).x % 2) (itG g k).w; unfold lowN; omega
    · show 1 ≤ lowN ((itG g k).y % 2) (itG g k).h; unfold lowN; omega

theorem quar_all (g : Geo) (Q : Nat → Nat → Int) (k : Nat) : (quar g Q k).length ≤ g.w * g.h := by
  rw [quar_len]
  have h1 := qX_le g k
  have h2 := qY_le g k
  exact Nat.mul_le_mul (by omega) (by omega)
theorem low_all (g : Geo) (P : Nat → Nat → Int) (n : Nat) : ∀ l ∈ bandsL g P n, l.length ≤ g.w * g.h := by
  have h : ∀ k, ∀ l ∈ bandsK g P n k, l.length ≤ g.w * g.h := by
    intro k
    induction k with
    | zero =>
      intro l hl
      simp [bandsK] at hl
      subst hl
      unfold lowest
      rw [flat_len]
      exact Nat.mul_le_mul (itG_le g n).1 (itG_le g n).2
    | succ k ih =>
      intro l hl
      unfold bandsK at hl
      rw [List.mem_append] at hl
      rcases hl with hl | hl
      · exact ih l hl
      · have b := Nat.mul_le_mul (itG_le g (n - 1 - k)).1 (itG_le g (n - 1 - k)).2
        simp [highs] at hl
        rcases hl with rfl | rfl | rfl <;> exact Nat.le_trans (quar_all _ _ _) b
  exact h n
set_option maxHeartbeats 8000000 in
set_option maxRecDepth 100000 in
set_option pp.deepTerms true in
set_option pp.maxSteps 10000000 in
theorem walk_dwtFlat (a0 a1 a2 a3 : Int) (w : World) :
    Calls Try.prog 6 #[.int .i64 a0, .int .i64 a1, .int .i64 a2, .int .i64 a3] w fun e w' => e = .returned (.bool true) ∧ Below w.heap.size w w' := by
  go_enter Try.func6, Try.ntmps6
  go_wp2_with fail
  refine (known10 _).mono ?_
  rintro e wk ⟨rfl, bk⟩
  have HB1 := Lib.hid bk
  clear bk
  go_wp2_with fail
  refine (within10 a0 20 wk (by omega) (by omega)).mono ?_
  rintro e w' ⟨rfl, rfl⟩
  obtain ⟨gw, hgw⟩ : ∃ n : Nat, 1 + a0 % 20 = (n : Int) := ⟨(1 + a0 % 20).toNat, by omega⟩
  have hw1 : 1 ≤ gw ∧ gw ≤ 20 := by omega
  obtain ⟨q0, hq0⟩ : ∃ q, a0 % 20 = q := ⟨_, rfl⟩
  rw [hq0] at hgw ⊢
  have hq0b : 0 ≤ q0 ∧ q0 < 20 := by omega
  clear hq0
  go_wp2_with fail
  refine (within10 a1 20 wk (by omega) (by omega)).mono ?_
  rintro e w' ⟨rfl, rfl⟩
  obtain ⟨gh, hgh⟩ : ∃ n : Nat, 1 + a1 % 20 = (n : Int) := ⟨(1 + a1 % 20).toNat, by omega⟩
  have hh1 : 1 ≤ gh ∧ gh ≤ 20 := by omega
  obtain ⟨q1, hq1⟩ : ∃ q, a1 % 20 = q := ⟨_, rfl⟩
  rw [hq1] at hgh ⊢
  have hq1b : 0 ≤ q1 ∧ q1 < 20 := by omega
  clear hq1
  go_wp2_with fail
  refine (within10 a2 6 wk (by omega) (by omega)).mono ?_
  rintro e w' ⟨rfl, rfl⟩
  obtain ⟨n, hn⟩ : ∃ n : Nat, a2 % 6 = (n : Int) := ⟨(a2 % 6).toNat, by omega⟩
  have hn5 : n ≤ 5 := by omega
  rw [hn]
  clear hn
  go_wp2_with fail
  refine (within10 a3 65536 wk (by omega) (by omega)).mono ?_
  rintro e w' ⟨rfl, rfl⟩
  have hc : 0 ≤ a3 % 65536 ∧ a3 % 65536 < 65536 := by omega
  generalize a3 % 65536 = c at *
  obtain ⟨N, hN⟩ : ∃ N, gw * gh = N := ⟨_, rfl⟩
  have hN400 : N ≤ 400 := by rw [← hN]; exact Nat.mul_le_mul hw1.2 hh1.2
  have hmk := fun u => hmkn u N (by omega)
  have HN := Lib.hid hN
  have z0 : wrap64 ((gw : Int) * (gh : Int)) = (N : Int) := by rw [← hN]; exact wr_mul _ _ (by omega) (by omega)
  clear hN
  go_wp2
  clear z0 hmk hgw hgh
  obtain ⟨u, hu⟩ : ∃ u, wk.heap.size = u := ⟨_, rfl⟩
  have hO := made_ranged wk N (by omega)
  have hBU : Below w.heap.size w (wk.alloc (Obj.cells (madeCells #[Value.int IntKind.i64 0] N) 3)) := HB1.out.alloc HB1.out.size _
  have huw : w.heap.size ≤ u := by rw [← hu]; exact HB1.out.size
  rw [hu] at hO ⊢
  have HO := Lib.hid hO
  have HBU := Lib.hid hBU
  clear hu hO hBU HB1
  generalize (wk.alloc (Obj.cells (madeCells #[Value.int IntKind.i64 0] N) 3)) = U at *
  go_loopw [10] (fun iv wr => ∃ i : Nat, i ≤ N ∧ iv = .int .i64 (i : Int) ∧ Hid (wr.ownsRow u 3 1 (.slice (some ⟨u, 0, none⟩) N N) N ((ranged (fun m => if m < i then c else 0) N).map (Value.int .i64)) ∧ Below w.heap.size w wr)) (fun iv _ => N - (intOf iv).toNat)
  case atStart => exact ⟨0, by omega, rfl, Lib.hid ⟨own_map HO.out (fun i _ => by rw [if_neg (by omega)]), HBU.out⟩⟩
  case round =>
    obtain ⟨i, hi, rfl, S⟩ := hrel
    clear HO HBU
    by_cases ci : i < N
    · have ci' : (i : Int) < (N : Int) := by omega
      obtain ⟨v0, f2⟩ : ∃ v0, wr.cell? ⟨u, i, none⟩ = some (.int .i64 v0) := ⟨_, own_cell S.out.1 ci⟩
      have f3 := S.out.1.frozenAt i
      have hst := own_set (s := fun m => if m < i + 1 then c else 0) S.out.1 c ci (fun m _ => by
        by_cases e : m = i
        · rw [if_pos e, if_pos (by omega)]
        · rw [if_neg e]
          by_cases e2 : m < i
          · rw [if_pos e2, if_pos (by omega)]
          · rw [if_neg e2, if_neg (by omega)])
      have S2 : Hid ((wr.setCell ⟨u, i, none⟩ (.int .i64 c)).ownsRow u 3 1 (.slice (some ⟨u, 0, none⟩) N N) N ((ranged (fun m => if m < i + 1 then c else 0) N).map (Value.int .i64)) ∧ Below w.heap.size w (wr.setCell ⟨u, i, none⟩ (.int .i64 c))) := Lib.hid ⟨hst.1, S.out.2.setCell (p := ⟨u, i, none⟩) huw _⟩
      clear hst S
      go_wp2
      go_roundw
      case rel => exact ⟨i + 1, by omega, by go_num, S2⟩
      case measure => simp [intOf]; omega
    · obtain rfl : N = i := by omega
      obtain ⟨g, hg⟩ : ∃ g : Geo, (⟨0, 0, gw, gh⟩ : Geo) = g := ⟨_, rfl⟩
      have hgf : g.x = 0 ∧ g.y = 0 ∧ g.w = gw ∧ g.h = gh := by rw [← hg]; exact ⟨rfl, rfl, rfl, rfl⟩
      have hR : rectV g = .agg #[.int .i64 0, .int .i64 0, .int .i64 (gw : Int), .int .i64 (gh : Int)] := by
        rw [← hg]; unfold rectV; simp
      have hNg : g.w * g.h = N := by rw [hgf.2.2.1, hgf.2.2.2]; exact HN.out
      have hrow : RowI wr (some ⟨u, 0, none⟩) (g.w * g.h) N (flat g.w g.h (fun _ _ => c)) := by
        rw [hNg]
        have h : RowO u wr (some ⟨u, 0, none⟩) N N (ranged (fun m => if m < N then c else 0) N) := S.out.1
        have h2 := h.row
        have e : flat g.w g.h (fun _ _ => c) = ranged (fun m => if m < N then c else 0) N := by
          unfold flat
          rw [hNg]
          exact ranged_congr fun i hi => by rw [if_pos hi]
        rw [e]; exact h2
      have hd := dsplit_any g (fun _ _ => c) n _ _ wr (by omega) (by omega) (by omega) hn5 (fun x y _ _ => by show -600000 ≤ c ∧ c ≤ 600000; omega) hrow
      obtain ⟨m3, hm3⟩ : ∃ m3, 3 * n + 1 = m3 := ⟨_, rfl⟩
      rw [hR, hNg, hm3] at hd
      have HD := Lib.hid hd
      have HBR := Lib.hid S.out.2
      have HM3 := Lib.hid hm3
      have hm16 : m3 ≤ 16 := by omega
      have HLC := Lib.hid (low_const (c := c) hgf.1 hgf.2.1 (fun x y _ _ => rfl) n : ∀ v ∈ lowest g (fun _ _ => c) n, v = c)
      have HBC := Lib.hid (bands_const (c := c) hgf.1 hgf.2.1 (fun x y _ _ => rfl) n n : ∀ i l, 1 ≤ i → (bandsL g (fun _ _ => c) n)[i]? = some l → ∀ v ∈ l, v = 0)
      have hpos := itG_pos hgf.1 hgf.2.1 (by omega) (by omega) n
      have hL1 : 1 ≤ (lowest g (fun _ _ => c) n).length := by
        have : (lowest g (fun _ _ => c) n).length = (itG g n).w * (itG g n).h := flat_len _ _ _
        rw [this]; exact Nat.mul_pos hpos.2.2.1 hpos.2.2.2
      have hlen400 := low_all g (fun _ _ => c) n
      rw [hNg] at hlen400
      have HLL := Lib.hid hlen400
      clear S hrow hd hR hNg hgf hg hm3 hpos hlen400
      go_wp2_with fail
      refine HD.out.mono ?_
      rintro e w5 ⟨A5, c5, rfl, hb5, b5⟩
      have HS5 := Lib.hid hb5
      have HB5 := Lib.hid (HBR.out.trans (b5.mono HBR.out.size))
      have hlen := hb5.1
      obtain ⟨L0, hL0⟩ : ∃ L, (lowest g (fun _ _ => c) n).length = L := ⟨_, rfl⟩
      rw [hL0] at hL1
      have HL0 := Lib.hid hL0
      clear hb5 b5 HD HBR hL0
      go_wp2
      go_loopw [12] (fun iv wr => ∃ i : Nat, i ≤ m3 ∧ iv = .int .i64 (i : Int) ∧ Hid (RowsI wr A5 m3 c5 (bandsL g (fun _ _ => c) n) ∧ Below w.heap.size w wr)) (fun iv _ => m3 - (intOf iv).toNat)
      case atStart => exact ⟨0, by omega, rfl, Lib.hid ⟨HS5.out, HB5.out⟩⟩
      case round =>
        obtain ⟨i, hi, rfl, S⟩ := hrel
        clear HS5 HB5
        by_cases ci : i < m3
        · have ci' : (i : Int) < (m3 : Int) := by omega
          obtain ⟨l, hl⟩ : ∃ l, (bandsL g (fun _ _ => c) n)[i]? = some l := ⟨_, List.getElem?_eq_getElem (by omega)⟩
          obtain ⟨b, o, A', c', hA, hbb, hcc, hr⟩ := S.out.1.at hl
          have hll := HLL.out l (List.mem_of_getElem? hl)
          have hval : ∀ v ∈ l, v = if i = 0 then c else 0 := by
            by_cases e : i = 0
            · subst e
              rw [bandsL_zero] at hl
              injection hl with hl
              subst hl
              rw [if_pos rfl]
              exact HLC.out
            · rw [if_neg e]; exact HBC.out i l (by omega) hl
          obtain ⟨L, hL⟩ : ∃ L, l.length = L := ⟨_, rfl⟩
          rw [hL] at hcc hr hll
          subst hA
          have HV := Lib.hid hval
          have HRl := Lib.hid hr
          have HBl := Lib.hid S.out.2
          clear hl hval hr
          obtain ⟨wo, rfl⟩ : ∃ wo : World, wo = wr := ⟨_, rfl⟩
          go_wp2
          go_loopw [13] (fun kv wr => ∃ k : Nat, k ≤ L ∧ kv = .int .i64 (k : Int) ∧ Hid (wo = wr)) (fun kv _ => L - (intOf kv).toNat)
          case atStart => exact ⟨0, by omega, rfl, by first | exact Lib.hid rfl | trivial⟩
          case round =>
            obtain ⟨k, hk, rfl, hwr⟩ := hrel
            obtain rfl := hwr.out
            by_cases ck : k < L
            · have ck' : (k : Int) < (L : Int) := by omega
              obtain ⟨b2, o2, hA2, hb2, m0⟩ := HRl.out.cell ck
              subst hA2
              have hv := HV.out (l.getD k 0) (by
                rw [List.getD_eq_getElem?_getD, List.getElem?_eq_getElem (by omega)]
                exact List.getElem_mem _)
              rw [hv] at m0
              by_cases e : i = 0
              · subst e
                rw [if_pos rfl] at m0
                change wo.cell? ⟨b, o, none⟩ = _ at hcc
                have e1 : (c != c) = false := bne_self_eq_false _
                clear hv
                go_wp2
                go_roundw
                case rel => exact ⟨k + 1, by omega, by go_num, by first | exact Lib.hid rfl | trivial⟩
                case measure => simp [intOf]; omega
              · rw [if_neg e] at m0
                have e1 : ((i : Int) == 0) = false := by simp; omega
                have e2 : (0 : Int) < (i : Int) := by omega
                have e3 : ((0 : Int) != 0) = false := by decide
                clear hv
                go_wp2
                go_roundw
                case rel => exact ⟨k + 1, by omega, by go_num, by first | exact Lib.hid rfl | trivial⟩
                case measure => simp [intOf]; omega
            · obtain rfl : L = k := by omega
              go_wp2
              go_roundw
              case rel => exact ⟨i + 1, by omega, by go_num, S⟩
              case measure => simp [intOf]; omega
        · obtain rfl : m3 = i := by omega
          obtain ⟨b, o, A', c', hA, hbb, hcc, hr⟩ := S.out.1.at (bandsL_zero g (fun _ _ => c) n)
          rw [HL0.out] at hcc
          subst hA
          change wr.cell? ⟨b, o, none⟩ = _ at hcc
          have HE := Lib.hid S.out.2
          have e1 : 3 * (n : Int) + 1 = (m3 : Int) := by have := HM3.out; omega
          have e2 : ((m3 : Int) == (m3 : Int)) = true := beq_self_eq_true _
          have e3 : (0 : Int) < (L0 : Int) := by omega
          have e7 : 0 < L0 := by omega
          have e4 : (0 : Int) < (m3 : Int) := by have := HM3.out; omega
          have e5 : 0 < m3 := by have := HM3.out; omega
          have e6 : ¬ (m3 : Int) < (m3 : Int) := by omega
          clear S hr
          go_wp2
          go_ret
          exact ⟨rfl, HE.out⟩
end Go.Proofs.Ytgadebfelomhpaa
