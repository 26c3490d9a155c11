/- join of package dwt, by its contract. -/
import Derived.Test.YtgadebfelomhpaaDwJ
set_option linter.unusedVariables false
set_option linter.unusedSimpArgs false
namespace Go.Proofs.Ytgadebfelomhpaa
open Go.RowKit
attribute [local go_sem ↓] cpySem_eq slcSem_eq

def quars (g : Geo) (Q : Nat → Nat → Int) : List (List Int) := [quar g Q 0, quar g Q 1, quar g Q 2, quar g Q 3]
theorem quars_at (g : Geo) (Q : Nat → Nat → Int) {k : Nat} (hk : k < 4) : (quars g Q)[k]? = some (quar g Q k) := by
  rcases (by omega : k = 0 ∨ k = 1 ∨ k = 2 ∨ k = 3) with rfl | rfl | rfl | rfl <;> rfl

set_option maxHeartbeats 8000000 in
set_option maxRecDepth 100000 in
set_option pp.deepTerms true in
set_option pp.maxSteps 10000000 in
theorem join_step (g : Geo) (P : Nat → Nat → Int) (K : Int) (AQ : Option Addr) (cQ : Nat) (w : World) (hw : g.w ≤ 300 ∧ g.h ≤ 300) (hwh : g.w * g.h ≤ 1000) (hx : g.x ≤ 90000 ∧ g.y ≤ 90000) (hK : 0 ≤ K ∧ K ≤ 200000000) (hbd : Bd K g.w g.h P) (hq : RowsI w AQ 4 cQ (quars g (liftP g P))) :
    Calls Try.prog 31 #[rectV g, .slice AQ 4 cQ] w fun e w' => ∃ A' c', e = .returned (.tuple #[.slice A' (g.w * g.h) c', .bool true]) ∧ RowI w' A' (g.w * g.h) c' (flat g.w g.h P) ∧ Below w.heap.size w w' := by
  have HS := Lib.hid (fun W => sides_any g W (by omega) (by omega))
  have HQT := Lib.hid (fun k W hk => quarter_any g k W (by omega) hx hk)
  have HRR := Lib.hid (fun lo c A W h1 h2 h3 => rows_any 42 enters42 (JN (g.x % 2) g.w) w.heap.size lo c A g (liftP g P) (4 * K + 3) W ⟨by omega, by omega⟩ hw (lift_bd hK.1 hbd) h1 h2 h3 (fun A cc w1 l a b d => jn1_any a b (by omega) d))
  have HCC := Lib.hid (fun lo c A W h1 h2 h3 => cols_any 44 enters44 (JN (g.y % 2) g.h) w.heap.size lo c A g (colsF (g.y % 2) g.h P) (2 * K + 1) W ⟨by omega, by omega⟩ hw (cols_bd (by omega) hK.1 hbd) h1 h2 h3 (fun A cc w1 l a b d => jn2_any a b (by omega) d))
  have HQS : Hid (RowsS (fun b => b < w.heap.size) w AQ 4 cQ (quars g (liftP g P))) := Lib.hid hq
  obtain ⟨a0, a1, a2, a3, hR⟩ := rect_open g
  rw [hR] at HS HQT ⊢
  have HRE := Lib.hid hR
  have hmk := fun u => hmkn u (g.w * g.h) hwh
  have q0 : wrap64 ((g.w : Int) * (g.h : Int)) = ((g.w * g.h : Nat) : Int) := wr_mul _ _ (by omega) (by omega)
  obtain ⟨N, hN⟩ : ∃ N, g.w * g.h = N := ⟨_, rfl⟩
  rw [hN] at hmk q0
  have HN := Lib.hid hN
  have HX0 := Lib.hid (RA.new w a0 a1 a2 a3)
  have HB0 : Hid (Below w.heap.size w (w.alloc (Obj.cells #[.int .i64 a0, .int .i64 a1, .int .i64 a2, .int .i64 a3] 23))) := Lib.hid ((Below.refl _ w).alloc (Nat.le_refl _) _)
  rw [hN] at hwh
  clear hbd hq hR
  rw [hN]
  clear hN
  go_enter Try.func31, Try.ntmps31
  go_wp2_with fail
  refine (HS.out _).mono ?_
  rintro e w1 ⟨rfl, b1⟩
  have HX1 := Lib.hid (HX0.out.keep b1 HX0.out.lt)
  have HB1 := Lib.hid (HB0.out.trans (b1.mono HB0.out.size))
  clear HX0 HB0 b1 HS
  go_wp2
  clear q0 hmk
  obtain ⟨V, hV⟩ : ∃ V, (w1.alloc (Obj.cells (madeCells #[Value.int IntKind.i64 0] N) 3)) = V := ⟨_, rfl⟩
  obtain ⟨u, hu⟩ : ∃ u, w1.heap.size = u := ⟨_, rfl⟩
  have hown : V.ownsRow u 3 1 (.slice (some ⟨u, 0, none⟩) N N) N ((ranged (fun _ => 0) N).map (Value.int .i64)) := by
    rw [← hV, ← hu]; exact made_ranged w1 N (by omega)
  have huw : w.heap.size < u := by rw [← hu]; exact HX1.out.lt
  have HXV : Hid (RA V w.heap.size a0 a1 a2 a3) := Lib.hid (by rw [← hV]; exact (Below.heap_alloc w1 _ _ HX1.out.lt).trans HX1.out)
  have HBV : Hid (Below w.heap.size w V) := Lib.hid (by rw [← hV]; exact HB1.out.alloc HB1.out.size _)
  have HO0 := Lib.hid hown
  rw [hV, hu]
  clear hV hu hown HX1 HB1
  obtain ⟨Q, hQe⟩ : ∃ Q, liftP g P = Q := ⟨_, rfl⟩
  rw [hQe] at HQS
  have HQE := Lib.hid hQe
  clear hQe
  go_loopw [26] (fun kv wr => ∃ (k : Nat) (r : Nat → Int), k ≤ 4 ∧ kv = .int .i64 (k : Int) ∧ Hid (wr.ownsRow u 3 1 (.slice (some ⟨u, 0, none⟩) N N) N ((ranged r N).map (Value.int .i64)) ∧ Cov g Q r k 0 ∧ V.grownBy wr (some u))) (fun kv _ => 4 - (intOf kv).toNat)
  case atStart => exact ⟨0, fun _ => 0, by omega, rfl, Lib.hid ⟨HO0.out, fun X Y _ _ hc => by
    rcases hc with ⟨j, hj, _⟩ | ⟨hc, hlt⟩
    · omega
    · have := hc.2.2.1; omega, World.grownBy.refl _ _⟩⟩
  case round =>
    obtain ⟨k, r, hk, rfl, S⟩ := hrel
    clear HO0
    have hVb : ∀ b, b < w.heap.size → wr.heap[b]? = w.heap[b]? := fun b hb => (S.out.2.2.block b (by have := HBV.out.size; omega) (fun e => by injection e with e; omega)).trans (HBV.out.block b hb)
    have hQr := HQS.out.keep hVb
    by_cases ck : k < 4
    · obtain ⟨b, o, A', c', hA, hb, hc, hr⟩ := hQr.2.2.2.2 k _ (quars_at g Q ck)
      rw [quar_len] at hc hr
      have hXr : RA wr w.heap.size a0 a1 a2 a3 := (S.out.2.2.block _ HXV.out.lt (fun e => by injection e with e; omega)).trans HXV.out
      obtain ⟨f0, f1, f2, f3, _⟩ := hXr.cells
      subst hA
      have ck' : (k : Int) < 4 := by omega
      obtain ⟨m1, e1⟩ : ∃ m1, qY g k * g.w + qX g k = m1 := ⟨_, rfl⟩
      have hqx := qX_le g k
      have hqy := qY_le g k
      have hqt := HQT.out k wr ck
      rw [e1] at hqt
      have E1 := Lib.hid e1
      obtain ⟨M, hM⟩ : ∃ M, qW g k * qH g k = M := ⟨_, rfl⟩
      rw [hM] at hc hr
      have hm1 : m1 ≤ 100000 := by
        have := Nat.mul_le_mul (show qY g k ≤ 300 by omega) hw.1
        omega
      have HRW := Lib.hid hr
      have HWb := Lib.hid hVb
      clear e1 hr hVb hQr hXr
      go_wp2_with fail
      refine hqt.mono ?_
      clear hqt
      rintro e wq ⟨rfl, bq⟩
      have S1 : Hid (wq.ownsRow u 3 1 (.slice (some ⟨u, 0, none⟩) N N) N ((ranged r N).map (Value.int .i64)) ∧ Cov g Q r k 0 ∧ V.grownBy wq (some u)) := Lib.hid ⟨S.out.1.kept (grown_of_below bq none) (Or.inr (by simp [Value.ownBlock])), S.out.2.1, S.out.2.2.trans (grown_of_below bq _)⟩
      have HRQ := Lib.hid (RowS.keep HRW.out fun b hb => bq.block b (by have := S.out.2.2.size; have := HBV.out.size; omega))
      have HWQ : Hid (∀ b, b < w.heap.size → wq.heap[b]? = w.heap[b]?) := Lib.hid (fun b hb => (bq.block b (by have := S.out.2.2.size; have := HBV.out.size; omega)).trans (HWb.out b hb))
      have q0 : wrap64 ((qW g k : Int) * (qH g k : Int)) = (M : Int) := by rw [← hM]; exact wr_mul _ _ (by omega) (by omega)
      have hne : ((M : Int) != (M : Int)) = false := bne_self_eq_false _
      have HM := Lib.hid hM
      have hwq : w.heap.size ≤ wq.heap.size := by have := S1.out.2.2.size; have := HBV.out.size; omega
      clear S bq f0 f1 f2 f3 hc hM HRW HWb
      go_wp2
      clear q0 hne
      go_loopw [45] (fun yv wr => ∃ (y : Nat) (r : Nat → Int), y ≤ qH g k ∧ yv = .int .i64 (y : Int) ∧ Hid (wr.ownsRow u 3 1 (.slice (some ⟨u, 0, none⟩) N N) N ((ranged r N).map (Value.int .i64)) ∧ Cov g Q r k y ∧ V.grownBy wr (some u) ∧ wq.grownBy wr (some u))) (fun yv _ => qH g k - (intOf yv).toNat)
      case atStart => exact ⟨0, r, by omega, rfl, Lib.hid ⟨S1.out.1, S1.out.2.1, S1.out.2.2, World.grownBy.refl _ _⟩⟩
      case round =>
        obtain ⟨y, r, hy, rfl, S⟩ := hrel
        clear S1
        by_cases cy : y < qH g k
        · have cy' : (y : Int) < (qH g k : Int) := by omega
          obtain ⟨m2, e2⟩ : ∃ m2, y * g.w = m2 := ⟨_, rfl⟩
          have e1 := E1.out
          obtain ⟨m, e3⟩ : ∃ m, m1 + m2 = m := ⟨_, rfl⟩
          have hmE : m = (qY g k + y) * g.w + qX g k := by rw [← e3, ← e1, ← e2, Nat.add_mul]; omega
          have hle := seg_le (w := g.w) (h := g.h) (a := qX g k) (b := qY g k + y) (wide := qW g k) (by omega) (by omega)
          rw [← hmE, HN.out] at hle
          obtain ⟨s1, g1⟩ : ∃ s1, y * qW g k = s1 := ⟨_, rfl⟩
          obtain ⟨s2, g2⟩ : ∃ s2, (y + 1) * qW g k = s2 := ⟨_, rfl⟩
          have hs12 : s2 = s1 + qW g k := by rw [← g1, ← g2, Nat.succ_mul]
          have hs2M : s2 ≤ M := by rw [← g2, ← HM.out, Nat.mul_comm (qW g k)]; exact Nat.mul_le_mul_right _ (by omega)
          have hRwr : RowI wr A' M c' (quar g Q k) := (RowS.keep HRQ.out fun b hb => S.out.2.2.2.block b (Nat.lt_of_lt_of_le hb hwq) (fun e => by injection e with e; omega)).row
          have hsl := slice_row hRwr s1 s2 (by omega) hs2M (s1 : Int) (s2 : Int) rfl rfl
          rw [show s2 - s1 = qW g k from by omega] at hsl
          obtain ⟨SA, cs, hsl, hsr⟩ := hsl
          have hseg : ((quar g Q k).drop s1).take (qW g k) = ranged (fun x => Q (qX g k + x) (qY g k + y)) (qW g k) := by
            have := flat_seg (w := qW g k) (h := qH g k) (a := 0) (b := y) (wide := qW g k) (subF (qX g k) (qY g k) Q) (by omega) cy
            rw [g1] at this
            unfold quar
            rw [show s1 + 0 = s1 from rfl] at this
            rw [this]
            exact ranged_congr fun x _ => by unfold subF; rw [Nat.zero_add]
          rw [hseg] at hsr
          obtain ⟨D, hdl, hD⟩ := slice_from (g := u) (n := N) (c := N) m (by omega) (Nat.le_refl _)
          obtain ⟨Y, hY⟩ : ∃ Y, wr.drew = Y := ⟨_, rfl⟩
          have hoY : Y.ownsRow u 3 1 (.slice (some ⟨u, 0, none⟩) N N) N ((ranged r N).map (Value.int .i64)) := by rw [← hY]; exact S.out.1
          have hsY : RowI Y SA (qW g k) cs (ranged (fun x => Q (qX g k + x) (qY g k + y)) (qW g k)) := by rw [← hY]; exact hsr.drew (Drew.mk _ 1)
          obtain ⟨w2, hrun, hown2, hgr2⟩ := copy_row (cd := N - m) hoY hsY (show m + qW g k ≤ N by omega) hD
          have S6 : Hid (w2.ownsRow u 3 1 (.slice (some ⟨u, 0, none⟩) N N) N ((ranged (fun i => if m ≤ i ∧ i < m + qW g k then (ranged (fun x => Q (qX g k + x) (qY g k + y)) (qW g k)).getD (i - m) 0 else r i) N).map (Value.int .i64)) ∧ Cov g Q (fun i => if m ≤ i ∧ i < m + qW g k then (ranged (fun x => Q (qX g k + x) (qY g k + y)) (qW g k)).getD (i - m) 0 else r i) k (y + 1) ∧ V.grownBy w2 (some u) ∧ wq.grownBy w2 (some u)) := Lib.hid ⟨hown2, S.out.2.1.row hmE cy, (S.out.2.2.1.trans (by rw [← hY]; exact grown_drew (Drew.mk _ 1) _)).trans hgr2, (S.out.2.2.2.trans (by rw [← hY]; exact grown_drew (Drew.mk _ 1) _)).trans hgr2⟩
          have HRN := Lib.hid hrun
          have HSL := Lib.hid hsl
          have HDL := Lib.hid hdl
          have HYE := Lib.hid hY
          have hb1 : y ≤ 4096 ∧ y + 1 ≤ 4096 ∧ qW g k ≤ 4096 ∧ g.w ≤ 4096 := by omega
          have q5 : IntKind.i64.wrap (m : Int) = (m : Int) := wr_nat (by omega)
          have q2 : wrap64 ((y : Int) * (g.w : Int)) = (m2 : Int) := by rw [← e2]; exact wr_mul _ _ hb1.1 hb1.2.2.2
          have q3 := sum_cast e3
          have q6 : wrap64 ((y : Int) * (qW g k : Int)) = (s1 : Int) := by rw [← g1]; exact wr_mul _ _ hb1.1 hb1.2.2.1
          have q7 : wrap64 (((y : Int) + 1) * (qW g k : Int)) = (s2 : Int) := by
            have := wr_mul (y + 1) (qW g k) hb1.2.1 hb1.2.2.1
            rw [g2] at this
            rw [← this]; rfl
          have p2 : IntKind.i64.wrap ((y : Int) * (g.w : Int)) = (m2 : Int) := by rw [← e2]; exact wri_mul _ _ hb1.1 hb1.2.2.2
          have p6 : IntKind.i64.wrap ((y : Int) * (qW g k : Int)) = (s1 : Int) := by rw [← g1]; exact wri_mul _ _ hb1.1 hb1.2.2.1
          have p7 : IntKind.i64.wrap (((y : Int) + 1) * (qW g k : Int)) = (s2 : Int) := by
            have := wri_mul (y + 1) (qW g k) hb1.2.1 hb1.2.2.1
            rw [g2] at this
            rw [← this]; rfl
          have p8 := wri_suc y hb1.1
          have hcy := Lib.hid cy
          clear hoY hsY hrun hown2 hgr2 hsl hsr hdl hD hseg hRwr e2 g1 g2 hs12 hs2M hle hmE e3 S hY
          go_wp2
          refine (wpIn_wide (n := 9)).1 (regionIn_inv (w := wr) (Inv := fun L a' w' => a' = { tmps := #[.agg #[.int .i64 a0, .int .i64 a1, .int .i64 a2, .int .i64 a3], .slice (some ⟨b, o, none⟩) 4 cQ, .pointer (some ⟨w.heap.size, 0, none⟩), undef, u4, u5, .int .i64 (g.w : Int), .int .i64 (g.h : Int), .slice (some ⟨u, 0, none⟩) N N, .int .i64 (k : Int), .slice A' M c', .int .i64 (m1 : Int), .int .i64 ((qW g k : Nat) : Int), .int .i64 ((qH g k : Nat) : Int), .int .i64 (y : Int), .tuple #[.int .i64 (g.w : Int), .int .i64 (g.h : Int)], .agg #[.int .i64 a0, .int .i64 a1, .int .i64 a2, .int .i64 a3], .tuple #[.int .i64 (g.w : Int), .int .i64 (g.h : Int)], .int .i64 (g.w : Int), .int .i64 (g.h : Int), .int .i64 (g.w : Int), .int .i64 (g.h : Int), .int .i64 (wrap64 ((g.w : Int) * (g.h : Int))), .slice (some ⟨u, 0, none⟩) N N, .slice (some ⟨b, o, none⟩) 4 cQ, .int .i64 4, .int .i64 (k : Int), .bool true, .int .i64 (k : Int), .pointer (some ⟨b, o + k, none⟩), .slice A' M c', .tuple #[.int .i64 (m1 : Int), .int .i64 ((qW g k : Nat) : Int), .int .i64 ((qH g k : Nat) : Int)], .agg #[.int .i64 a0, .int .i64 a1, .int .i64 a2, .int .i64 a3], .int .i64 (k : Int), .tuple #[.int .i64 (m1 : Int), .int .i64 ((qW g k : Nat) : Int), .int .i64 ((qH g k : Nat) : Int)], .int .i64 (m1 : Int), .int .i64 ((qW g k : Nat) : Int), .int .i64 ((qH g k : Nat) : Int), .slice A' M c', .int .i64 (M : Int), .int .i64 ((qW g k : Nat) : Int), .int .i64 ((qH g k : Nat) : Int), .int .i64 (wrap64 (((qW g k : Nat) : Int) * ((qH g k : Nat) : Int))), .bool false, .int .i64 ((qH g k : Nat) : Int), .int .i64 (y : Int), .bool true, .int .i64 (y : Int), bif L 0 then .slice (some ⟨u, 0, none⟩) N N else u48, bif L 1 then .int .i64 (m1 : Int) else u49, bif L 2 then .int .i64 (y : Int) else u50, bif L 3 then .int .i64 (g.w : Int) else u51, bif L 4 then .int .i64 (m2 : Int) else u52, bif L 5 then .int .i64 (m : Int) else u53, bif L 6 then .slice D (N - m) (N - m) else u54, bif L 7 then .slice A' M c' else u55, bif L 8 then .int .i64 (y : Int) else u56, bif L 9 then .int .i64 (qW g k : Int) else u57, bif L 10 then .int .i64 (s1 : Int) else u58, bif L 11 then .int .i64 (y : Int) else u59, bif L 12 then .int .i64 ((y : Int) + 1) else u60, bif L 13 then .int .i64 (qW g k : Int) else u61, bif L 14 then .int .i64 (s2 : Int) else u62, bif L 15 then .slice SA (qW g k) cs else u63, bif L 16 then .int .i64 (qW g k : Int) else u64, u65, u66, undef, undef, undef, undef, undef, undef, undef, undef, undef, undef, undef, undef, undef], defers := [] } ∧ (bif L 16 then (w' = w2) else w' = Y)) (by kernel_rfl) (by kernel_rfl) ?start ?step ?fin)
          case start => exact ⟨rfl, HYE.out⟩
          case step =>
            intro i hi L a' w' hI hs hu
            obtain ⟨rfl, hph⟩ := hI
            have hL := hu.1
            have hi : i < 17 := hi
            obtain rfl | rfl | rfl | rfl | rfl | rfl | rfl | rfl | rfl | rfl | rfl | rfl | rfl | rfl | rfl | rfl | rfl := (by omega : i = 0 ∨ i = 1 ∨ i = 2 ∨ i = 3 ∨ i = 4 ∨ i = 5 ∨ i = 6 ∨ i = 7 ∨ i = 8 ∨ i = 9 ∨ i = 10 ∨ i = 11 ∨ i = 12 ∨ i = 13 ∨ i = 14 ∨ i = 15 ∨ i = 16)
            · skip
              have n16 : L 16 = false := not_yet hL fun h => shut_at hs 6 0 (by kernel_rfl) (shut_at hs 16 6 (by kernel_rfl) (h))
              refine opIn_run (v := .slice (some ⟨u, 0, none⟩) N N) (w' := _) rfl rfl (fun c h => by cases h) (fun _ => trivial) ?_ ⟨by simp [Act.put, upd, n16, hL], by simpa [upd] using hph⟩
              simp only [n16, hL, cond_true, cond_false]
              go_simp
            · skip
              have n16 : L 16 = false := not_yet hL fun h => shut_at hs 5 1 (by kernel_rfl) (shut_at hs 6 5 (by kernel_rfl) (shut_at hs 16 6 (by kernel_rfl) (h)))
              refine opIn_run (v := .int .i64 (m1 : Int)) (w' := _) rfl rfl (fun c h => by cases h) (fun _ => trivial) ?_ ⟨by simp [Act.put, upd, n16, hL], by simpa [upd] using hph⟩
              simp only [n16, hL, cond_true, cond_false]
              go_simp
            · skip
              have n16 : L 16 = false := not_yet hL fun h => shut_at hs 4 2 (by kernel_rfl) (shut_at hs 5 4 (by kernel_rfl) (shut_at hs 6 5 (by kernel_rfl) (shut_at hs 16 6 (by kernel_rfl) (h))))
              refine opIn_run (v := .int .i64 (y : Int)) (w' := _) rfl rfl (fun c h => by cases h) (fun _ => trivial) ?_ ⟨by simp [Act.put, upd, n16, hL], by simpa [upd] using hph⟩
              simp only [n16, hL, cond_true, cond_false]
              go_simp
            · skip
              have n16 : L 16 = false := not_yet hL fun h => shut_at hs 4 3 (by kernel_rfl) (shut_at hs 5 4 (by kernel_rfl) (shut_at hs 6 5 (by kernel_rfl) (shut_at hs 16 6 (by kernel_rfl) (h))))
              refine opIn_run (v := .int .i64 (g.w : Int)) (w' := _) rfl rfl (fun c h => by cases h) (fun _ => trivial) ?_ ⟨by simp [Act.put, upd, n16, hL], by simpa [upd] using hph⟩
              simp only [n16, hL, cond_true, cond_false]
              go_simp
            · skip
              have y2 : L 2 = true := up_at hu 2 (by kernel_rfl)
              have y3 : L 3 = true := up_at hu 3 (by kernel_rfl)
              have n16 : L 16 = false := not_yet hL fun h => shut_at hs 5 4 (by kernel_rfl) (shut_at hs 6 5 (by kernel_rfl) (shut_at hs 16 6 (by kernel_rfl) (h)))
              refine opIn_run (v := .int .i64 (m2 : Int)) (w' := _) rfl rfl (fun c h => by cases h) (fun _ => trivial) ?_ ⟨by simp [Act.put, upd, y2, y3, n16, hL], by simpa [upd] using hph⟩
              simp only [y2, y3, n16, hL, cond_true, cond_false]
              go_simp
            · skip
              have y1 : L 1 = true := up_at hu 1 (by kernel_rfl)
              have y2 : L 2 = true := shut_at hs 4 2 (by kernel_rfl) (up_at hu 4 (by kernel_rfl))
              have y3 : L 3 = true := shut_at hs 4 3 (by kernel_rfl) (up_at hu 4 (by kernel_rfl))
              have y4 : L 4 = true := up_at hu 4 (by kernel_rfl)
              have n16 : L 16 = false := not_yet hL fun h => shut_at hs 6 5 (by kernel_rfl) (shut_at hs 16 6 (by kernel_rfl) (h))
              refine opIn_run (v := .int .i64 (m : Int)) (w' := _) rfl rfl (fun c h => by cases h) (fun _ => trivial) ?_ ⟨by simp [Act.put, upd, y1, y2, y3, y4, n16, hL], by simpa [upd] using hph⟩
              simp only [y1, y2, y3, y4, n16, hL, cond_true, cond_false]
              go_simp
            · skip
              have y0 : L 0 = true := up_at hu 0 (by kernel_rfl)
              have y1 : L 1 = true := shut_at hs 5 1 (by kernel_rfl) (up_at hu 5 (by kernel_rfl))
              have y2 : L 2 = true := shut_at hs 4 2 (by kernel_rfl) (shut_at hs 5 4 (by kernel_rfl) (up_at hu 5 (by kernel_rfl)))
              have y3 : L 3 = true := shut_at hs 4 3 (by kernel_rfl) (shut_at hs 5 4 (by kernel_rfl) (up_at hu 5 (by kernel_rfl)))
              have y4 : L 4 = true := shut_at hs 5 4 (by kernel_rfl) (up_at hu 5 (by kernel_rfl))
              have y5 : L 5 = true := up_at hu 5 (by kernel_rfl)
              have n16 : L 16 = false := not_yet hL fun h => shut_at hs 16 6 (by kernel_rfl) (h)
              simp only [y0, y1, y2, y3, y4, y5, n16, hL, cond_true, cond_false] at hph
              have hph := hph.symm
              subst hph
              have hdl := HDL.out Y
              refine opIn_run (v := .slice D (N - m) (N - m)) (w' := Y) rfl rfl (fun c h => by cases h) (fun _ => trivial) ?_ ⟨by simp [Act.put, upd, y0, y1, y2, y3, y4, y5, n16, hL], by simp [upd, y0, y1, y2, y3, y4, y5, n16, hL]⟩
              simp only [y0, y1, y2, y3, y4, y5, n16, hL, cond_true, cond_false]
              go_simp
            · skip
              have n16 : L 16 = false := not_yet hL fun h => shut_at hs 15 7 (by kernel_rfl) (shut_at hs 16 15 (by kernel_rfl) (h))
              refine opIn_run (v := .slice A' M c') (w' := _) rfl rfl (fun c h => by cases h) (fun _ => trivial) ?_ ⟨by simp [Act.put, upd, n16, hL], by simpa [upd] using hph⟩
              simp only [n16, hL, cond_true, cond_false]
              go_simp
            · skip
              have n16 : L 16 = false := not_yet hL fun h => shut_at hs 10 8 (by kernel_rfl) (shut_at hs 15 10 (by kernel_rfl) (shut_at hs 16 15 (by kernel_rfl) (h)))
              refine opIn_run (v := .int .i64 (y : Int)) (w' := _) rfl rfl (fun c h => by cases h) (fun _ => trivial) ?_ ⟨by simp [Act.put, upd, n16, hL], by simpa [upd] using hph⟩
              simp only [n16, hL, cond_true, cond_false]
              go_simp
            · skip
              have n16 : L 16 = false := not_yet hL fun h => shut_at hs 10 9 (by kernel_rfl) (shut_at hs 15 10 (by kernel_rfl) (shut_at hs 16 15 (by kernel_rfl) (h)))
              refine opIn_run (v := .int .i64 (qW g k : Int)) (w' := _) rfl rfl (fun c h => by cases h) (fun _ => trivial) ?_ ⟨by simp [Act.put, upd, n16, hL], by simpa [upd] using hph⟩
              simp only [n16, hL, cond_true, cond_false]
              go_simp
            · skip
              have y8 : L 8 = true := up_at hu 8 (by kernel_rfl)
              have y9 : L 9 = true := up_at hu 9 (by kernel_rfl)
              have n16 : L 16 = false := not_yet hL fun h => shut_at hs 15 10 (by kernel_rfl) (shut_at hs 16 15 (by kernel_rfl) (h))
              refine opIn_run (v := .int .i64 (s1 : Int)) (w' := _) rfl rfl (fun c h => by cases h) (fun _ => trivial) ?_ ⟨by simp [Act.put, upd, y8, y9, n16, hL], by simpa [upd] using hph⟩
              simp only [y8, y9, n16, hL, cond_true, cond_false]
              go_simp
            · skip
              have n16 : L 16 = false := not_yet hL fun h => shut_at hs 12 11 (by kernel_rfl) (shut_at hs 14 12 (by kernel_rfl) (shut_at hs 15 14 (by kernel_rfl) (shut_at hs 16 15 (by kernel_rfl) (h))))
              refine opIn_run (v := .int .i64 (y : Int)) (w' := _) rfl rfl (fun c h => by cases h) (fun _ => trivial) ?_ ⟨by simp [Act.put, upd, n16, hL], by simpa [upd] using hph⟩
              simp only [n16, hL, cond_true, cond_false]
              go_simp
            · skip
              have y11 : L 11 = true := up_at hu 11 (by kernel_rfl)
              have n16 : L 16 = false := not_yet hL fun h => shut_at hs 14 12 (by kernel_rfl) (shut_at hs 15 14 (by kernel_rfl) (shut_at hs 16 15 (by kernel_rfl) (h)))
              refine opIn_run (v := .int .i64 ((y : Int) + 1)) (w' := _) rfl rfl (fun c h => by cases h) (fun _ => trivial) ?_ ⟨by simp [Act.put, upd, y11, n16, hL], by simpa [upd] using hph⟩
              simp only [y11, n16, hL, cond_true, cond_false]
              go_simp
            · skip
              have n16 : L 16 = false := not_yet hL fun h => shut_at hs 14 13 (by kernel_rfl) (shut_at hs 15 14 (by kernel_rfl) (shut_at hs 16 15 (by kernel_rfl) (h)))
              refine opIn_run (v := .int .i64 (qW g k : Int)) (w' := _) rfl rfl (fun c h => by cases h) (fun _ => trivial) ?_ ⟨by simp [Act.put, upd, n16, hL], by simpa [upd] using hph⟩
              simp only [n16, hL, cond_true, cond_false]
              go_simp
            · skip
              have y11 : L 11 = true := shut_at hs 12 11 (by kernel_rfl) (up_at hu 12 (by kernel_rfl))
              have y12 : L 12 = true := up_at hu 12 (by kernel_rfl)
              have y13 : L 13 = true := up_at hu 13 (by kernel_rfl)
              have n16 : L 16 = false := not_yet hL fun h => shut_at hs 15 14 (by kernel_rfl) (shut_at hs 16 15 (by kernel_rfl) (h))
              refine opIn_run (v := .int .i64 (s2 : Int)) (w' := _) rfl rfl (fun c h => by cases h) (fun _ => trivial) ?_ ⟨by simp [Act.put, upd, y11, y12, y13, n16, hL], by simpa [upd] using hph⟩
              simp only [y11, y12, y13, n16, hL, cond_true, cond_false]
              go_simp
            · skip
              have y7 : L 7 = true := up_at hu 7 (by kernel_rfl)
              have y8 : L 8 = true := shut_at hs 10 8 (by kernel_rfl) (up_at hu 10 (by kernel_rfl))
              have y9 : L 9 = true := shut_at hs 10 9 (by kernel_rfl) (up_at hu 10 (by kernel_rfl))
              have y10 : L 10 = true := up_at hu 10 (by kernel_rfl)
              have y11 : L 11 = true := shut_at hs 12 11 (by kernel_rfl) (shut_at hs 14 12 (by kernel_rfl) (up_at hu 14 (by kernel_rfl)))
              have y12 : L 12 = true := shut_at hs 14 12 (by kernel_rfl) (up_at hu 14 (by kernel_rfl))
              have y13 : L 13 = true := shut_at hs 14 13 (by kernel_rfl) (up_at hu 14 (by kernel_rfl))
              have y14 : L 14 = true := up_at hu 14 (by kernel_rfl)
              have n16 : L 16 = false := not_yet hL fun h => shut_at hs 16 15 (by kernel_rfl) (h)
              simp only [y7, y8, y9, y10, y11, y12, y13, y14, n16, hL, cond_true, cond_false] at hph
              have hph := hph.symm
              subst hph
              have hsl := HSL.out Y
              refine opIn_run (v := .slice SA (qW g k) cs) (w' := Y) rfl rfl (fun c h => by cases h) (fun _ => trivial) ?_ ⟨by simp [Act.put, upd, y7, y8, y9, y10, y11, y12, y13, y14, n16, hL], by simp [upd, y7, y8, y9, y10, y11, y12, y13, y14, n16, hL]⟩
              simp only [y7, y8, y9, y10, y11, y12, y13, y14, n16, hL, cond_true, cond_false]
              go_simp
            · skip
              have y0 : L 0 = true := shut_at hs 6 0 (by kernel_rfl) (up_at hu 6 (by kernel_rfl))
              have y1 : L 1 = true := shut_at hs 5 1 (by kernel_rfl) (shut_at hs 6 5 (by kernel_rfl) (up_at hu 6 (by kernel_rfl)))
              have y2 : L 2 = true := shut_at hs 4 2 (by kernel_rfl) (shut_at hs 5 4 (by kernel_rfl) (shut_at hs 6 5 (by kernel_rfl) (up_at hu 6 (by kernel_rfl))))
              have y3 : L 3 = true := shut_at hs 4 3 (by kernel_rfl) (shut_at hs 5 4 (by kernel_rfl) (shut_at hs 6 5 (by kernel_rfl) (up_at hu 6 (by kernel_rfl))))
              have y4 : L 4 = true := shut_at hs 5 4 (by kernel_rfl) (shut_at hs 6 5 (by kernel_rfl) (up_at hu 6 (by kernel_rfl)))
              have y5 : L 5 = true := shut_at hs 6 5 (by kernel_rfl) (up_at hu 6 (by kernel_rfl))
              have y6 : L 6 = true := up_at hu 6 (by kernel_rfl)
              have y7 : L 7 = true := shut_at hs 15 7 (by kernel_rfl) (up_at hu 15 (by kernel_rfl))
              have y8 : L 8 = true := shut_at hs 10 8 (by kernel_rfl) (shut_at hs 15 10 (by kernel_rfl) (up_at hu 15 (by kernel_rfl)))
              have y9 : L 9 = true := shut_at hs 10 9 (by kernel_rfl) (shut_at hs 15 10 (by kernel_rfl) (up_at hu 15 (by kernel_rfl)))
              have y10 : L 10 = true := shut_at hs 15 10 (by kernel_rfl) (up_at hu 15 (by kernel_rfl))
              have y11 : L 11 = true := shut_at hs 12 11 (by kernel_rfl) (shut_at hs 14 12 (by kernel_rfl) (shut_at hs 15 14 (by kernel_rfl) (up_at hu 15 (by kernel_rfl))))
              have y12 : L 12 = true := shut_at hs 14 12 (by kernel_rfl) (shut_at hs 15 14 (by kernel_rfl) (up_at hu 15 (by kernel_rfl)))
              have y13 : L 13 = true := shut_at hs 14 13 (by kernel_rfl) (shut_at hs 15 14 (by kernel_rfl) (up_at hu 15 (by kernel_rfl)))
              have y14 : L 14 = true := shut_at hs 15 14 (by kernel_rfl) (up_at hu 15 (by kernel_rfl))
              have y15 : L 15 = true := up_at hu 15 (by kernel_rfl)
              simp only [y0, y1, y2, y3, y4, y5, y6, y7, y8, y9, y10, y11, y12, y13, y14, y15, hL, cond_true, cond_false] at hph
              have hph := hph.symm
              subst hph
              refine opIn_run (v := .int .i64 (qW g k : Int)) (w' := w2) rfl rfl (fun c h => by cases h) (fun _ => trivial) ?_ ⟨by simp [Act.put, upd, y0, y1, y2, y3, y4, y5, y6, y7, y8, y9, y10, y11, y12, y13, y14, y15, hL], by simp [upd, y0, y1, y2, y3, y4, y5, y6, y7, y8, y9, y10, y11, y12, y13, y14, y15, hL]⟩
              simp only [y0, y1, y2, y3, y4, y5, y6, y7, y8, y9, y10, y11, y12, y13, y14, y15, hL, cond_true, cond_false]
              have hr := HRN.out
              go_simp
          case fin =>
            intro L a' w' hall hI
            obtain ⟨rfl, hph⟩ := hI
            have l0 := hall 0 (by decide)
            have l1 := hall 1 (by decide)
            have l2 := hall 2 (by decide)
            have l3 := hall 3 (by decide)
            have l4 := hall 4 (by decide)
            have l5 := hall 5 (by decide)
            have l6 := hall 6 (by decide)
            have l7 := hall 7 (by decide)
            have l8 := hall 8 (by decide)
            have l9 := hall 9 (by decide)
            have l10 := hall 10 (by decide)
            have l11 := hall 11 (by decide)
            have l12 := hall 12 (by decide)
            have l13 := hall 13 (by decide)
            have l14 := hall 14 (by decide)
            have l15 := hall 15 (by decide)
            have l16 := hall 16 (by decide)
            simp only [l0, l1, l2, l3, l4, l5, l6, l7, l8, l9, l10, l11, l12, l13, l14, l15, l16, cond_true] at hph ⊢
            have hph := hph.symm
            subst hph
            clear l0 l1 l2 l3 l4 l5 l6 l7 l8 l9 l10 l11 l12 l13 l14 l15 l16 hall
            clear q2 q3 q5 q6 q7 p2 p6 p7 p8 HRN HSL HDL HYE
            have cy := hcy.out
            go_wp2
            go_roundw
            case rel => exact ⟨y + 1, _, by omega, by go_num, S6⟩
            case measure => simp [intOf]; omega
        · obtain rfl : y = qH g k := by omega
          have S4 : Hid (wr.ownsRow u 3 1 (.slice (some ⟨u, 0, none⟩) N N) N ((ranged r N).map (Value.int .i64)) ∧ Cov g Q r (k + 1) 0 ∧ V.grownBy wr (some u)) := Lib.hid ⟨S.out.1, S.out.2.1.next, S.out.2.2.1⟩
          clear S
          go_wp2
          go_roundw
          case rel => exact ⟨k + 1, r, by omega, by go_num, S4⟩
          case measure => simp [intOf]; omega
    · obtain rfl : 4 = k := by omega
      have hpl : PlO u wr (some ⟨u, 0, none⟩) N g Q := by
        have h := cov_own (lo := u) (u := u) S.out.2.1 (by rw [HN.out]; exact S.out.1)
        rw [HN.out] at h
        exact h
      have hXr : RA wr w.heap.size a0 a1 a2 a3 := (S.out.2.2.block _ HXV.out.lt (fun e => by injection e with e; omega)).trans HXV.out
      have hrb := hXr.rb HRE.out
      have hrc : RC wr w.heap.size g := ⟨(hXr.cells).1.trans (by rw [(rect_ints HRE.out).1]), (hXr.cells).2.1.trans (by rw [(rect_ints HRE.out).2.1]), (hXr.cells).2.2.1.trans (by rw [(rect_ints HRE.out).2.2.1]), (hXr.cells).2.2.2.1.trans (by rw [(rect_ints HRE.out).2.2.2])⟩
      have hne : ∀ q, (some ⟨u, 0, none⟩ : Option Addr) = some ⟨q, 0, none⟩ → w.heap.size ≠ q := fun q e => by injection e with e; injection e with e; omega
      have h1 := HRR.out u N (some ⟨u, 0, none⟩) wr hrc hne (by rw [HQE.out]; exact hpl)
      rw [HN.out] at h1
      have H1 := Lib.hid h1
      have HBW : Hid (Below w.heap.size w wr) := Lib.hid (HBV.out.grown S.out.2.2 HBV.out.size (fun b e => by injection e with e; omega))
      have HNE := Lib.hid hne
      have HRC := Lib.hid hrc
      clear S hVb hQr hpl hXr hrb hrc hne h1 HXV HBV HQS HQT
      go_wp2_with fail
      refine H1.out.mono ?_
      rintro e w3 ⟨rfl, hp3, g3⟩
      have hp3' : PlO u w3 (some ⟨u, 0, none⟩) N g (colsF (g.y % 2) g.h P) := hp3.congr fun x y hx hy => by
        show urowsF (g.x % 2) g.w (liftP g P) x y = _
        exact urows_rows _ (by omega) hx
      have hrc3 : RC w3 w.heap.size g := HRC.out.grown g3 (by
        intro e
        simp [Value.ownBlock] at e
        omega)
      have h2 := HCC.out u N (some ⟨u, 0, none⟩) w3 hrc3 HNE.out hp3'
      rw [HN.out] at h2
      have H2 := Lib.hid h2
      have HBW3 : Hid (Below w.heap.size w w3) := Lib.hid (HBW.out.grown g3 HBW.out.size (fun b e => by simp [Value.ownBlock] at e; omega))
      clear hp3 hp3' hrc3 h2 H1 HBW g3 HRR HCC HRC
      go_wp2_with fail
      refine H2.out.mono ?_
      rintro e w4 ⟨rfl, hp4, g4⟩
      have HP4 : Hid (RowI w4 (some ⟨u, 0, none⟩) N N (flat g.w g.h P)) := Lib.hid (by
        have h := (hp4.congr (Q := P) fun x y hx hy => by
          show ucolsF (g.y % 2) g.h (colsF (g.y % 2) g.h P) x y = _
          exact ucols_cols _ (by omega) hy).row
        rw [HN.out] at h
        exact h)
      have HB4 : Hid (Below w.heap.size w w4) := Lib.hid (HBW3.out.grown g4 HBW3.out.size (fun b e => by simp [Value.ownBlock] at e; omega))
      clear hp4 g4 H2 HBW3
      go_wp2
      go_ret2
      exact ⟨some ⟨u, 0, none⟩, N, rfl, HP4.out, HB4.out⟩
end Go.Proofs.Ytgadebfelomhpaa
