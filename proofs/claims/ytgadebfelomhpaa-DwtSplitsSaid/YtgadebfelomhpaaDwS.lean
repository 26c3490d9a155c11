/- split of package dwt, by its contract. -/
import Derived.Test.YtgadebfelomhpaaDwQ
import Derived.Outline
set_option linter.unusedVariables false
set_option linter.unusedSimpArgs false
namespace Go.Proofs.Ytgadebfelomhpaa
open Go.RowKit
attribute [local go_sem ↓] appSem_eq slcSem_eq

theorem quar_len (g : Geo) (Q : Nat → Nat → Int) (k : Nat) : (quar g Q k).length = qW g k * qH g k := flat_len _ _ _
theorem qX_le (g : Geo) (k : Nat) : qX g k + qW g k ≤ g.w := by
  have := half_w g
  unfold qX qW; split <;> omega
theorem qY_le (g : Geo) (k : Nat) : qY g k + qH g k ≤ g.h := by
  have := half_h g
  unfold qY qH; split <;> omega
theorem wr_nat {n : Nat} (h : n ≤ 1000000) : IntKind.i64.wrap (n : Int) = (n : Int) := IntWalk.i64_in _ (by omega)
theorem hmk0' (u : World) (q : Nat) (hq : q ≤ 1000000) : (Instr.makeSlice 24 (.int .i64 0) (.int .i64 (q : Int))).run Try.prog u = .ok (.slice (some ⟨u.heap.size, 0, none⟩) 0 q) (u.alloc (.cells (madeCells #[.int .i64 0] q) 3)) := by
  obtain ⟨i, hi, hzz⟩ := Option.map_eq_some_iff.1 Try.info3
  simp only [Prod.mk.injEq] at hzz
  obtain ⟨hz, hs, hb⟩ := hzz
  have hr := run_make (P := Try.prog) u 24 3 i (.int .i64 0) Try.underlying24 hi hz .i64 .i64 0 q (Int.le_refl _) (by omega) (by rw [hb]; omega) (by omega)
  simp only [Int.toNat_zero, Int.toNat_natCast, hs, Nat.mul_one] at hr
  exact hr
theorem hmk4 (u : World) : (Instr.makeSlice 30 (.int .i64 4) (.int .i64 4)).run Try.prog u = .ok (.slice (some ⟨u.heap.size, 0, none⟩) 4 4) (u.alloc (.cells #[.slice none 0 0, .slice none 0 0, .slice none 0 0, .slice none 0 0] 24)) := by
  have hinf : (Try.prog.info? 24).map (fun i => (i.zero, i.size, i.bytes)) = some (some (.slice none 0 0), 1, 24) := by kernel_rfl
  have h := run_make_row' 30 24 (.slice none 0 0) 24 Try.underlying30 hinf rfl .i64 .i64 4 (by omega) (by omega) u
  rw [show madeCells #[Value.slice none 0 0] 4 = #[.slice none 0 0, .slice none 0 0, .slice none 0 0, .slice none 0 0] from Array.ext' (by rw [toList_madeCells_one]; rfl)] at h
  exact h

set_option maxHeartbeats 8000000 in
set_option maxRecDepth 100000 in
set_option pp.deepTerms true in
set_option pp.maxSteps 10000000 in
theorem split_step (g : Geo) (P : Nat → Nat → Int) (K : Int) (A : Option Addr) (c lo : Nat) (w : World) (hw : g.w ≤ 300 ∧ g.h ≤ 300) (hx : g.x ≤ 90000 ∧ g.y ≤ 90000) (hK : 0 ≤ K ∧ K ≤ 500000000) (hbd : Bd K g.w g.h P) (hown : PlO lo w A c g P) :
    Calls Try.prog 24 #[rectV g, .slice A (g.w * g.h) c] w fun e w' => ∃ z W1 V, e = .returned (.slice (some ⟨z, 0, none⟩) 4 4) ∧ QG z W1 w' V (quar g (liftP g P)) ∧ w.grownBy W1 (Value.slice A (g.w * g.h) c).ownBlock := by
  have hS := fun W => sides_any g W (by omega) (by omega)
  have hQ := fun k W hk => quarter_any g k W (by omega) hx hk
  have HO := Lib.hid hown
  have HB := Lib.hid hbd
  have hob : some w.heap.size ≠ (Value.slice A (g.w * g.h) c).ownBlock := by
    intro e
    have := (own_lt hown e.symm).2
    omega
  have HOB := Lib.hid hob
  clear hob
  have hAb : ∀ q, A = some ⟨q, 0, none⟩ → q < w.heap.size := fun q e => by
    rcases hown.2 with ⟨hv, _⟩ | ⟨q', cap, cur, hv, h1, h2, _⟩
    · injection hv with hv; rw [e] at hv; cases hv
    · injection hv with hv; rw [e] at hv; injection hv with hv; injection hv with hv; subst hv; exact (Array.getElem?_eq_some_iff.1 h2).1
  have HA := Lib.hid hAb
  have hmk := hmk4
  have HS := Lib.hid hS
  have HQ := Lib.hid hQ
  have HC := Lib.hid (fun W h1 h2 h3 => cols_any 36 enters36 (SP (g.y % 2) g.h) w.heap.size lo c A g P K W ⟨hK.1, by omega⟩ hw hbd h1 h2 h3 (fun A cc w1 l a b d => sp1_any a b (by omega) d))
  have HR := Lib.hid (fun W h1 h2 h3 => rows_any 38 enters38 (SP (g.x % 2) g.w) w.heap.size lo c A g (colsF (g.y % 2) g.h P) (2 * K + 1) W ⟨by omega, by omega⟩ hw (cols_bd (by omega) hK.1 hbd) h1 h2 h3 (fun A cc w1 l a b d => sp2_any a b (by omega) d))
  clear hown hbd hAb hS hQ hmk
  unfold rectV
  go_enter Try.func24, Try.ntmps24
  go_wp2_with fail
  have hrc := RC.new w g
  have hB0 : Below w.heap.size w (w.alloc (Obj.cells #[.int .i64 (g.x : Int), .int .i64 (g.y : Int), .int .i64 ((g.x + g.w : Nat) : Int), .int .i64 ((g.y + g.h : Nat) : Int)] 23)) := (Below.refl _ w).alloc (Nat.le_refl _) _
  refine (HS.out _).mono ?_
  rintro e W0 ⟨rfl, b1⟩
  have hrc := hrc.keep b1 hrc.block
  have hB1 := hB0.trans (b1.mono hB0.size)
  have HRC := Lib.hid hrc
  have HB1 := Lib.hid hB1
  have HO0 : Hid (PlO lo W0 A c g P) := Lib.hid (World.ownsRow.kept HO.out (grown_of_below hB1 none) (by
    cases A with
    | none => exact Or.inl rfl
    | some a => exact Or.inr (by simp [Value.ownBlock])))
  have hAn : ∀ q, A = some ⟨q, 0, none⟩ → w.heap.size ≠ q := fun q e => by have := HA.out q e; omega
  have HAn := Lib.hid hAn
  clear hrc b1 hB0 hB1 HO hAn HS
  go_wp2_with fail
  refine (HC.out W0 HRC.out HAn.out HO0.out).mono ?_
  rintro e Wc ⟨rfl, ho, hg⟩
  have HRC1 := Lib.hid (HRC.out.grown hg HOB.out)
  have HO1 : Hid (PlO lo Wc A c g (colsF (g.y % 2) g.h P)) := Lib.hid ho
  have HG1 := Lib.hid hg
  clear HRC HO0 HC ho hg
  go_wp2_with fail
  refine (HR.out Wc HRC1.out HAn.out HO1.out).mono ?_
  rintro e W1 ⟨rfl, ho, hg⟩
  have HRC2 := Lib.hid (HRC1.out.grown hg HOB.out)
  have HO2 : Hid (PlO lo W1 A c g (liftP g P)) := Lib.hid ho
  have HGW : Hid (w.grownBy W1 (Value.slice A (g.w * g.h) c).ownBlock) := Lib.hid (((grown_of_below HB1.out _).trans HG1.out).trans hg)
  have HPR : Hid (RowI W1 A (g.w * g.h) c (flat g.w g.h (liftP g P))) := Lib.hid ho.row
  obtain ⟨i0, hi0, hz0, hz1, hz2⟩ := info_parts Try.info3
  clear HRC1 HO1 HR HG1 HO2 HB HA HAn HOB HB1 ho hg
  have hmk := hmk4
  have hmm := Nat.mul_le_mul hw.1 hw.2
  go_wp2_with fail
  clear hmk
  have HS0 := Lib.hid (QG.start W1)
  obtain ⟨Q, hQe⟩ : ∃ Q, liftP g P = Q := ⟨_, rfl⟩
  rw [hQe] at HPR
  have HQE := Lib.hid hQe
  clear hQe
  obtain ⟨z, hz⟩ : ∃ z, W1.heap.size = z := ⟨_, rfl⟩
  rw [hz] at HS0 ⊢
  have HZ := Lib.hid hz
  clear hz
  generalize (W1.alloc (Obj.cells #[Value.slice none 0 0, Value.slice none 0 0, Value.slice none 0 0, Value.slice none 0 0] 24)) = W2 at *
  go_loopw [34] (fun kv wr => ∃ (k : Nat) (V : Nat → Value), k ≤ 4 ∧ kv = .int .i64 (k : Int) ∧ Hid (QG z W1 wr V (fun i => if i < k then quar g Q i else []))) (fun kv _ => 4 - (intOf kv).toNat)
  case atStart => exact ⟨0, fun _ => .slice none 0 0, by omega, rfl, Lib.hid (by simpa using HS0.out)⟩
  case round =>
    obtain ⟨k, V, hk, rfl, S⟩ := hrel
    clear HS0
    by_cases ck : k < 4
    · obtain ⟨f0, f1, f2, f3⟩ := HRC2.out.keep S.out.bel (by rw [← HZ.out]; exact HRC2.out.block)
      have hqx := qX_le g k
      have hqy := qY_le g k
      obtain ⟨m1, e1⟩ : ∃ m1, qY g k * g.w + qX g k = m1 := ⟨_, rfl⟩
      have hq := HQ.out k wr ck
      rw [e1] at hq
      have E1 := Lib.hid e1
      have hm1 : m1 ≤ 100000 := by
        have := Nat.mul_le_mul (show qY g k ≤ 300 by omega) hw.1
        omega
      clear e1
      go_wp2_with fail
      refine hq.mono ?_
      clear hq
      rintro e wq ⟨rfl, bq⟩
      have S1 : Hid (QG z W1 wq V (fun i => if i < k then quar g Q i else [])) := Lib.hid (S.out.below bq)
      clear S bq f0 f1 f2 f3
      have hW1 : qW g k ≤ 300 := by omega
      have hH1 : qH g k ≤ 300 := by omega
      obtain ⟨M, hM⟩ : ∃ M, qW g k * qH g k = M := ⟨_, rfl⟩
      have hM2 : M ≤ 90000 := by rw [← hM]; exact Nat.mul_le_mul hW1 hH1
      have hmk := fun u => hmk0' u M (by omega)
      obtain ⟨c1, c2, S2⟩ := S1.out.put (w2 := wq.alloc (Obj.cells (madeCells #[Value.int IntKind.i64 0] M) 3)) (v' := .slice (some ⟨wq.heap.size, 0, none⟩) 0 M) (L := []) ck (World.grownBy_alloc _ _ _)
        (World.ownsRow_made wq (madeCells #[Value.int IntKind.i64 0] M) M (by have := S1.out.zlt; omega) (by unfold maxLen; omega) (by rw [size_madeCells]; omega)) (Or.inr rfl)
      have ck' : (k : Int) < 4 := by omega
      have S3 := Lib.hid (S2.congr (X' := fun i => if i < k then quar g Q i else if i = k then flat (qW g k) 0 (subF (qX g k) (qY g k) Q) else []) (fun i hi => by
        unfold put1
        dsimp only
        by_cases e : i = k
        · subst e; rw [if_pos rfl, if_neg (by omega), if_pos rfl, flat_zero]
        · rw [if_neg e]
          by_cases e2 : i < k
          · rw [if_pos e2, if_pos e2]
          · rw [if_neg e2, if_neg e2, if_neg e]))
      have q0 : wrap64 ((qW g k : Int) * (qH g k : Int)) = (M : Int) := by rw [← hM]; exact wr_mul _ _ (by omega) (by omega)
      clear S1 S2 hM
      go_wp2
      clear c1 c2 q0 hmk
      obtain ⟨V2, hV2⟩ : ∃ V2, put1 V k (Value.slice (some ⟨wq.heap.size, 0, none⟩) 0 M) = V2 := ⟨_, rfl⟩
      rw [hV2] at S3
      clear hV2
      go_loopw [52] (fun yv wr => ∃ (y : Nat) (V : Nat → Value), y ≤ qH g k ∧ yv = .int .i64 (y : Int) ∧ Hid (QG z W1 wr V (fun i => if i < k then quar g Q i else if i = k then flat (qW g k) y (subF (qX g k) (qY g k) Q) else []))) (fun yv _ => qH g k - (intOf yv).toNat)
      case atStart => exact ⟨0, V2, by omega, rfl, S3⟩
      case round =>
        obtain ⟨y, V, hy, rfl, S⟩ := hrel
        clear S3
        by_cases cy : y < qH g k
        · have cy' : (y : Int) < (qH g k : Int) := by omega
          obtain ⟨m2, e2⟩ : ∃ m2, y * g.w = m2 := ⟨_, rfl⟩
          have e1 := E1.out
          obtain ⟨m, e3⟩ : ∃ m, m1 + m2 = m := ⟨_, rfl⟩
          have hmE : m = (qY g k + y) * g.w + qX g k := by rw [← e3, ← e1, ← e2, Nat.add_mul]; omega
          have hle := seg_le (w := g.w) (h := g.h) (a := qX g k) (b := qY g k + y) (wide := qW g k) (by omega) (by omega)
          rw [← hmE] at hle
          obtain ⟨me, e4⟩ : ∃ me, m + qW g k = me := ⟨_, rfl⟩
          rw [e4] at hle
          have hsl := slice_row HPR.out m me (by omega) hle (m : Int) (me : Int) rfl rfl
          rw [show me - m = qW g k from by omega, hmE, flat_seg Q (by omega) (by omega), ← hmE] at hsl
          obtain ⟨SA, cs, hsl, hsr⟩ := hsl
          have HSL := Lib.hid hsl
          have HSR := Lib.hid (hsr.keep S.out.bel (Nat.le_of_eq HZ.out))
          have q5 : IntKind.i64.wrap (me : Int) = (me : Int) := wr_nat (by omega)
          have q2 : wrap64 ((y : Int) * (g.w : Int)) = (m2 : Int) := by rw [← e2]; exact wr_mul _ _ (by omega) (by omega)
          have q3 := sum_cast e3
          have q4 := sum_cast e4
          clear hsl hsr e1 e2 e3 e4 hmE
          go_wp2
          have hY : QG z W1 wr.drew V (fun i => if i < k then quar g Q i else if i = k then flat (qW g k) y (subF (qX g k) (qY g k) Q) else []) := S.out.below (below_drewN (Below.refl _ _) 1)
          have hYr : RowI wr.drew SA (qW g k) cs (ranged (fun x => Q (qX g k + x) (qY g k + y)) (qW g k)) := HSR.out.drew (Drew.mk _ 1)
          obtain ⟨Y, hYe⟩ : ∃ Y, wr.drew = Y := ⟨_, rfl⟩
          have ho := hY.own k ck
          rw [if_neg (Nat.lt_irrefl k), if_pos rfl, flat_len] at ho
          rw [hYe] at hY hYr ho
          have hlen : qW g k * y + qW g k ≤ 1000000 := by
            have := Nat.mul_le_mul hW1 (show y ≤ 300 by omega)
            omega
          obtain ⟨v', w2, hrun, hown', hgr, hob⟩ := app_row ho hYr (by have := hY.zlt; omega) hlen
          obtain ⟨SA2, ca2, rfl, _, _, _⟩ := own_any hown'
          have hobv : (qW g k * y + qW g k) = (flat (qW g k) y (subF (qX g k) (qY g k) Q) ++ ranged (fun x => Q (qX g k + x) (qY g k + y)) (qW g k)).length := by rw [List.length_append, flat_len, ranged_len]
          have hown' : w2.ownsRow (z + 1) 3 1 (.slice SA2 (qW g k * y + qW g k) ca2) (flat (qW g k) y (subF (qX g k) (qY g k) Q) ++ ranged (fun x => Q (qX g k + x) (qY g k + y)) (qW g k)).length ((flat (qW g k) y (subF (qX g k) (qY g k) Q) ++ ranged (fun x => Q (qX g k + x) (qY g k + y)) (qW g k)).map (Value.int .i64)) := by
            rw [← hobv]; exact hown'
          obtain ⟨c1, c2, S5⟩ := hY.put ck hgr hown' hob
          have S6 := Lib.hid (S5.congr (X' := fun i => if i < k then quar g Q i else if i = k then flat (qW g k) (y + 1) (subF (qX g k) (qY g k) Q) else []) (fun i hi => by
            unfold put1
            dsimp only
            by_cases e : i = k
            · subst e; rw [if_pos rfl, if_neg (by omega), if_pos rfl, flat_succ]; rfl
            · rw [if_neg e]
              by_cases e2 : i < k
              · rw [if_pos e2, if_pos e2]
              · rw [if_neg e2, if_neg e2, if_neg e, if_neg e]))
          obtain ⟨c3, c4⟩ := hY.cell ck
          have HRN := Lib.hid hrun
          have ck' : (k : Int) < 4 := by omega
          clear S hY hYr ho hlen hobv hown' hgr hob S5 hrun HSR
          have hlk : qY g k + y < g.h := by omega
          refine (wpIn_wide (n := 9)).1 (regionIn_inv (w := wr) (Inv := fun L a' w' => a' = { tmps := #[.agg #[.int .i64 (g.x : Int), .int .i64 (g.y : Int), .int .i64 ((g.x : Int) + (g.w : Int)), .int .i64 ((g.y : Int) + (g.h : Int))], .slice A (g.w * g.h) c, .pointer (some ⟨w.heap.size, 0, none⟩), undef, .slice none 0 0, .int .i64 (g.w : Int), .int .i64 (g.h : Int), .slice (some ⟨z, 0, none⟩) 4 4, .int .i64 (k : Int), .int .i64 (m1 : Int), .int .i64 ((qW g k : Nat) : Int), .int .i64 ((qH g k : Nat) : Int), .int .i64 (y : Int), .int .i64 (m : Int), .tuple #[.int .i64 (g.w : Int), .int .i64 (g.h : Int)], .agg #[.int .i64 (g.x : Int), .int .i64 (g.y : Int), .int .i64 ((g.x : Int) + (g.w : Int)), .int .i64 ((g.y : Int) + (g.h : Int))], .tuple #[.int .i64 (g.w : Int), .int .i64 (g.h : Int)], .int .i64 (g.w : Int), .int .i64 (g.h : Int), .slice A (g.w * g.h) c, .int .i64 (g.w : Int), .int .i64 (g.h : Int), .int .i64 (g.w : Int), .func (Fn.func 36) #[] #[.pointer (some ⟨w.heap.size, 0, none⟩)], .tuple #[], .slice A (g.w * g.h) c, .int .i64 (g.h : Int), .int .i64 (g.w : Int), .int .i64 (g.w : Int), .func (Fn.func 38) #[] #[.pointer (some ⟨w.heap.size, 0, none⟩)], .tuple #[], .slice (some ⟨z, 0, none⟩) 4 4, .slice (some ⟨z, 0, none⟩) 4 4, .int .i64 4, .int .i64 (k : Int), .bool true, .int .i64 (k : Int), .tuple #[.int .i64 (m1 : Int), .int .i64 ((qW g k : Nat) : Int), .int .i64 ((qH g k : Nat) : Int)], .agg #[.int .i64 (g.x : Int), .int .i64 (g.y : Int), .int .i64 ((g.x : Int) + (g.w : Int)), .int .i64 ((g.y : Int) + (g.h : Int))], .int .i64 (k : Int), .tuple #[.int .i64 (m1 : Int), .int .i64 ((qW g k : Nat) : Int), .int .i64 ((qH g k : Nat) : Int)], .int .i64 (m1 : Int), .int .i64 ((qW g k : Nat) : Int), .int .i64 ((qH g k : Nat) : Int), .slice (some ⟨z, 0, none⟩) 4 4, .int .i64 (k : Int), .int .i64 ((qW g k : Nat) : Int), .int .i64 ((qH g k : Nat) : Int), .int .i64 (wrap64 (((qW g k : Nat) : Int) * ((qH g k : Nat) : Int))), .slice (some ⟨wq.heap.size, 0, none⟩) 0 M, .pointer (some ⟨z, k, none⟩), .int .i64 ((qH g k : Nat) : Int), .int .i64 (y : Int), .bool true, .int .i64 (y : Int), .int .i64 (m1 : Int), .int .i64 (y : Int), .int .i64 (g.w : Int), .int .i64 (wrap64 ((y : Int) * (g.w : Int))), .int .i64 (m : Int), bif L 0 then .slice (some ⟨z, 0, none⟩) 4 4 else u60, bif L 1 then .int .i64 (k : Int) else u61, bif L 2 then .slice (some ⟨z, 0, none⟩) 4 4 else u62, bif L 3 then .int .i64 (k : Int) else u63, bif L 4 then .pointer (some ⟨z, k, none⟩) else u64, bif L 5 then V k else u65, bif L 6 then .slice A (g.w * g.h) c else u66, bif L 7 then .int .i64 (m : Int) else u67, bif L 8 then .int .i64 (m : Int) else u68, bif L 9 then .int .i64 (qW g k : Int) else u69, bif L 10 then .int .i64 (me : Int) else u70, bif L 11 then .slice SA (qW g k) cs else u71, bif L 12 then (.slice SA2 (qW g k * y + qW g k) ca2) else u72, bif L 13 then .pointer (some ⟨z, k, none⟩) else u73, u74, u75, undef], defers := [] } ∧ (bif L 14 then (w' = w2.setCell ⟨z, k, none⟩ (.slice SA2 (qW g k * y + qW g k) ca2)) else (bif L 12 then (w' = w2) else w' = Y))) (by kernel_rfl) (by kernel_rfl) ?start ?step ?fin)
          case start => exact ⟨rfl, hYe⟩
          case step =>
            intro i hi L a' w' hI hs hu
            obtain ⟨rfl, hph⟩ := hI
            have hL := hu.1
            have hi : i < 15 := hi
            obtain rfl | rfl | rfl | rfl | rfl | rfl | rfl | rfl | rfl | rfl | rfl | rfl | rfl | rfl | rfl := (by omega : i = 0 ∨ i = 1 ∨ i = 2 ∨ i = 3 ∨ i = 4 ∨ i = 5 ∨ i = 6 ∨ i = 7 ∨ i = 8 ∨ i = 9 ∨ i = 10 ∨ i = 11 ∨ i = 12 ∨ i = 13 ∨ i = 14)
            · skip
              have n14 : L 14 = false := not_yet hL fun h => shut_at hs 14 0 (by kernel_rfl) (h)
              refine opIn_run (v := .slice (some ⟨z, 0, none⟩) 4 4) (w' := _) rfl rfl (fun c h => by cases h) (fun _ => trivial) ?_ ⟨by simp [Act.put, upd, n14, hL], by simpa [upd] using hph⟩
              simp only [n14, hL, cond_true, cond_false]
              go_simp
            · skip
              have n14 : L 14 = false := not_yet hL fun h => shut_at hs 14 1 (by kernel_rfl) (h)
              refine opIn_run (v := .int .i64 (k : Int)) (w' := _) rfl rfl (fun c h => by cases h) (fun _ => trivial) ?_ ⟨by simp [Act.put, upd, n14, hL], by simpa [upd] using hph⟩
              simp only [n14, hL, cond_true, cond_false]
              go_simp
            · skip
              have n12 : L 12 = false := not_yet hL fun h => shut_at hs 4 2 (by kernel_rfl) (shut_at hs 5 4 (by kernel_rfl) (shut_at hs 12 5 (by kernel_rfl) (h)))
              have n14 : L 14 = false := not_yet hL fun h => shut_at hs 14 2 (by kernel_rfl) (h)
              refine opIn_run (v := .slice (some ⟨z, 0, none⟩) 4 4) (w' := _) rfl rfl (fun c h => by cases h) (fun _ => trivial) ?_ ⟨by simp [Act.put, upd, n12, n14, hL], by simpa [upd] using hph⟩
              simp only [n12, n14, hL, cond_true, cond_false]
              go_simp
            · skip
              have n12 : L 12 = false := not_yet hL fun h => shut_at hs 4 3 (by kernel_rfl) (shut_at hs 5 4 (by kernel_rfl) (shut_at hs 12 5 (by kernel_rfl) (h)))
              have n14 : L 14 = false := not_yet hL fun h => shut_at hs 14 3 (by kernel_rfl) (h)
              refine opIn_run (v := .int .i64 (k : Int)) (w' := _) rfl rfl (fun c h => by cases h) (fun _ => trivial) ?_ ⟨by simp [Act.put, upd, n12, n14, hL], by simpa [upd] using hph⟩
              simp only [n12, n14, hL, cond_true, cond_false]
              go_simp
            · skip
              have y2 : L 2 = true := up_at hu 2 (by kernel_rfl)
              have y3 : L 3 = true := up_at hu 3 (by kernel_rfl)
              have n12 : L 12 = false := not_yet hL fun h => shut_at hs 5 4 (by kernel_rfl) (shut_at hs 12 5 (by kernel_rfl) (h))
              have n14 : L 14 = false := not_yet hL fun h => shut_at hs 14 4 (by kernel_rfl) (h)
              refine opIn_run (v := .pointer (some ⟨z, k, none⟩)) (w' := _) rfl rfl (fun c h => by cases h) (fun _ => trivial) ?_ ⟨by simp [Act.put, upd, y2, y3, n12, n14, hL], by simpa [upd] using hph⟩
              simp only [y2, y3, n12, n14, hL, cond_true, cond_false]
              go_simp
            · skip
              have y2 : L 2 = true := shut_at hs 4 2 (by kernel_rfl) (up_at hu 4 (by kernel_rfl))
              have y3 : L 3 = true := shut_at hs 4 3 (by kernel_rfl) (up_at hu 4 (by kernel_rfl))
              have y4 : L 4 = true := up_at hu 4 (by kernel_rfl)
              have n12 : L 12 = false := not_yet hL fun h => shut_at hs 12 5 (by kernel_rfl) (h)
              have n14 : L 14 = false := not_yet hL fun h => shut_at hs 14 5 (by kernel_rfl) (h)
              simp only [y2, y3, y4, n12, n14, hL, cond_true, cond_false] at hph
              have hph := hph.symm
              subst hph
              refine opIn_run (v := V k) (w' := Y) rfl rfl (fun c h => by cases h) (fun _ => trivial) ?_ ⟨by simp [Act.put, upd, y2, y3, y4, n12, n14, hL], by simp [upd, y2, y3, y4, n12, n14, hL]⟩
              simp only [y2, y3, y4, n12, n14, hL, cond_true, cond_false]
              go_simp
            · skip
              have n12 : L 12 = false := not_yet hL fun h => shut_at hs 11 6 (by kernel_rfl) (shut_at hs 12 11 (by kernel_rfl) (h))
              have n14 : L 14 = false := not_yet hL fun h => shut_at hs 14 6 (by kernel_rfl) (h)
              refine opIn_run (v := .slice A (g.w * g.h) c) (w' := _) rfl rfl (fun c h => by cases h) (fun _ => trivial) ?_ ⟨by simp [Act.put, upd, n12, n14, hL], by simpa [upd] using hph⟩
              simp only [n12, n14, hL, cond_true, cond_false]
              go_simp
            · skip
              have n12 : L 12 = false := not_yet hL fun h => shut_at hs 11 7 (by kernel_rfl) (shut_at hs 12 11 (by kernel_rfl) (h))
              have n14 : L 14 = false := not_yet hL fun h => shut_at hs 14 7 (by kernel_rfl) (h)
              refine opIn_run (v := .int .i64 (m : Int)) (w' := _) rfl rfl (fun c h => by cases h) (fun _ => trivial) ?_ ⟨by simp [Act.put, upd, n12, n14, hL], by simpa [upd] using hph⟩
              simp only [n12, n14, hL, cond_true, cond_false]
              go_simp
            · skip
              have n12 : L 12 = false := not_yet hL fun h => shut_at hs 10 8 (by kernel_rfl) (shut_at hs 11 10 (by kernel_rfl) (shut_at hs 12 11 (by kernel_rfl) (h)))
              have n14 : L 14 = false := not_yet hL fun h => shut_at hs 14 8 (by kernel_rfl) (h)
              refine opIn_run (v := .int .i64 (m : Int)) (w' := _) rfl rfl (fun c h => by cases h) (fun _ => trivial) ?_ ⟨by simp [Act.put, upd, n12, n14, hL], by simpa [upd] using hph⟩
              simp only [n12, n14, hL, cond_true, cond_false]
              go_simp
            · skip
              have n12 : L 12 = false := not_yet hL fun h => shut_at hs 10 9 (by kernel_rfl) (shut_at hs 11 10 (by kernel_rfl) (shut_at hs 12 11 (by kernel_rfl) (h)))
              have n14 : L 14 = false := not_yet hL fun h => shut_at hs 14 9 (by kernel_rfl) (h)
              refine opIn_run (v := .int .i64 (qW g k : Int)) (w' := _) rfl rfl (fun c h => by cases h) (fun _ => trivial) ?_ ⟨by simp [Act.put, upd, n12, n14, hL], by simpa [upd] using hph⟩
              simp only [n12, n14, hL, cond_true, cond_false]
              go_simp
            · skip
              have y8 : L 8 = true := up_at hu 8 (by kernel_rfl)
              have y9 : L 9 = true := up_at hu 9 (by kernel_rfl)
              have n12 : L 12 = false := not_yet hL fun h => shut_at hs 11 10 (by kernel_rfl) (shut_at hs 12 11 (by kernel_rfl) (h))
              have n14 : L 14 = false := not_yet hL fun h => shut_at hs 14 10 (by kernel_rfl) (h)
              refine opIn_run (v := .int .i64 (me : Int)) (w' := _) rfl rfl (fun c h => by cases h) (fun _ => trivial) ?_ ⟨by simp [Act.put, upd, y8, y9, n12, n14, hL], by simpa [upd] using hph⟩
              simp only [y8, y9, n12, n14, hL, cond_true, cond_false]
              go_simp
            · skip
              have y6 : L 6 = true := up_at hu 6 (by kernel_rfl)
              have y7 : L 7 = true := up_at hu 7 (by kernel_rfl)
              have y8 : L 8 = true := shut_at hs 10 8 (by kernel_rfl) (up_at hu 10 (by kernel_rfl))
              have y9 : L 9 = true := shut_at hs 10 9 (by kernel_rfl) (up_at hu 10 (by kernel_rfl))
              have y10 : L 10 = true := up_at hu 10 (by kernel_rfl)
              have n12 : L 12 = false := not_yet hL fun h => shut_at hs 12 11 (by kernel_rfl) (h)
              have n14 : L 14 = false := not_yet hL fun h => shut_at hs 14 11 (by kernel_rfl) (h)
              simp only [y6, y7, y8, y9, y10, n12, n14, hL, cond_true, cond_false] at hph
              have hph := hph.symm
              subst hph
              have hsl := HSL.out Y
              refine opIn_run (v := .slice SA (qW g k) cs) (w' := Y) rfl rfl (fun c h => by cases h) (fun _ => trivial) ?_ ⟨by simp [Act.put, upd, y6, y7, y8, y9, y10, n12, n14, hL], by simp [upd, y6, y7, y8, y9, y10, n12, n14, hL]⟩
              simp only [y6, y7, y8, y9, y10, n12, n14, hL, cond_true, cond_false]
              go_simp
            · skip
              have y2 : L 2 = true := shut_at hs 4 2 (by kernel_rfl) (shut_at hs 5 4 (by kernel_rfl) (up_at hu 5 (by kernel_rfl)))
              have y3 : L 3 = true := shut_at hs 4 3 (by kernel_rfl) (shut_at hs 5 4 (by kernel_rfl) (up_at hu 5 (by kernel_rfl)))
              have y4 : L 4 = true := shut_at hs 5 4 (by kernel_rfl) (up_at hu 5 (by kernel_rfl))
              have y5 : L 5 = true := up_at hu 5 (by kernel_rfl)
              have y6 : L 6 = true := shut_at hs 11 6 (by kernel_rfl) (up_at hu 11 (by kernel_rfl))
              have y7 : L 7 = true := shut_at hs 11 7 (by kernel_rfl) (up_at hu 11 (by kernel_rfl))
              have y8 : L 8 = true := shut_at hs 10 8 (by kernel_rfl) (shut_at hs 11 10 (by kernel_rfl) (up_at hu 11 (by kernel_rfl)))
              have y9 : L 9 = true := shut_at hs 10 9 (by kernel_rfl) (shut_at hs 11 10 (by kernel_rfl) (up_at hu 11 (by kernel_rfl)))
              have y10 : L 10 = true := shut_at hs 11 10 (by kernel_rfl) (up_at hu 11 (by kernel_rfl))
              have y11 : L 11 = true := up_at hu 11 (by kernel_rfl)
              have n14 : L 14 = false := not_yet hL fun h => shut_at hs 14 12 (by kernel_rfl) (h)
              simp only [y2, y3, y4, y5, y6, y7, y8, y9, y10, y11, n14, hL, cond_true, cond_false] at hph
              have hph := hph.symm
              subst hph
              refine opIn_run (v := (.slice SA2 (qW g k * y + qW g k) ca2)) (w' := w2) rfl rfl (fun c h => by cases h) (fun _ => trivial) ?_ ⟨by simp [Act.put, upd, y2, y3, y4, y5, y6, y7, y8, y9, y10, y11, n14, hL], by simp [upd, y2, y3, y4, y5, y6, y7, y8, y9, y10, y11, n14, hL]⟩
              simp only [y2, y3, y4, y5, y6, y7, y8, y9, y10, y11, n14, hL, cond_true, cond_false]
              have hr := HRN.out
              go_simp
            · skip
              have y0 : L 0 = true := up_at hu 0 (by kernel_rfl)
              have y1 : L 1 = true := up_at hu 1 (by kernel_rfl)
              have y2 : L 2 = true := up_at hu 2 (by kernel_rfl)
              have y3 : L 3 = true := up_at hu 3 (by kernel_rfl)
              have y4 : L 4 = true := up_at hu 4 (by kernel_rfl)
              have y5 : L 5 = true := up_at hu 5 (by kernel_rfl)
              have y6 : L 6 = true := up_at hu 6 (by kernel_rfl)
              have y7 : L 7 = true := up_at hu 7 (by kernel_rfl)
              have y8 : L 8 = true := up_at hu 8 (by kernel_rfl)
              have y9 : L 9 = true := up_at hu 9 (by kernel_rfl)
              have y10 : L 10 = true := up_at hu 10 (by kernel_rfl)
              have y11 : L 11 = true := up_at hu 11 (by kernel_rfl)
              have y12 : L 12 = true := up_at hu 12 (by kernel_rfl)
              have n14 : L 14 = false := not_yet hL fun h => shut_at hs 14 13 (by kernel_rfl) (h)
              refine opIn_run (v := .pointer (some ⟨z, k, none⟩)) (w' := _) rfl rfl (fun c h => by cases h) (fun _ => trivial) ?_ ⟨by simp [Act.put, upd, y0, y1, y2, y3, y4, y5, y6, y7, y8, y9, y10, y11, y12, n14, hL], by simpa [upd] using hph⟩
              simp only [y0, y1, y2, y3, y4, y5, y6, y7, y8, y9, y10, y11, y12, n14, hL, cond_true, cond_false]
              go_simp
            · skip
              have y0 : L 0 = true := up_at hu 0 (by kernel_rfl)
              have y1 : L 1 = true := up_at hu 1 (by kernel_rfl)
              have y2 : L 2 = true := up_at hu 2 (by kernel_rfl)
              have y3 : L 3 = true := up_at hu 3 (by kernel_rfl)
              have y4 : L 4 = true := up_at hu 4 (by kernel_rfl)
              have y5 : L 5 = true := up_at hu 5 (by kernel_rfl)
              have y6 : L 6 = true := up_at hu 6 (by kernel_rfl)
              have y7 : L 7 = true := up_at hu 7 (by kernel_rfl)
              have y8 : L 8 = true := up_at hu 8 (by kernel_rfl)
              have y9 : L 9 = true := up_at hu 9 (by kernel_rfl)
              have y10 : L 10 = true := up_at hu 10 (by kernel_rfl)
              have y11 : L 11 = true := up_at hu 11 (by kernel_rfl)
              have y12 : L 12 = true := up_at hu 12 (by kernel_rfl)
              have y13 : L 13 = true := up_at hu 13 (by kernel_rfl)
              simp only [y0, y1, y2, y3, y4, y5, y6, y7, y8, y9, y10, y11, y12, y13, hL, cond_true, cond_false] at hph
              have hph := hph.symm
              subst hph
              refine opIn_skip (w' := w2.setCell ⟨z, k, none⟩ (.slice SA2 (qW g k * y + qW g k) ca2)) rfl rfl (fun c h => by cases h) (fun _ => trivial) ?_ ⟨by simp [Act.put, upd, y0, y1, y2, y3, y4, y5, y6, y7, y8, y9, y10, y11, y12, y13, hL], by simp [upd, y0, y1, y2, y3, y4, y5, y6, y7, y8, y9, y10, y11, y12, y13, hL]⟩
              simp only [y0, y1, y2, y3, y4, y5, y6, y7, y8, y9, y10, y11, y12, y13, hL, cond_true, cond_false]
              go_simp
          case fin =>
            intro L a' w' hall hI
            obtain ⟨rfl, hph⟩ := hI
            have l0 := hall 0 (by decide)
            have l1 := hall 1 (by decide)
            have l2 := hall 2 (by decide)
            have l3 := hall 3 (by decide)
            have l4 := hall 4 (by decide)
            have l5 := hall 5 (by decide)
            have l6 := hall 6 (by decide)
            have l7 := hall 7 (by decide)
            have l8 := hall 8 (by decide)
            have l9 := hall 9 (by decide)
            have l10 := hall 10 (by decide)
            have l11 := hall 11 (by decide)
            have l12 := hall 12 (by decide)
            have l13 := hall 13 (by decide)
            have l14 := hall 14 (by decide)
            simp only [l0, l1, l2, l3, l4, l5, l6, l7, l8, l9, l10, l11, l12, l13, l14, cond_true] at hph ⊢
            have hph := hph.symm
            subst hph
            clear l0 l1 l2 l3 l4 l5 l6 l7 l8 l9 l10 l11 l12 l13 l14 hall
            clear q2 q3 q4 q5
            go_wp2
            exact ⟨⟨_, _, _, ⟨y + 1, by omega, rfl, _, S6⟩, rfl, rfl, by go_num⟩, by simp [intOf]; omega⟩
        · skip
          -- ELSE
          obtain rfl : y = qH g k := by omega
          have S4 := Lib.hid (S.out.congr (X' := fun i => if i < k + 1 then quar g Q i else []) (fun i hi => by
            by_cases e : i = k
            · subst e; rw [if_neg (by omega), if_pos rfl, if_pos (by omega)]; rfl
            · by_cases e2 : i < k
              · rw [if_pos e2, if_pos (by omega)]
              · rw [if_neg e2, if_neg e, if_neg (by omega)]))
          clear S
          go_wp2
          go_roundw
          case rel => exact ⟨k + 1, V, by omega, by go_num, S4⟩
          case measure => simp [intOf]; omega
    · obtain rfl : 4 = k := by omega
      have S2 : Hid (QG z W1 wr V (quar g Q)) := Lib.hid (S.out.congr fun i hi => if_pos hi)
      clear S
      go_wp2
      go_ret
      exact ⟨z, W1, V, rfl, by rw [HQE.out]; exact S2.out, HGW.out⟩
end Go.Proofs.Ytgadebfelomhpaa
