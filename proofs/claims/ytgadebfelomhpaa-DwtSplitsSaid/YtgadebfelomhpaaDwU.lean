/- Split of package dwt, by its contract. -/
import Derived.Test.YtgadebfelomhpaaDwT
set_option linter.unusedVariables false
set_option linter.unusedSimpArgs false
namespace Go.Proofs.Ytgadebfelomhpaa
open Go.RowKit

theorem Try.info24 : (Try.prog.info? 24).map (fun i => (i.zero, i.size, i.bytes)) = some (some (.slice none 0 0), 1, 24) := by kernel_rfl
theorem Try.info30 : (Try.prog.info? 30).map (fun i => (i.zero, i.size, i.bytes)) = some (some (.slice none 0 0), 1, 24) := by kernel_rfl
theorem hmk3 (u : World) (q : Nat) (hq : q ≤ 1000) : (Instr.makeSlice 46 (.int .i64 0) (.int .i64 (q : Int))).run Try.prog u = .ok (.slice (some ⟨u.heap.size, 0, none⟩) 0 q) (u.alloc (.cells (madeCells #[.slice none 0 0] q) 30)) := by
  obtain ⟨i, hi, hzz⟩ := Option.map_eq_some_iff.1 Try.info30
  simp only [Prod.mk.injEq] at hzz
  obtain ⟨hz, hs, hb⟩ := hzz
  have hr := run_make (P := Try.prog) u 46 30 i (.slice none 0 0) Try.underlying46 hi hz .i64 .i64 0 q (Int.le_refl _) (by omega) (by rw [hb]; omega) (by omega)
  simp only [Int.toNat_zero, Int.toNat_natCast, hs, Nat.mul_one] at hr
  exact hr
theorem SpW.start {w w1 : World} {g : Geo} {P : Nat → Nat → Int} {A : Option Addr} {c b0 : Nat} (n : Nat) (hb : Below w.heap.size w w1) (hbox : RB w1 b0 g) (hb0 : w.heap.size ≤ b0) (ho : PlO (b0 + 1) w1 A c g P) (hn : n ≤ 1000) :
    SpW w.heap.size b0 w (w1.alloc (.cells (madeCells #[.slice none 0 0] n) 30)) g P 0 (.slice A (g.w * g.h) c) (.slice (some ⟨w1.heap.size, 0, none⟩) 0 n) (fun _ => 0) (fun _ => False) := by
  have hl := hbox.lt
  have hpb : ∀ b, (Value.slice A (g.w * g.h) c).ownBlock = some b → b0 + 1 ≤ b ∧ b < w1.heap.size := fun b e => own_lt ho e
  have hsb : ∀ b, (Value.slice (some ⟨w1.heap.size, 0, none⟩) 0 n).ownBlock = some b → b = w1.heap.size := fun b e => by
    simp [Value.ownBlock] at e; omega
  refine ⟨hb.alloc hb.size _, Nat.le_refl _, (Below.heap_alloc w1 _ b0 hl).trans hbox, hb0, ⟨A, c, rfl, (RowO.lower (lo' := w.heap.size) ho (by omega)).alloc _⟩, ?_, ?_, ?_, ?_, ?_, ?_⟩
  · exact World.ownsRow_made w1 (madeCells #[.slice none 0 0] n) n hb.size (by unfold maxLen; omega) (by rw [size_madeCells]; omega)
  · intro i hi; omega
  · intro b hb; cases hb
  · intro e; have := hpb b0 e; omega
  · intro e; have := hsb b0 e; omega
  · intro b e e2
    have := hpb b e
    have := hsb b e2
    omega

set_option maxHeartbeats 8000000 in
set_option maxRecDepth 100000 in
set_option pp.deepTerms true in
set_option pp.maxSteps 10000000 in
theorem dsplit_F (g : Geo) (P : Nat → Nat → Int) (K0 : Int) (n : Nat) (A : Option Addr) (c : Nat) (w : World) (hw : g.w ≤ 300 ∧ g.h ≤ 300) (hwh : g.w * g.h ≤ 1000) (hx : g.x ≤ 90000 ∧ g.y ≤ 90000) (hn : n ≤ 5) (hK0 : 0 ≤ K0) (hKn : ∀ k, k < n → bdG K0 k ≤ 500000000) (hbd : Bd K0 g.w g.h P) (hrow : RowI w A (g.w * g.h) c (flat g.w g.h P)) :
    Calls Try.prog 15 #[rectV g, .int .i64 (n : Int), .slice A (g.w * g.h) c] w fun e w' => ∃ A' c', e = .returned (.slice A' (3 * n + 1) c') ∧ RowsI w' A' (3 * n + 1) c' (bandsL g P n) ∧ (∀ b o, A' = some ⟨b, o, none⟩ → w.heap.size ≤ b) ∧ Below w.heap.size w w' := by
  have HB := Lib.hid hbd
  have HKN := Lib.hid hKn
  clear hKn
  have HRW := Lib.hid hrow
  have HAL := Lib.hid (fun W => allowed_any g n W (by omega) hx hn)
  have HAR := Lib.hid (fun W => area_any g W (by omega) (by omega))
  obtain ⟨a0, a1, a2, a3, hR⟩ := rect_open g
  have HR := Lib.hid hR
  have hmk := fun u => hmk3 u n (by omega)
  rw [hR] at HAL HAR ⊢
  clear hR hrow hbd
  have HB0 : Hid (Below w.heap.size w (w.alloc (Obj.cells #[.int .i64 a0, .int .i64 a1, .int .i64 a2, .int .i64 a3] 23))) := Lib.hid ((Below.refl _ w).alloc (Nat.le_refl _) _)
  have HX0 := Lib.hid (RA.new w a0 a1 a2 a3)
  have heq : (((g.w * g.h : Nat) : Int) != ((g.w * g.h : Nat) : Int)) = false := bne_self_eq_false _
  obtain ⟨N, hN⟩ : ∃ N, g.w * g.h = N := ⟨_, rfl⟩
  rw [hN] at heq HAR HRW hwh ⊢
  have HN := Lib.hid hN
  clear hN
  go_enter Try.func15, Try.ntmps15
  go_wp2_with fail
  refine (HAL.out _).mono ?_
  rintro e w1 ⟨rfl, b1⟩
  have HX1 := Lib.hid (HX0.out.keep b1 HX0.out.lt)
  have HB1 := Lib.hid (HB0.out.trans (b1.mono HB0.out.size))
  obtain ⟨f0, f1, f2, f3, _⟩ := HX1.out.cells
  clear HX0 HB0 b1 HAL
  go_wp2_with fail
  refine (HAR.out _).mono ?_
  rintro e w2 ⟨rfl, b2⟩
  have HX2 := Lib.hid (HX1.out.keep b2 HX1.out.lt)
  have HB2 := Lib.hid (HB1.out.trans (b2.mono HB1.out.size))
  clear f0 f1 f2 f3 HX1 HB1 b2 HAR
  go_wp2_with fail
  refine (clone_int (HRW.out.keep HB2.out (Nat.le_refl _)) hwh).mono ?_
  rintro e w3 ⟨v, rfl, hown, b3⟩
  obtain ⟨Ap, cp, rfl, _, _, _⟩ := own_any hown
  have HX3 := Lib.hid (HX2.out.keep b3 HX2.out.lt)
  have HB3 := Lib.hid (HB2.out.trans (b3.mono HB2.out.size))
  have HOW : Hid (PlO (w.heap.size + 1) w3 Ap cp g P) := Lib.hid (by
    unfold PlO
    rw [HN.out]
    exact RowO.lower hown (by have := HX2.out.lt; omega))
  clear HX2 HB2 b3 hown HRW heq
  go_wp2_with fail
  have hS0 := SpW.start (b0 := w.heap.size) n HB3.out (HX3.out.rb HR.out) (Nat.le_refl _) HOW.out (by omega)
  rw [HN.out] at hS0
  have HS0 := Lib.hid hS0
  clear hmk hS0 HOW HX3 HB3
  generalize (w3.alloc (Obj.cells (madeCells #[Value.slice none 0 0] n) 30)) = W4 at *
  obtain ⟨i1, hi1, hz0, hz1, hz2⟩ := info_parts Try.info30
  go_loopw [7, 8, 28] (fun pv sv kv wr => ∃ (k : Nat) (zs : Nat → Nat) (H : Nat → Prop), k ≤ n ∧ kv = .int .i64 (k : Int) ∧ Hid (SpW w.heap.size w.heap.size w wr g P k pv sv zs H)) (fun _ _ kv _ => n - (intOf kv).toNat)
  case atStart => exact ⟨0, fun _ => 0, fun _ => False, by omega, rfl, HS0⟩
  case round =>
    obtain ⟨k, zs, H, hk, rfl, S⟩ := hrel
    clear HS0
    by_cases ck : k < n
    · have ck' : (k : Int) < (n : Int) := by omega
      obtain ⟨r0, r1, r2, r3, hr⟩ := rect_open (itG g k)
      obtain ⟨h0, h1, h2, h3, hh⟩ := rect_open (itG g (k + 1))
      obtain ⟨f0, f1, f2, f3, _⟩ := (S.out.box.ra hr).cells
      obtain ⟨A2, c2, hpv2, hp⟩ := S.out.pl
      have hsz := itG_le g k
      have hxx := itG_x g k
      have hst := split_step (itG g k) (itP g P k) (bdG K0 k) A2 c2 w.heap.size wr (by omega) (by omega) ⟨bdG_pos hK0 k, HKN.out k ck⟩ (itP_bdG hK0 HB.out k) hp
      rw [hr, ← hpv2] at hst
      have HST := Lib.hid hst
      have HR1 := Lib.hid hr
      have HH := Lib.hid hh
      clear hst hp hr hh hpv2
      obtain ⟨wo, rfl⟩ : ∃ wo : World, wo = wr := ⟨_, rfl⟩
      go_wp2_with fail
      refine HST.out.mono ?_
      rintro e w4 ⟨z, W1, V, rfl, hq, hg⟩
      obtain ⟨hst4, hbx4, hlo4⟩ := S.out.st1 hq hg
      have HQ := Lib.hid hq
      have HG := Lib.hid hg
      have HBX := Lib.hid hbx4
      have HS4 := Lib.hid hst4
      clear hq hg hst4 hbx4 HST f0 f1 f2 f3
      go_wp2_with (at_builtin; refine wpList_append_own_at _ rfl _ _ 46 rfl w.heap.size 30 i1 (.slice none 0 0) 1 24 Try.underlying46 hi1 hz0 hz1 hz2 rfl (by decide) _ _ _ rfl (HS4.out.alloc _) ⟨w4.heap.size, 0, none⟩ 1 1 [.slice (some ⟨z, 1, none⟩) 3 3] rfl rfl (cell_one_new _ _ _) (by simp [Value.oneCell']) (by unfold maxLen; omega) (by omega) (by simp; omega) ?_; intro sv' w5 hown5 hgr5 _ hat5)
      -- PRE
      have hat5 : sv'.ownBlock = u8.ownBlock ∨ sv'.ownBlock = some (w4.alloc (Obj.cells #[Value.slice (some ⟨z, 1, none⟩) 3 3] 30)).heap.size := hat5
      have hgr5 : (w4.alloc (Obj.cells #[Value.slice (some ⟨z, 1, none⟩) 3 3] 30)).grownBy w5 u8.ownBlock := hgr5
      have HGR := Lib.hid hgr5
      have HOWN := Lib.hid hown5
      have hcz := (HQ.out.cell (k := 0) (by omega)).1
      have hzl := HQ.out.zlt
      have hz4 : z < (w4.alloc (Obj.cells #[Value.slice (some ⟨z, 1, none⟩) 3 3] 30)).heap.size := by simp; omega
      have hb4 : w.heap.size < w4.heap.size := HBX.out.lt
      have HV5 : Hid (w5.cell? ⟨z, 0, none⟩ = some (V 0)) := Lib.hid ((HGR.out.cell (a := ⟨z, 0, none⟩) ((World.cell?_alloc_past _ _ _ hzl).trans hcz) (fun e => by
        have := own_lt HS4.out e.symm
        have := own_lt S.out.st e.symm
        have h2 : wo.heap.size ≤ z := by rw [← HQ.out.siz]; exact HG.out.size
        simp only at this
        omega)))
      have HX5 : Hid (RA w5 w.heap.size r0 r1 r2 r3) := Lib.hid ((HGR.out.block w.heap.size (by simp; omega) (fun e => S.out.sb e.symm)).trans ((Below.heap_alloc w4 _ _ hb4).trans (HBX.out.ra HR1.out)))
      have hz5 : z < w5.heap.size := Nat.lt_of_lt_of_le hz4 HGR.out.size
      have HHF : Hid (∀ W, Calls Try.prog 25 #[.agg #[.int .i64 r0, .int .i64 r1, .int .i64 r2, .int .i64 r3]] W fun e w' => e = .returned (.agg #[.int .i64 h0, .int .i64 h1, .int .i64 h2, .int .i64 h3]) ∧ Below W.heap.size W w') := Lib.hid (fun W => by
        have hf := half_any (itG g k) W (by omega) (by omega)
        rw [HR1.out, show rectV (itG g k).half = _ from HH.out] at hf
        exact hf)
      have HXY : Hid (RA w5.drew w.heap.size r0 r1 r2 r3) := HX5
      have HVZ : Hid (w5.drew.cell? ⟨z, 0, none⟩ = some (V 0)) := HV5
      have hYs : w5.drew.heap.size = w5.heap.size := rfl
      have hzY : z < w5.drew.heap.size := hz5
      have HYB : Hid (Below w5.heap.size w5 w5.drew) := Lib.hid (below_drewN (Below.refl _ _) 1)
      clear HS4 hgr5 hown5 hcz hzl hz4 hb4 HV5 HX5 hz5
      obtain ⟨Y, hYe⟩ : ∃ Y, w5.drew = Y := ⟨_, rfl⟩
      rw [hYe] at HXY HVZ hYs hzY HYB
      have HYE := Lib.hid hYe
      clear hYe
      refine (wpIn_wide (n := 9)).1 (regionIn_inv (w := w5) (Inv := fun L a' w' => a' = { tmps := #[.agg #[.int .i64 a0, .int .i64 a1, .int .i64 a2, .int .i64 a3], .int .i64 (n : Int), .slice A N c, .pointer (some ⟨w.heap.size, 0, none⟩), undef, undef, .slice none 0 0, bif L 5 then V 0 else u7, sv', .slice (some ⟨z, 0, none⟩) 4 4, undef, undef, .agg #[.int .i64 a0, .int .i64 a1, .int .i64 a2, .int .i64 a3], .int .i64 (n : Int), .bool true, .bool false, .bool false, .slice A N c, .int .i64 (N : Int), .agg #[.int .i64 a0, .int .i64 a1, .int .i64 a2, .int .i64 a3], .int .i64 (N : Int), .bool false, .bool false, .slice A N c, .slice Ap N cp, .int .i64 (n : Int), .slice (some ⟨w3.heap.size, 0, none⟩) 0 n, .int .i64 (n : Int), .int .i64 (k : Int), .bool true, .agg #[.int .i64 r0, .int .i64 r1, .int .i64 r2, .int .i64 r3], u7, .slice (some ⟨z, 0, none⟩) 4 4, u8, .slice (some ⟨z, 0, none⟩) 4 4, .slice (some ⟨z, 1, none⟩) 3 3, .slice (some ⟨w4.heap.size, 0, none⟩) 1 1, sv', bif L 0 then .slice (some ⟨z, 0, none⟩) 4 4 else u38, bif L 1 then .pointer (some ⟨z, 0, none⟩) else u39, bif L 2 then V 0 else u40, bif L 3 then .agg #[.int .i64 r0, .int .i64 r1, .int .i64 r2, .int .i64 r3] else u41, bif L 4 then .agg #[.int .i64 h0, .int .i64 h1, .int .i64 h2, .int .i64 h3] else u42, u43, undef, undef, undef, undef, undef, undef, undef, undef, undef, undef, undef, undef, undef, undef, undef, undef, undef], defers := [] } ∧ (bif L 6 then (∃ u, Below Y.heap.size Y u ∧ w' = setRect u w.heap.size h0 h1 h2 h3) else Below Y.heap.size Y w')) (by kernel_rfl) (by kernel_rfl) ?start ?step ?fin)
      case start => exact ⟨rfl, (by rw [HYE.out]; exact Below.refl _ _ : Below Y.heap.size Y w5.drew)⟩
      case step =>
        intro i hi L a' w' hI hs hu
        obtain ⟨rfl, hph⟩ := hI
        have hL := hu.1
        have hi : i < 7 := hi
        obtain rfl | rfl | rfl | rfl | rfl | rfl | rfl := (by omega : i = 0 ∨ i = 1 ∨ i = 2 ∨ i = 3 ∨ i = 4 ∨ i = 5 ∨ i = 6)
        · skip
          have n6 : L 6 = false := not_yet hL fun h => shut_at hs 6 0 (by kernel_rfl) (h)
          refine opIn_run (v := .slice (some ⟨z, 0, none⟩) 4 4) (w' := w') rfl rfl (fun c h => by cases h) (fun _ => trivial) ?_ ⟨by simp [Act.put, upd, n6, hL], by simpa [upd] using hph⟩
          simp only [n6, hL, cond_true, cond_false]
          go_simp
        · skip
          have y0 : L 0 = true := up_at hu 0 (by kernel_rfl)
          have n6 : L 6 = false := not_yet hL fun h => shut_at hs 6 1 (by kernel_rfl) (h)
          refine opIn_run (v := .pointer (some ⟨z, 0, none⟩)) (w' := w') rfl rfl (fun c h => by cases h) (fun _ => trivial) ?_ ⟨by simp [Act.put, upd, y0, n6, hL], by simpa [upd] using hph⟩
          simp only [y0, n6, hL, cond_true, cond_false]
          go_simp
        · skip
          have y0 : L 0 = true := shut_at hs 1 0 (by kernel_rfl) (up_at hu 1 (by kernel_rfl))
          have y1 : L 1 = true := up_at hu 1 (by kernel_rfl)
          have n6 : L 6 = false := not_yet hL fun h => shut_at hs 6 2 (by kernel_rfl) (h)
          simp only [y0, y1, n6, hL, cond_true, cond_false] at hph
          have k0 := (hph.cell (p := ⟨z, 0, none⟩) hzY).trans HVZ.out
          refine opIn_run (v := V 0) (w' := w') rfl rfl (fun c h => by cases h) (fun _ => trivial) ?_ ⟨by simp [Act.put, upd, y0, y1, n6, hL], by simp only [upd, y0, y1, n6, hL]; exact hph⟩
          simp only [y0, y1, n6, hL, cond_true, cond_false]
          go_simp
        · skip
          have n6 : L 6 = false := not_yet hL fun h => shut_at hs 6 3 (by kernel_rfl) (h)
          simp only [n6, hL, cond_true, cond_false] at hph
          obtain ⟨k0, k1, k2, k3, _⟩ := (HXY.out.keep hph HXY.out.lt).cells
          refine opIn_run (v := .agg #[.int .i64 r0, .int .i64 r1, .int .i64 r2, .int .i64 r3]) (w' := w') rfl rfl (fun c h => by cases h) (fun _ => trivial) ?_ ⟨by simp [Act.put, upd, n6, hL], by simp only [upd, n6, hL]; exact hph⟩
          simp only [n6, hL, cond_true, cond_false]
          go_simp
        · skip
          have y3 : L 3 = true := up_at hu 3 (by kernel_rfl)
          have n6 : L 6 = false := not_yet hL fun h => shut_at hs 6 4 (by kernel_rfl) (h)
          simp only [y3, n6, hL, cond_true, cond_false] at hph
          refine opIn_call (f := 25) (args := #[.agg #[.int .i64 r0, .int .i64 r1, .int .i64 r2, .int .i64 r3]]) (w' := w') rfl rfl (fun c h => by cases h) (fun _ => trivial) rfl ?_ ((callsIn_wide.2 (HHF.out w')).mono ?_)
          · simp only [y3, n6, hL, cond_true, cond_false]
            go_simp
          · rintro e w2 ⟨rfl, hb⟩
            exact ⟨_, rfl, by simp [Act.put, upd, y3, n6, hL], by simp only [upd, y3, n6, hL]; exact hph.trans (hb.mono hph.size)⟩
        · skip
          have y0 : L 0 = true := up_at hu 0 (by kernel_rfl)
          have y1 : L 1 = true := up_at hu 1 (by kernel_rfl)
          have y2 : L 2 = true := up_at hu 2 (by kernel_rfl)
          have y3 : L 3 = true := shut_at hs 4 3 (by kernel_rfl) (up_at hu 4 (by kernel_rfl))
          have y4 : L 4 = true := up_at hu 4 (by kernel_rfl)
          have n6 : L 6 = false := not_yet hL fun h => shut_at hs 6 5 (by kernel_rfl) (h)
          refine opIn_run (v := V 0) (w' := w') rfl rfl (fun c h => by cases h) (fun _ => trivial) ?_ ⟨by simp [Act.put, upd, y0, y1, y2, y3, y4, n6, hL], by simpa [upd] using hph⟩
          simp only [y0, y1, y2, y3, y4, n6, hL, cond_true, cond_false]
          go_simp
        · skip
          have y0 : L 0 = true := up_at hu 0 (by kernel_rfl)
          have y1 : L 1 = true := up_at hu 1 (by kernel_rfl)
          have y2 : L 2 = true := up_at hu 2 (by kernel_rfl)
          have y3 : L 3 = true := up_at hu 3 (by kernel_rfl)
          have y4 : L 4 = true := up_at hu 4 (by kernel_rfl)
          have y5 : L 5 = true := up_at hu 5 (by kernel_rfl)
          simp only [y0, y1, y2, y3, y4, y5, hL, cond_true, cond_false] at hph
          obtain ⟨k0, k1, k2, k3, k4, k5, k6, k7⟩ := (HXY.out.keep hph HXY.out.lt).cells
          refine opIn_skip (w' := setRect w' w.heap.size h0 h1 h2 h3) rfl rfl (fun c h => by cases h) (fun _ => trivial) ?_ ⟨by simp [Act.put, upd, y0, y1, y2, y3, y4, y5, hL], by simp only [upd, y0, y1, y2, y3, y4, y5, hL]; exact ⟨w', hph, rfl⟩⟩
          simp only [y0, y1, y2, y3, y4, y5, hL, cond_true, cond_false]
          unfold setRect
          go_simp
      case fin =>
        intro L a' w' hall hI
        obtain ⟨rfl, hph⟩ := hI
        have l0 := hall 0 (by decide)
        have l1 := hall 1 (by decide)
        have l2 := hall 2 (by decide)
        have l3 := hall 3 (by decide)
        have l4 := hall 4 (by decide)
        have l5 := hall 5 (by decide)
        have l6 := hall 6 (by decide)
        simp only [l0, l1, l2, l3, l4, l5, l6, cond_true] at hph ⊢
        clear l0 l1 l2 l3 l4 l5 l6 hall
        obtain ⟨u, hu, rfl⟩ := hph
        have S6 := Lib.hid (S.out.step HQ.out HG.out HGR.out HOWN.out hat5 (HYB.out.trans (hu.mono (Nat.le_of_eq hYs.symm))) HH.out)
        clear hu hat5
        go_wp2
        go_roundw
        case rel => exact ⟨k + 1, _, _, by omega, by go_num, S6⟩
        case measure => simp [intOf]; omega
    · obtain rfl : n = k := by omega
      obtain ⟨A2, c2, hpv, _⟩ := S.out.pl
      subst hpv
      obtain ⟨nl, hnl⟩ : ∃ nl, (itG g n).w * (itG g n).h = nl := ⟨_, rfl⟩
      have SB := Lib.hid S.out.bands
      rw [hnl] at SB ⊢
      clear S hnl
      obtain ⟨i2, hi2, hy0, hy1, hy2⟩ := info_parts Try.info24
      go_wp2
      obtain ⟨hs, hhs⟩ : ∃ hs, wr.heap.size = hs := ⟨_, rfl⟩
      rw [hhs] at SB
      rw [hhs]
      clear hhs
      generalize (wr.alloc (Obj.cells #[Value.slice A2 nl c2] 24)) = W5 at *
      go_loopw [10, 47] (fun bv iv wr => ∃ (i : Nat) (vs : List Value), i ≤ n ∧ iv = .int .i64 (i : Int) ∧ Hid (wr.ownsRow hs 24 1 bv (3 * i + 1) vs ∧ Below hs W5 wr ∧ Named (fun b => b < hs) W5 vs (bandsK g P n i))) (fun _ iv _ => n - (intOf iv).toNat)
      case atStart => exact ⟨0, [.slice A2 nl c2], by omega, rfl, Lib.hid ⟨SB.out.bd, Below.refl _ _, SB.out.low⟩⟩
      case round =>
        obtain ⟨i, vs, hi, rfl, S⟩ := hrel
        by_cases ci : i < n
        · have ci' : (i : Int) < (n : Int) := by omega
          obtain ⟨q, hq⟩ : ∃ q, n - 1 - i = q := ⟨_, rfl⟩
          have hqn : q < n := by omega
          have hhi := SB.out.hi q hqn
          obtain ⟨v1, v2, v3, d1, d2, d3, o1, o2, o3, hnm, hzs⟩ := named_three hhi
          have hkeep : ∀ b, b < hs → wr.heap[b]? = W5.heap[b]? := fun b hb => S.out.2.1.block b hb
          have m1 : wr.cell? ⟨zs q, 1, none⟩ = some v1 := (World.cell?_of_block (w := W5) (hkeep _ hzs)).trans d1
          have m2 : wr.cell? ⟨zs q, 2, none⟩ = some v2 := (World.cell?_of_block (w := W5) (hkeep _ hzs)).trans d2
          have m3 : wr.cell? ⟨zs q, 3, none⟩ = some v3 := (World.cell?_of_block (w := W5) (hkeep _ hzs)).trans d3
          obtain ⟨sg, scap, hsv, _, _, _⟩ := own_form SB.out.st (by omega)
          have hst := SB.out.st
          rw [hsv] at hst
          have hsg : sg < hs := SB.out.sb sg (by rw [hsv]; rfl)
          have f1 : wr.cell? ⟨sg, q, none⟩ = some (.slice (some ⟨zs q, 1, none⟩) 3 3) := (World.cell?_of_block (w := W5) (a := ⟨sg, q, none⟩) (hkeep _ hsg)).trans (by
            rw [hst.cellAt q (by omega), List.getElem?_map, List.getElem?_range hqn]; rfl)
          have HNM : Hid (Named (fun b => b < hs) W5 (vs ++ [v1, v2, v3]) (bandsK g P n (i + 1))) := Lib.hid (by
            show Named _ W5 _ (bandsK g P n i ++ highs g P (n - 1 - i))
            rw [hq]
            exact S.out.2.2.app hnm)
          have hnews : ∀ j u, ([v1, v2, v3] : List Value)[j]? = some u → wr.cell? ((⟨zs q, 1, none⟩ : Addr).add j) = some u := fun j u hu => by
            rcases j with _ | _ | _ | j
            · simp at hu; subst hu; exact m1
            · simp at hu; subst hu; exact m2
            · simp at hu; subst hu; exact m3
            · simp at hu
          have hones : ∀ u ∈ ([v1, v2, v3] : List Value), u.oneCell' = true := fun u hu => by
            simp at hu
            rcases hu with rfl | rfl | rfl <;> assumption
          have HNW := Lib.hid hnews
          have HON := Lib.hid hones
          have e1 : (n : Int) - 1 - (i : Int) = (q : Int) := by omega
          have e2 : (q : Int) < (n : Int) := by omega
          subst hsv
          have hsz : hs ≤ wr.heap.size := by have := S.out.2.1.size; have := SB.out.siz; omega
          clear hq hhi hkeep m1 m2 m3 d1 d2 d3 o1 o2 o3 hnm hst hnews hones hzs
          go_wp2_with (at_builtin; refine wpList_append_own _ rfl _ _ 30 rfl hs 24 i2 (.slice none 0 0) 1 24 Try.underlying30 hi2 hy0 hy1 hy2 rfl (by decide) _ _ _ rfl S.out.1 ⟨zs q, 1, none⟩ 3 3 [v1, v2, v3] rfl rfl HNW.out HON.out (by unfold maxLen; omega) (by omega) hsz ?_; intro bv' w6 hown6 hgr6 _)
          have S2 : Hid (w6.ownsRow hs 24 1 bv' (3 * (i + 1) + 1) (vs ++ [v1, v2, v3]) ∧ Below hs W5 w6 ∧ Named (fun b => b < hs) W5 (vs ++ [v1, v2, v3]) (bandsK g P n (i + 1))) := Lib.hid ⟨by
            rw [show 3 * (i + 1) + 1 = 3 * i + 1 + 3 from by omega]; exact hown6, S.out.2.1.grown hgr6 (by have := SB.out.siz; omega) (fun b e => (own_lt S.out.1 e).1), HNM.out⟩
          clear S hown6 hgr6 HNM HNW HON
          go_wp2
          go_roundw
          case rel => exact ⟨i + 1, _, by omega, by go_num, S2⟩
          case measure => simp [intOf]; omega
        · obtain rfl : i = n := by omega
          obtain ⟨A', c', rfl, _, _, _⟩ := own_any S.out.1
          go_wp2
          go_ret
          exact ⟨A', c', rfl, named_own S.out.1 (S.out.2.2.keep fun b hb => S.out.2.1.block b hb) (fun b hb => by have := S.out.2.1.size; have := SB.out.siz; omega), (fun b o e => by
            subst e
            rcases S.out.1.2 with ⟨hv, _⟩ | ⟨g', cap, cur, hv, hg', _⟩
            · injection hv with hv; cases hv
            · injection hv with hv; injection hv with hv; injection hv with hv
              have := SB.out.los
              omega), SB.out.bel.trans (S.out.2.1.mono SB.out.los)⟩
theorem dsplit_K (g : Geo) (P : Nat → Nat → Int) (K0 : Int) (n : Nat) (A : Option Addr) (c : Nat) (w : World) (hw : g.w ≤ 300 ∧ g.h ≤ 300) (hwh : g.w * g.h ≤ 1000) (hx : g.x ≤ 90000 ∧ g.y ≤ 90000) (hn : n ≤ 5) (hK0 : 0 ≤ K0) (hKn : ∀ k, k < n → bdG K0 k ≤ 500000000) (hbd : Bd K0 g.w g.h P) (hrow : RowI w A (g.w * g.h) c (flat g.w g.h P)) :
    Calls Try.prog 15 #[rectV g, .int .i64 (n : Int), .slice A (g.w * g.h) c] w fun e w' => ∃ A' c', e = .returned (.slice A' (3 * n + 1) c') ∧ RowsI w' A' (3 * n + 1) c' (bandsL g P n) ∧ Below w.heap.size w w' :=
  (dsplit_F g P K0 n A c w hw hwh hx hn hK0 hKn hbd hrow).mono fun e w' h => by
    obtain ⟨A', c', h1, h2, _, h3⟩ := h
    exact ⟨A', c', h1, h2, h3⟩
theorem dsplit_any (g : Geo) (P : Nat → Nat → Int) (n : Nat) (A : Option Addr) (c : Nat) (w : World) (hw : g.w ≤ 300 ∧ g.h ≤ 300) (hwh : g.w * g.h ≤ 1000) (hx : g.x ≤ 90000 ∧ g.y ≤ 90000) (hn : n ≤ 5) (hbd : Bd 600000 g.w g.h P) (hrow : RowI w A (g.w * g.h) c (flat g.w g.h P)) :
    Calls Try.prog 15 #[rectV g, .int .i64 (n : Int), .slice A (g.w * g.h) c] w fun e w' => ∃ A' c', e = .returned (.slice A' (3 * n + 1) c') ∧ RowsI w' A' (3 * n + 1) c' (bandsL g P n) ∧ Below w.heap.size w w' :=
  dsplit_K g P 600000 n A c w hw hwh hx hn (by decide) (fun k hk => bdG_6 (by omega)) hbd hrow
end Go.Proofs.Ytgadebfelomhpaa
