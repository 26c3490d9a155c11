/- DwtSizes, walked. -/
import Derived.Test.YtgadebfelomhpaaDwG
import Derived.Outline
set_option linter.unusedVariables false
set_option linter.unusedSimpArgs false
namespace Go.Proofs.Ytgadebfelomhpaa
open Go.RowKit

theorem area4 (g : Geo) (Q : Nat → Nat → Int) : (quar g Q 0).length + ((quar g Q 1).length + (quar g Q 2).length + (quar g Q 3).length) = g.w * g.h := by
  rw [quar_len, quar_len, quar_len, quar_len]
  obtain ⟨a, ha⟩ : ∃ a, g.w = g.half.w + a := ⟨g.w - g.half.w, by have := half_w g; omega⟩
  obtain ⟨b, hb⟩ : ∃ b, g.h = g.half.h + b := ⟨g.h - g.half.h, by have := half_h g; omega⟩
  have e : qW g 0 = g.half.w ∧ qH g 0 = g.half.h ∧ qW g 1 = a ∧ qH g 1 = g.half.h ∧ qW g 2 = g.half.w ∧ qH g 2 = b ∧ qW g 3 = a ∧ qH g 3 = b := by
    unfold qW qH
    simp
    omega
  obtain ⟨e1, e2, e3, e4, e5, e6, e7, e8⟩ := e
  rw [e1, e2, e3, e4, e5, e6, e7, e8, ha, hb, Nat.add_mul, Nat.mul_add, Nat.mul_add]
  generalize g.half.w * g.half.h = x
  generalize g.half.w * b = y
  generalize a * g.half.h = z
  generalize a * b = t
  omega
def sumL (ls : List (List Int)) : Nat := (ls.map List.length).foldr (· + ·) 0
theorem sumL_app (a b : List (List Int)) : sumL (a ++ b) = sumL a + sumL b := by
  induction a with
  | nil => simp [sumL]
  | cons x a ih => simp only [sumL, List.cons_append, List.map_cons, List.foldr_cons] at ih ⊢; omega
theorem sum_bands (g : Geo) (P : Nat → Nat → Int) (n : Nat) : ∀ k, k ≤ n → sumL (bandsK g P n k) = (itG g (n - k)).w * (itG g (n - k)).h := by
  intro k
  induction k with
  | zero =>
    intro _
    show (lowest g P n).length + 0 = _
    unfold lowest
    rw [flat_len]; rfl
  | succ k ih =>
    intro hk
    unfold bandsK
    rw [sumL_app, ih (by omega), show n - k = (n - 1 - k) + 1 from by omega, show n - (k + 1) = n - 1 - k from by omega, ← area4 (itG g (n - 1 - k)) (itP g P (n - 1 - k + 1))]
    have h0 : (quar (itG g (n - 1 - k)) (itP g P (n - 1 - k + 1)) 0).length = (itG g (n - 1 - k + 1)).w * (itG g (n - 1 - k + 1)).h := by
      rw [quar_low, flat_len]; rfl
    rw [h0]
    show _ + sumL (highs g P (n - 1 - k)) = _
    unfold highs sumL
    simp
    omega
theorem sum_all (g : Geo) (P : Nat → Nat → Int) (n : Nat) : sumL (bandsL g P n) = g.w * g.h := by
  unfold bandsL
  rw [sum_bands g P n n (Nat.le_refl _), Nat.sub_self]; rfl
theorem sum_take {ls : List (List Int)} {i : Nat} {l : List Int} (h : ls[i]? = some l) : sumL (ls.take (i + 1)) = sumL (ls.take i) + l.length := by
  have e : ls.take (i + 1) = ls.take i ++ [l] := by
    rw [List.take_add_one, h]; rfl
  rw [e, sumL_app]
  simp [sumL]
theorem sum_le (ls : List (List Int)) (i : Nat) : sumL (ls.take i) ≤ sumL ls := by
  have := sumL_app (ls.take i) (ls.drop i)
  rw [List.take_append_drop] at this
  omega

set_option maxHeartbeats 8000000 in
set_option maxRecDepth 100000 in
set_option pp.deepTerms true in
set_option pp.maxSteps 10000000 in
theorem walk_dwtSizes (a0 a1 a2 a3 lv : Int) (w : World)  :
    Calls Try.prog 5 #[.agg #[.int .i64 a0, .int .i64 a1, .int .i64 a2, .int .i64 a3], .int .i64 lv] w fun e w' => e = .returned (.bool true) ∧ Below w.heap.size w w' := by
  have H1 : Hid (RowI w none 0 0 []) := Lib.hid ⟨rfl, Nat.le_refl _, by unfold maxLen; omega, (fun _ => ⟨rfl, rfl⟩), Lst.nil⟩
  go_enter Try.func5, Try.ntmps5
  go_wp2_with fail
  have HB0 : Hid (Below w.heap.size w (w.alloc (Obj.cells #[.int .i64 a0, .int .i64 a1, .int .i64 a2, .int .i64 a3] 23))) := Lib.hid ((Below.refl _ w).alloc (Nat.le_refl _) _)
  have HX0 := Lib.hid (RA.new w a0 a1 a2 a3)
  refine (known10 _).mono ?_
  rintro e wk ⟨rfl, bk⟩
  have HX1 := Lib.hid (HX0.out.keep bk HX0.out.lt)
  have HB1 := Lib.hid (HB0.out.trans (bk.mono HB0.out.size))
  obtain ⟨f0, f1, f2, f3, _⟩ := HX1.out.cells
  clear HX0 HB0 bk
  go_wp2_with fail
  refine (plane_any a0 a1 a2 a3 wk (H1.out.keep HB1.out (Nat.le_refl _))).mono ?_
  rintro e wp ⟨P, Ap, cp, rfl, hrow, hbd, hA, bp⟩
  have HX2 := Lib.hid (HX1.out.keep bp HX1.out.lt)
  have HB2 := Lib.hid (HB1.out.trans (bp.mono HB1.out.size))
  have hg := geoR_bd a0 a1 a2 a3
  generalize geoR a0 a1 a2 a3 = g at *
  obtain ⟨r0, r1, r2, r3, hr⟩ := rect_open g
  rw [hr]
  have HR := Lib.hid hr
  have hwh : g.w * g.h ≤ 144 := Nat.mul_le_mul hg.2.2.1 hg.2.2.2
  have HRW := Lib.hid hrow
  have HAW : Hid (∀ b o, Ap = some ⟨b, o, none⟩ → b ≠ w.heap.size) := Lib.hid (fun b o e => by have := hA b o e; have := HX1.out.lt; omega)
  have HBD := Lib.hid hbd
  clear f0 f1 f2 f3 HX1 HB1 bp hr hrow hbd hA H1
  obtain ⟨f0, f1, f2, f3, f4, f5, f6, f7⟩ := HX2.out.cells
  obtain ⟨N, hN⟩ : ∃ N, g.w * g.h = N := ⟨_, rfl⟩
  have hd2 := fun n W A c hn h => dsplit_any g P n A c W (by omega) (by omega) (by omega) hn HBD.out h
  rw [hN] at HRW hwh hd2 ⊢
  rw [HR.out] at hd2
  have HD := Lib.hid hd2
  have HN := Lib.hid hN
  clear hN hd2
  have HX3 : Hid (RA (setRect wp w.heap.size r0 r1 r2 r3) w.heap.size r0 r1 r2 r3) := Lib.hid (RA.setRect HX2.out)
  have HB3 : Hid (Below w.heap.size w (setRect wp w.heap.size r0 r1 r2 r3)) := Lib.hid ((((HB2.out.setCell (p := ⟨w.heap.size, 0, none⟩) (Nat.le_refl _) _).setCell (p := ⟨w.heap.size, 1, none⟩) (Nat.le_refl _) _).setCell (p := ⟨w.heap.size, 2, none⟩) (Nat.le_refl _) _).setCell (p := ⟨w.heap.size, 3, none⟩) (Nat.le_refl _) _)
  have HRW3 : Hid (RowI (setRect wp w.heap.size r0 r1 r2 r3) Ap N cp (flat g.w g.h P)) := Lib.hid (row_only HRW.out (setRect_only wp w.heap.size r0 r1 r2 r3) HAW.out)
  unfold setRect at HX3 HB3 HRW3
  clear HX2 HB2 HRW
  go_wp2_with fail
  obtain ⟨Z, hZ⟩ : ∃ Z, ((((wp.setCell ⟨w.heap.size, 0, none⟩ (.int .i64 r0)).setCell ⟨w.heap.size, 1, none⟩ (.int .i64 r1)).setCell ⟨w.heap.size, 2, none⟩ (.int .i64 r2)).setCell ⟨w.heap.size, 3, none⟩ (.int .i64 r3)) = Z := ⟨_, rfl⟩
  rw [hZ] at HX3 HB3 HRW3 ⊢
  clear hZ f0 f1 f2 f3 f4 f5 f6 f7
  refine (within10 lv 6 Z (by omega) (by omega)).mono ?_
  rintro e w' ⟨rfl, rfl⟩
  obtain ⟨n, hn⟩ : ∃ n : Nat, lv % 6 = (n : Int) := ⟨(lv % 6).toNat, by omega⟩
  have hn5 : n ≤ 5 := by omega
  rw [hn]
  clear hn
  obtain ⟨f0, f1, f2, f3, _⟩ := HX3.out.cells
  obtain ⟨m3, hm3⟩ : ∃ m3, 3 * n + 1 = m3 := ⟨_, rfl⟩
  go_wp2_with fail
  have hdf := dsplit_F g P 600000 n Ap cp Z (by omega) (by rw [HN.out]; omega) (by omega) (by omega) (by decide) (fun k hk => bdG_6 (by omega)) HBD.out (by rw [HN.out]; exact HRW3.out)
  rw [HN.out, HR.out] at hdf
  refine hdf.mono ?_
  clear hdf
  rintro e w5 ⟨A5, c5, rfl, hb5, hA5, b5⟩
  rw [hm3] at hb5 ⊢
  have HX5 : Hid (RB w5 w.heap.size g) := Lib.hid ((HX3.out.keep b5 HX3.out.lt).rb HR.out)
  have HB5 := Lib.hid (HB3.out.trans (b5.mono HB3.out.size))
  obtain ⟨bb, ob, _, _, hAe, hbbl, _⟩ := hb5.at (bandsL_zero g P n)
  subst hAe
  have hbne : w.heap.size < bb := Nat.lt_of_lt_of_le HX3.out.lt (hA5 bb ob rfl)
  have HC : Hid (∀ (t : Nat) (l : List Int), (bandsL g P n)[t]? = some l → ∃ A' c', w5.cell? ⟨bb, ob + t, none⟩ = some (.slice A' l.length c')) := Lib.hid (fun t l h => by
    obtain ⟨b, o, A', c', e, _, hc, _⟩ := hb5.at h
    injection e with e; injection e with e1 e2; subst e1 e2
    exact ⟨A', c', hc⟩)
  have HS5 := Lib.hid hb5
  have hlen := hb5.1
  have HSA := Lib.hid (sum_all g P n)
  have e1 : 3 * (n : Int) + 1 = (m3 : Int) := by omega
  have e2 : ((m3 : Int) != (m3 : Int)) = false := bne_self_eq_false _
  have HM3 := Lib.hid hm3
  have hm16 : m3 ≤ 16 := by omega
  clear HX3 HB3 HRW3 hb5 b5 f0 f1 f2 f3 hm3
  go_wp2
  clear e1 e2
  go_loopw [7, 8] (fun sv iv wr => ∃ i : Nat, i ≤ m3 ∧ iv = .int .i64 (i : Int) ∧ sv = .int .i64 ((sumL ((bandsL g P n).take i) : Nat) : Int) ∧ Hid (w5 = wr)) (fun _ iv _ => m3 - (intOf iv).toNat)
  case atStart => exact ⟨0, by omega, rfl, rfl, Lib.hid rfl⟩
  case round =>
    obtain ⟨i, hi, rfl, rfl, hwr⟩ := hrel
    obtain rfl := hwr.out
    by_cases ci : i < m3
    · have ci' : (i : Int) < (m3 : Int) := by omega
      obtain ⟨l, hl⟩ : ∃ l, (bandsL g P n)[i]? = some l := ⟨_, List.getElem?_eq_getElem (by omega)⟩
      obtain ⟨A', c', hc⟩ := HC.out i l hl
      have hs := sum_take hl
      have hsl := sum_le (bandsL g P n) (i + 1)
      rw [HSA.out, HN.out] at hsl
      have HS := Lib.hid hs
      generalize sumL ((bandsL g P n).take i) = s at *
      obtain ⟨s2, hs2⟩ : ∃ s2, s + l.length = s2 := ⟨_, rfl⟩
      have e1 := sum_cast hs2
      have hs2b : s2 ≤ 144 := by rw [← hs2]; omega
      have HS2 := Lib.hid hs2
      clear hs hsl hl hs2
      go_wp2
      go_roundw
      case rel => exact ⟨i + 1, by omega, by go_num, by rw [HS.out, HS2.out], trivial⟩
      case measure => simp [intOf]; omega
    · obtain rfl : m3 = i := by omega
      have hfull : sumL ((bandsL g P n).take m3) = N := by
        rw [List.take_of_length_le (by omega), HSA.out, HN.out]
      rw [hfull]
      clear hfull
      go_wp2
      go_loopw [9] (fun kv wr => ∃ k : Nat, k ≤ n ∧ kv = .int .i64 (k : Int) ∧ Hid (RB wr w.heap.size (itG g k) ∧ (∀ b, b < w5.heap.size → b ≠ w.heap.size → wr.heap[b]? = w5.heap[b]?) ∧ Below w.heap.size w wr ∧ w5.heap.size ≤ wr.heap.size)) (fun kv _ => n - (intOf kv).toNat)
      case atStart => exact ⟨0, by omega, rfl, Lib.hid ⟨HX5.out, fun _ _ _ => rfl, HB5.out, Nat.le_refl _⟩⟩
      case round =>
        obtain ⟨k, hk, rfl, S⟩ := hrel
        by_cases ck : k < n
        · have ck' : (k : Int) < (n : Int) := by omega
          obtain ⟨r0', r1', r2', r3', hr⟩ := rect_open (itG g k)
          obtain ⟨h0, h1, h2, h3, hh⟩ := rect_open (itG g (k + 1))
          obtain ⟨f0, f1, f2, f3, g0, g1, g2, g3⟩ := (S.out.1.ra hr).cells
          obtain ⟨e0, e1, e2, e3⟩ := rect_ints hr
          obtain ⟨e4, e5, e6, e7⟩ := rect_ints hh
          have hww := itG_le g k
          have hxx := itG_x g k
          have hhw := half_w (itG g k)
          have hhh := half_h (itG g k)
          have HI := Lib.hid S.out
          have hhalf : itG g (k + 1) = (itG g k).half := rfl
          rw [hhalf] at e4 e5 e6 e7
          obtain ⟨gk, hgk⟩ : ∃ gk, itG g k = gk := ⟨_, rfl⟩
          have HGK := Lib.hid hgk
          obtain ⟨d, hd⟩ : ∃ d, n - k = d := ⟨_, rfl⟩
          obtain ⟨t, ht⟩ : ∃ t, 3 * d - 2 = t := ⟨_, rfl⟩
          obtain ⟨t1, ht1⟩ : ∃ t1, t + 1 = t1 := ⟨_, rfl⟩
          obtain ⟨t2, ht2⟩ : ∃ t2, t + 2 = t2 := ⟨_, rfl⟩
          have htm : t2 < m3 := by have := HM3.out; omega
          obtain ⟨b1, b2, b3⟩ := bandsK_at g P n n (n - 1 - k) (by omega)
          rw [show n - 1 - (n - 1 - k) = k from by omega] at b1 b2 b3
          rw [show 3 * (n - 1 - k) + 1 = t from by omega] at b1
          rw [show 3 * (n - 1 - k) + 2 = t1 from by omega] at b2
          rw [show 3 * (n - 1 - k) + 3 = t2 from by omega] at b3
          obtain ⟨A1, c1, m1⟩ := HC.out t _ b1
          obtain ⟨A2, c2, m2⟩ := HC.out t1 _ b2
          obtain ⟨A3, c3, m3'⟩ := HC.out t2 _ b3
          have hkeep : wr.heap[bb]? = w5.heap[bb]? := S.out.2.1 bb hbbl (by omega)
          have n1 := (World.cell?_of_block (w := w5) (a := ⟨bb, ob + t, none⟩) hkeep).trans m1
          have n2 := (World.cell?_of_block (w := w5) (a := ⟨bb, ob + t1, none⟩) hkeep).trans m2
          have n3 := (World.cell?_of_block (w := w5) (a := ⟨bb, ob + t2, none⟩) hkeep).trans m3'
          rw [quar_len, hgk] at n1 n2 n3
          rw [hgk] at e0 e1 e2 e3 e4 e5 e6 e7 hhw hhh hww hxx
          have v1 : qW gk 1 * qH gk 1 = (gk.w - gk.half.w) * gk.half.h := rfl
          have v2 : qW gk 2 * qH gk 2 = gk.half.w * (gk.h - gk.half.h) := rfl
          have v3 : qW gk 3 * qH gk 3 = (gk.w - gk.half.w) * (gk.h - gk.half.h) := rfl
          rw [v1] at n1
          rw [v2] at n2
          rw [v3] at n3
          have hhx : gk.half.x = (gk.x + 1) / 2 := rfl
          have hhy : gk.half.y = (gk.y + 1) / 2 := rfl
          have hlw : gk.half.w = lowN (gk.x % 2) gk.w := rfl
          have hlh : gk.half.h = lowN (gk.y % 2) gk.h := rfl
          unfold lowN at hlw hlh
          obtain ⟨W, hW⟩ : ∃ W, gk.w = W := ⟨_, rfl⟩
          obtain ⟨Hh, hH⟩ : ∃ W, gk.h = W := ⟨_, rfl⟩
          obtain ⟨LW, hLW⟩ : ∃ W, gk.half.w = W := ⟨_, rfl⟩
          obtain ⟨LH, hLH⟩ : ∃ W, gk.half.h = W := ⟨_, rfl⟩
          rw [hW] at e2 hlw hww hhw n1 n3
          rw [hH] at e3 hlh hww hhh n2 n3
          rw [hLW] at e6 hlw hhw n1 n2 n3
          rw [hLH] at e7 hlh hhh n1 n2 n3
          rw [hhx] at e4 e6
          rw [hhy] at e5 e7
          obtain ⟨a, ha⟩ : ∃ a, W - LW = a := ⟨_, rfl⟩
          obtain ⟨b, hb⟩ : ∃ b, Hh - LH = b := ⟨_, rfl⟩
          rw [ha] at n1 n3
          rw [hb] at n2 n3
          have hbds : a ≤ 4096 ∧ b ≤ 4096 ∧ LW ≤ 4096 ∧ LH ≤ 4096 := by omega
          have z1 := wr_mul a LH hbds.1 hbds.2.2.2
          have z2 := wr_mul LW b hbds.2.2.1 hbds.2.1
          have z3 := wr_mul a b hbds.1 hbds.2.1
          obtain ⟨l1, hl1⟩ : ∃ l, a * LH = l := ⟨_, rfl⟩
          obtain ⟨l2, hl2⟩ : ∃ l, LW * b = l := ⟨_, rfl⟩
          obtain ⟨l3, hl3⟩ : ∃ l, a * b = l := ⟨_, rfl⟩
          rw [hl1] at n1 z1
          rw [hl2] at n2 z2
          rw [hl3] at n3 z3
          have HS2 : Hid (∀ m, Hid (RB (setRect (wr.drewN m) w.heap.size h0 h1 h2 h3) w.heap.size (itG g (k + 1)) ∧ (∀ b, b < w5.heap.size → b ≠ w.heap.size → (setRect (wr.drewN m) w.heap.size h0 h1 h2 h3).heap[b]? = w5.heap[b]?) ∧ Below w.heap.size w (setRect (wr.drewN m) w.heap.size h0 h1 h2 h3) ∧ w5.heap.size ≤ (setRect (wr.drewN m) w.heap.size h0 h1 h2 h3).heap.size)) := Lib.hid fun m => Lib.hid
            ⟨RB.set (w := wr.drewN m) S.out.1 hh, fun b hb hn => ((setRect_only (wr.drewN m) w.heap.size h0 h1 h2 h3).block b hn).trans (S.out.2.1 b hb hn), ((((below_drewN S.out.2.2.1 m).setCell (p := ⟨w.heap.size, 0, none⟩) (Nat.le_refl _) _).setCell (p := ⟨w.heap.size, 1, none⟩) (Nat.le_refl _) _).setCell (p := ⟨w.heap.size, 2, none⟩) (Nat.le_refl _) _).setCell (p := ⟨w.heap.size, 3, none⟩) (Nat.le_refl _) _, Nat.le_trans S.out.2.2.2 (setRect_only (wr.drewN m) w.heap.size h0 h1 h2 h3).size⟩
          unfold setRect at HS2
          have p0 : 0 ≤ r0' ∧ r0' ≤ 1000 := by omega
          have p1 : 0 ≤ r1' ∧ r1' ≤ 1000 := by omega
          have p2 : 0 ≤ r2' ∧ r2' ≤ 1000 := by omega
          have p3 : 0 ≤ r3' ∧ r3' ≤ 1000 := by omega
          have q0 : (r0' + 1) / 2 = h0 := by rw [e0, e4]; omega
          have q1 : (r1' + 1) / 2 = h1 := by rw [e1, e5]; omega
          have q2 : (r2' + 1) / 2 = h2 := by rw [e2, e6]; omega
          have q3 : (r3' + 1) / 2 = h3 := by rw [e3, e7]; omega
          have g0' : (r0' + 1).tdiv 2 = h0 := by rw [← q0, Int.tdiv_eq_ediv_of_nonneg (by omega)]
          have g1' : (r1' + 1).tdiv 2 = h1 := by rw [← q1, Int.tdiv_eq_ediv_of_nonneg (by omega)]
          have g2' : (r2' + 1).tdiv 2 = h2 := by rw [← q2, Int.tdiv_eq_ediv_of_nonneg (by omega)]
          have g3' : (r3' + 1).tdiv 2 = h3 := by rw [← q3, Int.tdiv_eq_ediv_of_nonneg (by omega)]
          have s0 : r2' - r0' = (W : Int) := by omega
          have s1 : r3' - r1' = (Hh : Int) := by omega
          have s2 : h2 - h0 = (LW : Int) := by omega
          have s3 : h3 - h1 = (LH : Int) := by omega
          have s4 : (n : Int) - (k : Int) = (d : Int) := by omega
          have s5 : 3 * (d : Int) - 2 = (t : Int) := by omega
          have s6 : (t : Int) + 1 = (t1 : Int) := by omega
          have s7 : (t : Int) + 2 = (t2 : Int) := by omega
          have s8 : (W : Int) - (LW : Int) = (a : Int) := by omega
          have s9 : (Hh : Int) - (LH : Int) = (b : Int) := by omega
          have j0 : IntKind.i64.wrap (r2' - r0') = (W : Int) := by rw [s0]; exact wr_nat (by omega)
          have j1 : IntKind.i64.wrap (r3' - r1') = (Hh : Int) := by rw [s1]; exact wr_nat (by omega)
          have j2 : IntKind.i64.wrap (h2 - h0) = (LW : Int) := by rw [s2]; exact wr_nat (by omega)
          have j3 : IntKind.i64.wrap (h3 - h1) = (LH : Int) := by rw [s3]; exact wr_nat (by omega)
          have i0 : IntKind.i64.wrap (r0' + 1) = r0' + 1 := IntWalk.i64_in _ (by omega)
          have i1 : IntKind.i64.wrap (r1' + 1) = r1' + 1 := IntWalk.i64_in _ (by omega)
          have i2 : IntKind.i64.wrap (r2' + 1) = r2' + 1 := IntWalk.i64_in _ (by omega)
          have i3 : IntKind.i64.wrap (r3' + 1) = r3' + 1 := IntWalk.i64_in _ (by omega)
          have b1' : (t : Int) < (m3 : Int) := by omega
          have b2' : (t1 : Int) < (m3 : Int) := by omega
          have b3' : (t2 : Int) < (m3 : Int) := by omega
          have y1 : ((l1 : Int) != (l1 : Int)) = false := bne_self_eq_false _
          have y2 : ((l2 : Int) != (l2 : Int)) = false := bne_self_eq_false _
          have y3 : ((l3 : Int) != (l3 : Int)) = false := bne_self_eq_false _
          clear S hr hh e0 e1 e2 e3 e4 e5 e6 e7 hgk hd ht ht1 ht2 m1 m2 m3' hkeep hhx hhy hlw hlh hW hH hLW hLH ha hb hl1 hl2 hl3 hhalf HI v1 v2 v3 hbds b1 b2 b3
          go_wp2
          go_quiet (fail)
          go_wp2
          go_quiet (fail)
          clear i0 i1 i2 i3 j0 j1 j2 j3
          go_wp2
          exact ⟨⟨k + 1, by omega, by go_num, HS2.out _⟩, by simp [intOf]; omega⟩
        · obtain rfl : n = k := by omega
          obtain ⟨r0', r1', r2', r3', hr⟩ := rect_open (itG g n)
          obtain ⟨f0, f1, f2, f3, g0, g1, g2, g3⟩ := (S.out.1.ra hr).cells
          obtain ⟨e0, e1, e2, e3⟩ := rect_ints hr
          have hww := itG_le g n
          have hxx := itG_x g n
          obtain ⟨A1, c1, m1⟩ := HC.out 0 _ (bandsL_zero g P n)
          have n1 := (World.cell?_of_block (w := w5) (a := ⟨bb, ob + 0, none⟩) (S.out.2.1 bb hbbl (by omega))).trans m1
          change wr.cell? ⟨bb, ob, none⟩ = _ at n1
          have hL : (lowest g P n).length = (itG g n).w * (itG g n).h := flat_len _ _ _
          rw [hL] at n1
          obtain ⟨W, hW⟩ : ∃ W, (itG g n).w = W := ⟨_, rfl⟩
          obtain ⟨Hh, hH⟩ : ∃ W, (itG g n).h = W := ⟨_, rfl⟩
          rw [hW] at n1 e2 hww
          rw [hH] at n1 e3 hww
          have z1 := wri_mul W Hh (by omega) (by omega)
          obtain ⟨L0, hL0⟩ : ∃ l, W * Hh = l := ⟨_, rfl⟩
          rw [hL0] at n1 z1
          have y1 : ((L0 : Int) == (L0 : Int)) = true := beq_self_eq_true _
          have y2 : ((N : Int) == (N : Int)) = true := beq_self_eq_true _
          have hm0 : (0 : Int) < (m3 : Int) := by have := HM3.out; omega
          have hm1 : ¬ m3 = 0 := by have := HM3.out; omega
          have hm2 : 0 < m3 := by omega
          have hnn : ¬ (n : Int) < (n : Int) := by omega
          have s0 : r2' - r0' = (W : Int) := by omega
          have s1 : r3' - r1' = (Hh : Int) := by omega
          have j0 : IntKind.i64.wrap (r2' - r0') = (W : Int) := by rw [s0]; exact wr_nat (by omega)
          have j1 : IntKind.i64.wrap (r3' - r1') = (Hh : Int) := by rw [s1]; exact wr_nat (by omega)
          have HE := Lib.hid S.out.2.2.1
          clear S hr e0 e1 e2 e3 m1 hL hW hH hL0 s0 s1
          go_wp2
          go_quiet (fail)
          go_wp2
          go_ret
          exact ⟨rfl, below_drewN HE.out _⟩
end Go.Proofs.Ytgadebfelomhpaa
