/- MqFronts, walked. -/
import Derived.Test.YtdgkeghgfibolaaDoorMqBk
set_option linter.unusedVariables false
set_option linter.unusedSimpArgs false
namespace Go.Proofs.YtdgkeghgfibolaaDoor
open Go.RowKit

/-- How many bytes are out. -/
theorem mqout_any {P : Nat → Prop} {w : World} {p : Nat} {e : E} (h : EW P w p e) (hl : e.pre.length ≤ 100000) : Calls Tryd.prog 21 #[.pointer (some ⟨p, 0, none⟩)] w fun x w' => x = .returned (.int .i64 (e.pre.length : Int)) ∧ w = w' := by
  obtain ⟨_, V, hb, ho, _⟩ := h
  obtain ⟨A, c, rfl, _⟩ := own_any ho
  have k3 := hb.c3
  have e1 : ((e.pre.length + 1 : Nat) : Int) - 1 = (e.pre.length : Int) := by omega
  clear hb ho
  obtain ⟨n, hn⟩ : ∃ n, e.pre.length = n := ⟨_, rfl⟩
  rw [hn] at hl k3 e1 ⊢
  clear hn
  go_enter Tryd.func21, Tryd.ntmps21
  go_wp2
  go_ret
  exact ⟨by rw [← e1]; rfl, rfl⟩
theorem fB_take {C : List Nat} {n i : Nat} (h : i < n ∨ C.length ≤ n) : fB (C.take n) i = fB C i := by
  unfold fB
  rcases h with h | h
  · rw [List.getD_eq_getElem?_getD, List.getD_eq_getElem?_getD, List.getElem?_take]; simp [h]
  · rw [List.take_of_length_le h]
theorem Lst.takeN {w : World} {B n : Nat} {A : Option Addr} {C : List Nat} (h : Lst w B A (C.map bv)) : Lst w B A ((C.take n).map bv) := by
  intro i v hi
  refine h i v ?_
  rw [List.map_take, List.getElem?_take] at hi
  split at hi
  · exact hi
  · cases hi
set_option maxRecDepth 100000 in
set_option maxHeartbeats 8000000 in
theorem walk_mqFronts (a0 : Option Addr) (len0 cap0 : Nat) (z0 : List Int) (a1 : Int) (W : World) (hT : Tab W) (w0 : IsRow .i64 W a0 len0 cap0 z0) (w1 : (Lit.int .i64 a1).wf = true) : Calls Tryd.prog 5 #[.slice a0 len0 cap0, .int .i64 a1] W fun e w' => e = .returned (.bool true) ∧ Below W.heap.size W w' := by
  have KN := Lib.hid (known_any W)
  have L0 := Lib.hid (lst_of_row w0)
  have hrl := row_len w0
  have HRL := Lib.hid hrl.1
  have hlen : len0 ≤ maxLen := Nat.le_trans hrl.2.1 hrl.2.2.1
  unfold maxLen at hlen
  have HWF := Lib.hid (fun v (hv : v ∈ z0.take len0) => bd_i64 (row_wf w0 v (List.mem_of_mem_take hv)))
  have FR := Lib.hid (fun u : World => fresh_any u)
  have NW := Lib.hid (fun u : World => new_any u)
  have HT := Lib.hid hT
  obtain ⟨l, hl⟩ : ∃ l : List Int, z0.take len0 = l := ⟨_, rfl⟩
  rw [hl] at L0 HRL HWF
  obtain ⟨n, hn⟩ : ∃ n : Nat, min len0 400 = n := ⟨_, rfl⟩
  have hn2 : n ≤ 400 := by omega
  have HN := Lib.hid hn
  have hw1 := bd_i64 w1
  have hrg := within_rng a1 ((n : Int) + 1) (by omega)
  have WN := Lib.hid (fun u => within_any a1 ((n : Int) + 1) u (by omega) (by omega))
  obtain ⟨N7, hN7⟩ : ∃ N : Nat, a1 % ((n : Int) + 1) = N := ⟨(a1 % ((n : Int) + 1)).toNat, by omega⟩
  rw [hN7] at hrg WN
  have hN7n : N7 ≤ n := by omega
  clear hl hT w0 w1 hrl hn hN7 hrg
  go_enter Tryd.func5, Tryd.ntmps5
  go_wp2_with fail
  refine KN.out.mono ?_
  rintro x w1 ⟨rfl, b1⟩
  have B1 := Lib.hid b1
  have BT := Lib.hid (bits_any a0 len0 cap0 l W.heap.size w1 b1.size (L0.out.below b1) HRL.out (by omega) HWF.out)
  clear b1 KN
  go_wp2_with fail
  refine BT.out.mono ?_
  rintro x w2 ⟨VK, VB, ks, bs, rfl, hbk⟩
  rw [HN.out] at hbk
  have B2 := Lib.hid (B1.out.trans (hbk.gr.bel.mono B1.out.size))
  obtain ⟨AK, cK, AB, cB, rfl, rfl, hlk, hlb⟩ := Grow.lst hbk
  have HK := Lib.hid (And.intro hlk hlb)
  have HKB := Lib.hid (And.intro (And.intro hbk.lk hbk.lb) (And.intro hbk.hk hbk.hb))
  clear hbk hlk hlb BT B1
  obtain ⟨ps, hps⟩ : ∃ ps, psOf ks bs = ps := ⟨_, rfl⟩
  have HPS : Hid (POk ps ∧ ps.length = n) := Lib.hid (by
    rw [← hps]
    exact ⟨psOf_ok HKB.out.2.1 (fun x hx => by have := HKB.out.2.2 x hx; omega), psOf_len HKB.out.1.1 HKB.out.1.2⟩)
  have HPA : Hid (∀ (j k b : Nat), ks[j]? = some (k : Int) → bs[j]? = some (b : Int) → ps[j]? = some (k, b)) := Lib.hid (fun j k b h1 h2 => by rw [← hps]; exact psOf_at h1 h2)
  clear hps
  go_wp2_with fail
  refine (WN.out _).mono ?_
  rintro x wx ⟨rfl, rfl⟩
  clear WN
  go_wp2_with fail
  refine (FR.out _).mono ?_
  rintro x w4 ⟨rfl, b4⟩
  have B4 := Lib.hid (B2.out.trans (b4.mono B2.out.size))
  have HK4 := Lib.hid (And.intro ((HK.out.1.below b4).more b4.size) ((HK.out.2.below b4).more b4.size))
  clear b4 B2 HK
  go_wp2_with fail
  refine (FR.out _).mono ?_
  rintro x w5 ⟨rfl, b5⟩
  have B5 := Lib.hid (B4.out.trans (b5.mono B4.out.size))
  have HK5 := Lib.hid (And.intro ((HK4.out.1.below b5).more b5.size) ((HK4.out.2.below b5).more b5.size))
  clear b5 B4 HK4
  go_wp2_with (refine wpList_fresh2 (o := ⟨none, _, _, _, _, _⟩) (o2 := ⟨none, _, _, _, _, _⟩) rfl _ _ rfl rfl _ _ rfl rfl rfl rfl rfl rfl ?_)
  intro w6 hc61 hc62 b6
  have B6 := Lib.hid (B5.out.trans (b6.mono B5.out.size))
  have HC6 := Lib.hid (And.intro hc61 hc62)
  have HK6 := Lib.hid (And.intro (HK5.out.1.below b6) (HK5.out.2.below b6))
  have hq5 : W.heap.size ≤ w5.heap.size := B5.out.size
  have hs6 : w5.heap.size + 1 < w6.heap.size := hc62.lt
  clear b6 hc61 hc62 B5 HK5
  go_wp2_with fail
  refine (NW.out _).mono ?_
  rintro x w7 ⟨p, rfl, he1, b7⟩
  have B7 := Lib.hid (B6.out.trans (b7.mono B6.out.size))
  have HC7 := Lib.hid (And.intro (HC6.out.1.below b7) (HC6.out.2.below b7))
  have HE7 : Hid (EW (fun i => w6.heap.size ≤ i) w7 p mNew) := Lib.hid (he1.imp fun i _ h => h.1)
  have HK7 := Lib.hid (And.intro (HK6.out.1.below (b7.mono (by omega))) (HK6.out.2.below (b7.mono (by omega))))
  have hs7 : w6.heap.size ≤ w7.heap.size := b7.size
  have hpos := HT.out.pos
  have H0 : Hid (En (fun i => w6.heap.size ≤ i) W w7 p w5.heap.size 0 mNew (cxF 19)) := Lib.hid
    ⟨HE7.out, HC7.out.1, f19_ok, mNew_fine, Nat.le_refl _, B7.out⟩
  have H1 := Lib.hid HC7.out.2
  have O7 : Hid (Below w5.heap.size w7 w7) := Lib.hid (Below.refl _ _)
  clear b7 he1 B6 HC6 HK6 HE7 HC7 B7
  go_wp2
  go_loopw [11, 12] (fun o i wr => ∃ (ov j : Nat) (e : E) (cx : List Nat), ov ≤ 10000 ∧ o = .int .i64 (ov : Int) ∧ (N7 < j → ov = (eJ ps N7).1.pre.length) ∧ j ≤ n ∧ i = .int .i64 (j : Int) ∧ w6.heap.size ≤ wr.heap.size ∧ Below w5.heap.size w7 wr ∧ Cb wr (w5.heap.size + 1) (cxF 19) ∧ eJ ps j = (e, cx) ∧ En (fun i => w6.heap.size ≤ i) W wr p w5.heap.size j e cx) (fun _ i _ => n - (intOf i).toNat)
  case atStart => exact ⟨0, 0, _, _, by omega, rfl, by omega, by omega, rfl, hs7, O7.out, H1.out, rfl, H0.out⟩
  case round =>
    obtain ⟨ov, j, e, cx, hov, rfl, hoj, hj, rfl, hsz, hO, hC1, hJ, hS⟩ := hrel
    have HOJ := Lib.hid hoj
    have HS := Lib.hid hS
    have HO := Lib.hid hO
    have HC1 := Lib.hid hC1
    have HJ := Lib.hid hJ
    clear hS H0 hO O7 hC1 hJ H1 hoj
    by_cases hlt : j < n
    · obtain ⟨k, hk1, hk2⟩ := nat_of HKB.out.2.1 (j := j) (by rw [HKB.out.1.1]; exact hlt)
      obtain ⟨b, hb1, hb2⟩ := nat_of (n := 2) (fun x hx => by have := HKB.out.2.2 x hx; omega) (j := j) (by rw [HKB.out.1.2]; exact hlt)
      obtain ⟨bk, ok, rfl, hbk, mk⟩ := ((HK7.out.1.below HO.out) j (.int .i64 (k : Int)) (by rw [List.getElem?_map, hk1]; rfl))
      obtain ⟨bb, ob, rfl, hbb, mb⟩ := ((HK7.out.2.below HO.out) j (.int .i64 (b : Int)) (by rw [List.getElem?_map, hb1]; rfl))
      have h2 : (j : Int) < (n : Int) := by omega
      have h4 : (0 : Int) ≤ (j : Int) := by omega
      have hd := HS.out.drew
      have hle := HS.out.len
      have HJ5 := Lib.hid (eJ_next HJ.out (HPA.out j k b hk1 hb1))
      have EN := Lib.hid (encode_any (bit := (b : Int)) (b := b) hd.ew hd.cb (by show ¬ w6.heap.size ≤ w5.heap.size; omega) (HT.out.below hpos hd.bel) (by show ¬ w6.heap.size ≤ 0; omega) (by omega) hd.ok hd.fine (k := k) (by omega) (by omega) (by omega) (fun i hi => Nat.le_trans hsz hi))
      clear hk1 hb1 hd
      by_cases hjN : j = N7
      · have e0 : ((j : Int) == (N7 : Int)) = true := by simp; omega
        have HJN := Lib.hid hjN
        have OT := Lib.hid (mqout_any HS.out.ew (by omega))
        clear hjN
        go_wp2_with fail
        refine OT.out.mono ?_
        rintro x wx ⟨rfl, rfl⟩
        go_wp2
        refine wp_region_still_tail 9 (by kernel_rfl) (by kernel_rfl) ?_
        simp only [List.take_succ_cons, List.take_zero, List.drop_succ_cons, List.drop_zero]
        repeat still_step
        refine wpStill_nil ?_
        change wpList _ _ _ _ _ wr.drew
        go_wp2_with fail
        refine EN.out.mono ?_
        rintro x w8 ⟨rfl, he5, hc5, o5⟩
        have HS5 := Lib.hid (HS.out.drew.next (by omega) (fun i hi => by
          rcases hi with hi | hi
          · have : w6.heap.size ≤ i := hi
            omega
          · omega) he5 hc5 o5)
        have s5 : w6.heap.size ≤ w8.heap.size := Nat.le_trans hsz o5.size
        have O5 : Hid (Below w5.heap.size w7 w8) := Lib.hid (((below_drewN HO.out 1 : Below w5.heap.size w7 wr.drew)).trans (Only.below (w := wr.drew) o5 fun i hi => by
          rcases hi with hi | hi
          · have : w6.heap.size ≤ i := hi
            omega
          · omega))
        have HC5 : Hid (Cb w8 (w5.heap.size + 1) (cxF 19)) := Lib.hid (Cb.only (w := wr.drew) HC1.out o5 (fun h => by
          rcases h with h | h
          · have : w6.heap.size ≤ w5.heap.size + 1 := h
            omega
          · omega))
        clear he5 hc5 o5 EN HS mk mb HC1 e0 OT
        go_wp2
        exact ⟨⟨e.pre.length, j + 1, _, _, by omega, by go_num, fun _ => by rw [← HJN.out, HJ.out], by omega, by go_num, s5, O5.out, HC5.out, HJ5.out, HS5.out⟩, by simp [intOf]; omega⟩
      · have e0 : ((j : Int) == (N7 : Int)) = false := by simp; omega
        have HJN := Lib.hid hjN
        clear hjN
        go_wp2
        refine wp_region_still_tail 9 (by kernel_rfl) (by kernel_rfl) ?_
        simp only [List.take_succ_cons, List.take_zero, List.drop_succ_cons, List.drop_zero]
        repeat still_step
        refine wpStill_nil ?_
        change wpList _ _ _ _ _ wr.drew
        go_wp2_with fail
        refine EN.out.mono ?_
        rintro x w8 ⟨rfl, he5, hc5, o5⟩
        have HS5 := Lib.hid (HS.out.drew.next (by omega) (fun i hi => by
          rcases hi with hi | hi
          · have : w6.heap.size ≤ i := hi
            omega
          · omega) he5 hc5 o5)
        have s5 : w6.heap.size ≤ w8.heap.size := Nat.le_trans hsz o5.size
        have O5 : Hid (Below w5.heap.size w7 w8) := Lib.hid (((below_drewN HO.out 1 : Below w5.heap.size w7 wr.drew)).trans (Only.below (w := wr.drew) o5 fun i hi => by
          rcases hi with hi | hi
          · have : w6.heap.size ≤ i := hi
            omega
          · omega))
        have HC5 : Hid (Cb w8 (w5.heap.size + 1) (cxF 19)) := Lib.hid (Cb.only (w := wr.drew) HC1.out o5 (fun h => by
          rcases h with h | h
          · have : w6.heap.size ≤ w5.heap.size + 1 := h
            omega
          · omega))
        clear he5 hc5 o5 EN HS mk mb hle HC1 e0
        go_wp2
        exact ⟨⟨ov, j + 1, _, _, by omega, by go_num, fun h => HOJ.out (by have := HJN.out; omega), by omega, by go_num, s5, O5.out, HC5.out, HJ5.out, HS5.out⟩, by simp [intOf]; omega⟩
    · obtain rfl : j = n := by omega
      have h2 : ¬ (j : Int) < (j : Int) := by omega
      have hle := HS.out.len
      by_cases hjN : N7 = j
      · have e0 : ((N7 : Int) == (j : Int)) = true := by simp; omega
        have OT := Lib.hid (mqout_any HS.out.ew (by omega))
        have how : e.pre.length = (eJ ps N7).1.pre.length := by rw [hjN, HJ.out]
        obtain ⟨ow, hw⟩ : ∃ x, e.pre.length = x := ⟨_, rfl⟩
        rw [hw] at OT how
        have HOW := Lib.hid (And.intro how (show ow ≤ 10000 by omega))
        clear hjN how hw
        go_wp2_with fail
        refine OT.out.mono ?_
        rintro x wx ⟨rfl, rfl⟩
        clear OT e0
        have FL := Lib.hid (flush_any HS.out.ew HS.out.fine (by omega) (fun i hi => Nat.le_trans hsz hi))
        have hml := mCode_len e
        have h255 := mCode_255 HS.out.fine
        have hze := fun i => zE_code e i
        obtain ⟨C, hC⟩ : ∃ C, mCode e = C := ⟨_, rfl⟩
        rw [hC] at hml FL h255
        simp only [hC] at hze
        have HML := Lib.hid (And.intro (show C.length ≤ 10000 by omega) h255)
        have HF : Hid (∀ i, fB C i = zE (eJ ps ps.length).1 (i + 1)) := Lib.hid (fun i => by
          rw [HPS.out.2, HJ.out]; exact (hze i).symm)
        clear hC hml hle h255 hze HJ
        go_wp2_with fail
        refine FL.out.mono ?_
        rintro x w8 ⟨V, rfl, ho8, o8⟩
        have B8 := Lib.hid (HS.out.bel.trans (Only.below o8 (lo := W.heap.size) fun i hi => by
          have : w6.heap.size ≤ i := hi
          omega))
        have R8 : Hid (Below w5.heap.size w7 w8) := Lib.hid (HO.out.trans (Only.below o8 fun i hi => by
          have : w6.heap.size ≤ i := hi
          omega))
        have HC8 : Hid (Cb w8 w5.heap.size cx ∧ Cb w8 (w5.heap.size + 1) (cxF 19)) := Lib.hid ⟨HS.out.cb.only o8 (fun h => by
          have : w6.heap.size ≤ w5.heap.size := h
          omega), HC1.out.only o8 (fun h => by
          have : w6.heap.size ≤ w5.heap.size + 1 := h
          omega)⟩
        have s8 : w6.heap.size ≤ w8.heap.size := Nat.le_trans hsz o8.size
        obtain ⟨A8, c8, rfl, hA8, hc8⟩ := own_any ho8
        have HA8 := Lib.hid hA8
        have HL8 := Lib.hid (Lst.own ho8)
        have HC8m := Lib.hid (show C.length ≤ c8 by first | exact hc8 | exact hc8.1 | exact hc8.2 | omega | exact hc8.2.1)
        obtain ⟨m, hm⟩ : ∃ m, C.length = m := ⟨_, rfl⟩
        rw [hm]
        rw [hm] at HC8m HA8
        have HM := Lib.hid hm
        have hmb := HML.out.1
        rw [hm] at hmb
        have how5 := HOW.out.2
        clear ho8 o8 FL HS hm hA8 HO HC1 hc8
        by_cases h5 : ow + 5 ≤ m
        · have hmmeq : ow + 5 ≤ m := h5
          obtain ⟨C', hC'⟩ : ∃ C', C.take (ow + 5) = C' := ⟨_, rfl⟩
          have hl' : C'.length = ow + 5 := by rw [← hC', List.length_take, HM.out]; omega
          have hb' : ∀ x ∈ C', x ≤ 255 := fun x hx => HML.out.2 x (by rw [← hC'] at hx; exact List.mem_of_mem_take hx)
          have HL' := Lib.hid (by have := HL8.out.takeN (n := ow + 5); rw [hC'] at this; exact this)
          have HF' : Hid (∀ i, i ≤ ow + 4 → fB C' i = zE (eJ ps ps.length).1 (i + 1)) := Lib.hid (fun i hi => by
            rw [← hC', fB_take (by have := HM.out; omega)]; exact HF.out i)
          have HN' : Hid ((eJ ps N7).1.pre.length + 4 ≤ ow + 4 ∧ N7 ≤ ps.length) := Lib.hid ⟨by have := HOW.out.1; omega, by rw [HPS.out.2]; exact hN7n⟩
          have hc8m : m ≤ c8 := HC8m.out
          have D8 := Lib.hid (dnew_any (w := w8) (c := c8) hb' (by rw [hl']; exact fun h => ⟨by have := HA8.out h; omega, (HA8.out h).2⟩) HL'.out (by rw [hl']; have := HML.out.1; have := HM.out; omega))
          rw [hl'] at D8
          have e5 : (ow : Int) + 5 ≤ (m : Int) := by omega
          have e6 : 0 ≤ (ow : Int) + 5 ∧ (ow : Int) + 5 ≤ (c8 : Int) := by omega
          clear hC' hl' hb' HF HL8 HOW HM hmmeq HA8 HML HC8m
          go_wp2_with fail
          refine D8.out.mono ?_
          rintro x w9 ⟨p2, rfl, hd9, b9⟩
          have B9 := Lib.hid (B8.out.trans (b9.mono B8.out.size))
          have R9 : Hid (Below w5.heap.size w7 w9) := Lib.hid (R8.out.trans (b9.mono (by omega)))
          have hs9 := b9.size
          obtain ⟨lo, hlo⟩ : ∃ lo, w8.heap.size = lo := ⟨_, rfl⟩
          have hqlo : w5.heap.size + 1 < lo := by omega
          have HX0 : Hid (BkD W lo w5.heap.size p2 ps C' cx 0 w9) := Lib.hid (BkD.start (hd9.imp fun i _ h => by rw [← hlo]; exact h.1) (HC8.out.2.below b9) (HC8.out.1.below b9) (by omega) B9.out HPS.out.1 HN'.out.2 HF'.out HN'.out.1)
          clear b9 hd9 D8 B8 R8 HC8 HL' B9 hlo hs9 s8 e5 e6
          go_wp2
          go_loopw [15] (fun i wr => ∃ t : Nat, t ≤ N7 ∧ i = .int .i64 (t : Int) ∧ Below w5.heap.size w7 wr ∧ BkD W lo w5.heap.size p2 ps C' cx t wr) (fun i _ => N7 - (intOf i).toNat)
          case atStart => exact ⟨0, by omega, rfl, R9.out, HX0.out⟩
          case round =>
           obtain ⟨t, ht, rfl, hR, hS⟩ := hrel
           have HX := Lib.hid hS
           have HR : Hid (Below w5.heap.size w7 wr.drew) := Lib.hid (below_drewN hR 1)
           clear hS hR HX0 R9
           by_cases hlt2 : t < N7
           · obtain ⟨k, hk1, hk2⟩ := nat_of HKB.out.2.1 (j := t) (by rw [HKB.out.1.1]; omega)
             obtain ⟨b, hb1, hb2⟩ := nat_of (n := 2) (fun x hx => by have := HKB.out.2.2 x hx; omega) (j := t) (by rw [HKB.out.1.2]; omega)
             obtain ⟨bk, ok, rfl, hbk, mk⟩ := (HK7.out.1 t (.int .i64 (k : Int)) (by rw [List.getElem?_map, hk1]; rfl))
             obtain ⟨bb, ob, rfl, hbb, mb⟩ := (HK7.out.2 t (.int .i64 (b : Int)) (by rw [List.getElem?_map, hb1]; rfl))
             have HKC : Hid (∀ w', Below w5.heap.size w7 w' → w'.cell? ⟨bk, ok + t, none⟩ = some (.int .i64 (k : Int))) := Lib.hid (fun w' h => (h.cell (p := ⟨bk, ok + t, none⟩) hbk).trans mk)
             have HBC : Hid (∀ w', Below w5.heap.size w7 w' → w'.cell? ⟨bb, ob + t, none⟩ = some (.int .i64 (b : Int))) := Lib.hid (fun w' h => (h.cell (p := ⟨bb, ob + t, none⟩) hbb).trans mb)
             have h3 : (t : Int) < (N7 : Int) := by omega
             have h4 : (0 : Int) ≤ (t : Int) := by omega
             have h7 : (t : Int) < (j : Int) := by omega
             have C1 : Hid (∀ u, BkD W lo w5.heap.size p2 ps C' cx t u → Calls Tryd.prog 27 #[.pointer (some ⟨p2, 0, none⟩), .pointer (some ⟨w5.heap.size + 1, 0, none⟩), .int .i64 (k : Int)] u fun x w' => x = .returned (.int .i64 (b : Int)) ∧ BkD W lo w5.heap.size p2 ps C' cx (t + 1) w' ∧ Below w5.heap.size u w') := Lib.hid (fun u h =>
               h.call HT.out hq5 hqlo HPS.out.1 HN'.out.2 HF'.out HN'.out.1 hlt2 (by omega) (HPA.out t k b hk1 hb1))
             have ebit : ((b : Int) != (b : Int)) = false := bne_self_eq_false _
             clear hk1 mk hbk hb1 mb hbb
             go_wp2
             refine (wpIn_wide (n := 9)).1 (regionIn_inv (Inv := fun L a' w' => a' = { tmps := #[.slice a0 len0 cap0, .int .i64 a1, undef, undef, u4, .slice (some ⟨bk, ok, none⟩) j cK, .slice (some ⟨bb, ob, none⟩) j cB, .int .i64 (N7 : Int), .pointer (some ⟨w5.heap.size, 0, none⟩), .pointer (some ⟨w5.heap.size + 1, 0, none⟩), .pointer (some ⟨p, 0, none⟩), .int .i64 (ow : Int), .int .i64 (j : Int), .slice A8 m c8, .pointer (some ⟨p2, 0, none⟩), .int .i64 (t : Int), .bool true, .bool false, .tuple #[.slice (some ⟨bk, ok, none⟩) j cK, .slice (some ⟨bb, ob, none⟩) j cB], .slice a0 len0 cap0, .tuple #[.slice (some ⟨bk, ok, none⟩) j cK, .slice (some ⟨bb, ob, none⟩) j cB], .slice (some ⟨bk, ok, none⟩) j cK, .slice (some ⟨bb, ob, none⟩) j cB, .int .i64 a1, .slice (some ⟨bk, ok, none⟩) j cK, .int .i64 (j : Int), .int .i64 ((j : Int) + 1), .int .i64 (N7 : Int), .agg (cxA (cxF 19)), .agg (cxA (cxF 19)), .pointer (some ⟨p, 0, none⟩), .int .i64 (j : Int), .slice (some ⟨bk, ok, none⟩) j cK, .int .i64 (j : Int), .bool false, u35, u36, u37, u38, u39, u40, u41, u42, u43, u44, u45, u46, u47, u48, u49, u50, u51, .int .i64 (N7 : Int), .slice (some ⟨bk, ok, none⟩) j cK, .int .i64 (j : Int), .bool true, .pointer (some ⟨p, 0, none⟩), .int .i64 (ow : Int), .pointer (some ⟨p, 0, none⟩), .slice A8 m c8, .slice A8 m c8, .int .i64 (ow : Int), .int .i64 ((ow : Int) + 5), .slice A8 m c8, .int .i64 (m : Int), .int .i64 ((ow : Int) + 5), .slice A8 (ow + 5) c8, .pointer (some ⟨p2, 0, none⟩), .int .i64 (t : Int), .int .i64 (N7 : Int), .bool true, u71, u72, bif L 0 then .pointer (some ⟨p2, 0, none⟩) else u73, bif L 1 then .slice (some ⟨bk, ok, none⟩) j cK else u74, bif L 2 then .int .i64 (t : Int) else u75, bif L 3 then .pointer (some ⟨bk, ok + t, none⟩) else u76, bif L 4 then .int .i64 (k : Int) else u77, bif L 5 then .int .i64 (b : Int) else u78, bif L 6 then .slice (some ⟨bb, ob, none⟩) j cB else u79, bif L 7 then .int .i64 (t : Int) else u80, bif L 8 then .pointer (some ⟨bb, ob + t, none⟩) else u81, bif L 9 then .int .i64 (b : Int) else u82, bif L 10 then .bool false else u83], defers := [] } ∧ (Below w5.heap.size w7 w') ∧ (bif L 5 then (BkD W lo w5.heap.size p2 ps C' cx (t + 1) w') else BkD W lo w5.heap.size p2 ps C' cx t w')) (by kernel_rfl) (by kernel_rfl) ?start ?step ?fin)
             case start => exact ⟨rfl, HR.out, HX.out.drew⟩
             case step =>
               intro i hi L a' w' hI hs hu
               obtain ⟨rfl, hcm, hph⟩ := hI
               have hL := hu.1
               have hi : i < 11 := hi
               obtain rfl | rfl | rfl | rfl | rfl | rfl | rfl | rfl | rfl | rfl | rfl := (by omega : i = 0 ∨ i = 1 ∨ i = 2 ∨ i = 3 ∨ i = 4 ∨ i = 5 ∨ i = 6 ∨ i = 7 ∨ i = 8 ∨ i = 9 ∨ i = 10)
               · skip
                 have n5 : L 5 = false := not_yet hL fun h => shut_at hs 5 0 (by kernel_rfl) (h)
                 refine opIn_run (v := .pointer (some ⟨p2, 0, none⟩)) (w' := w') rfl rfl (fun c h => by cases h) (fun _ => trivial) ?_ ⟨by simp [Act.put, upd, n5, hL], hcm, by simpa [upd] using hph⟩
                 simp only [n5, hL, cond_true, cond_false]
                 go_simp
               · skip
                 have n5 : L 5 = false := not_yet hL fun h => shut_at hs 3 1 (by kernel_rfl) (shut_at hs 4 3 (by kernel_rfl) (shut_at hs 5 4 (by kernel_rfl) (h)))
                 refine opIn_run (v := .slice (some ⟨bk, ok, none⟩) j cK) (w' := w') rfl rfl (fun c h => by cases h) (fun _ => trivial) ?_ ⟨by simp [Act.put, upd, n5, hL], hcm, by simpa [upd] using hph⟩
                 simp only [n5, hL, cond_true, cond_false]
                 go_simp
               · skip
                 have n5 : L 5 = false := not_yet hL fun h => shut_at hs 3 2 (by kernel_rfl) (shut_at hs 4 3 (by kernel_rfl) (shut_at hs 5 4 (by kernel_rfl) (h)))
                 refine opIn_run (v := .int .i64 (t : Int)) (w' := w') rfl rfl (fun c h => by cases h) (fun _ => trivial) ?_ ⟨by simp [Act.put, upd, n5, hL], hcm, by simpa [upd] using hph⟩
                 simp only [n5, hL, cond_true, cond_false]
                 go_simp
               · skip
                 have y1 : L 1 = true := up_at hu 1 (by kernel_rfl)
                 have y2 : L 2 = true := up_at hu 2 (by kernel_rfl)
                 have n5 : L 5 = false := not_yet hL fun h => shut_at hs 4 3 (by kernel_rfl) (shut_at hs 5 4 (by kernel_rfl) (h))
                 refine opIn_run (v := .pointer (some ⟨bk, ok + t, none⟩)) (w' := w') rfl rfl (fun c h => by cases h) (fun _ => trivial) ?_ ⟨by simp [Act.put, upd, y1, y2, n5, hL], hcm, by simpa [upd] using hph⟩
                 simp only [y1, y2, n5, hL, cond_true, cond_false]
                 go_simp
               · skip
                 have y1 : L 1 = true := shut_at hs 3 1 (by kernel_rfl) (up_at hu 3 (by kernel_rfl))
                 have y2 : L 2 = true := shut_at hs 3 2 (by kernel_rfl) (up_at hu 3 (by kernel_rfl))
                 have y3 : L 3 = true := up_at hu 3 (by kernel_rfl)
                 have n5 : L 5 = false := not_yet hL fun h => shut_at hs 5 4 (by kernel_rfl) (h)
                 have mk := HKC.out w' hcm
                 refine opIn_run (v := .int .i64 (k : Int)) (w' := w') rfl rfl (fun c h => by cases h) (fun _ => trivial) ?_ ⟨by simp [Act.put, upd, y1, y2, y3, n5, hL], hcm, by simpa [upd] using hph⟩
                 simp only [y1, y2, y3, n5, hL, cond_true, cond_false]
                 go_simp
               · skip
                 have y0 : L 0 = true := up_at hu 0 (by kernel_rfl)
                 have y1 : L 1 = true := shut_at hs 3 1 (by kernel_rfl) (shut_at hs 4 3 (by kernel_rfl) (up_at hu 4 (by kernel_rfl)))
                 have y2 : L 2 = true := shut_at hs 3 2 (by kernel_rfl) (shut_at hs 4 3 (by kernel_rfl) (up_at hu 4 (by kernel_rfl)))
                 have y3 : L 3 = true := shut_at hs 4 3 (by kernel_rfl) (up_at hu 4 (by kernel_rfl))
                 have y4 : L 4 = true := up_at hu 4 (by kernel_rfl)
                 simp only [y0, y1, y2, y3, y4, hL, cond_false] at hph
                 refine opIn_call (f := 27) (args := #[.pointer (some ⟨p2, 0, none⟩), .pointer (some ⟨w5.heap.size + 1, 0, none⟩), .int .i64 (k : Int)]) (w' := w') rfl rfl (fun c h => by cases h) (fun _ => trivial) rfl ?_ ((callsIn_wide.2 (C1.out w' hph)).mono ?_)
                 · simp only [y0, y1, y2, y3, y4, hL, cond_true, cond_false]
                   go_simp
                 · rintro e w2 ⟨rfl, hx, hb⟩
                   exact ⟨_, rfl, by simp [Act.put, upd, y0, y1, y2, y3, y4, hL], hcm.trans (hb.mono (Nat.le_refl _)), by simp only [upd, y0, y1, y2, y3, y4, hL]; exact hx⟩
               · skip
                 refine opIn_run (v := .slice (some ⟨bb, ob, none⟩) j cB) (w' := w') rfl rfl (fun c h => by cases h) (fun _ => trivial) ?_ ⟨by simp [Act.put, upd, hL], hcm, by simpa [upd] using hph⟩
                 simp only [hL, cond_true, cond_false]
                 go_simp
               · skip
                 refine opIn_run (v := .int .i64 (t : Int)) (w' := w') rfl rfl (fun c h => by cases h) (fun _ => trivial) ?_ ⟨by simp [Act.put, upd, hL], hcm, by simpa [upd] using hph⟩
                 simp only [hL, cond_true, cond_false]
                 go_simp
               · skip
                 have y6 : L 6 = true := up_at hu 6 (by kernel_rfl)
                 have y7 : L 7 = true := up_at hu 7 (by kernel_rfl)
                 refine opIn_run (v := .pointer (some ⟨bb, ob + t, none⟩)) (w' := w') rfl rfl (fun c h => by cases h) (fun _ => trivial) ?_ ⟨by simp [Act.put, upd, y6, y7, hL], hcm, by simpa [upd] using hph⟩
                 simp only [y6, y7, hL, cond_true, cond_false]
                 go_simp
               · skip
                 have y6 : L 6 = true := shut_at hs 8 6 (by kernel_rfl) (up_at hu 8 (by kernel_rfl))
                 have y7 : L 7 = true := shut_at hs 8 7 (by kernel_rfl) (up_at hu 8 (by kernel_rfl))
                 have y8 : L 8 = true := up_at hu 8 (by kernel_rfl)
                 have mk := HBC.out w' hcm
                 refine opIn_run (v := .int .i64 (b : Int)) (w' := w') rfl rfl (fun c h => by cases h) (fun _ => trivial) ?_ ⟨by simp [Act.put, upd, y6, y7, y8, hL], hcm, by simpa [upd] using hph⟩
                 simp only [y6, y7, y8, hL, cond_true, cond_false]
                 go_simp
               · skip
                 have y0 : L 0 = true := shut_at hs 5 0 (by kernel_rfl) (up_at hu 5 (by kernel_rfl))
                 have y1 : L 1 = true := shut_at hs 3 1 (by kernel_rfl) (shut_at hs 4 3 (by kernel_rfl) (shut_at hs 5 4 (by kernel_rfl) (up_at hu 5 (by kernel_rfl))))
                 have y2 : L 2 = true := shut_at hs 3 2 (by kernel_rfl) (shut_at hs 4 3 (by kernel_rfl) (shut_at hs 5 4 (by kernel_rfl) (up_at hu 5 (by kernel_rfl))))
                 have y3 : L 3 = true := shut_at hs 4 3 (by kernel_rfl) (shut_at hs 5 4 (by kernel_rfl) (up_at hu 5 (by kernel_rfl)))
                 have y4 : L 4 = true := shut_at hs 5 4 (by kernel_rfl) (up_at hu 5 (by kernel_rfl))
                 have y5 : L 5 = true := up_at hu 5 (by kernel_rfl)
                 have y6 : L 6 = true := shut_at hs 8 6 (by kernel_rfl) (shut_at hs 9 8 (by kernel_rfl) (up_at hu 9 (by kernel_rfl)))
                 have y7 : L 7 = true := shut_at hs 8 7 (by kernel_rfl) (shut_at hs 9 8 (by kernel_rfl) (up_at hu 9 (by kernel_rfl)))
                 have y8 : L 8 = true := shut_at hs 9 8 (by kernel_rfl) (up_at hu 9 (by kernel_rfl))
                 have y9 : L 9 = true := up_at hu 9 (by kernel_rfl)
                 refine opIn_run (v := .bool false) (w' := w') rfl rfl (fun c h => by cases h) (fun _ => trivial) ?_ ⟨by simp [Act.put, upd, y0, y1, y2, y3, y4, y5, y6, y7, y8, y9, hL], hcm, by simpa [upd] using hph⟩
                 simp only [y0, y1, y2, y3, y4, y5, y6, y7, y8, y9, hL, cond_true, cond_false]
                 go_simp
             case fin =>
               intro L a' w' hall hI
               obtain ⟨rfl, hcm, hph⟩ := hI
               have l0 := hall 0 (by decide)
               have l1 := hall 1 (by decide)
               have l2 := hall 2 (by decide)
               have l3 := hall 3 (by decide)
               have l4 := hall 4 (by decide)
               have l5 := hall 5 (by decide)
               have l6 := hall 6 (by decide)
               have l7 := hall 7 (by decide)
               have l8 := hall 8 (by decide)
               have l9 := hall 9 (by decide)
               have l10 := hall 10 (by decide)
               simp only [l0, l1, l2, l3, l4, l5, l6, l7, l8, l9, l10, cond_true] at hph ⊢
               clear l0 l1 l2 l3 l4 l5 l6 l7 l8 l9 l10 hall
               have HX2 := Lib.hid hph
               have HR2 := Lib.hid hcm
               clear hph hcm C1 HX HR
               go_wp2
               exact ⟨⟨t + 1, by omega, by go_num, HR2.out, HX2.out⟩, by simp [intOf]; omega⟩
           · obtain rfl : t = N7 := by omega
             have h3 : ¬ (t : Int) < (t : Int) := by omega
             have HB9 := Lib.hid HX.out.bel
             clear HR HX
             go_wp2
             go_ret
             exact ⟨rfl, HB9.out⟩
        · have hmmeq : m < ow + 5 := by omega
          obtain ⟨C', hC'⟩ : ∃ C', C.take (m) = C' := ⟨_, rfl⟩
          have hl' : C'.length = m := by rw [← hC', List.length_take, HM.out]; omega
          have hb' : ∀ x ∈ C', x ≤ 255 := fun x hx => HML.out.2 x (by rw [← hC'] at hx; exact List.mem_of_mem_take hx)
          have HL' := Lib.hid (by have := HL8.out.takeN (n := m); rw [hC'] at this; exact this)
          have HF' : Hid (∀ i, i ≤ ow + 4 → fB C' i = zE (eJ ps ps.length).1 (i + 1)) := Lib.hid (fun i hi => by
            rw [← hC', fB_take (by have := HM.out; omega)]; exact HF.out i)
          have HN' : Hid ((eJ ps N7).1.pre.length + 4 ≤ ow + 4 ∧ N7 ≤ ps.length) := Lib.hid ⟨by have := HOW.out.1; omega, by rw [HPS.out.2]; exact hN7n⟩
          have hc8m : m ≤ c8 := HC8m.out
          have D8 := Lib.hid (dnew_any (w := w8) (c := c8) hb' (by rw [hl']; exact fun h => ⟨by have := HA8.out h; omega, (HA8.out h).2⟩) HL'.out (by rw [hl']; have := HML.out.1; have := HM.out; omega))
          rw [hl'] at D8
          have e5 : ¬ (ow : Int) + 5 ≤ (m : Int) := by omega
          have e6 : (m : Int) < (ow : Int) + 5 := by omega
          clear hC' hl' hb' HF HL8 HOW HM hmmeq HA8 HML HC8m
          go_wp2_with fail
          refine D8.out.mono ?_
          rintro x w9 ⟨p2, rfl, hd9, b9⟩
          have B9 := Lib.hid (B8.out.trans (b9.mono B8.out.size))
          have R9 : Hid (Below w5.heap.size w7 w9) := Lib.hid (R8.out.trans (b9.mono (by omega)))
          have hs9 := b9.size
          obtain ⟨lo, hlo⟩ : ∃ lo, w8.heap.size = lo := ⟨_, rfl⟩
          have hqlo : w5.heap.size + 1 < lo := by omega
          have HX0 : Hid (BkD W lo w5.heap.size p2 ps C' cx 0 w9) := Lib.hid (BkD.start (hd9.imp fun i _ h => by rw [← hlo]; exact h.1) (HC8.out.2.below b9) (HC8.out.1.below b9) (by omega) B9.out HPS.out.1 HN'.out.2 HF'.out HN'.out.1)
          clear b9 hd9 D8 B8 R8 HC8 HL' B9 hlo hs9 s8 e5 e6
          go_wp2
          go_loopw [15] (fun i wr => ∃ t : Nat, t ≤ N7 ∧ i = .int .i64 (t : Int) ∧ Below w5.heap.size w7 wr ∧ BkD W lo w5.heap.size p2 ps C' cx t wr) (fun i _ => N7 - (intOf i).toNat)
          case atStart => exact ⟨0, by omega, rfl, R9.out, HX0.out⟩
          case round =>
           obtain ⟨t, ht, rfl, hR, hS⟩ := hrel
           have HX := Lib.hid hS
           have HR : Hid (Below w5.heap.size w7 wr.drew) := Lib.hid (below_drewN hR 1)
           clear hS hR HX0 R9
           by_cases hlt2 : t < N7
           · obtain ⟨k, hk1, hk2⟩ := nat_of HKB.out.2.1 (j := t) (by rw [HKB.out.1.1]; omega)
             obtain ⟨b, hb1, hb2⟩ := nat_of (n := 2) (fun x hx => by have := HKB.out.2.2 x hx; omega) (j := t) (by rw [HKB.out.1.2]; omega)
             obtain ⟨bk, ok, rfl, hbk, mk⟩ := (HK7.out.1 t (.int .i64 (k : Int)) (by rw [List.getElem?_map, hk1]; rfl))
             obtain ⟨bb, ob, rfl, hbb, mb⟩ := (HK7.out.2 t (.int .i64 (b : Int)) (by rw [List.getElem?_map, hb1]; rfl))
             have HKC : Hid (∀ w', Below w5.heap.size w7 w' → w'.cell? ⟨bk, ok + t, none⟩ = some (.int .i64 (k : Int))) := Lib.hid (fun w' h => (h.cell (p := ⟨bk, ok + t, none⟩) hbk).trans mk)
             have HBC : Hid (∀ w', Below w5.heap.size w7 w' → w'.cell? ⟨bb, ob + t, none⟩ = some (.int .i64 (b : Int))) := Lib.hid (fun w' h => (h.cell (p := ⟨bb, ob + t, none⟩) hbb).trans mb)
             have h3 : (t : Int) < (N7 : Int) := by omega
             have h4 : (0 : Int) ≤ (t : Int) := by omega
             have h7 : (t : Int) < (j : Int) := by omega
             have C1 : Hid (∀ u, BkD W lo w5.heap.size p2 ps C' cx t u → Calls Tryd.prog 27 #[.pointer (some ⟨p2, 0, none⟩), .pointer (some ⟨w5.heap.size + 1, 0, none⟩), .int .i64 (k : Int)] u fun x w' => x = .returned (.int .i64 (b : Int)) ∧ BkD W lo w5.heap.size p2 ps C' cx (t + 1) w' ∧ Below w5.heap.size u w') := Lib.hid (fun u h =>
               h.call HT.out hq5 hqlo HPS.out.1 HN'.out.2 HF'.out HN'.out.1 hlt2 (by omega) (HPA.out t k b hk1 hb1))
             have ebit : ((b : Int) != (b : Int)) = false := bne_self_eq_false _
             clear hk1 mk hbk hb1 mb hbb
             go_wp2
             refine (wpIn_wide (n := 9)).1 (regionIn_inv (Inv := fun L a' w' => a' = { tmps := #[.slice a0 len0 cap0, .int .i64 a1, undef, undef, u4, .slice (some ⟨bk, ok, none⟩) j cK, .slice (some ⟨bb, ob, none⟩) j cB, .int .i64 (N7 : Int), .pointer (some ⟨w5.heap.size, 0, none⟩), .pointer (some ⟨w5.heap.size + 1, 0, none⟩), .pointer (some ⟨p, 0, none⟩), .int .i64 (ow : Int), .int .i64 (j : Int), .slice A8 m c8, .pointer (some ⟨p2, 0, none⟩), .int .i64 (t : Int), .bool true, .bool false, .tuple #[.slice (some ⟨bk, ok, none⟩) j cK, .slice (some ⟨bb, ob, none⟩) j cB], .slice a0 len0 cap0, .tuple #[.slice (some ⟨bk, ok, none⟩) j cK, .slice (some ⟨bb, ob, none⟩) j cB], .slice (some ⟨bk, ok, none⟩) j cK, .slice (some ⟨bb, ob, none⟩) j cB, .int .i64 a1, .slice (some ⟨bk, ok, none⟩) j cK, .int .i64 (j : Int), .int .i64 ((j : Int) + 1), .int .i64 (N7 : Int), .agg (cxA (cxF 19)), .agg (cxA (cxF 19)), .pointer (some ⟨p, 0, none⟩), .int .i64 (j : Int), .slice (some ⟨bk, ok, none⟩) j cK, .int .i64 (j : Int), .bool false, u35, u36, u37, u38, u39, u40, u41, u42, u43, u44, u45, u46, u47, u48, u49, u50, u51, .int .i64 (N7 : Int), .slice (some ⟨bk, ok, none⟩) j cK, .int .i64 (j : Int), .bool true, .pointer (some ⟨p, 0, none⟩), .int .i64 (ow : Int), .pointer (some ⟨p, 0, none⟩), .slice A8 m c8, .slice A8 m c8, .int .i64 (ow : Int), .int .i64 ((ow : Int) + 5), .slice A8 m c8, .int .i64 (m : Int), .int .i64 (m : Int), .slice A8 m c8, .pointer (some ⟨p2, 0, none⟩), .int .i64 (t : Int), .int .i64 (N7 : Int), .bool true, u71, u72, bif L 0 then .pointer (some ⟨p2, 0, none⟩) else u73, bif L 1 then .slice (some ⟨bk, ok, none⟩) j cK else u74, bif L 2 then .int .i64 (t : Int) else u75, bif L 3 then .pointer (some ⟨bk, ok + t, none⟩) else u76, bif L 4 then .int .i64 (k : Int) else u77, bif L 5 then .int .i64 (b : Int) else u78, bif L 6 then .slice (some ⟨bb, ob, none⟩) j cB else u79, bif L 7 then .int .i64 (t : Int) else u80, bif L 8 then .pointer (some ⟨bb, ob + t, none⟩) else u81, bif L 9 then .int .i64 (b : Int) else u82, bif L 10 then .bool false else u83], defers := [] } ∧ (Below w5.heap.size w7 w') ∧ (bif L 5 then (BkD W lo w5.heap.size p2 ps C' cx (t + 1) w') else BkD W lo w5.heap.size p2 ps C' cx t w')) (by kernel_rfl) (by kernel_rfl) ?start ?step ?fin)
             case start => exact ⟨rfl, HR.out, HX.out.drew⟩
             case step =>
               intro i hi L a' w' hI hs hu
               obtain ⟨rfl, hcm, hph⟩ := hI
               have hL := hu.1
               have hi : i < 11 := hi
               obtain rfl | rfl | rfl | rfl | rfl | rfl | rfl | rfl | rfl | rfl | rfl := (by omega : i = 0 ∨ i = 1 ∨ i = 2 ∨ i = 3 ∨ i = 4 ∨ i = 5 ∨ i = 6 ∨ i = 7 ∨ i = 8 ∨ i = 9 ∨ i = 10)
               · skip
                 have n5 : L 5 = false := not_yet hL fun h => shut_at hs 5 0 (by kernel_rfl) (h)
                 refine opIn_run (v := .pointer (some ⟨p2, 0, none⟩)) (w' := w') rfl rfl (fun c h => by cases h) (fun _ => trivial) ?_ ⟨by simp [Act.put, upd, n5, hL], hcm, by simpa [upd] using hph⟩
                 simp only [n5, hL, cond_true, cond_false]
                 go_simp
               · skip
                 have n5 : L 5 = false := not_yet hL fun h => shut_at hs 3 1 (by kernel_rfl) (shut_at hs 4 3 (by kernel_rfl) (shut_at hs 5 4 (by kernel_rfl) (h)))
                 refine opIn_run (v := .slice (some ⟨bk, ok, none⟩) j cK) (w' := w') rfl rfl (fun c h => by cases h) (fun _ => trivial) ?_ ⟨by simp [Act.put, upd, n5, hL], hcm, by simpa [upd] using hph⟩
                 simp only [n5, hL, cond_true, cond_false]
                 go_simp
               · skip
                 have n5 : L 5 = false := not_yet hL fun h => shut_at hs 3 2 (by kernel_rfl) (shut_at hs 4 3 (by kernel_rfl) (shut_at hs 5 4 (by kernel_rfl) (h)))
                 refine opIn_run (v := .int .i64 (t : Int)) (w' := w') rfl rfl (fun c h => by cases h) (fun _ => trivial) ?_ ⟨by simp [Act.put, upd, n5, hL], hcm, by simpa [upd] using hph⟩
                 simp only [n5, hL, cond_true, cond_false]
                 go_simp
               · skip
                 have y1 : L 1 = true := up_at hu 1 (by kernel_rfl)
                 have y2 : L 2 = true := up_at hu 2 (by kernel_rfl)
                 have n5 : L 5 = false := not_yet hL fun h => shut_at hs 4 3 (by kernel_rfl) (shut_at hs 5 4 (by kernel_rfl) (h))
                 refine opIn_run (v := .pointer (some ⟨bk, ok + t, none⟩)) (w' := w') rfl rfl (fun c h => by cases h) (fun _ => trivial) ?_ ⟨by simp [Act.put, upd, y1, y2, n5, hL], hcm, by simpa [upd] using hph⟩
                 simp only [y1, y2, n5, hL, cond_true, cond_false]
                 go_simp
               · skip
                 have y1 : L 1 = true := shut_at hs 3 1 (by kernel_rfl) (up_at hu 3 (by kernel_rfl))
                 have y2 : L 2 = true := shut_at hs 3 2 (by kernel_rfl) (up_at hu 3 (by kernel_rfl))
                 have y3 : L 3 = true := up_at hu 3 (by kernel_rfl)
                 have n5 : L 5 = false := not_yet hL fun h => shut_at hs 5 4 (by kernel_rfl) (h)
                 have mk := HKC.out w' hcm
                 refine opIn_run (v := .int .i64 (k : Int)) (w' := w') rfl rfl (fun c h => by cases h) (fun _ => trivial) ?_ ⟨by simp [Act.put, upd, y1, y2, y3, n5, hL], hcm, by simpa [upd] using hph⟩
                 simp only [y1, y2, y3, n5, hL, cond_true, cond_false]
                 go_simp
               · skip
                 have y0 : L 0 = true := up_at hu 0 (by kernel_rfl)
                 have y1 : L 1 = true := shut_at hs 3 1 (by kernel_rfl) (shut_at hs 4 3 (by kernel_rfl) (up_at hu 4 (by kernel_rfl)))
                 have y2 : L 2 = true := shut_at hs 3 2 (by kernel_rfl) (shut_at hs 4 3 (by kernel_rfl) (up_at hu 4 (by kernel_rfl)))
                 have y3 : L 3 = true := shut_at hs 4 3 (by kernel_rfl) (up_at hu 4 (by kernel_rfl))
                 have y4 : L 4 = true := up_at hu 4 (by kernel_rfl)
                 simp only [y0, y1, y2, y3, y4, hL, cond_false] at hph
                 refine opIn_call (f := 27) (args := #[.pointer (some ⟨p2, 0, none⟩), .pointer (some ⟨w5.heap.size + 1, 0, none⟩), .int .i64 (k : Int)]) (w' := w') rfl rfl (fun c h => by cases h) (fun _ => trivial) rfl ?_ ((callsIn_wide.2 (C1.out w' hph)).mono ?_)
                 · simp only [y0, y1, y2, y3, y4, hL, cond_true, cond_false]
                   go_simp
                 · rintro e w2 ⟨rfl, hx, hb⟩
                   exact ⟨_, rfl, by simp [Act.put, upd, y0, y1, y2, y3, y4, hL], hcm.trans (hb.mono (Nat.le_refl _)), by simp only [upd, y0, y1, y2, y3, y4, hL]; exact hx⟩
               · skip
                 refine opIn_run (v := .slice (some ⟨bb, ob, none⟩) j cB) (w' := w') rfl rfl (fun c h => by cases h) (fun _ => trivial) ?_ ⟨by simp [Act.put, upd, hL], hcm, by simpa [upd] using hph⟩
                 simp only [hL, cond_true, cond_false]
                 go_simp
               · skip
                 refine opIn_run (v := .int .i64 (t : Int)) (w' := w') rfl rfl (fun c h => by cases h) (fun _ => trivial) ?_ ⟨by simp [Act.put, upd, hL], hcm, by simpa [upd] using hph⟩
                 simp only [hL, cond_true, cond_false]
                 go_simp
               · skip
                 have y6 : L 6 = true := up_at hu 6 (by kernel_rfl)
                 have y7 : L 7 = true := up_at hu 7 (by kernel_rfl)
                 refine opIn_run (v := .pointer (some ⟨bb, ob + t, none⟩)) (w' := w') rfl rfl (fun c h => by cases h) (fun _ => trivial) ?_ ⟨by simp [Act.put, upd, y6, y7, hL], hcm, by simpa [upd] using hph⟩
                 simp only [y6, y7, hL, cond_true, cond_false]
                 go_simp
               · skip
                 have y6 : L 6 = true := shut_at hs 8 6 (by kernel_rfl) (up_at hu 8 (by kernel_rfl))
                 have y7 : L 7 = true := shut_at hs 8 7 (by kernel_rfl) (up_at hu 8 (by kernel_rfl))
                 have y8 : L 8 = true := up_at hu 8 (by kernel_rfl)
                 have mk := HBC.out w' hcm
                 refine opIn_run (v := .int .i64 (b : Int)) (w' := w') rfl rfl (fun c h => by cases h) (fun _ => trivial) ?_ ⟨by simp [Act.put, upd, y6, y7, y8, hL], hcm, by simpa [upd] using hph⟩
                 simp only [y6, y7, y8, hL, cond_true, cond_false]
                 go_simp
               · skip
                 have y0 : L 0 = true := shut_at hs 5 0 (by kernel_rfl) (up_at hu 5 (by kernel_rfl))
                 have y1 : L 1 = true := shut_at hs 3 1 (by kernel_rfl) (shut_at hs 4 3 (by kernel_rfl) (shut_at hs 5 4 (by kernel_rfl) (up_at hu 5 (by kernel_rfl))))
                 have y2 : L 2 = true := shut_at hs 3 2 (by kernel_rfl) (shut_at hs 4 3 (by kernel_rfl) (shut_at hs 5 4 (by kernel_rfl) (up_at hu 5 (by kernel_rfl))))
                 have y3 : L 3 = true := shut_at hs 4 3 (by kernel_rfl) (shut_at hs 5 4 (by kernel_rfl) (up_at hu 5 (by kernel_rfl)))
                 have y4 : L 4 = true := shut_at hs 5 4 (by kernel_rfl) (up_at hu 5 (by kernel_rfl))
                 have y5 : L 5 = true := up_at hu 5 (by kernel_rfl)
                 have y6 : L 6 = true := shut_at hs 8 6 (by kernel_rfl) (shut_at hs 9 8 (by kernel_rfl) (up_at hu 9 (by kernel_rfl)))
                 have y7 : L 7 = true := shut_at hs 8 7 (by kernel_rfl) (shut_at hs 9 8 (by kernel_rfl) (up_at hu 9 (by kernel_rfl)))
                 have y8 : L 8 = true := shut_at hs 9 8 (by kernel_rfl) (up_at hu 9 (by kernel_rfl))
                 have y9 : L 9 = true := up_at hu 9 (by kernel_rfl)
                 refine opIn_run (v := .bool false) (w' := w') rfl rfl (fun c h => by cases h) (fun _ => trivial) ?_ ⟨by simp [Act.put, upd, y0, y1, y2, y3, y4, y5, y6, y7, y8, y9, hL], hcm, by simpa [upd] using hph⟩
                 simp only [y0, y1, y2, y3, y4, y5, y6, y7, y8, y9, hL, cond_true, cond_false]
                 go_simp
             case fin =>
               intro L a' w' hall hI
               obtain ⟨rfl, hcm, hph⟩ := hI
               have l0 := hall 0 (by decide)
               have l1 := hall 1 (by decide)
               have l2 := hall 2 (by decide)
               have l3 := hall 3 (by decide)
               have l4 := hall 4 (by decide)
               have l5 := hall 5 (by decide)
               have l6 := hall 6 (by decide)
               have l7 := hall 7 (by decide)
               have l8 := hall 8 (by decide)
               have l9 := hall 9 (by decide)
               have l10 := hall 10 (by decide)
               simp only [l0, l1, l2, l3, l4, l5, l6, l7, l8, l9, l10, cond_true] at hph ⊢
               clear l0 l1 l2 l3 l4 l5 l6 l7 l8 l9 l10 hall
               have HX2 := Lib.hid hph
               have HR2 := Lib.hid hcm
               clear hph hcm C1 HX HR
               go_wp2
               exact ⟨⟨t + 1, by omega, by go_num, HR2.out, HX2.out⟩, by simp [intOf]; omega⟩
           · obtain rfl : t = N7 := by omega
             have h3 : ¬ (t : Int) < (t : Int) := by omega
             have HB9 := Lib.hid HX.out.bel
             clear HR HX
             go_wp2
             go_ret
             exact ⟨rfl, HB9.out⟩
      · have e0 : ((N7 : Int) == (j : Int)) = false := by simp; omega
        obtain ⟨ow, hw⟩ : ∃ x, ov = x := ⟨_, rfl⟩
        have HOW := Lib.hid (And.intro (HOJ.out (by omega)) hov)
        rw [hw] at HOW
        subst hw
        clear hjN
        have FL := Lib.hid (flush_any HS.out.ew HS.out.fine (by omega) (fun i hi => Nat.le_trans hsz hi))
        have hml := mCode_len e
        have h255 := mCode_255 HS.out.fine
        have hze := fun i => zE_code e i
        obtain ⟨C, hC⟩ : ∃ C, mCode e = C := ⟨_, rfl⟩
        rw [hC] at hml FL h255
        simp only [hC] at hze
        have HML := Lib.hid (And.intro (show C.length ≤ 10000 by omega) h255)
        have HF : Hid (∀ i, fB C i = zE (eJ ps ps.length).1 (i + 1)) := Lib.hid (fun i => by
          rw [HPS.out.2, HJ.out]; exact (hze i).symm)
        clear hC hml hle h255 hze HJ
        go_wp2_with fail
        refine FL.out.mono ?_
        rintro x w8 ⟨V, rfl, ho8, o8⟩
        have B8 := Lib.hid (HS.out.bel.trans (Only.below o8 (lo := W.heap.size) fun i hi => by
          have : w6.heap.size ≤ i := hi
          omega))
        have R8 : Hid (Below w5.heap.size w7 w8) := Lib.hid (HO.out.trans (Only.below o8 fun i hi => by
          have : w6.heap.size ≤ i := hi
          omega))
        have HC8 : Hid (Cb w8 w5.heap.size cx ∧ Cb w8 (w5.heap.size + 1) (cxF 19)) := Lib.hid ⟨HS.out.cb.only o8 (fun h => by
          have : w6.heap.size ≤ w5.heap.size := h
          omega), HC1.out.only o8 (fun h => by
          have : w6.heap.size ≤ w5.heap.size + 1 := h
          omega)⟩
        have s8 : w6.heap.size ≤ w8.heap.size := Nat.le_trans hsz o8.size
        obtain ⟨A8, c8, rfl, hA8, hc8⟩ := own_any ho8
        have HA8 := Lib.hid hA8
        have HL8 := Lib.hid (Lst.own ho8)
        have HC8m := Lib.hid (show C.length ≤ c8 by first | exact hc8 | exact hc8.1 | exact hc8.2 | omega | exact hc8.2.1)
        obtain ⟨m, hm⟩ : ∃ m, C.length = m := ⟨_, rfl⟩
        rw [hm]
        rw [hm] at HC8m HA8
        have HM := Lib.hid hm
        have hmb := HML.out.1
        rw [hm] at hmb
        have how5 := HOW.out.2
        clear ho8 o8 FL HS hm hA8 HO HC1 hc8
        by_cases h5 : ov + 5 ≤ m
        · have hmmeq : ov + 5 ≤ m := h5
          obtain ⟨C', hC'⟩ : ∃ C', C.take (ov + 5) = C' := ⟨_, rfl⟩
          have hl' : C'.length = ov + 5 := by rw [← hC', List.length_take, HM.out]; omega
          have hb' : ∀ x ∈ C', x ≤ 255 := fun x hx => HML.out.2 x (by rw [← hC'] at hx; exact List.mem_of_mem_take hx)
          have HL' := Lib.hid (by have := HL8.out.takeN (n := ov + 5); rw [hC'] at this; exact this)
          have HF' : Hid (∀ i, i ≤ ov + 4 → fB C' i = zE (eJ ps ps.length).1 (i + 1)) := Lib.hid (fun i hi => by
            rw [← hC', fB_take (by have := HM.out; omega)]; exact HF.out i)
          have HN' : Hid ((eJ ps N7).1.pre.length + 4 ≤ ov + 4 ∧ N7 ≤ ps.length) := Lib.hid ⟨by have := HOW.out.1; omega, by rw [HPS.out.2]; exact hN7n⟩
          have hc8m : m ≤ c8 := HC8m.out
          have D8 := Lib.hid (dnew_any (w := w8) (c := c8) hb' (by rw [hl']; exact fun h => ⟨by have := HA8.out h; omega, (HA8.out h).2⟩) HL'.out (by rw [hl']; have := HML.out.1; have := HM.out; omega))
          rw [hl'] at D8
          have e5 : (ov : Int) + 5 ≤ (m : Int) := by omega
          have e6 : 0 ≤ (ov : Int) + 5 ∧ (ov : Int) + 5 ≤ (c8 : Int) := by omega
          clear hC' hl' hb' HF HL8 HOW HM hmmeq HA8 HML HC8m
          go_wp2_with fail
          refine D8.out.mono ?_
          rintro x w9 ⟨p2, rfl, hd9, b9⟩
          have B9 := Lib.hid (B8.out.trans (b9.mono B8.out.size))
          have R9 : Hid (Below w5.heap.size w7 w9) := Lib.hid (R8.out.trans (b9.mono (by omega)))
          have hs9 := b9.size
          obtain ⟨lo, hlo⟩ : ∃ lo, w8.heap.size = lo := ⟨_, rfl⟩
          have hqlo : w5.heap.size + 1 < lo := by omega
          have HX0 : Hid (BkD W lo w5.heap.size p2 ps C' cx 0 w9) := Lib.hid (BkD.start (hd9.imp fun i _ h => by rw [← hlo]; exact h.1) (HC8.out.2.below b9) (HC8.out.1.below b9) (by omega) B9.out HPS.out.1 HN'.out.2 HF'.out HN'.out.1)
          clear b9 hd9 D8 B8 R8 HC8 HL' B9 hlo hs9 s8 e5 e6
          go_wp2
          go_loopw [15] (fun i wr => ∃ t : Nat, t ≤ N7 ∧ i = .int .i64 (t : Int) ∧ Below w5.heap.size w7 wr ∧ BkD W lo w5.heap.size p2 ps C' cx t wr) (fun i _ => N7 - (intOf i).toNat)
          case atStart => exact ⟨0, by omega, rfl, R9.out, HX0.out⟩
          case round =>
           obtain ⟨t, ht, rfl, hR, hS⟩ := hrel
           have HX := Lib.hid hS
           have HR : Hid (Below w5.heap.size w7 wr.drew) := Lib.hid (below_drewN hR 1)
           clear hS hR HX0 R9
           by_cases hlt2 : t < N7
           · obtain ⟨k, hk1, hk2⟩ := nat_of HKB.out.2.1 (j := t) (by rw [HKB.out.1.1]; omega)
             obtain ⟨b, hb1, hb2⟩ := nat_of (n := 2) (fun x hx => by have := HKB.out.2.2 x hx; omega) (j := t) (by rw [HKB.out.1.2]; omega)
             obtain ⟨bk, ok, rfl, hbk, mk⟩ := (HK7.out.1 t (.int .i64 (k : Int)) (by rw [List.getElem?_map, hk1]; rfl))
             obtain ⟨bb, ob, rfl, hbb, mb⟩ := (HK7.out.2 t (.int .i64 (b : Int)) (by rw [List.getElem?_map, hb1]; rfl))
             have HKC : Hid (∀ w', Below w5.heap.size w7 w' → w'.cell? ⟨bk, ok + t, none⟩ = some (.int .i64 (k : Int))) := Lib.hid (fun w' h => (h.cell (p := ⟨bk, ok + t, none⟩) hbk).trans mk)
             have HBC : Hid (∀ w', Below w5.heap.size w7 w' → w'.cell? ⟨bb, ob + t, none⟩ = some (.int .i64 (b : Int))) := Lib.hid (fun w' h => (h.cell (p := ⟨bb, ob + t, none⟩) hbb).trans mb)
             have h3 : (t : Int) < (N7 : Int) := by omega
             have h4 : (0 : Int) ≤ (t : Int) := by omega
             have h7 : (t : Int) < (j : Int) := by omega
             have C1 : Hid (∀ u, BkD W lo w5.heap.size p2 ps C' cx t u → Calls Tryd.prog 27 #[.pointer (some ⟨p2, 0, none⟩), .pointer (some ⟨w5.heap.size + 1, 0, none⟩), .int .i64 (k : Int)] u fun x w' => x = .returned (.int .i64 (b : Int)) ∧ BkD W lo w5.heap.size p2 ps C' cx (t + 1) w' ∧ Below w5.heap.size u w') := Lib.hid (fun u h =>
               h.call HT.out hq5 hqlo HPS.out.1 HN'.out.2 HF'.out HN'.out.1 hlt2 (by omega) (HPA.out t k b hk1 hb1))
             have ebit : ((b : Int) != (b : Int)) = false := bne_self_eq_false _
             clear hk1 mk hbk hb1 mb hbb
             go_wp2
             refine (wpIn_wide (n := 9)).1 (regionIn_inv (Inv := fun L a' w' => a' = { tmps := #[.slice a0 len0 cap0, .int .i64 a1, undef, undef, u4, .slice (some ⟨bk, ok, none⟩) j cK, .slice (some ⟨bb, ob, none⟩) j cB, .int .i64 (N7 : Int), .pointer (some ⟨w5.heap.size, 0, none⟩), .pointer (some ⟨w5.heap.size + 1, 0, none⟩), .pointer (some ⟨p, 0, none⟩), .int .i64 (ov : Int), .int .i64 (j : Int), .slice A8 m c8, .pointer (some ⟨p2, 0, none⟩), .int .i64 (t : Int), .bool true, .bool false, .tuple #[.slice (some ⟨bk, ok, none⟩) j cK, .slice (some ⟨bb, ob, none⟩) j cB], .slice a0 len0 cap0, .tuple #[.slice (some ⟨bk, ok, none⟩) j cK, .slice (some ⟨bb, ob, none⟩) j cB], .slice (some ⟨bk, ok, none⟩) j cK, .slice (some ⟨bb, ob, none⟩) j cB, .int .i64 a1, .slice (some ⟨bk, ok, none⟩) j cK, .int .i64 (j : Int), .int .i64 ((j : Int) + 1), .int .i64 (N7 : Int), .agg (cxA (cxF 19)), .agg (cxA (cxF 19)), .pointer (some ⟨p, 0, none⟩), .int .i64 (j : Int), .slice (some ⟨bk, ok, none⟩) j cK, .int .i64 (j : Int), .bool false, u35, u36, u37, u38, u39, u40, u41, u42, u43, u44, u45, u46, u47, u48, u49, u50, u51, .int .i64 (N7 : Int), .slice (some ⟨bk, ok, none⟩) j cK, .int .i64 (j : Int), .bool false, undef, undef, .pointer (some ⟨p, 0, none⟩), .slice A8 m c8, .slice A8 m c8, .int .i64 (ov : Int), .int .i64 ((ov : Int) + 5), .slice A8 m c8, .int .i64 (m : Int), .int .i64 ((ov : Int) + 5), .slice A8 (ov + 5) c8, .pointer (some ⟨p2, 0, none⟩), .int .i64 (t : Int), .int .i64 (N7 : Int), .bool true, u71, u72, bif L 0 then .pointer (some ⟨p2, 0, none⟩) else u73, bif L 1 then .slice (some ⟨bk, ok, none⟩) j cK else u74, bif L 2 then .int .i64 (t : Int) else u75, bif L 3 then .pointer (some ⟨bk, ok + t, none⟩) else u76, bif L 4 then .int .i64 (k : Int) else u77, bif L 5 then .int .i64 (b : Int) else u78, bif L 6 then .slice (some ⟨bb, ob, none⟩) j cB else u79, bif L 7 then .int .i64 (t : Int) else u80, bif L 8 then .pointer (some ⟨bb, ob + t, none⟩) else u81, bif L 9 then .int .i64 (b : Int) else u82, bif L 10 then .bool false else u83], defers := [] } ∧ (Below w5.heap.size w7 w') ∧ (bif L 5 then (BkD W lo w5.heap.size p2 ps C' cx (t + 1) w') else BkD W lo w5.heap.size p2 ps C' cx t w')) (by kernel_rfl) (by kernel_rfl) ?start ?step ?fin)
             case start => exact ⟨rfl, HR.out, HX.out.drew⟩
             case step =>
               intro i hi L a' w' hI hs hu
               obtain ⟨rfl, hcm, hph⟩ := hI
               have hL := hu.1
               have hi : i < 11 := hi
               obtain rfl | rfl | rfl | rfl | rfl | rfl | rfl | rfl | rfl | rfl | rfl := (by omega : i = 0 ∨ i = 1 ∨ i = 2 ∨ i = 3 ∨ i = 4 ∨ i = 5 ∨ i = 6 ∨ i = 7 ∨ i = 8 ∨ i = 9 ∨ i = 10)
               · skip
                 have n5 : L 5 = false := not_yet hL fun h => shut_at hs 5 0 (by kernel_rfl) (h)
                 refine opIn_run (v := .pointer (some ⟨p2, 0, none⟩)) (w' := w') rfl rfl (fun c h => by cases h) (fun _ => trivial) ?_ ⟨by simp [Act.put, upd, n5, hL], hcm, by simpa [upd] using hph⟩
                 simp only [n5, hL, cond_true, cond_false]
                 go_simp
               · skip
                 have n5 : L 5 = false := not_yet hL fun h => shut_at hs 3 1 (by kernel_rfl) (shut_at hs 4 3 (by kernel_rfl) (shut_at hs 5 4 (by kernel_rfl) (h)))
                 refine opIn_run (v := .slice (some ⟨bk, ok, none⟩) j cK) (w' := w') rfl rfl (fun c h => by cases h) (fun _ => trivial) ?_ ⟨by simp [Act.put, upd, n5, hL], hcm, by simpa [upd] using hph⟩
                 simp only [n5, hL, cond_true, cond_false]
                 go_simp
               · skip
                 have n5 : L 5 = false := not_yet hL fun h => shut_at hs 3 2 (by kernel_rfl) (shut_at hs 4 3 (by kernel_rfl) (shut_at hs 5 4 (by kernel_rfl) (h)))
                 refine opIn_run (v := .int .i64 (t : Int)) (w' := w') rfl rfl (fun c h => by cases h) (fun _ => trivial) ?_ ⟨by simp [Act.put, upd, n5, hL], hcm, by simpa [upd] using hph⟩
                 simp only [n5, hL, cond_true, cond_false]
                 go_simp
               · skip
                 have y1 : L 1 = true := up_at hu 1 (by kernel_rfl)
                 have y2 : L 2 = true := up_at hu 2 (by kernel_rfl)
                 have n5 : L 5 = false := not_yet hL fun h => shut_at hs 4 3 (by kernel_rfl) (shut_at hs 5 4 (by kernel_rfl) (h))
                 refine opIn_run (v := .pointer (some ⟨bk, ok + t, none⟩)) (w' := w') rfl rfl (fun c h => by cases h) (fun _ => trivial) ?_ ⟨by simp [Act.put, upd, y1, y2, n5, hL], hcm, by simpa [upd] using hph⟩
                 simp only [y1, y2, n5, hL, cond_true, cond_false]
                 go_simp
               · skip
                 have y1 : L 1 = true := shut_at hs 3 1 (by kernel_rfl) (up_at hu 3 (by kernel_rfl))
                 have y2 : L 2 = true := shut_at hs 3 2 (by kernel_rfl) (up_at hu 3 (by kernel_rfl))
                 have y3 : L 3 = true := up_at hu 3 (by kernel_rfl)
                 have n5 : L 5 = false := not_yet hL fun h => shut_at hs 5 4 (by kernel_rfl) (h)
                 have mk := HKC.out w' hcm
                 refine opIn_run (v := .int .i64 (k : Int)) (w' := w') rfl rfl (fun c h => by cases h) (fun _ => trivial) ?_ ⟨by simp [Act.put, upd, y1, y2, y3, n5, hL], hcm, by simpa [upd] using hph⟩
                 simp only [y1, y2, y3, n5, hL, cond_true, cond_false]
                 go_simp
               · skip
                 have y0 : L 0 = true := up_at hu 0 (by kernel_rfl)
                 have y1 : L 1 = true := shut_at hs 3 1 (by kernel_rfl) (shut_at hs 4 3 (by kernel_rfl) (up_at hu 4 (by kernel_rfl)))
                 have y2 : L 2 = true := shut_at hs 3 2 (by kernel_rfl) (shut_at hs 4 3 (by kernel_rfl) (up_at hu 4 (by kernel_rfl)))
                 have y3 : L 3 = true := shut_at hs 4 3 (by kernel_rfl) (up_at hu 4 (by kernel_rfl))
                 have y4 : L 4 = true := up_at hu 4 (by kernel_rfl)
                 simp only [y0, y1, y2, y3, y4, hL, cond_false] at hph
                 refine opIn_call (f := 27) (args := #[.pointer (some ⟨p2, 0, none⟩), .pointer (some ⟨w5.heap.size + 1, 0, none⟩), .int .i64 (k : Int)]) (w' := w') rfl rfl (fun c h => by cases h) (fun _ => trivial) rfl ?_ ((callsIn_wide.2 (C1.out w' hph)).mono ?_)
                 · simp only [y0, y1, y2, y3, y4, hL, cond_true, cond_false]
                   go_simp
                 · rintro e w2 ⟨rfl, hx, hb⟩
                   exact ⟨_, rfl, by simp [Act.put, upd, y0, y1, y2, y3, y4, hL], hcm.trans (hb.mono (Nat.le_refl _)), by simp only [upd, y0, y1, y2, y3, y4, hL]; exact hx⟩
               · skip
                 refine opIn_run (v := .slice (some ⟨bb, ob, none⟩) j cB) (w' := w') rfl rfl (fun c h => by cases h) (fun _ => trivial) ?_ ⟨by simp [Act.put, upd, hL], hcm, by simpa [upd] using hph⟩
                 simp only [hL, cond_true, cond_false]
                 go_simp
               · skip
                 refine opIn_run (v := .int .i64 (t : Int)) (w' := w') rfl rfl (fun c h => by cases h) (fun _ => trivial) ?_ ⟨by simp [Act.put, upd, hL], hcm, by simpa [upd] using hph⟩
                 simp only [hL, cond_true, cond_false]
                 go_simp
               · skip
                 have y6 : L 6 = true := up_at hu 6 (by kernel_rfl)
                 have y7 : L 7 = true := up_at hu 7 (by kernel_rfl)
                 refine opIn_run (v := .pointer (some ⟨bb, ob + t, none⟩)) (w' := w') rfl rfl (fun c h => by cases h) (fun _ => trivial) ?_ ⟨by simp [Act.put, upd, y6, y7, hL], hcm, by simpa [upd] using hph⟩
                 simp only [y6, y7, hL, cond_true, cond_false]
                 go_simp
               · skip
                 have y6 : L 6 = true := shut_at hs 8 6 (by kernel_rfl) (up_at hu 8 (by kernel_rfl))
                 have y7 : L 7 = true := shut_at hs 8 7 (by kernel_rfl) (up_at hu 8 (by kernel_rfl))
                 have y8 : L 8 = true := up_at hu 8 (by kernel_rfl)
                 have mk := HBC.out w' hcm
                 refine opIn_run (v := .int .i64 (b : Int)) (w' := w') rfl rfl (fun c h => by cases h) (fun _ => trivial) ?_ ⟨by simp [Act.put, upd, y6, y7, y8, hL], hcm, by simpa [upd] using hph⟩
                 simp only [y6, y7, y8, hL, cond_true, cond_false]
                 go_simp
               · skip
                 have y0 : L 0 = true := shut_at hs 5 0 (by kernel_rfl) (up_at hu 5 (by kernel_rfl))
                 have y1 : L 1 = true := shut_at hs 3 1 (by kernel_rfl) (shut_at hs 4 3 (by kernel_rfl) (shut_at hs 5 4 (by kernel_rfl) (up_at hu 5 (by kernel_rfl))))
                 have y2 : L 2 = true := shut_at hs 3 2 (by kernel_rfl) (shut_at hs 4 3 (by kernel_rfl) (shut_at hs 5 4 (by kernel_rfl) (up_at hu 5 (by kernel_rfl))))
                 have y3 : L 3 = true := shut_at hs 4 3 (by kernel_rfl) (shut_at hs 5 4 (by kernel_rfl) (up_at hu 5 (by kernel_rfl)))
                 have y4 : L 4 = true := shut_at hs 5 4 (by kernel_rfl) (up_at hu 5 (by kernel_rfl))
                 have y5 : L 5 = true := up_at hu 5 (by kernel_rfl)
                 have y6 : L 6 = true := shut_at hs 8 6 (by kernel_rfl) (shut_at hs 9 8 (by kernel_rfl) (up_at hu 9 (by kernel_rfl)))
                 have y7 : L 7 = true := shut_at hs 8 7 (by kernel_rfl) (shut_at hs 9 8 (by kernel_rfl) (up_at hu 9 (by kernel_rfl)))
                 have y8 : L 8 = true := shut_at hs 9 8 (by kernel_rfl) (up_at hu 9 (by kernel_rfl))
                 have y9 : L 9 = true := up_at hu 9 (by kernel_rfl)
                 refine opIn_run (v := .bool false) (w' := w') rfl rfl (fun c h => by cases h) (fun _ => trivial) ?_ ⟨by simp [Act.put, upd, y0, y1, y2, y3, y4, y5, y6, y7, y8, y9, hL], hcm, by simpa [upd] using hph⟩
                 simp only [y0, y1, y2, y3, y4, y5, y6, y7, y8, y9, hL, cond_true, cond_false]
                 go_simp
             case fin =>
               intro L a' w' hall hI
               obtain ⟨rfl, hcm, hph⟩ := hI
               have l0 := hall 0 (by decide)
               have l1 := hall 1 (by decide)
               have l2 := hall 2 (by decide)
               have l3 := hall 3 (by decide)
               have l4 := hall 4 (by decide)
               have l5 := hall 5 (by decide)
               have l6 := hall 6 (by decide)
               have l7 := hall 7 (by decide)
               have l8 := hall 8 (by decide)
               have l9 := hall 9 (by decide)
               have l10 := hall 10 (by decide)
               simp only [l0, l1, l2, l3, l4, l5, l6, l7, l8, l9, l10, cond_true] at hph ⊢
               clear l0 l1 l2 l3 l4 l5 l6 l7 l8 l9 l10 hall
               have HX2 := Lib.hid hph
               have HR2 := Lib.hid hcm
               clear hph hcm C1 HX HR
               go_wp2
               exact ⟨⟨t + 1, by omega, by go_num, HR2.out, HX2.out⟩, by simp [intOf]; omega⟩
           · obtain rfl : t = N7 := by omega
             have h3 : ¬ (t : Int) < (t : Int) := by omega
             have HB9 := Lib.hid HX.out.bel
             clear HR HX
             go_wp2
             go_ret
             exact ⟨rfl, HB9.out⟩
        · have hmmeq : m < ov + 5 := by omega
          obtain ⟨C', hC'⟩ : ∃ C', C.take (m) = C' := ⟨_, rfl⟩
          have hl' : C'.length = m := by rw [← hC', List.length_take, HM.out]; omega
          have hb' : ∀ x ∈ C', x ≤ 255 := fun x hx => HML.out.2 x (by rw [← hC'] at hx; exact List.mem_of_mem_take hx)
          have HL' := Lib.hid (by have := HL8.out.takeN (n := m); rw [hC'] at this; exact this)
          have HF' : Hid (∀ i, i ≤ ov + 4 → fB C' i = zE (eJ ps ps.length).1 (i + 1)) := Lib.hid (fun i hi => by
            rw [← hC', fB_take (by have := HM.out; omega)]; exact HF.out i)
          have HN' : Hid ((eJ ps N7).1.pre.length + 4 ≤ ov + 4 ∧ N7 ≤ ps.length) := Lib.hid ⟨by have := HOW.out.1; omega, by rw [HPS.out.2]; exact hN7n⟩
          have hc8m : m ≤ c8 := HC8m.out
          have D8 := Lib.hid (dnew_any (w := w8) (c := c8) hb' (by rw [hl']; exact fun h => ⟨by have := HA8.out h; omega, (HA8.out h).2⟩) HL'.out (by rw [hl']; have := HML.out.1; have := HM.out; omega))
          rw [hl'] at D8
          have e5 : ¬ (ov : Int) + 5 ≤ (m : Int) := by omega
          have e6 : (m : Int) < (ov : Int) + 5 := by omega
          clear hC' hl' hb' HF HL8 HOW HM hmmeq HA8 HML HC8m
          go_wp2_with fail
          refine D8.out.mono ?_
          rintro x w9 ⟨p2, rfl, hd9, b9⟩
          have B9 := Lib.hid (B8.out.trans (b9.mono B8.out.size))
          have R9 : Hid (Below w5.heap.size w7 w9) := Lib.hid (R8.out.trans (b9.mono (by omega)))
          have hs9 := b9.size
          obtain ⟨lo, hlo⟩ : ∃ lo, w8.heap.size = lo := ⟨_, rfl⟩
          have hqlo : w5.heap.size + 1 < lo := by omega
          have HX0 : Hid (BkD W lo w5.heap.size p2 ps C' cx 0 w9) := Lib.hid (BkD.start (hd9.imp fun i _ h => by rw [← hlo]; exact h.1) (HC8.out.2.below b9) (HC8.out.1.below b9) (by omega) B9.out HPS.out.1 HN'.out.2 HF'.out HN'.out.1)
          clear b9 hd9 D8 B8 R8 HC8 HL' B9 hlo hs9 s8 e5 e6
          go_wp2
          go_loopw [15] (fun i wr => ∃ t : Nat, t ≤ N7 ∧ i = .int .i64 (t : Int) ∧ Below w5.heap.size w7 wr ∧ BkD W lo w5.heap.size p2 ps C' cx t wr) (fun i _ => N7 - (intOf i).toNat)
          case atStart => exact ⟨0, by omega, rfl, R9.out, HX0.out⟩
          case round =>
           obtain ⟨t, ht, rfl, hR, hS⟩ := hrel
           have HX := Lib.hid hS
           have HR : Hid (Below w5.heap.size w7 wr.drew) := Lib.hid (below_drewN hR 1)
           clear hS hR HX0 R9
           by_cases hlt2 : t < N7
           · obtain ⟨k, hk1, hk2⟩ := nat_of HKB.out.2.1 (j := t) (by rw [HKB.out.1.1]; omega)
             obtain ⟨b, hb1, hb2⟩ := nat_of (n := 2) (fun x hx => by have := HKB.out.2.2 x hx; omega) (j := t) (by rw [HKB.out.1.2]; omega)
             obtain ⟨bk, ok, rfl, hbk, mk⟩ := (HK7.out.1 t (.int .i64 (k : Int)) (by rw [List.getElem?_map, hk1]; rfl))
             obtain ⟨bb, ob, rfl, hbb, mb⟩ := (HK7.out.2 t (.int .i64 (b : Int)) (by rw [List.getElem?_map, hb1]; rfl))
             have HKC : Hid (∀ w', Below w5.heap.size w7 w' → w'.cell? ⟨bk, ok + t, none⟩ = some (.int .i64 (k : Int))) := Lib.hid (fun w' h => (h.cell (p := ⟨bk, ok + t, none⟩) hbk).trans mk)
             have HBC : Hid (∀ w', Below w5.heap.size w7 w' → w'.cell? ⟨bb, ob + t, none⟩ = some (.int .i64 (b : Int))) := Lib.hid (fun w' h => (h.cell (p := ⟨bb, ob + t, none⟩) hbb).trans mb)
             have h3 : (t : Int) < (N7 : Int) := by omega
             have h4 : (0 : Int) ≤ (t : Int) := by omega
             have h7 : (t : Int) < (j : Int) := by omega
             have C1 : Hid (∀ u, BkD W lo w5.heap.size p2 ps C' cx t u → Calls Tryd.prog 27 #[.pointer (some ⟨p2, 0, none⟩), .pointer (some ⟨w5.heap.size + 1, 0, none⟩), .int .i64 (k : Int)] u fun x w' => x = .returned (.int .i64 (b : Int)) ∧ BkD W lo w5.heap.size p2 ps C' cx (t + 1) w' ∧ Below w5.heap.size u w') := Lib.hid (fun u h =>
               h.call HT.out hq5 hqlo HPS.out.1 HN'.out.2 HF'.out HN'.out.1 hlt2 (by omega) (HPA.out t k b hk1 hb1))
             have ebit : ((b : Int) != (b : Int)) = false := bne_self_eq_false _
             clear hk1 mk hbk hb1 mb hbb
             go_wp2
             refine (wpIn_wide (n := 9)).1 (regionIn_inv (Inv := fun L a' w' => a' = { tmps := #[.slice a0 len0 cap0, .int .i64 a1, undef, undef, u4, .slice (some ⟨bk, ok, none⟩) j cK, .slice (some ⟨bb, ob, none⟩) j cB, .int .i64 (N7 : Int), .pointer (some ⟨w5.heap.size, 0, none⟩), .pointer (some ⟨w5.heap.size + 1, 0, none⟩), .pointer (some ⟨p, 0, none⟩), .int .i64 (ov : Int), .int .i64 (j : Int), .slice A8 m c8, .pointer (some ⟨p2, 0, none⟩), .int .i64 (t : Int), .bool true, .bool false, .tuple #[.slice (some ⟨bk, ok, none⟩) j cK, .slice (some ⟨bb, ob, none⟩) j cB], .slice a0 len0 cap0, .tuple #[.slice (some ⟨bk, ok, none⟩) j cK, .slice (some ⟨bb, ob, none⟩) j cB], .slice (some ⟨bk, ok, none⟩) j cK, .slice (some ⟨bb, ob, none⟩) j cB, .int .i64 a1, .slice (some ⟨bk, ok, none⟩) j cK, .int .i64 (j : Int), .int .i64 ((j : Int) + 1), .int .i64 (N7 : Int), .agg (cxA (cxF 19)), .agg (cxA (cxF 19)), .pointer (some ⟨p, 0, none⟩), .int .i64 (j : Int), .slice (some ⟨bk, ok, none⟩) j cK, .int .i64 (j : Int), .bool false, u35, u36, u37, u38, u39, u40, u41, u42, u43, u44, u45, u46, u47, u48, u49, u50, u51, .int .i64 (N7 : Int), .slice (some ⟨bk, ok, none⟩) j cK, .int .i64 (j : Int), .bool false, undef, undef, .pointer (some ⟨p, 0, none⟩), .slice A8 m c8, .slice A8 m c8, .int .i64 (ov : Int), .int .i64 ((ov : Int) + 5), .slice A8 m c8, .int .i64 (m : Int), .int .i64 (m : Int), .slice A8 m c8, .pointer (some ⟨p2, 0, none⟩), .int .i64 (t : Int), .int .i64 (N7 : Int), .bool true, u71, u72, bif L 0 then .pointer (some ⟨p2, 0, none⟩) else u73, bif L 1 then .slice (some ⟨bk, ok, none⟩) j cK else u74, bif L 2 then .int .i64 (t : Int) else u75, bif L 3 then .pointer (some ⟨bk, ok + t, none⟩) else u76, bif L 4 then .int .i64 (k : Int) else u77, bif L 5 then .int .i64 (b : Int) else u78, bif L 6 then .slice (some ⟨bb, ob, none⟩) j cB else u79, bif L 7 then .int .i64 (t : Int) else u80, bif L 8 then .pointer (some ⟨bb, ob + t, none⟩) else u81, bif L 9 then .int .i64 (b : Int) else u82, bif L 10 then .bool false else u83], defers := [] } ∧ (Below w5.heap.size w7 w') ∧ (bif L 5 then (BkD W lo w5.heap.size p2 ps C' cx (t + 1) w') else BkD W lo w5.heap.size p2 ps C' cx t w')) (by kernel_rfl) (by kernel_rfl) ?start ?step ?fin)
             case start => exact ⟨rfl, HR.out, HX.out.drew⟩
             case step =>
               intro i hi L a' w' hI hs hu
               obtain ⟨rfl, hcm, hph⟩ := hI
               have hL := hu.1
               have hi : i < 11 := hi
               obtain rfl | rfl | rfl | rfl | rfl | rfl | rfl | rfl | rfl | rfl | rfl := (by omega : i = 0 ∨ i = 1 ∨ i = 2 ∨ i = 3 ∨ i = 4 ∨ i = 5 ∨ i = 6 ∨ i = 7 ∨ i = 8 ∨ i = 9 ∨ i = 10)
               · skip
                 have n5 : L 5 = false := not_yet hL fun h => shut_at hs 5 0 (by kernel_rfl) (h)
                 refine opIn_run (v := .pointer (some ⟨p2, 0, none⟩)) (w' := w') rfl rfl (fun c h => by cases h) (fun _ => trivial) ?_ ⟨by simp [Act.put, upd, n5, hL], hcm, by simpa [upd] using hph⟩
                 simp only [n5, hL, cond_true, cond_false]
                 go_simp
               · skip
                 have n5 : L 5 = false := not_yet hL fun h => shut_at hs 3 1 (by kernel_rfl) (shut_at hs 4 3 (by kernel_rfl) (shut_at hs 5 4 (by kernel_rfl) (h)))
                 refine opIn_run (v := .slice (some ⟨bk, ok, none⟩) j cK) (w' := w') rfl rfl (fun c h => by cases h) (fun _ => trivial) ?_ ⟨by simp [Act.put, upd, n5, hL], hcm, by simpa [upd] using hph⟩
                 simp only [n5, hL, cond_true, cond_false]
                 go_simp
               · skip
                 have n5 : L 5 = false := not_yet hL fun h => shut_at hs 3 2 (by kernel_rfl) (shut_at hs 4 3 (by kernel_rfl) (shut_at hs 5 4 (by kernel_rfl) (h)))
                 refine opIn_run (v := .int .i64 (t : Int)) (w' := w') rfl rfl (fun c h => by cases h) (fun _ => trivial) ?_ ⟨by simp [Act.put, upd, n5, hL], hcm, by simpa [upd] using hph⟩
                 simp only [n5, hL, cond_true, cond_false]
                 go_simp
               · skip
                 have y1 : L 1 = true := up_at hu 1 (by kernel_rfl)
                 have y2 : L 2 = true := up_at hu 2 (by kernel_rfl)
                 have n5 : L 5 = false := not_yet hL fun h => shut_at hs 4 3 (by kernel_rfl) (shut_at hs 5 4 (by kernel_rfl) (h))
                 refine opIn_run (v := .pointer (some ⟨bk, ok + t, none⟩)) (w' := w') rfl rfl (fun c h => by cases h) (fun _ => trivial) ?_ ⟨by simp [Act.put, upd, y1, y2, n5, hL], hcm, by simpa [upd] using hph⟩
                 simp only [y1, y2, n5, hL, cond_true, cond_false]
                 go_simp
               · skip
                 have y1 : L 1 = true := shut_at hs 3 1 (by kernel_rfl) (up_at hu 3 (by kernel_rfl))
                 have y2 : L 2 = true := shut_at hs 3 2 (by kernel_rfl) (up_at hu 3 (by kernel_rfl))
                 have y3 : L 3 = true := up_at hu 3 (by kernel_rfl)
                 have n5 : L 5 = false := not_yet hL fun h => shut_at hs 5 4 (by kernel_rfl) (h)
                 have mk := HKC.out w' hcm
                 refine opIn_run (v := .int .i64 (k : Int)) (w' := w') rfl rfl (fun c h => by cases h) (fun _ => trivial) ?_ ⟨by simp [Act.put, upd, y1, y2, y3, n5, hL], hcm, by simpa [upd] using hph⟩
                 simp only [y1, y2, y3, n5, hL, cond_true, cond_false]
                 go_simp
               · skip
                 have y0 : L 0 = true := up_at hu 0 (by kernel_rfl)
                 have y1 : L 1 = true := shut_at hs 3 1 (by kernel_rfl) (shut_at hs 4 3 (by kernel_rfl) (up_at hu 4 (by kernel_rfl)))
                 have y2 : L 2 = true := shut_at hs 3 2 (by kernel_rfl) (shut_at hs 4 3 (by kernel_rfl) (up_at hu 4 (by kernel_rfl)))
                 have y3 : L 3 = true := shut_at hs 4 3 (by kernel_rfl) (up_at hu 4 (by kernel_rfl))
                 have y4 : L 4 = true := up_at hu 4 (by kernel_rfl)
                 simp only [y0, y1, y2, y3, y4, hL, cond_false] at hph
                 refine opIn_call (f := 27) (args := #[.pointer (some ⟨p2, 0, none⟩), .pointer (some ⟨w5.heap.size + 1, 0, none⟩), .int .i64 (k : Int)]) (w' := w') rfl rfl (fun c h => by cases h) (fun _ => trivial) rfl ?_ ((callsIn_wide.2 (C1.out w' hph)).mono ?_)
                 · simp only [y0, y1, y2, y3, y4, hL, cond_true, cond_false]
                   go_simp
                 · rintro e w2 ⟨rfl, hx, hb⟩
                   exact ⟨_, rfl, by simp [Act.put, upd, y0, y1, y2, y3, y4, hL], hcm.trans (hb.mono (Nat.le_refl _)), by simp only [upd, y0, y1, y2, y3, y4, hL]; exact hx⟩
               · skip
                 refine opIn_run (v := .slice (some ⟨bb, ob, none⟩) j cB) (w' := w') rfl rfl (fun c h => by cases h) (fun _ => trivial) ?_ ⟨by simp [Act.put, upd, hL], hcm, by simpa [upd] using hph⟩
                 simp only [hL, cond_true, cond_false]
                 go_simp
               · skip
                 refine opIn_run (v := .int .i64 (t : Int)) (w' := w') rfl rfl (fun c h => by cases h) (fun _ => trivial) ?_ ⟨by simp [Act.put, upd, hL], hcm, by simpa [upd] using hph⟩
                 simp only [hL, cond_true, cond_false]
                 go_simp
               · skip
                 have y6 : L 6 = true := up_at hu 6 (by kernel_rfl)
                 have y7 : L 7 = true := up_at hu 7 (by kernel_rfl)
                 refine opIn_run (v := .pointer (some ⟨bb, ob + t, none⟩)) (w' := w') rfl rfl (fun c h => by cases h) (fun _ => trivial) ?_ ⟨by simp [Act.put, upd, y6, y7, hL], hcm, by simpa [upd] using hph⟩
                 simp only [y6, y7, hL, cond_true, cond_false]
                 go_simp
               · skip
                 have y6 : L 6 = true := shut_at hs 8 6 (by kernel_rfl) (up_at hu 8 (by kernel_rfl))
                 have y7 : L 7 = true := shut_at hs 8 7 (by kernel_rfl) (up_at hu 8 (by kernel_rfl))
                 have y8 : L 8 = true := up_at hu 8 (by kernel_rfl)
                 have mk := HBC.out w' hcm
                 refine opIn_run (v := .int .i64 (b : Int)) (w' := w') rfl rfl (fun c h => by cases h) (fun _ => trivial) ?_ ⟨by simp [Act.put, upd, y6, y7, y8, hL], hcm, by simpa [upd] using hph⟩
                 simp only [y6, y7, y8, hL, cond_true, cond_false]
                 go_simp
               · skip
                 have y0 : L 0 = true := shut_at hs 5 0 (by kernel_rfl) (up_at hu 5 (by kernel_rfl))
                 have y1 : L 1 = true := shut_at hs 3 1 (by kernel_rfl) (shut_at hs 4 3 (by kernel_rfl) (shut_at hs 5 4 (by kernel_rfl) (up_at hu 5 (by kernel_rfl))))
                 have y2 : L 2 = true := shut_at hs 3 2 (by kernel_rfl) (shut_at hs 4 3 (by kernel_rfl) (shut_at hs 5 4 (by kernel_rfl) (up_at hu 5 (by kernel_rfl))))
                 have y3 : L 3 = true := shut_at hs 4 3 (by kernel_rfl) (shut_at hs 5 4 (by kernel_rfl) (up_at hu 5 (by kernel_rfl)))
                 have y4 : L 4 = true := shut_at hs 5 4 (by kernel_rfl) (up_at hu 5 (by kernel_rfl))
                 have y5 : L 5 = true := up_at hu 5 (by kernel_rfl)
                 have y6 : L 6 = true := shut_at hs 8 6 (by kernel_rfl) (shut_at hs 9 8 (by kernel_rfl) (up_at hu 9 (by kernel_rfl)))
                 have y7 : L 7 = true := shut_at hs 8 7 (by kernel_rfl) (shut_at hs 9 8 (by kernel_rfl) (up_at hu 9 (by kernel_rfl)))
                 have y8 : L 8 = true := shut_at hs 9 8 (by kernel_rfl) (up_at hu 9 (by kernel_rfl))
                 have y9 : L 9 = true := up_at hu 9 (by kernel_rfl)
                 refine opIn_run (v := .bool false) (w' := w') rfl rfl (fun c h => by cases h) (fun _ => trivial) ?_ ⟨by simp [Act.put, upd, y0, y1, y2, y3, y4, y5, y6, y7, y8, y9, hL], hcm, by simpa [upd] using hph⟩
                 simp only [y0, y1, y2, y3, y4, y5, y6, y7, y8, y9, hL, cond_true, cond_false]
                 go_simp
             case fin =>
               intro L a' w' hall hI
               obtain ⟨rfl, hcm, hph⟩ := hI
               have l0 := hall 0 (by decide)
               have l1 := hall 1 (by decide)
               have l2 := hall 2 (by decide)
               have l3 := hall 3 (by decide)
               have l4 := hall 4 (by decide)
               have l5 := hall 5 (by decide)
               have l6 := hall 6 (by decide)
               have l7 := hall 7 (by decide)
               have l8 := hall 8 (by decide)
               have l9 := hall 9 (by decide)
               have l10 := hall 10 (by decide)
               simp only [l0, l1, l2, l3, l4, l5, l6, l7, l8, l9, l10, cond_true] at hph ⊢
               clear l0 l1 l2 l3 l4 l5 l6 l7 l8 l9 l10 hall
               have HX2 := Lib.hid hph
               have HR2 := Lib.hid hcm
               clear hph hcm C1 HX HR
               go_wp2
               exact ⟨⟨t + 1, by omega, by go_num, HR2.out, HX2.out⟩, by simp [intOf]; omega⟩
           · obtain rfl : t = N7 := by omega
             have h3 : ¬ (t : Int) < (t : Int) := by omega
             have HB9 := Lib.hid HX.out.bel
             clear HR HX
             go_wp2
             go_ret
             exact ⟨rfl, HB9.out⟩
end Go.Proofs.YtdgkeghgfibolaaDoor
