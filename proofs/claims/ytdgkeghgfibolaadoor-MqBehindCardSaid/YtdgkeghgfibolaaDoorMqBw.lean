/- MqBehind, walked. -/
import Derived.Test.YtdgkeghgfibolaaDoorMqBe
set_option linter.unusedVariables false
set_option linter.unusedSimpArgs false
namespace Go.Proofs.YtdgkeghgfibolaaDoor
open Go.RowKit

set_option maxRecDepth 100000 in
set_option maxHeartbeats 8000000 in
theorem walk_mqBehind (a0 : Option Addr) (len0 cap0 : Nat) (z0 : List Int) (a1 : Int) (a2 : Option Addr) (len2 cap2 : Nat) (z2 : List Int) (W : World) (hT : Tab W) (w0 : IsRow .u8 W a0 len0 cap0 z0) (w1 : (Lit.int .i64 a1).wf = true) (w2 : IsRow .i64 W a2 len2 cap2 z2) :
    Calls Tryd.prog 12 #[.slice a0 len0 cap0, .int .i64 a1, .slice a2 len2 cap2] W fun e w' => e = .returned (.bool true) ∧ Below W.heap.size W w' := by
  have KN := Lib.hid (known_any W)
  by_cases h100 : 100 < len0
  · have e1 : (100 : Int) < (len0 : Int) := by omega
    clear w0 w1 w2
    go_enter Tryd.func12, Tryd.ntmps12
    go_wp2_with fail
    refine KN.out.mono ?_
    rintro x w1 ⟨rfl, b1⟩
    have B1 := Lib.hid b1
    clear b1 KN
    go_wp2
    go_ret
    exact ⟨rfl, B1.out⟩
  have e100 : ¬ (100 : Int) < (len0 : Int) := by omega
  have hr0 := row_len w0
  obtain ⟨hbv, hb255⟩ := nats_of (zs := z0.take len0) (fun n hn => row_wf w0 n (List.mem_of_mem_take hn))
  have L0' := lst_of_row w0
  rw [← hbv] at L0'
  have hlen0 : ((z0.take len0).map Int.toNat).length = len0 := by rw [List.length_map]; exact hr0.1
  obtain ⟨bs0, hbs0⟩ : ∃ bs : List Nat, (z0.take len0).map Int.toNat = bs := ⟨_, rfl⟩
  rw [hbs0] at L0' hlen0 hb255
  have L0 := Lib.hid L0'
  have HL0 := Lib.hid hlen0
  have HB255 := Lib.hid hb255
  have HA0 := Lib.hid hr0.2.2.2
  have hrl := row_len w2
  have L2 := Lib.hid (lst_of_row w2)
  have HRL := Lib.hid hrl.1
  have hlen : len2 ≤ maxLen := Nat.le_trans hrl.2.1 hrl.2.2.1
  unfold maxLen at hlen
  have HWF := Lib.hid (fun v (hv : v ∈ z2.take len2) => bd_i64 (row_wf w2 v (List.mem_of_mem_take hv)))
  have FR := Lib.hid (fun u : World => fresh_any u)
  have HT := Lib.hid hT
  obtain ⟨l, hl⟩ : ∃ l : List Int, z2.take len2 = l := ⟨_, rfl⟩
  rw [hl] at L2 HRL HWF
  obtain ⟨n2, hn⟩ : ∃ n : Nat, min len2 400 = n := ⟨_, rfl⟩
  have hn2 : n2 ≤ 400 := by omega
  have HN := Lib.hid hn
  have hw1 := bd_i64 w1
  have hn9 := within_rng a1 9 (by omega)
  have W9 := Lib.hid (fun u => within_any a1 9 u (by omega) (by omega))
  obtain ⟨N9, hN9⟩ : ∃ N : Nat, a1 % 9 = N := ⟨(a1 % 9).toNat, by omega⟩
  rw [hN9] at hn9 W9
  obtain ⟨i0, hi, hz0, hz1, hz2⟩ := info_parts Tryd.info5
  clear hl hT w0 w1 w2 hrl hn hr0 hbv L0' hbs0 hlen0 hb255 hN9 h100
  go_enter Tryd.func12, Tryd.ntmps12
  go_wp2_with fail
  refine KN.out.mono ?_
  rintro x w1 ⟨rfl, b1⟩
  have B1 := Lib.hid b1
  have L01 := Lib.hid (L0.out.below b1)
  rw [bv_int] at L01
  clear b1 KN
  go_wp2_with (refine wpList_clone8 rfl _ _ rfl (l := bs0.map fun n : Nat => (n : Int)) rfl rfl (by rw [List.length_map]; exact HL0.out) HA0.out L01.out (by omega) ?_)
  intro V cv w2 hown2 hb2
  have B2 := Lib.hid (B1.out.trans (hb2.mono B1.out.size))
  have O2 : Hid (w2.ownsRow W.heap.size 5 1 (.slice V len0 cv) (len0 + 0) ((bs0 ++ List.replicate 0 255).map bv)) := Lib.hid (by
    have h1 : w2.ownsRow w1.heap.size 5 1 (.slice V len0 cv) len0 (bs0.map bv) := by
      have e : bs0.map bv = List.map (Value.int .u8 ∘ fun n : Nat => (n : Int)) bs0 := rfl
      rw [e]; exact hown2
    have := own_low h1 B1.out.size
    simpa using this)
  clear hown2 hb2 B1 L01
  go_wp2
  go_loopw [7, 8] (fun v i wr => ∃ t : Nat, t ≤ N9 ∧ i = .int .i64 (t : Int) ∧ wr.ownsRow W.heap.size 5 1 v (len0 + t) ((bs0 ++ List.replicate t 255).map bv) ∧ Below W.heap.size W wr) (fun _ i _ => N9 - (intOf i).toNat)
  case atStart => exact ⟨0, by omega, rfl, O2.out, B2.out⟩
  case round =>
    obtain ⟨t, ht, rfl, hO, hB⟩ := hrel
    have HO := Lib.hid hO
    have HB := Lib.hid hB
    clear hO hB O2 B2
    by_cases hlt : t < N9
    · have e2 : (t : Int) < (N9 : Int) := by omega
      go_wp2_with fail
      refine (W9.out _).mono ?_
      rintro x wx ⟨rfl, rfl⟩
      go_wp2_with (at_builtin; refine wpList_append_own_at _ rfl _ _ 44 rfl W.heap.size 5 i0 (.int .u8 0) 1 1 Tryd.underlying44 hi hz0 hz1 hz2 rfl (by decide) _ _ _ rfl (HO.out.alloc _) ⟨wr.heap.size, 0, none⟩ 1 1 [.int .u8 255] rfl rfl (cell_one_new _ _ _) ?k2 ?k3 ?k4 ?k5 ?_)
      case k2 => intro u hu; simp at hu; subst hu; rfl
      case k3 => unfold maxLen; omega
      case k4 => omega
      case k5 => have := HB.out.size; simp; omega
      intro v4 w4 hown4 hg4 _ hat4
      have hN4 : Hid (w4.ownsRow W.heap.size 5 1 v4 (len0 + (t + 1)) ((bs0 ++ List.replicate (t + 1) 255).map bv)) := Lib.hid (by
        have e : (bs0 ++ List.replicate (t + 1) 255).map bv = bs0.map bv ++ (List.replicate t (bv 255) ++ [Value.int .u8 255]) := by
          rw [List.replicate_succ', List.map_append, List.map_append, List.map_replicate]; rfl
        rw [e, show len0 + (t + 1) = len0 + t + 1 by omega]
        exact hown4)
      have hB4 : Hid (Below W.heap.size W w4) := Lib.hid ((HB.out.alloc HB.out.size _).grown hg4 (by have := HB.out.size; simp; omega) (fun k hk => (own_lt HO.out hk).1))
      clear hown4 hg4 hat4
      go_wp2
      exact ⟨⟨t + 1, by omega, by go_num, hN4.out, hB4.out⟩, by simp [intOf]; omega⟩
    · obtain rfl : t = N9 := by omega
      have e2 : ¬ (t : Int) < (t : Int) := by omega
      obtain ⟨Ax, cx0, rfl, hAx, _⟩ := own_any HO.out
      obtain ⟨bs1, hbs1⟩ : ∃ b, bs0 ++ List.replicate t 255 = b := ⟨_, rfl⟩
      have hfB : fB bs1 = fB bs0 := by rw [← hbs1]; exact fB_behind bs0 t
      have hl1 : bs1.length = len0 + t := by rw [← hbs1, List.length_append, List.length_replicate, HL0.out]
      have hb1 : ∀ x ∈ bs1, x ≤ 255 := fun x hx => by
        rw [← hbs1] at hx
        rcases List.mem_append.1 hx with hx | hx
        · exact HB255.out x hx
        · rw [List.eq_of_mem_replicate hx]; omega
      have LX : Hid (Lst wr wr.heap.size Ax (bs1.map bv)) := Lib.hid (by rw [← hbs1]; exact Lst.own HO.out)
      have HX1 := Lib.hid (And.intro hfB (And.intro hl1 hb1))
      have HAX := Lib.hid hAx
      have BT := Lib.hid (bits_any a2 len2 cap2 l W.heap.size wr HB.out.size (L2.out.below HB.out) HRL.out (by omega) HWF.out)
      clear hbs1 hfB hl1 hb1 HO hAx
      go_wp2_with fail
      refine (W9.out _).mono ?_
      rintro x wx ⟨rfl, rfl⟩
      go_wp2_with fail
      refine BT.out.mono ?_
      rintro x w3 ⟨VK, VB, ks, bs, rfl, hbk⟩
      rw [HN.out] at hbk
      have B3 := Lib.hid (HB.out.trans (hbk.gr.bel.mono HB.out.size))
      have LX3 := Lib.hid ((LX.out.below hbk.gr.bel).more hbk.gr.bel.size)
      obtain ⟨AK, cK, AB, cB, rfl, rfl, hlk, hlb⟩ := Grow.lst hbk
      have HK := Lib.hid hlk
      have HKB := Lib.hid (And.intro hbk.lk hbk.hk)
      clear hbk hlk hlb BT HB LX
      go_wp2_with fail
      refine (FR.out _).mono ?_
      rintro x w4 ⟨rfl, b4⟩
      have B4 := Lib.hid (B3.out.trans (b4.mono B3.out.size))
      have HK4 := Lib.hid ((HK.out.below b4).more b4.size)
      have LX4 := Lib.hid ((LX3.out.below b4).more b4.size)
      clear b4 B3 HK LX3
      go_wp2_with fail
      refine (FR.out _).mono ?_
      rintro x w5 ⟨rfl, b5⟩
      have B5 := Lib.hid (B4.out.trans (b5.mono B4.out.size))
      have HK5 := Lib.hid ((HK4.out.below b5).more b5.size)
      have LX5 := Lib.hid ((LX4.out.below b5).more b5.size)
      clear b5 B4 HK4 LX4
      go_wp2_with (refine wpList_fresh2 (o := ⟨none, _, _, _, _, _⟩) (o2 := ⟨none, _, _, _, _, _⟩) rfl _ _ rfl rfl _ _ rfl rfl rfl rfl rfl rfl ?_)
      intro w6 hc61 hc62 b6
      have B6 := Lib.hid (B5.out.trans (b6.mono B5.out.size))
      have HC6 := Lib.hid (And.intro hc61 hc62)
      have HK6 := Lib.hid (HK5.out.below b6)
      have LX6 := Lib.hid ((LX5.out.below b6).more b6.size)
      have hq5 : W.heap.size ≤ w5.heap.size := B5.out.size
      have hs6 : w5.heap.size + 1 < w6.heap.size := hc62.lt
      clear b6 hc61 hc62 B5 HK5 LX5
      have D1 := Lib.hid (dnew_any (w := w6) (c := cap0) HB255.out (by rw [HL0.out]; exact HA0.out) (L0.out.below B6.out) (by rw [HL0.out]; omega))
      rw [HL0.out] at D1
      go_wp2_with fail
      refine D1.out.mono ?_
      rintro x w6' ⟨p1, rfl, hd1, b61⟩
      have B61 := Lib.hid (B6.out.trans (b61.mono B6.out.size))
      have HC61 := Lib.hid (And.intro (HC6.out.1.below b61) (HC6.out.2.below b61))
      have HK61 := Lib.hid (HK6.out.below (b61.mono (by omega)))
      have LX61 := Lib.hid ((LX6.out.below b61))
      have HD1 := Lib.hid hd1
      have hs61 := b61.size
      clear b61 hd1 D1 B6 HC6 HK6 LX6
      have D2 := Lib.hid (dnew_any (w := w6') (c := cx0) HX1.out.2.2 (by rw [HX1.out.2.1]; exact HAX.out) LX61.out (by rw [HX1.out.2.1]; omega))
      rw [HX1.out.2.1] at D2
      go_wp2_with fail
      refine D2.out.mono ?_
      rintro x w7 ⟨p2, rfl, hd2, b7⟩
      have B7 := Lib.hid (B61.out.trans (b7.mono B61.out.size))
      have HK7 := Lib.hid (HK61.out.below (b7.mono (by omega)))
      have hs7 := b7.size
      have hdn := dNew_ok (fB bs0)
      rw [HX1.out.1] at hd2
      obtain ⟨lo, hlo⟩ : ∃ lo, w6.heap.size = lo := ⟨_, rfl⟩
      have HX0 : Hid (Sx lo w5.heap.size W p1 w5.heap.size 0 (dNew (fB bs0)) bs0 (cxF 19) p2 (w5.heap.size + 1) 0 (dNew (fB bs0)) bs1 (cxF 19) w7) := Lib.hid
        ⟨fun k => w6.heap.size ≤ k ∧ k < w6'.heap.size, fun k => w6'.heap.size ≤ k ∧ k < w7.heap.size, ⟨fun k hk => by omega, fun k hk => by omega, fun k hk hk2 => by omega, by omega, by omega, by omega, by omega⟩,
          ⟨HD1.out.below b7, HC61.out.1.below b7, f19_ok, hdn.1, by have := hdn.2; omega, B7.out⟩, ⟨hd2, HC61.out.2.below b7, f19_ok, hdn.1, by have := hdn.2; omega, B7.out⟩⟩
      have hqlo : w5.heap.size + 1 < lo := by omega
      have HFB := Lib.hid HX1.out.1
      clear b7 hd2 D2 B61 HC61 HK61 LX61 HD1 hdn hlo hs61 hs7 hs6 B7 HX1
      have HR7 : Hid (Below w5.heap.size w7 w7) := Lib.hid (Below.refl _ _)
      go_wp2
      go_loopw [15] (fun i wr => ∃ j d cx, j ≤ n2 ∧ i = .int .i64 (j : Int) ∧ Below w5.heap.size w7 wr ∧ Sx lo w5.heap.size W p1 w5.heap.size j d bs0 cx p2 (w5.heap.size + 1) j d bs1 cx wr) (fun i _ => n2 - (intOf i).toNat)
      case atStart => exact ⟨0, _, _, by omega, rfl, HR7.out, HX0.out⟩
      case round =>
       obtain ⟨j, d, cx, hj, rfl, hB8, hS⟩ := hrel
       have HX := Lib.hid hS
       have HB8 : Hid (Below w5.heap.size w7 wr.drew) := Lib.hid (below_drewN hB8 1)
       have HBE := Lib.hid hB8
       have HWB : Hid (Below W.heap.size W wr) := Lib.hid (by obtain ⟨_, _, _, h, _⟩ := hS; exact h.bel)
       clear hS hB8 HX0 HR7
       by_cases hlt : j < n2
       · obtain ⟨k, hk1, hk2⟩ := nat_of HKB.out.2 (j := j) (by rw [HKB.out.1]; exact hlt)
         obtain ⟨bk, ok, rfl, hbk, mk⟩ := (HK7.out j (.int .i64 (k : Int)) (by rw [List.getElem?_map, hk1]; rfl))
         have HKC : Hid (∀ w', Below w5.heap.size w7 w' → w'.cell? ⟨bk, ok + j, none⟩ = some (.int .i64 (k : Int))) := Lib.hid (fun w' h => (h.cell (p := ⟨bk, ok + j, none⟩) hbk).trans mk)
         have h2 : (j : Int) < (n2 : Int) := by omega
         have h4 : (0 : Int) ≤ (j : Int) := by omega
         obtain ⟨bit, hbit⟩ : ∃ b, (dB (fB bs0) d cx k).1 = b := ⟨_, rfl⟩
         obtain ⟨dn, hdn⟩ : ∃ b, (dB (fB bs0) d cx k).2.1 = b := ⟨_, rfl⟩
         obtain ⟨cn, hcn⟩ : ∃ b, (dB (fB bs0) d cx k).2.2 = b := ⟨_, rfl⟩
         have C1 : Hid (∀ u, Sx lo w5.heap.size W p1 w5.heap.size j d bs0 cx p2 (w5.heap.size + 1) j d bs1 cx u → Calls Tryd.prog 27 #[.pointer (some ⟨p1, 0, none⟩), .pointer (some ⟨w5.heap.size, 0, none⟩), .int .i64 (k : Int)] u fun x w' => x = .returned (.int .i64 (bit : Int)) ∧ Sx lo w5.heap.size W p1 w5.heap.size (j + 1) dn bs0 cn p2 (w5.heap.size + 1) j d bs1 cx w' ∧ Below w5.heap.size u w') := Lib.hid (fun u h => by
           have := h.call HT.out hq5 (k := k) (by omega) (by omega)
           rw [hbit, hdn, hcn] at this
           exact this)
         have C2 : Hid (∀ u, Sx lo w5.heap.size W p1 w5.heap.size (j + 1) dn bs0 cn p2 (w5.heap.size + 1) j d bs1 cx u → Calls Tryd.prog 27 #[.pointer (some ⟨p2, 0, none⟩), .pointer (some ⟨w5.heap.size + 1, 0, none⟩), .int .i64 (k : Int)] u fun x w' => x = .returned (.int .i64 (bit : Int)) ∧ Sx lo w5.heap.size W p1 w5.heap.size (j + 1) dn bs0 cn p2 (w5.heap.size + 1) (j + 1) dn bs1 cn w' ∧ Below w5.heap.size u w') := Lib.hid (fun u h => by
           have := h.swap.call HT.out hq5 (k := k) (by omega) (by omega)
           rw [HFB.out, hbit, hdn, hcn] at this
           exact this.mono fun x w' ⟨h1, h2, h3⟩ => ⟨h1, h2.swap, h3⟩)
         have ebit : ((bit : Int) != (bit : Int)) = false := bne_self_eq_false _
         clear hk1 mk hbit hdn hcn hbk HBE HWB
         go_wp2
      -- REGION
         refine (wpIn_wide (n := 9)).1 (regionIn_inv (Inv := fun L a' w' => a' = { tmps := #[.slice a0 len0 cap0, .int .i64 a1, .slice a2 len2 cap2, undef, undef, undef, u6, .slice Ax (len0 + t) cx0, .int .i64 (t : Int), .slice (some ⟨bk, ok, none⟩) n2 cK, .slice AB n2 cB, .pointer (some ⟨w5.heap.size, 0, none⟩), .pointer (some ⟨w5.heap.size + 1, 0, none⟩), .pointer (some ⟨p1, 0, none⟩), .pointer (some ⟨p2, 0, none⟩), .int .i64 (j : Int), .bool true, .bool false, .slice a0 len0 cap0, .int .i64 (len0 : Int), .bool (decide (100 < (len0 : Int))), .slice (some ⟨w1.heap.size, 0, none⟩) 0 0, .slice a0 len0 cap0, .slice V len0 cv, .int .i64 (t : Int), .int .i64 a1, .int .i64 (t : Int), .bool false, u28, u29, u30, u31, u32, .tuple #[.slice (some ⟨bk, ok, none⟩) n2 cK, .slice AB n2 cB], .slice a2 len2 cap2, .tuple #[.slice (some ⟨bk, ok, none⟩) n2 cK, .slice AB n2 cB], .slice (some ⟨bk, ok, none⟩) n2 cK, .slice AB n2 cB, .agg (cxA (cxF 19)), .agg (cxA (cxF 19)), .slice a0 len0 cap0, .pointer (some ⟨p1, 0, none⟩), .slice Ax (len0 + t) cx0, .pointer (some ⟨p2, 0, none⟩), .int .i64 (j : Int), .slice (some ⟨bk, ok, none⟩) n2 cK, .int .i64 (n2 : Int), .bool true, u48, u49, bif L 0 then .pointer (some ⟨p1, 0, none⟩) else u50, bif L 1 then .slice (some ⟨bk, ok, none⟩) n2 cK else u51, bif L 2 then .int .i64 (j : Int) else u52, bif L 3 then .pointer (some ⟨bk, ok + j, none⟩) else u53, bif L 4 then .int .i64 (k : Int) else u54, bif L 5 then .int .i64 (bit : Int) else u55, bif L 6 then .pointer (some ⟨p2, 0, none⟩) else u56, bif L 7 then .slice (some ⟨bk, ok, none⟩) n2 cK else u57, bif L 8 then .int .i64 (j : Int) else u58, bif L 9 then .pointer (some ⟨bk, ok + j, none⟩) else u59, bif L 10 then .int .i64 (k : Int) else u60, bif L 11 then .int .i64 (bit : Int) else u61, bif L 12 then .bool false else u62], defers := [] } ∧ (Below w5.heap.size w7 w') ∧ (bif L 11 then (Sx lo w5.heap.size W p1 w5.heap.size (j + 1) dn bs0 cn p2 (w5.heap.size + 1) (j + 1) dn bs1 cn w') else (bif L 5 then (Sx lo w5.heap.size W p1 w5.heap.size (j + 1) dn bs0 cn p2 (w5.heap.size + 1) j d bs1 cx w') else Sx lo w5.heap.size W p1 w5.heap.size j d bs0 cx p2 (w5.heap.size + 1) j d bs1 cx w'))) (by kernel_rfl) (by kernel_rfl) ?start ?step ?fin)
         case start => exact ⟨rfl, HB8.out, HX.out.drew⟩
         case step =>
           intro i hi L a' w' hI hs hu
           obtain ⟨rfl, hcm, hph⟩ := hI
           have hL := hu.1
           have hi : i < 13 := hi
           obtain rfl | rfl | rfl | rfl | rfl | rfl | rfl | rfl | rfl | rfl | rfl | rfl | rfl := (by omega : i = 0 ∨ i = 1 ∨ i = 2 ∨ i = 3 ∨ i = 4 ∨ i = 5 ∨ i = 6 ∨ i = 7 ∨ i = 8 ∨ i = 9 ∨ i = 10 ∨ i = 11 ∨ i = 12)
           · skip
             have n5 : L 5 = false := not_yet hL fun h => shut_at hs 5 0 (by kernel_rfl) (h)
             have n11 : L 11 = false := not_yet hL fun h => shut_at hs 5 0 (by kernel_rfl) (shut_at hs 11 5 (by kernel_rfl) (h))
             refine opIn_run (v := .pointer (some ⟨p1, 0, none⟩)) (w' := w') rfl rfl (fun c h => by cases h) (fun _ => trivial) ?_ ⟨by simp [Act.put, upd, n5, n11, hL], hcm, by simpa [upd] using hph⟩
             simp only [n5, n11, hL, cond_true, cond_false]
             go_simp
           · skip
             have n5 : L 5 = false := not_yet hL fun h => shut_at hs 3 1 (by kernel_rfl) (shut_at hs 4 3 (by kernel_rfl) (shut_at hs 5 4 (by kernel_rfl) (h)))
             have n11 : L 11 = false := not_yet hL fun h => shut_at hs 3 1 (by kernel_rfl) (shut_at hs 4 3 (by kernel_rfl) (shut_at hs 5 4 (by kernel_rfl) (shut_at hs 11 5 (by kernel_rfl) (h))))
             refine opIn_run (v := .slice (some ⟨bk, ok, none⟩) n2 cK) (w' := w') rfl rfl (fun c h => by cases h) (fun _ => trivial) ?_ ⟨by simp [Act.put, upd, n5, n11, hL], hcm, by simpa [upd] using hph⟩
             simp only [n5, n11, hL, cond_true, cond_false]
             go_simp
           · skip
             have n5 : L 5 = false := not_yet hL fun h => shut_at hs 3 2 (by kernel_rfl) (shut_at hs 4 3 (by kernel_rfl) (shut_at hs 5 4 (by kernel_rfl) (h)))
             have n11 : L 11 = false := not_yet hL fun h => shut_at hs 3 2 (by kernel_rfl) (shut_at hs 4 3 (by kernel_rfl) (shut_at hs 5 4 (by kernel_rfl) (shut_at hs 11 5 (by kernel_rfl) (h))))
             refine opIn_run (v := .int .i64 (j : Int)) (w' := w') rfl rfl (fun c h => by cases h) (fun _ => trivial) ?_ ⟨by simp [Act.put, upd, n5, n11, hL], hcm, by simpa [upd] using hph⟩
             simp only [n5, n11, hL, cond_true, cond_false]
             go_simp
           · skip
             have y1 : L 1 = true := up_at hu 1 (by kernel_rfl)
             have y2 : L 2 = true := up_at hu 2 (by kernel_rfl)
             have n5 : L 5 = false := not_yet hL fun h => shut_at hs 4 3 (by kernel_rfl) (shut_at hs 5 4 (by kernel_rfl) (h))
             have n11 : L 11 = false := not_yet hL fun h => shut_at hs 4 3 (by kernel_rfl) (shut_at hs 5 4 (by kernel_rfl) (shut_at hs 11 5 (by kernel_rfl) (h)))
             refine opIn_run (v := .pointer (some ⟨bk, ok + j, none⟩)) (w' := w') rfl rfl (fun c h => by cases h) (fun _ => trivial) ?_ ⟨by simp [Act.put, upd, y1, y2, n5, n11, hL], hcm, by simpa [upd] using hph⟩
             simp only [y1, y2, n5, n11, hL, cond_true, cond_false]
             go_simp
           · skip
             have y1 : L 1 = true := shut_at hs 3 1 (by kernel_rfl) (up_at hu 3 (by kernel_rfl))
             have y2 : L 2 = true := shut_at hs 3 2 (by kernel_rfl) (up_at hu 3 (by kernel_rfl))
             have y3 : L 3 = true := up_at hu 3 (by kernel_rfl)
             have n5 : L 5 = false := not_yet hL fun h => shut_at hs 5 4 (by kernel_rfl) (h)
             have n11 : L 11 = false := not_yet hL fun h => shut_at hs 5 4 (by kernel_rfl) (shut_at hs 11 5 (by kernel_rfl) (h))
             have mk := HKC.out w' hcm
             refine opIn_run (v := .int .i64 (k : Int)) (w' := w') rfl rfl (fun c h => by cases h) (fun _ => trivial) ?_ ⟨by simp [Act.put, upd, y1, y2, y3, n5, n11, hL], hcm, by simpa [upd] using hph⟩
             simp only [y1, y2, y3, n5, n11, hL, cond_true, cond_false]
             go_simp
           · skip
             have y0 : L 0 = true := up_at hu 0 (by kernel_rfl)
             have y1 : L 1 = true := shut_at hs 3 1 (by kernel_rfl) (shut_at hs 4 3 (by kernel_rfl) (up_at hu 4 (by kernel_rfl)))
             have y2 : L 2 = true := shut_at hs 3 2 (by kernel_rfl) (shut_at hs 4 3 (by kernel_rfl) (up_at hu 4 (by kernel_rfl)))
             have y3 : L 3 = true := shut_at hs 4 3 (by kernel_rfl) (up_at hu 4 (by kernel_rfl))
             have y4 : L 4 = true := up_at hu 4 (by kernel_rfl)
             have n11 : L 11 = false := not_yet hL fun h => shut_at hs 11 5 (by kernel_rfl) (h)
             simp only [y0, y1, y2, y3, y4, n11, hL, cond_false] at hph
             refine opIn_call (f := 27) (args := #[.pointer (some ⟨p1, 0, none⟩), .pointer (some ⟨w5.heap.size, 0, none⟩), .int .i64 (k : Int)]) (w' := w') rfl rfl (fun c h => by cases h) (fun _ => trivial) rfl ?_ ((callsIn_wide.2 (C1.out w' hph)).mono ?_)
             · simp only [y0, y1, y2, y3, y4, n11, hL, cond_true, cond_false]
               go_simp
             · rintro e w2 ⟨rfl, hx, hb⟩
               exact ⟨_, rfl, by simp [Act.put, upd, y0, y1, y2, y3, y4, n11, hL], hcm.trans (hb.mono (Nat.le_refl _)), by simp only [upd, y0, y1, y2, y3, y4, n11, hL]; exact hx⟩
           · skip
             have n11 : L 11 = false := not_yet hL fun h => shut_at hs 11 6 (by kernel_rfl) (h)
             refine opIn_run (v := .pointer (some ⟨p2, 0, none⟩)) (w' := w') rfl rfl (fun c h => by cases h) (fun _ => trivial) ?_ ⟨by simp [Act.put, upd, n11, hL], hcm, by simpa [upd] using hph⟩
             simp only [n11, hL, cond_true, cond_false]
             go_simp
           · skip
             have n11 : L 11 = false := not_yet hL fun h => shut_at hs 9 7 (by kernel_rfl) (shut_at hs 10 9 (by kernel_rfl) (shut_at hs 11 10 (by kernel_rfl) (h)))
             refine opIn_run (v := .slice (some ⟨bk, ok, none⟩) n2 cK) (w' := w') rfl rfl (fun c h => by cases h) (fun _ => trivial) ?_ ⟨by simp [Act.put, upd, n11, hL], hcm, by simpa [upd] using hph⟩
             simp only [n11, hL, cond_true, cond_false]
             go_simp
           · skip
             have n11 : L 11 = false := not_yet hL fun h => shut_at hs 9 8 (by kernel_rfl) (shut_at hs 10 9 (by kernel_rfl) (shut_at hs 11 10 (by kernel_rfl) (h)))
             refine opIn_run (v := .int .i64 (j : Int)) (w' := w') rfl rfl (fun c h => by cases h) (fun _ => trivial) ?_ ⟨by simp [Act.put, upd, n11, hL], hcm, by simpa [upd] using hph⟩
             simp only [n11, hL, cond_true, cond_false]
             go_simp
           · skip
             have y7 : L 7 = true := up_at hu 7 (by kernel_rfl)
             have y8 : L 8 = true := up_at hu 8 (by kernel_rfl)
             have n11 : L 11 = false := not_yet hL fun h => shut_at hs 10 9 (by kernel_rfl) (shut_at hs 11 10 (by kernel_rfl) (h))
             refine opIn_run (v := .pointer (some ⟨bk, ok + j, none⟩)) (w' := w') rfl rfl (fun c h => by cases h) (fun _ => trivial) ?_ ⟨by simp [Act.put, upd, y7, y8, n11, hL], hcm, by simpa [upd] using hph⟩
             simp only [y7, y8, n11, hL, cond_true, cond_false]
             go_simp
           · skip
             have y7 : L 7 = true := shut_at hs 9 7 (by kernel_rfl) (up_at hu 9 (by kernel_rfl))
             have y8 : L 8 = true := shut_at hs 9 8 (by kernel_rfl) (up_at hu 9 (by kernel_rfl))
             have y9 : L 9 = true := up_at hu 9 (by kernel_rfl)
             have n11 : L 11 = false := not_yet hL fun h => shut_at hs 11 10 (by kernel_rfl) (h)
             have mk := HKC.out w' hcm
             refine opIn_run (v := .int .i64 (k : Int)) (w' := w') rfl rfl (fun c h => by cases h) (fun _ => trivial) ?_ ⟨by simp [Act.put, upd, y7, y8, y9, n11, hL], hcm, by simpa [upd] using hph⟩
             simp only [y7, y8, y9, n11, hL, cond_true, cond_false]
             go_simp
           · skip
             have y0 : L 0 = true := shut_at hs 5 0 (by kernel_rfl) (up_at hu 5 (by kernel_rfl))
             have y1 : L 1 = true := shut_at hs 3 1 (by kernel_rfl) (shut_at hs 4 3 (by kernel_rfl) (shut_at hs 5 4 (by kernel_rfl) (up_at hu 5 (by kernel_rfl))))
             have y2 : L 2 = true := shut_at hs 3 2 (by kernel_rfl) (shut_at hs 4 3 (by kernel_rfl) (shut_at hs 5 4 (by kernel_rfl) (up_at hu 5 (by kernel_rfl))))
             have y3 : L 3 = true := shut_at hs 4 3 (by kernel_rfl) (shut_at hs 5 4 (by kernel_rfl) (up_at hu 5 (by kernel_rfl)))
             have y4 : L 4 = true := shut_at hs 5 4 (by kernel_rfl) (up_at hu 5 (by kernel_rfl))
             have y5 : L 5 = true := up_at hu 5 (by kernel_rfl)
             have y6 : L 6 = true := up_at hu 6 (by kernel_rfl)
             have y7 : L 7 = true := shut_at hs 9 7 (by kernel_rfl) (shut_at hs 10 9 (by kernel_rfl) (up_at hu 10 (by kernel_rfl)))
             have y8 : L 8 = true := shut_at hs 9 8 (by kernel_rfl) (shut_at hs 10 9 (by kernel_rfl) (up_at hu 10 (by kernel_rfl)))
             have y9 : L 9 = true := shut_at hs 10 9 (by kernel_rfl) (up_at hu 10 (by kernel_rfl))
             have y10 : L 10 = true := up_at hu 10 (by kernel_rfl)
             simp only [y0, y1, y2, y3, y4, y5, y6, y7, y8, y9, y10, hL, cond_false, cond_true] at hph
             refine opIn_call (f := 27) (args := #[.pointer (some ⟨p2, 0, none⟩), .pointer (some ⟨w5.heap.size + 1, 0, none⟩), .int .i64 (k : Int)]) (w' := w') rfl rfl (fun c h => by cases h) (fun _ => trivial) rfl ?_ ((callsIn_wide.2 (C2.out w' hph)).mono ?_)
             · simp only [y0, y1, y2, y3, y4, y5, y6, y7, y8, y9, y10, hL, cond_true, cond_false]
               go_simp
             · rintro e w2 ⟨rfl, hx, hb⟩
               exact ⟨_, rfl, by simp [Act.put, upd, y0, y1, y2, y3, y4, y5, y6, y7, y8, y9, y10, hL], hcm.trans (hb.mono (Nat.le_refl _)), by simp only [upd, y0, y1, y2, y3, y4, y5, y6, y7, y8, y9, y10, hL]; exact hx⟩
           · skip
             have y0 : L 0 = true := shut_at hs 5 0 (by kernel_rfl) (up_at hu 5 (by kernel_rfl))
             have y1 : L 1 = true := shut_at hs 3 1 (by kernel_rfl) (shut_at hs 4 3 (by kernel_rfl) (shut_at hs 5 4 (by kernel_rfl) (up_at hu 5 (by kernel_rfl))))
             have y2 : L 2 = true := shut_at hs 3 2 (by kernel_rfl) (shut_at hs 4 3 (by kernel_rfl) (shut_at hs 5 4 (by kernel_rfl) (up_at hu 5 (by kernel_rfl))))
             have y3 : L 3 = true := shut_at hs 4 3 (by kernel_rfl) (shut_at hs 5 4 (by kernel_rfl) (up_at hu 5 (by kernel_rfl)))
             have y4 : L 4 = true := shut_at hs 5 4 (by kernel_rfl) (up_at hu 5 (by kernel_rfl))
             have y5 : L 5 = true := up_at hu 5 (by kernel_rfl)
             have y6 : L 6 = true := shut_at hs 11 6 (by kernel_rfl) (up_at hu 11 (by kernel_rfl))
             have y7 : L 7 = true := shut_at hs 9 7 (by kernel_rfl) (shut_at hs 10 9 (by kernel_rfl) (shut_at hs 11 10 (by kernel_rfl) (up_at hu 11 (by kernel_rfl))))
             have y8 : L 8 = true := shut_at hs 9 8 (by kernel_rfl) (shut_at hs 10 9 (by kernel_rfl) (shut_at hs 11 10 (by kernel_rfl) (up_at hu 11 (by kernel_rfl))))
             have y9 : L 9 = true := shut_at hs 10 9 (by kernel_rfl) (shut_at hs 11 10 (by kernel_rfl) (up_at hu 11 (by kernel_rfl)))
             have y10 : L 10 = true := shut_at hs 11 10 (by kernel_rfl) (up_at hu 11 (by kernel_rfl))
             have y11 : L 11 = true := up_at hu 11 (by kernel_rfl)
             refine opIn_run (v := .bool false) (w' := w') rfl rfl (fun c h => by cases h) (fun _ => trivial) ?_ ⟨by simp [Act.put, upd, y0, y1, y2, y3, y4, y5, y6, y7, y8, y9, y10, y11, hL], hcm, by simpa [upd] using hph⟩
             simp only [y0, y1, y2, y3, y4, y5, y6, y7, y8, y9, y10, y11, hL, cond_true, cond_false]
             go_simp
         case fin =>
           intro L a' w' hall hI
           obtain ⟨rfl, hcm, hph⟩ := hI
           have l0 := hall 0 (by decide)
           have l1 := hall 1 (by decide)
           have l2 := hall 2 (by decide)
           have l3 := hall 3 (by decide)
           have l4 := hall 4 (by decide)
           have l5 := hall 5 (by decide)
           have l6 := hall 6 (by decide)
           have l7 := hall 7 (by decide)
           have l8 := hall 8 (by decide)
           have l9 := hall 9 (by decide)
           have l10 := hall 10 (by decide)
           have l11 := hall 11 (by decide)
           have l12 := hall 12 (by decide)
           simp only [l0, l1, l2, l3, l4, l5, l6, l7, l8, l9, l10, l11, l12, cond_true] at hph ⊢
           clear l0 l1 l2 l3 l4 l5 l6 l7 l8 l9 l10 l11 l12 hall
           have HX2 := Lib.hid hph
           have HB9 := Lib.hid hcm
           clear hph hcm C1 C2 HX HB8
           go_wp2
           exact ⟨⟨j + 1, _, _, by omega, by go_num, HB9.out, HX2.out⟩, by simp [intOf]; omega⟩
      -- END
       · obtain rfl : j = n2 := by omega
         have h2 : ¬ (j : Int) < (j : Int) := by omega
         go_wp2
         go_ret
         exact ⟨rfl, HWB.out⟩
end Go.Proofs.YtdgkeghgfibolaaDoor
