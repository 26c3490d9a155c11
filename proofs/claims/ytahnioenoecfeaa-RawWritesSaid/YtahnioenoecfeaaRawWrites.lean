/- RawWrites, walked. -/
import Derived.Test.YtahnioenoecfeaaRawVo
import Derived.Test.YtahnioenoecfeaaRawBack
import Derived.Test.YtahnioenoecfeaaStr
import Derived.Deep.RegionWith
set_option linter.unusedVariables false
namespace Go.Proofs.Ytahnioenoecfeaa
open Go.RowKit

theorem lst_le {w : World} {B : Nat} {A : Option Addr} {xs : List Value} (h : Lst w B A xs) {B' : Nat} (hB : B ≤ B') : Lst w B' A xs := h.more hB

set_option maxHeartbeats 8000000 in
theorem walk_rawWrites (a0 : Option Addr) (len0 cap0 : Nat) (z0 : List Int) (w : World) (w0 : IsRow .i64 w a0 len0 cap0 z0) :
    Calls Try.prog 3 #[.slice a0 len0 cap0] w fun e w' => e = .returned (.bool true) ∧ Below w.heap.size w w' := by
  have hl := lst_of_row w0
  obtain ⟨hlen, hlc, hcm, hnil⟩ := row_len w0
  clear w0
  generalize hz : z0.take len0 = l at *
  clear hz
  have HL := Lib.hid hl
  have HLen := Lib.hid hlen
  unfold maxLen at hcm
  clear hl hlen hnil
  go_enter Try.func3, Try.ntmps3
  go_wp2_with fail
  refine (known5 _).mono ?_
  rintro e w1 ⟨rfl, b1⟩
  have s1 := b1.size
  go_wp2_with fail
  refine (wnew_any _).mono ?_
  rintro e w2 ⟨p, rfl, h2, b2⟩
  have b2' := b1.trans (b2.mono s1)
  have s2 := b2.size
  go_wp2_with fail
  refine (vnew_any _).mono ?_
  rintro e w3 ⟨q, rfl, h3, b3⟩
  have s3 := b3.size
  have b3' := b2'.trans (b3.mono (Nat.le_trans s1 s2))
  have hA : Wo (fun k => w1.heap.size ≤ k ∧ k < w2.heap.size) w3 p [] 0 := h2.wo.keep b3.size (fun k hk => b3.block k hk.2)
  have hT : Two w1.heap.size (fun k => w1.heap.size ≤ k ∧ k < w2.heap.size) (fun k => w2.heap.size ≤ k ∧ k < w3.heap.size) w3 :=
    ⟨fun k hk => ⟨hk.1, Nat.lt_of_lt_of_le hk.2 s3⟩, fun k hk => ⟨Nat.le_trans s2 hk.1, hk.2⟩, fun k ha hb => by have := ha.2; have := hb.1; omega⟩
  have HA := Lib.hid hA
  have HV := Lib.hid h3
  have HT := Lib.hid hT
  clear h2 h3 hA hT b1 b2 b3 b2'
  go_wp2
  go_loopw [5] (fun i wr => ∃ (k : Nat) (A B : Nat → Prop) (s : VS), k ≤ len0 ∧ k ≤ 300 ∧ i = .int .i64 (k : Int) ∧ Wo A wr p (wrun (l.take k)).1 (wrun (l.take k)).2 ∧ Vo B wr q s ∧ Two w1.heap.size A B wr ∧ VRel (wrun (l.take k)) s ∧ Below w.heap.size w wr ∧ w1.heap.size ≤ wr.heap.size) (fun i _ => 300 - (intOf i).toNat)
  case atStart =>
    refine ⟨0, _, _, ⟨[], 0, 8, 8⟩, by omega, by omega, rfl, by simpa [wrun] using HA.out, HV.out, HT.out, ?_, b3', by omega⟩
    exact ⟨rfl, by decide, by decide, Or.inl ⟨rfl, rfl, rfl⟩⟩
  case round =>
    obtain ⟨k, A, B, s, kn, k3, rfl, hA, hV, hT, hrel2, hb, hs⟩ := hrel
    clear HA HV HT b3'
    have ok := wrun_ok (l.take k)
    have hlk := wrun_len (l.take k)
    rw [List.length_take, HLen.out] at hlk
    have hlk3 : (wrun (l.take k)).1.length ≤ 300 := by omega
    have hu := vrel_use hrel2 ok
    have hall := vrel_all hrel2
    by_cases c1 : k < len0 ∧ k < 300
    · obtain ⟨c1, c2⟩ := c1
      have hst := take_step (bs := l) (k := k) (by rw [HLen.out]; exact c1)
      obtain ⟨b, o, rfl, hbb, f1⟩ := lst_at (HL.out.below hb) (k := k) (by rw [HLen.out]; omega)
      have c3 : (k : Int) < (len0 : Int) := by omega
      have c4 : (k : Int) < 300 := by omega
      have HX := Lib.hid hst
      generalize l.getD k 0 = x at *
      have ok' := ok.step x
      rw [HX.out] at ok'
      have hrel3 := vrel_step hrel2 x
      rw [HX.out] at hrel3
      have hlk' := wrun_len (l.take (k + 1))
      rw [List.length_take, HLen.out] at hlk'
      have hlk4 : (wrun (l.take (k + 1))).1.length ≤ 301 := by omega
      have hu' := vrel_use hrel3 ok'
      have hall' := vrel_all hrel3
      have HU := Lib.hid hu
      have HU' := Lib.hid hu'
      have HRel := Lib.hid (And.intro hrel3 hall')
      have HOk := Lib.hid ok
      have HA := Lib.hid hA
      have HV := Lib.hid hV
      have HT := Lib.hid hT
      clear hst hu hu' hrel3 hall' hall hrel2 ok ok' hA hV hT hlk hlk'
      go_wp2_with fail
      refine (wo_bit (HA.out.imp (fun k _ h => Or.inl h) : Wo (more A wr) wr p _ _) HOk.out (by omega) (more_up A wr)).mono ?_
      rintro e w5 ⟨rfl, h5, o5⟩
      rw [HX.out] at h5
      obtain ⟨t5, k5, b5⟩ := HT.out.step o5 hs
      have v5 := HV.out.keep o5.size k5
      have h5' : Wo (upto (more A wr) w5) w5 p _ _ := h5.imp (fun k hk hp => ⟨hp, hk⟩)
      have hb5 := hb.trans (b5.mono s1)
      have hs5 := Nat.le_trans hs o5.size
      have f5 := (b5.cell (p := ⟨b, o + k, none⟩) (by show b < _; omega)).trans f1
      have H5 := Lib.hid h5'
      have V5 := Lib.hid v5
      have T5 := Lib.hid t5
      clear HA HV HT h5 h5' v5 t5 k5 b5 o5 f1 hb hs HOk
      go_wp2_with fail
      refine (vbit_only (V5.out.imp (fun k _ h => Or.inl h) : Vo (more B w5) w5 q s) (by have := HU.out.2.2.2.2.1; omega) HU.out.1 HU.out.2.1 HU.out.2.2.1 HU.out.2.2.2.1 (more_up B w5)).mono ?_
      rintro e w6 ⟨rfl, h6, o6⟩
      obtain ⟨t6, k6, b6⟩ := T5.out.swap.step o6 hs5
      have a6 := H5.out.keep o6.size k6
      have h6' : Vo (upto (more B w5) w6) w6 q _ := h6.imp (fun k hk hp => ⟨hp, hk⟩)
      have hb6 := hb5.trans (b6.mono s1)
      have hs6 := Nat.le_trans hs5 o6.size
      have H6 := Lib.hid a6
      have V6 := Lib.hid h6'
      have T6 := Lib.hid t6.swap
      clear H5 V5 T5 h6 h6' a6 t6 k6 b6 o6 hb5 hs5 f5
      go_wp2_with fail
      refine (out_any H6.out.wr).mono ?_
      rintro e w' ⟨rfl, rfl⟩
      go_wp2_with fail
      refine (vout_any V6.out (by have := HU'.out.2.2.2.2.1; omega)).mono ?_
      rintro e w7 ⟨rfl, dn, hd⟩
      rw [HRel.out.2]
      have H7 : Hid (Wo (upto (more A wr) w5) w7 p (wrun (l.take (k + 1))).1 (wrun (l.take (k + 1))).2) := by rw [hd]; exact H6.out
      have V7 : Hid (Vo (upto (more B w5) w6) w7 q (vstep s x)) := by rw [hd]; exact V6.out
      have T7 : Hid (Two w1.heap.size (upto (more A wr) w5) (upto (more B w5) w6) w7) := by rw [hd]; exact ⟨T6.out.a, T6.out.b, T6.out.ab⟩
      have hb7 : Below w.heap.size w w7 := by rw [hd]; exact below_drewN hb6 dn
      have hs7 : w1.heap.size ≤ w7.heap.size := by rw [hd]; exact hs6
      clear H6 V6 T6 hb6 hs6 hd
      go_wp2
      go_roundw
      case rel => exact ⟨k + 1, _, _, vstep s x, by omega, by omega, by go_num, H7.out, V7.out, T7.out, HRel.out.1, hb7, hs7⟩
      case measure => simp [intOf] <;> omega
    · have hub := hu.2.2.2.2.1
      have huc := hu.2.2.1
      obtain ⟨F, hF⟩ : ∃ F, flushF (wrun (l.take k)).1 = F := ⟨_, rfl⟩
      have hfl := flush_len (wrun (l.take k)).1
      rw [hF] at hfl
      have FA : Hid (∀ (u : World), Below wr.heap.size wr u → Calls Try.prog 17 #[.pointer (some ⟨p, 0, none⟩)] u fun e u' => ∃ A c, e = .returned (.slice A F.length c) ∧ Lst u' u'.heap.size A (F.map (Value.int .u8)) ∧ Below u.heap.size u u') := fun u hu => by
        have hA' := (hA.keep (w' := u) hu.size (fun k hk => hu.block k (hT.a k hk).2)).wr
        refine (flush_new hA' (by omega)).mono ?_
        rintro e u' ⟨v, rfl, hv, b⟩
        rw [hF] at hv
        obtain ⟨A', c', rfl, _⟩ := own_any hv
        exact ⟨A', c', rfl, Lst.own hv, b⟩
      have FB : Hid (∀ (u : World), Below wr.heap.size wr u → Calls Try.prog 18 #[.pointer (some ⟨q, 0, none⟩)] u fun e u' => ∃ A c, e = .returned (.slice A F.length c) ∧ Lst u' u'.heap.size A (F.map (Value.int .u8)) ∧ Below u.heap.size u u') := fun u hu => by
        have hV' := hV.keep (w' := u) hu.size (fun k hk => hu.block k (hT.b k hk).2)
        refine (vflush_new hV' (by omega) huc).mono ?_
        rintro e u' ⟨A', c', he, _, hL, b⟩
        rw [hall, hF] at he hL
        exact ⟨A', c', he, hL, b⟩
      have CV : Hid (∀ (u : World) (Bd : Nat) (A : Option Addr) (c : Nat), Lst u Bd A (F.map (Value.int .u8)) → (convert 30 9 (.slice A F.length c)).run Try.prog u = .ok (.string (strOf F)) u) := fun u Bd A c hu => conv_str rfl hu
      generalize strOf F = S at *
      clear hA hV hT hrel2 ok hu hall hF hfl hlk
      by_cases hcc : k < len0
      · have c3 : (k : Int) < (len0 : Int) := by omega
        have c4 : ¬ (k : Int) < 300 := by omega
        clear c1
        go_wp2
        go_region_with (first
          | (go_at_call 17; refine (FA.out _ (below_drewN (Below.refl _ _) 1)).mono ?_; rintro e w5 ⟨A5, c5, rfl, hv5, b5⟩; have hc5 := CV.out _ _ _ c5 hv5; have B5 := (below_drewN (Below.refl wr.heap.size wr) 1).trans b5)
          | (go_at_call 18; refine (FB.out _ (below_drewN (Below.refl _ _) 1)).mono ?_; rintro e w5 ⟨A5, c5, rfl, hv5, b5⟩; have hc5 := CV.out _ _ _ c5 hv5; have B5 := (below_drewN (Below.refl wr.heap.size wr) 1).trans b5)
          | (go_at_call 17; refine (FA.out _ B5).mono ?_; rintro e w6 ⟨A6, c6, rfl, hv6, b6⟩; have hc6 := CV.out _ _ _ c6 hv6; have hc56 := CV.out _ _ _ c5 (hv5.below b6); have B6 := B5.trans (b6.mono B5.size))
          | (go_at_call 18; refine (FB.out _ B5).mono ?_; rintro e w6 ⟨A6, c6, rfl, hv6, b6⟩; have hc6 := CV.out _ _ _ c6 hv6; have hc56 := CV.out _ _ _ c5 (hv5.below b6); have B6 := B5.trans (b6.mono B5.size)))
        all_goals
          go_wp2
          go_ret
          exact ⟨rfl, hb.trans (B6.mono hb.size)⟩
      · have c3 : ¬ (k : Int) < (len0 : Int) := by omega
        clear c1
        go_wp2
        go_region_with (first
          | (go_at_call 17; refine (FA.out _ (below_drewN (Below.refl _ _) 1)).mono ?_; rintro e w5 ⟨A5, c5, rfl, hv5, b5⟩; have hc5 := CV.out _ _ _ c5 hv5; have B5 := (below_drewN (Below.refl wr.heap.size wr) 1).trans b5)
          | (go_at_call 18; refine (FB.out _ (below_drewN (Below.refl _ _) 1)).mono ?_; rintro e w5 ⟨A5, c5, rfl, hv5, b5⟩; have hc5 := CV.out _ _ _ c5 hv5; have B5 := (below_drewN (Below.refl wr.heap.size wr) 1).trans b5)
          | (go_at_call 17; refine (FA.out _ B5).mono ?_; rintro e w6 ⟨A6, c6, rfl, hv6, b6⟩; have hc6 := CV.out _ _ _ c6 hv6; have hc56 := CV.out _ _ _ c5 (hv5.below b6); have B6 := B5.trans (b6.mono B5.size))
          | (go_at_call 18; refine (FB.out _ B5).mono ?_; rintro e w6 ⟨A6, c6, rfl, hv6, b6⟩; have hc6 := CV.out _ _ _ c6 hv6; have hc56 := CV.out _ _ _ c5 (hv5.below b6); have B6 := B5.trans (b6.mono B5.size)))
        all_goals
          go_wp2
          go_ret
          exact ⟨rfl, hb.trans (B6.mono hb.size)⟩
end Go.Proofs.Ytahnioenoecfeaa
