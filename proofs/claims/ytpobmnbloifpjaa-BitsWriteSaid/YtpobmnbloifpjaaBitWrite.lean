/- BitsWrite, walked. -/
import Derived.Test.YtpobmnbloifpjaaBitVo
import Derived.Test.YtpobmnbloifpjaaStr
import Derived.Deep.RegionWith
set_option linter.unusedVariables false
namespace Go.Proofs.Ytpobmnbloifpjaa
open Go.RowKit

set_option maxHeartbeats 8000000 in
theorem walk_bitsWrite (a0 : Option Addr) (len0 cap0 : Nat) (z0 : List Int) (a1 : Option Addr) (len1 cap1 : Nat) (z1 : List Int) (w : World) (w0 : IsRow .i64 w a0 len0 cap0 z0) (w1 : IsRow .i64 w a1 len1 cap1 z1) :
    Calls Try.prog 3 #[.slice a0 len0 cap0, .slice a1 len1 cap1] w fun e w' => e = .returned (.bool true) ∧ Below w.heap.size w w' := by
  have hl0 := lst_of_row w0
  obtain ⟨hlen0, hlc0, hcm0, _⟩ := row_len w0
  have hl1 := lst_of_row w1
  obtain ⟨hlen1, hlc1, hcm1, _⟩ := row_len w1
  clear w0 w1
  generalize hz : z0.take len0 = x0 at *
  clear hz
  generalize hz : z1.take len1 = x1 at *
  clear hz
  have HL0 := Lib.hid (And.intro hl0 hlen0)
  have HL1 := Lib.hid (And.intro hl1 hlen1)
  unfold maxLen at hcm0 hcm1
  clear hl0 hlen0 hl1 hlen1
  go_enter Try.func3, Try.ntmps3
  go_wp2_with fail
  refine (known2 _).mono ?_
  rintro e w1 ⟨rfl, b1⟩
  have s1 := b1.size
  go_wp2_with fail
  refine (bnew_any _).mono ?_
  rintro e w2 ⟨p, rfl, h2, b2⟩
  have b2' := b1.trans (b2.mono s1)
  have s2 := b2.size
  go_wp2_with fail
  refine (vnew_any _).mono ?_
  rintro e w3 ⟨q, rfl, h3, b3⟩
  have s3 := b3.size
  have b3' := b2'.trans (b3.mono (Nat.le_trans s1 s2))
  have hA : Wb (fun k => w1.heap.size ≤ k ∧ k < w2.heap.size) w3 p [] 0 := h2.keep b3.size (fun k hk => b3.block k hk.2)
  have hT : Two w1.heap.size (fun k => w1.heap.size ≤ k ∧ k < w2.heap.size) (fun k => w2.heap.size ≤ k ∧ k < w3.heap.size) w3 :=
    ⟨fun k hk => ⟨hk.1, Nat.lt_of_lt_of_le hk.2 s3⟩, fun k hk => ⟨Nat.le_trans s2 hk.1, hk.2⟩, fun k ha hb => by have := ha.2; have := hb.1; omega⟩
  have HA := Lib.hid hA
  have HV := Lib.hid h3
  have HT := Lib.hid hT
  clear h2 h3 hA hT b1 b2 b3 b2'
  go_wp2
  go_loopw [7] (fun i wr => ∃ (k : Nat) (A B : Nat → Prop) (S : List Int × Nat) (s : VS), k ≤ len0 ∧ k ≤ len1 ∧ k ≤ 40 ∧ i = .int .i64 (k : Int) ∧ Wb A wr p S.1 S.2 ∧ Vo B wr q s ∧ Two w1.heap.size A B wr ∧ VRel S s ∧ WOk S ∧ S.1.length ≤ 32 * k ∧ Below w.heap.size w wr ∧ w1.heap.size ≤ wr.heap.size) (fun i _ => 40 - (intOf i).toNat)
  case atStart =>
    refine ⟨0, _, _, ([], 0), ⟨[], 0, 8⟩, by omega, by omega, by omega, rfl, HA.out, HV.out, HT.out, ?_, by simpa [wrun] using wrun_ok [], by simp, b3', by omega⟩
    exact ⟨by decide, by decide, Or.inl ⟨rfl, rfl, rfl⟩⟩
  case round =>
    obtain ⟨k, A, B, S, s, kn0, kn1, k40, rfl, hA, hV, hT, hrel2, ok, hsl, hb, hs⟩ := hrel
    clear HA HV HT b3'
    by_cases c0 : k < len0
    · by_cases c1 : k < len1
      · by_cases c2 : k < 40
        · have c3 : (k : Int) < (len0 : Int) := by omega
          have c4 : (k : Int) < (len1 : Int) := by omega
          have c5 : (k : Int) < 40 := by omega
          obtain ⟨b, o, rfl, hbb, f1⟩ := lst_ati (HL0.out.1.below hb) (k := k) (by rw [HL0.out.2]; omega)
          obtain ⟨b', o', rfl, hbb', f2⟩ := lst_ati (HL1.out.1.below hb) (k := k) (by rw [HL1.out.2]; omega)
          have HU := Lib.hid (vrel_use hrel2 ok)
          have HRel := Lib.hid hrel2
          have HOk := Lib.hid ok
          have HA := Lib.hid hA
          have HV := Lib.hid hV
          have HT := Lib.hid hT
          generalize x0.getD k 0 = x at *
          generalize x1.getD k 0 = y at *
          clear hrel2 ok hA hV hT
          by_cases h7 : 0 < y.tmod 7
          · obtain ⟨r, hr⟩ : ∃ r : Nat, y % 12 = (r : Int) := ⟨(y % 12).toNat, by omega⟩
            have hr12 : r < 12 := by omega
            have WI : Hid (∀ u, Calls Try.prog 13 #[.int .i64 y, .int .i64 12] u fun e w'' => e = .returned (.int .i64 (r : Int)) ∧ u = w'') := fun u =>
              (within_any y 12 u (by omega) (by omega)).mono fun e w'' ⟨he, hw''⟩ => ⟨by rw [he]; exact ret_i64 hr, hw''⟩
            clear hr
            rcases r with _ | r
            · go_wp2_with fail
              refine (WI.out _).mono ?_
              rintro e w' ⟨rfl, rfl⟩
              clear WI
              go_wp2_with fail
              refine (wb_bit (s := S) (b := x) (HA.out.imp (fun k _ h => Or.inl h) : Wb (more A wr) wr p _ _) HOk.out (by omega) (more_up A wr)).mono ?_
              rintro e w5 ⟨rfl, h5, o5⟩
              obtain ⟨t5, k5, b5⟩ := HT.out.step o5 hs
              have v5 := HV.out.keep o5.size k5
              have h5' : Wb (upto (more A wr) w5) w5 p (wstep S x).1 (wstep S x).2 := h5.imp (fun k hk hp => ⟨hp, hk⟩)
              have hb5 := hb.trans (b5.mono s1)
              have hs5 := Nat.le_trans hs o5.size
              have f5 := (b5.cell (p := ⟨b, o + k, none⟩) (by show b < _; omega)).trans f1
              have H5 := Lib.hid h5'
              have V5 := Lib.hid v5
              have T5 := Lib.hid t5
              clear HA HV HT h5 h5' v5 t5 k5 b5 o5 f1 f2 hb hs
              go_wp2_with fail
              refine (vbit_only (b := x) (V5.out.imp (fun k _ h => Or.inl h) : Vo (more B w5) w5 q s) (by have := HU.out.2.2.2.2; omega) HU.out.1 HU.out.2.1 HU.out.2.2.1 HU.out.2.2.2.1 (more_up B w5)).mono ?_
              rintro e w6 ⟨rfl, h6, o6⟩
              obtain ⟨t6, k6, b6⟩ := T5.out.swap.step o6 hs5
              have a6 := H5.out.keep o6.size k6
              have h6' : Vo (upto (more B w5) w6) w6 q (vstep s x) := h6.imp (fun k hk hp => ⟨hp, hk⟩)
              have hb6 := hb5.trans (b6.mono s1)
              have hs6 := Nat.le_trans hs5 o6.size
              have hln := wstep_len HOk.out.none x
              have H6 := Lib.hid a6
              have V6 := Lib.hid h6'
              have T6 := Lib.hid t6.swap
              have HR6 := Lib.hid (vrel_step HRel.out x)
              have OK6 := Lib.hid (HOk.out.step x)
              obtain ⟨S6, hS6⟩ : ∃ S6, wstep S x = S6 := ⟨_, rfl⟩
              obtain ⟨s6, hs6'⟩ : ∃ s6, vstep s x = s6 := ⟨_, rfl⟩
              rw [hS6] at H6 HR6 OK6 hln
              rw [hs6'] at V6 HR6
              have hl6 : S6.1.length ≤ 32 * (k + 1) := by omega
              clear H5 V5 T5 h6 h6' a6 t6 k6 b6 o6 hb5 hs5 f5 hln hS6 hs6' HRel HOk HU
              generalize upto (more A wr) w5 = A6 at *
              generalize upto (more B w5) w6 = B6' at *
              have hu6 := vrel_use HR6.out OK6.out
              have hall6 := vrel_all HR6.out
              obtain ⟨F, hF⟩ : ∃ F, bytesF S6.1 = F := ⟨_, rfl⟩
              have FA : Hid (∀ (u : World), Below w6.heap.size w6 u → Calls Try.prog 18 #[.pointer (some ⟨p, 0, none⟩)] u fun e u' => ∃ A c, e = .returned (.slice A F.length c) ∧ Lst u' u'.heap.size A (F.map (Value.int .u8)) ∧ Below u.heap.size u u') := fun u hu => by
                have hA' := H6.out.keep (w' := u) hu.size (fun k hk => hu.block k (T6.out.a k hk).2)
                refine (wb_bytes hA' (by omega)).mono ?_
                rintro e u' ⟨v, rfl, hv, b⟩
                rw [hF] at hv
                obtain ⟨A', c', rfl, _⟩ := own_any hv
                exact ⟨A', c', rfl, Lst.own hv, b⟩
              have FB : Hid (∀ (u : World), Below w6.heap.size w6 u → Calls Try.prog 19 #[.pointer (some ⟨q, 0, none⟩)] u fun e u' => ∃ A c, e = .returned (.slice A F.length c) ∧ Lst u' u'.heap.size A (F.map (Value.int .u8)) ∧ Below u.heap.size u u') := fun u hu => by
                have hV' := V6.out.keep (w' := u) hu.size (fun k hk => hu.block k (T6.out.b k hk).2)
                refine (vbytes_new hV' (by have := hu6.2.2.2.2; omega) hu6.2.2.1 hu6.1 hu6.2.2.2.1).mono ?_
                rintro e u' ⟨v, rfl, hv, b⟩
                rw [hall6, hF] at hv
                obtain ⟨A', c', rfl, _⟩ := own_any hv
                exact ⟨A', c', rfl, Lst.own hv, b⟩
              have CV : Hid (∀ (u : World) (Bd : Nat) (A : Option Addr) (c : Nat), Lst u Bd A (F.map (Value.int .u8)) → (convert 31 9 (.slice A F.length c)).run Try.prog u = .ok (.string (strOf F)) u) := fun u Bd A c hu => conv_str rfl hu
              generalize strOf F = Z at *
              clear hu6 hall6 hF
              have K6 : Hid (∀ u : World, Below w6.heap.size w6 u → Wb A6 u p S6.1 S6.2 ∧ Vo B6' u q s6 ∧ Two w1.heap.size A6 B6' u ∧ w1.heap.size ≤ u.heap.size) := Lib.hid (fun u hu => ⟨H6.out.keep hu.size (fun k hk => hu.block k (T6.out.a k hk).2), V6.out.keep hu.size (fun k hk => hu.block k (T6.out.b k hk).2), ⟨fun k hk => ⟨(T6.out.a k hk).1, Nat.lt_of_lt_of_le (T6.out.a k hk).2 hu.size⟩, fun k hk => ⟨(T6.out.b k hk).1, Nat.lt_of_lt_of_le (T6.out.b k hk).2 hu.size⟩, T6.out.ab⟩, Nat.le_trans hs6 hu.size⟩)
              clear H6 V6 T6
              go_wp2
              go_region_with (first
                | (go_at_call 18; refine (FA.out _ (below_drewN (Below.refl _ _) 1)).mono ?_; rintro e w7 ⟨A5, c5, rfl, hv5, b5⟩; have hc5 := CV.out _ _ _ c5 hv5; have B5 := (below_drewN (Below.refl w6.heap.size w6) 1).trans b5)
                | (go_at_call 19; refine (FB.out _ (below_drewN (Below.refl _ _) 1)).mono ?_; rintro e w7 ⟨A5, c5, rfl, hv5, b5⟩; have hc5 := CV.out _ _ _ c5 hv5; have B5 := (below_drewN (Below.refl w6.heap.size w6) 1).trans b5)
                | (go_at_call 18; refine (FA.out _ B5).mono ?_; rintro e w8 ⟨A9, c6, rfl, hv6, b6⟩; have hc6 := CV.out _ _ _ c6 hv6; have hc56 := CV.out _ _ _ c5 (hv5.below b6); have B6 := B5.trans (b6.mono B5.size))
                | (go_at_call 19; refine (FB.out _ B5).mono ?_; rintro e w8 ⟨A9, c6, rfl, hv6, b6⟩; have hc6 := CV.out _ _ _ c6 hv6; have hc56 := CV.out _ _ _ c5 (hv5.below b6); have B6 := B5.trans (b6.mono B5.size)))
              all_goals
                obtain ⟨x1, x2, x3, x4⟩ := K6.out _ B6
                have X1 := Lib.hid x1
                have X2 := Lib.hid x2
                have X3 := Lib.hid x3
                have hb8 := hb6.trans (B6.mono hb6.size)
                clear x1 x2 x3 FA FB CV K6 B6 b6 hv6 hc6 hc56 hv5 hc5 b5 B5
                go_wp2
                go_roundw
                case rel => exact ⟨k + 1, A6, B6', S6, s6, by omega, by omega, by omega, by go_num, X1.out, X2.out, X3.out, HR6.out, OK6.out, hl6, hb8, x4⟩
                case measure => simp [intOf] <;> omega
            · obtain ⟨sz, hsz⟩ : ∃ sz, r + 2 = sz := ⟨_, rfl⟩
              have hszi : 1 + (((r + 1 : Nat)) : Int) = (sz : Int) := by omega
              have hszj : 1 + ((r : Int) + 1) = (sz : Int) := by omega
              have hw1 : IntKind.i64.wrap (sz : Int) = (sz : Int) := IntWalk.i64_in _ (by omega)
              have hsb : ((sz : Int) == 1) = false := by simp; omega
              go_wp2_with fail
              refine (WI.out _).mono ?_
              rintro e w' ⟨rfl, rfl⟩
              clear WI
              go_wp2_with fail
              refine (wb_bits (s := S) (n := x) (size := sz) (HA.out.imp (fun k _ h => Or.inl h) : Wb (more A wr) wr p _ _) HOk.out (by omega) (by omega) (by omega) (more_up A wr)).mono ?_
              rintro e w5 ⟨rfl, h5, o5⟩
              obtain ⟨t5, k5, b5⟩ := HT.out.step o5 hs
              have v5 := HV.out.keep o5.size k5
              have h5' : Wb (upto (more A wr) w5) w5 p (wfold S (bitsOf x sz)).1 (wfold S (bitsOf x sz)).2 := h5.imp (fun k hk hp => ⟨hp, hk⟩)
              have hb5 := hb.trans (b5.mono s1)
              have hs5 := Nat.le_trans hs o5.size
              have f5 := (b5.cell (p := ⟨b, o + k, none⟩) (by show b < _; omega)).trans f1
              have H5 := Lib.hid h5'
              have V5 := Lib.hid v5
              have T5 := Lib.hid t5
              clear HA HV HT h5 h5' v5 t5 k5 b5 o5 f1 f2 hb hs
              go_wp2_with fail
              refine (vbits_only (n := x) (size := sz) (V5.out.imp (fun k _ h => Or.inl h) : Vo (more B w5) w5 q s) HRel.out HOk.out (by omega) (by omega) (by omega) (more_up B w5)).mono ?_
              rintro e w6 ⟨rfl, h6, o6⟩
              obtain ⟨t6, k6, b6⟩ := T5.out.swap.step o6 hs5
              have a6 := H5.out.keep o6.size k6
              have h6' : Vo (upto (more B w5) w6) w6 q (vfold s (bitsOf x sz)) := h6.imp (fun k hk hp => ⟨hp, hk⟩)
              have hb6 := hb5.trans (b6.mono s1)
              have hs6 := Nat.le_trans hs5 o6.size
              have hln := wfold_len HOk.out (bitsOf x sz)
              have H6 := Lib.hid a6
              have V6 := Lib.hid h6'
              have T6 := Lib.hid t6.swap
              have HR6 := Lib.hid (vrel_fold HRel.out (bitsOf x sz))
              have OK6 := Lib.hid (wfold_ok HOk.out (bitsOf x sz))
              rw [bitsOf_len] at hln
              obtain ⟨S6, hS6⟩ : ∃ S6, wfold S (bitsOf x sz) = S6 := ⟨_, rfl⟩
              obtain ⟨s6, hs6'⟩ : ∃ s6, vfold s (bitsOf x sz) = s6 := ⟨_, rfl⟩
              rw [hS6] at H6 HR6 OK6 hln
              rw [hs6'] at V6 HR6
              have hl6 : S6.1.length ≤ 32 * (k + 1) := by omega
              clear H5 V5 T5 h6 h6' a6 t6 k6 b6 o6 hb5 hs5 f5 hln hS6 hs6' HRel HOk HU
              generalize upto (more A wr) w5 = A6 at *
              generalize upto (more B w5) w6 = B6' at *
              have hu6 := vrel_use HR6.out OK6.out
              have hall6 := vrel_all HR6.out
              obtain ⟨F, hF⟩ : ∃ F, bytesF S6.1 = F := ⟨_, rfl⟩
              have FA : Hid (∀ (u : World), Below w6.heap.size w6 u → Calls Try.prog 18 #[.pointer (some ⟨p, 0, none⟩)] u fun e u' => ∃ A c, e = .returned (.slice A F.length c) ∧ Lst u' u'.heap.size A (F.map (Value.int .u8)) ∧ Below u.heap.size u u') := fun u hu => by
                have hA' := H6.out.keep (w' := u) hu.size (fun k hk => hu.block k (T6.out.a k hk).2)
                refine (wb_bytes hA' (by omega)).mono ?_
                rintro e u' ⟨v, rfl, hv, b⟩
                rw [hF] at hv
                obtain ⟨A', c', rfl, _⟩ := own_any hv
                exact ⟨A', c', rfl, Lst.own hv, b⟩
              have FB : Hid (∀ (u : World), Below w6.heap.size w6 u → Calls Try.prog 19 #[.pointer (some ⟨q, 0, none⟩)] u fun e u' => ∃ A c, e = .returned (.slice A F.length c) ∧ Lst u' u'.heap.size A (F.map (Value.int .u8)) ∧ Below u.heap.size u u') := fun u hu => by
                have hV' := V6.out.keep (w' := u) hu.size (fun k hk => hu.block k (T6.out.b k hk).2)
                refine (vbytes_new hV' (by have := hu6.2.2.2.2; omega) hu6.2.2.1 hu6.1 hu6.2.2.2.1).mono ?_
                rintro e u' ⟨v, rfl, hv, b⟩
                rw [hall6, hF] at hv
                obtain ⟨A', c', rfl, _⟩ := own_any hv
                exact ⟨A', c', rfl, Lst.own hv, b⟩
              have CV : Hid (∀ (u : World) (Bd : Nat) (A : Option Addr) (c : Nat), Lst u Bd A (F.map (Value.int .u8)) → (convert 31 9 (.slice A F.length c)).run Try.prog u = .ok (.string (strOf F)) u) := fun u Bd A c hu => conv_str rfl hu
              generalize strOf F = Z at *
              clear hu6 hall6 hF
              have K6 : Hid (∀ u : World, Below w6.heap.size w6 u → Wb A6 u p S6.1 S6.2 ∧ Vo B6' u q s6 ∧ Two w1.heap.size A6 B6' u ∧ w1.heap.size ≤ u.heap.size) := Lib.hid (fun u hu => ⟨H6.out.keep hu.size (fun k hk => hu.block k (T6.out.a k hk).2), V6.out.keep hu.size (fun k hk => hu.block k (T6.out.b k hk).2), ⟨fun k hk => ⟨(T6.out.a k hk).1, Nat.lt_of_lt_of_le (T6.out.a k hk).2 hu.size⟩, fun k hk => ⟨(T6.out.b k hk).1, Nat.lt_of_lt_of_le (T6.out.b k hk).2 hu.size⟩, T6.out.ab⟩, Nat.le_trans hs6 hu.size⟩)
              clear H6 V6 T6
              go_wp2
              go_region_with (first
                | (go_at_call 18; refine (FA.out _ (below_drewN (Below.refl _ _) 1)).mono ?_; rintro e w7 ⟨A5, c5, rfl, hv5, b5⟩; have hc5 := CV.out _ _ _ c5 hv5; have B5 := (below_drewN (Below.refl w6.heap.size w6) 1).trans b5)
                | (go_at_call 19; refine (FB.out _ (below_drewN (Below.refl _ _) 1)).mono ?_; rintro e w7 ⟨A5, c5, rfl, hv5, b5⟩; have hc5 := CV.out _ _ _ c5 hv5; have B5 := (below_drewN (Below.refl w6.heap.size w6) 1).trans b5)
                | (go_at_call 18; refine (FA.out _ B5).mono ?_; rintro e w8 ⟨A9, c6, rfl, hv6, b6⟩; have hc6 := CV.out _ _ _ c6 hv6; have hc56 := CV.out _ _ _ c5 (hv5.below b6); have B6 := B5.trans (b6.mono B5.size))
                | (go_at_call 19; refine (FB.out _ B5).mono ?_; rintro e w8 ⟨A9, c6, rfl, hv6, b6⟩; have hc6 := CV.out _ _ _ c6 hv6; have hc56 := CV.out _ _ _ c5 (hv5.below b6); have B6 := B5.trans (b6.mono B5.size)))
              all_goals
                obtain ⟨x1, x2, x3, x4⟩ := K6.out _ B6
                have X1 := Lib.hid x1
                have X2 := Lib.hid x2
                have X3 := Lib.hid x3
                have hb8 := hb6.trans (B6.mono hb6.size)
                clear x1 x2 x3 FA FB CV K6 B6 b6 hv6 hc6 hc56 hv5 hc5 b5 B5
                go_wp2
                go_roundw
                case rel => exact ⟨k + 1, A6, B6', S6, s6, by omega, by omega, by omega, by go_num, X1.out, X2.out, X3.out, HR6.out, OK6.out, hl6, hb8, x4⟩
                case measure => simp [intOf] <;> omega
          · by_cases hv : 1 ≤ y ∧ y ≤ 32
            · have hy1 : y ≠ 1 := by intro e; subst e; exact h7 (by decide)
              obtain ⟨sz, rfl⟩ := Int.eq_ofNat_of_zero_le (show 0 ≤ y by omega)
              have hsb : ((sz : Int) == 1) = false := by simpa using hy1
              go_wp2_with fail
              refine (wb_bits (s := S) (n := x) (size := sz) (HA.out.imp (fun k _ h => Or.inl h) : Wb (more A wr) wr p _ _) HOk.out (by omega) (by omega) (by omega) (more_up A wr)).mono ?_
              rintro e w5 ⟨rfl, h5, o5⟩
              obtain ⟨t5, k5, b5⟩ := HT.out.step o5 hs
              have v5 := HV.out.keep o5.size k5
              have h5' : Wb (upto (more A wr) w5) w5 p (wfold S (bitsOf x sz)).1 (wfold S (bitsOf x sz)).2 := h5.imp (fun k hk hp => ⟨hp, hk⟩)
              have hb5 := hb.trans (b5.mono s1)
              have hs5 := Nat.le_trans hs o5.size
              have f5 := (b5.cell (p := ⟨b, o + k, none⟩) (by show b < _; omega)).trans f1
              have H5 := Lib.hid h5'
              have V5 := Lib.hid v5
              have T5 := Lib.hid t5
              clear HA HV HT h5 h5' v5 t5 k5 b5 o5 f1 f2 hb hs
              go_wp2_with fail
              refine (vbits_only (n := x) (size := sz) (V5.out.imp (fun k _ h => Or.inl h) : Vo (more B w5) w5 q s) HRel.out HOk.out (by omega) (by omega) (by omega) (more_up B w5)).mono ?_
              rintro e w6 ⟨rfl, h6, o6⟩
              obtain ⟨t6, k6, b6⟩ := T5.out.swap.step o6 hs5
              have a6 := H5.out.keep o6.size k6
              have h6' : Vo (upto (more B w5) w6) w6 q (vfold s (bitsOf x sz)) := h6.imp (fun k hk hp => ⟨hp, hk⟩)
              have hb6 := hb5.trans (b6.mono s1)
              have hs6 := Nat.le_trans hs5 o6.size
              have hln := wfold_len HOk.out (bitsOf x sz)
              have H6 := Lib.hid a6
              have V6 := Lib.hid h6'
              have T6 := Lib.hid t6.swap
              have HR6 := Lib.hid (vrel_fold HRel.out (bitsOf x sz))
              have OK6 := Lib.hid (wfold_ok HOk.out (bitsOf x sz))
              rw [bitsOf_len] at hln
              obtain ⟨S6, hS6⟩ : ∃ S6, wfold S (bitsOf x sz) = S6 := ⟨_, rfl⟩
              obtain ⟨s6, hs6'⟩ : ∃ s6, vfold s (bitsOf x sz) = s6 := ⟨_, rfl⟩
              rw [hS6] at H6 HR6 OK6 hln
              rw [hs6'] at V6 HR6
              have hl6 : S6.1.length ≤ 32 * (k + 1) := by omega
              clear H5 V5 T5 h6 h6' a6 t6 k6 b6 o6 hb5 hs5 f5 hln hS6 hs6' HRel HOk HU
              generalize upto (more A wr) w5 = A6 at *
              generalize upto (more B w5) w6 = B6' at *
              have hu6 := vrel_use HR6.out OK6.out
              have hall6 := vrel_all HR6.out
              obtain ⟨F, hF⟩ : ∃ F, bytesF S6.1 = F := ⟨_, rfl⟩
              have FA : Hid (∀ (u : World), Below w6.heap.size w6 u → Calls Try.prog 18 #[.pointer (some ⟨p, 0, none⟩)] u fun e u' => ∃ A c, e = .returned (.slice A F.length c) ∧ Lst u' u'.heap.size A (F.map (Value.int .u8)) ∧ Below u.heap.size u u') := fun u hu => by
                have hA' := H6.out.keep (w' := u) hu.size (fun k hk => hu.block k (T6.out.a k hk).2)
                refine (wb_bytes hA' (by omega)).mono ?_
                rintro e u' ⟨v, rfl, hv, b⟩
                rw [hF] at hv
                obtain ⟨A', c', rfl, _⟩ := own_any hv
                exact ⟨A', c', rfl, Lst.own hv, b⟩
              have FB : Hid (∀ (u : World), Below w6.heap.size w6 u → Calls Try.prog 19 #[.pointer (some ⟨q, 0, none⟩)] u fun e u' => ∃ A c, e = .returned (.slice A F.length c) ∧ Lst u' u'.heap.size A (F.map (Value.int .u8)) ∧ Below u.heap.size u u') := fun u hu => by
                have hV' := V6.out.keep (w' := u) hu.size (fun k hk => hu.block k (T6.out.b k hk).2)
                refine (vbytes_new hV' (by have := hu6.2.2.2.2; omega) hu6.2.2.1 hu6.1 hu6.2.2.2.1).mono ?_
                rintro e u' ⟨v, rfl, hv, b⟩
                rw [hall6, hF] at hv
                obtain ⟨A', c', rfl, _⟩ := own_any hv
                exact ⟨A', c', rfl, Lst.own hv, b⟩
              have CV : Hid (∀ (u : World) (Bd : Nat) (A : Option Addr) (c : Nat), Lst u Bd A (F.map (Value.int .u8)) → (convert 31 9 (.slice A F.length c)).run Try.prog u = .ok (.string (strOf F)) u) := fun u Bd A c hu => conv_str rfl hu
              generalize strOf F = Z at *
              clear hu6 hall6 hF
              have K6 : Hid (∀ u : World, Below w6.heap.size w6 u → Wb A6 u p S6.1 S6.2 ∧ Vo B6' u q s6 ∧ Two w1.heap.size A6 B6' u ∧ w1.heap.size ≤ u.heap.size) := Lib.hid (fun u hu => ⟨H6.out.keep hu.size (fun k hk => hu.block k (T6.out.a k hk).2), V6.out.keep hu.size (fun k hk => hu.block k (T6.out.b k hk).2), ⟨fun k hk => ⟨(T6.out.a k hk).1, Nat.lt_of_lt_of_le (T6.out.a k hk).2 hu.size⟩, fun k hk => ⟨(T6.out.b k hk).1, Nat.lt_of_lt_of_le (T6.out.b k hk).2 hu.size⟩, T6.out.ab⟩, Nat.le_trans hs6 hu.size⟩)
              clear H6 V6 T6
              go_wp2
              go_region_with (first
                | (go_at_call 18; refine (FA.out _ (below_drewN (Below.refl _ _) 1)).mono ?_; rintro e w7 ⟨A5, c5, rfl, hv5, b5⟩; have hc5 := CV.out _ _ _ c5 hv5; have B5 := (below_drewN (Below.refl w6.heap.size w6) 1).trans b5)
                | (go_at_call 19; refine (FB.out _ (below_drewN (Below.refl _ _) 1)).mono ?_; rintro e w7 ⟨A5, c5, rfl, hv5, b5⟩; have hc5 := CV.out _ _ _ c5 hv5; have B5 := (below_drewN (Below.refl w6.heap.size w6) 1).trans b5)
                | (go_at_call 18; refine (FA.out _ B5).mono ?_; rintro e w8 ⟨A9, c6, rfl, hv6, b6⟩; have hc6 := CV.out _ _ _ c6 hv6; have hc56 := CV.out _ _ _ c5 (hv5.below b6); have B6 := B5.trans (b6.mono B5.size))
                | (go_at_call 19; refine (FB.out _ B5).mono ?_; rintro e w8 ⟨A9, c6, rfl, hv6, b6⟩; have hc6 := CV.out _ _ _ c6 hv6; have hc56 := CV.out _ _ _ c5 (hv5.below b6); have B6 := B5.trans (b6.mono B5.size)))
              all_goals
                obtain ⟨x1, x2, x3, x4⟩ := K6.out _ B6
                have X1 := Lib.hid x1
                have X2 := Lib.hid x2
                have X3 := Lib.hid x3
                have hb8 := hb6.trans (B6.mono hb6.size)
                clear x1 x2 x3 FA FB CV K6 B6 b6 hv6 hc6 hc56 hv5 hc5 b5 B5
                go_wp2
                go_roundw
                case rel => exact ⟨k + 1, A6, B6', S6, s6, by omega, by omega, by omega, by go_num, X1.out, X2.out, X3.out, HR6.out, OK6.out, hl6, hb8, x4⟩
                case measure => simp [intOf] <;> omega
            · have hvn : y < 1 ∨ 32 < y := by omega
              have hsb : (y == 1) = false := by simp; omega
              go_wp2_with fail
              refine (wb_none hvn).mono ?_
              rintro e w5 ⟨rfl, rfl⟩
              go_wp2_with fail
              refine (vbits_none hvn).mono ?_
              rintro e w5 ⟨rfl, rfl⟩
              have H6 := HA
              have V6 := HV
              have T6 := HT
              have HR6 := HRel
              have OK6 := HOk
              obtain ⟨S6, hS6⟩ : ∃ S6, S6 = S := ⟨_, rfl⟩
              obtain ⟨s6, hs6'⟩ : ∃ s6, s6 = s := ⟨_, rfl⟩
              obtain ⟨w6, hw6⟩ : ∃ w6, w6 = wr := ⟨_, rfl⟩
              obtain ⟨A6, hA6⟩ : ∃ A6, A6 = A := ⟨_, rfl⟩
              obtain ⟨B6', hB6⟩ : ∃ B6', B6' = B := ⟨_, rfl⟩
              have hb6 := hb
              have hs6 := hs
              have hl6 : S.1.length ≤ 32 * (k + 1) := by omega
              clear HA HV HT HRel HOk HU f1 f2 hb hs
              subst hS6 hs6' hw6 hA6 hB6
              have hu6 := vrel_use HR6.out OK6.out
              have hall6 := vrel_all HR6.out
              obtain ⟨F, hF⟩ : ∃ F, bytesF S6.1 = F := ⟨_, rfl⟩
              have FA : Hid (∀ (u : World), Below w6.heap.size w6 u → Calls Try.prog 18 #[.pointer (some ⟨p, 0, none⟩)] u fun e u' => ∃ A c, e = .returned (.slice A F.length c) ∧ Lst u' u'.heap.size A (F.map (Value.int .u8)) ∧ Below u.heap.size u u') := fun u hu => by
                have hA' := H6.out.keep (w' := u) hu.size (fun k hk => hu.block k (T6.out.a k hk).2)
                refine (wb_bytes hA' (by omega)).mono ?_
                rintro e u' ⟨v, rfl, hv, b⟩
                rw [hF] at hv
                obtain ⟨A', c', rfl, _⟩ := own_any hv
                exact ⟨A', c', rfl, Lst.own hv, b⟩
              have FB : Hid (∀ (u : World), Below w6.heap.size w6 u → Calls Try.prog 19 #[.pointer (some ⟨q, 0, none⟩)] u fun e u' => ∃ A c, e = .returned (.slice A F.length c) ∧ Lst u' u'.heap.size A (F.map (Value.int .u8)) ∧ Below u.heap.size u u') := fun u hu => by
                have hV' := V6.out.keep (w' := u) hu.size (fun k hk => hu.block k (T6.out.b k hk).2)
                refine (vbytes_new hV' (by have := hu6.2.2.2.2; omega) hu6.2.2.1 hu6.1 hu6.2.2.2.1).mono ?_
                rintro e u' ⟨v, rfl, hv, b⟩
                rw [hall6, hF] at hv
                obtain ⟨A', c', rfl, _⟩ := own_any hv
                exact ⟨A', c', rfl, Lst.own hv, b⟩
              have CV : Hid (∀ (u : World) (Bd : Nat) (A : Option Addr) (c : Nat), Lst u Bd A (F.map (Value.int .u8)) → (convert 31 9 (.slice A F.length c)).run Try.prog u = .ok (.string (strOf F)) u) := fun u Bd A c hu => conv_str rfl hu
              generalize strOf F = Z at *
              clear hu6 hall6 hF
              have K6 : Hid (∀ u : World, Below w6.heap.size w6 u → Wb A6 u p S6.1 S6.2 ∧ Vo B6' u q s6 ∧ Two w1.heap.size A6 B6' u ∧ w1.heap.size ≤ u.heap.size) := Lib.hid (fun u hu => ⟨H6.out.keep hu.size (fun k hk => hu.block k (T6.out.a k hk).2), V6.out.keep hu.size (fun k hk => hu.block k (T6.out.b k hk).2), ⟨fun k hk => ⟨(T6.out.a k hk).1, Nat.lt_of_lt_of_le (T6.out.a k hk).2 hu.size⟩, fun k hk => ⟨(T6.out.b k hk).1, Nat.lt_of_lt_of_le (T6.out.b k hk).2 hu.size⟩, T6.out.ab⟩, Nat.le_trans hs6 hu.size⟩)
              clear H6 V6 T6
              go_wp2
              go_region_with (first
                | (go_at_call 18; refine (FA.out _ (below_drewN (Below.refl _ _) 1)).mono ?_; rintro e w7 ⟨A5, c5, rfl, hv5, b5⟩; have hc5 := CV.out _ _ _ c5 hv5; have B5 := (below_drewN (Below.refl w6.heap.size w6) 1).trans b5)
                | (go_at_call 19; refine (FB.out _ (below_drewN (Below.refl _ _) 1)).mono ?_; rintro e w7 ⟨A5, c5, rfl, hv5, b5⟩; have hc5 := CV.out _ _ _ c5 hv5; have B5 := (below_drewN (Below.refl w6.heap.size w6) 1).trans b5)
                | (go_at_call 18; refine (FA.out _ B5).mono ?_; rintro e w8 ⟨A9, c6, rfl, hv6, b6⟩; have hc6 := CV.out _ _ _ c6 hv6; have hc56 := CV.out _ _ _ c5 (hv5.below b6); have B6 := B5.trans (b6.mono B5.size))
                | (go_at_call 19; refine (FB.out _ B5).mono ?_; rintro e w8 ⟨A9, c6, rfl, hv6, b6⟩; have hc6 := CV.out _ _ _ c6 hv6; have hc56 := CV.out _ _ _ c5 (hv5.below b6); have B6 := B5.trans (b6.mono B5.size)))
              all_goals
                obtain ⟨x1, x2, x3, x4⟩ := K6.out _ B6
                have X1 := Lib.hid x1
                have X2 := Lib.hid x2
                have X3 := Lib.hid x3
                have hb8 := hb6.trans (B6.mono hb6.size)
                clear x1 x2 x3 FA FB CV K6 B6 b6 hv6 hc6 hc56 hv5 hc5 b5 B5
                go_wp2
                go_roundw
                case rel => exact ⟨k + 1, A6, B6', S6, s6, by omega, by omega, by omega, by go_num, X1.out, X2.out, X3.out, HR6.out, OK6.out, hl6, hb8, x4⟩
                case measure => simp [intOf] <;> omega
        · have c3 : (k : Int) < (len0 : Int) := by omega
          have c4 : (k : Int) < (len1 : Int) := by omega
          have c5 : ¬ (k : Int) < 40 := by omega
          clear hA hV hT hrel2 ok hsl
          go_wp2
          go_ret
          exact ⟨rfl, hb⟩
      · have c3 : (k : Int) < (len0 : Int) := by omega
        have c4 : ¬ (k : Int) < (len1 : Int) := by omega
        clear hA hV hT hrel2 ok hsl
        go_wp2
        go_ret
        exact ⟨rfl, hb⟩
    · have c3 : ¬ (k : Int) < (len0 : Int) := by omega
      clear hA hV hT hrel2 ok hsl
      go_wp2
      go_ret
      exact ⟨rfl, hb⟩
end Go.Proofs.Ytpobmnbloifpjaa
