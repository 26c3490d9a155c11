/- BitsCut, walked. -/
import Derived.Test.YtpobmnbloifpjaaBitK
set_option linter.unusedVariables false
namespace Go.Proofs.Ytpobmnbloifpjaa
open Go.RowKit

theorem or128 {b : Int} (h0 : 0 ≤ b) (h1 : b ≤ 127) : bits .or .u8 b 128 = b + 128 := by
  obtain ⟨m, rfl⟩ := Int.eq_ofNat_of_zero_le h0
  have : ∀ m : Nat, m < 128 → bits .or .u8 (m : Int) 128 = (m : Int) + 128 := by decide +kernel
  exact this m (by omega)
def bs8 (x : List Int) (k : Nat) : List Int := (List.range k).flatMap fun j => bitsOf (x.getD j 0) 8
theorem bs8_succ (x : List Int) (k : Nat) : bs8 x (k + 1) = bs8 x k ++ bitsOf (x.getD k 0) 8 := by
  unfold bs8; rw [List.range_succ, List.flatMap_append]; simp
theorem bs8_len (x : List Int) (k : Nat) : (bs8 x k).length = 8 * k := by
  induction k with
  | zero => rfl
  | succ k ih => rw [bs8_succ, List.length_append, bitsOf_len]; omega
theorem rit_rng (F : List Int) (k : Nat) : (rit F ⟨0, 0, false⟩ k).l ≤ 8 ∧ (rit F ⟨0, 0, false⟩ k).n ≤ k := by
  have := rbgo_rng F ⟨0, 0, false⟩ (by simp) k
  rw [rbgo_rit] at this
  simp at this
  omega
theorem Rb.keepO {w w' : World} {lo lo' p q : Nat} {F G : List Int} {s s' : RS} (h : Rb w lo p F s) (hq : Rb w lo' q G s') (hpq : p ≠ q) (o : Only (· = q) w w') : Rb w' lo p F s := by
  obtain ⟨hp, V, hb, hv⟩ := h
  obtain ⟨_, V2, hb2, _⟩ := hq
  have hVq := blk_not_row hb2 (by decide) hv
  exact ⟨hp, V, (o.block p hpq).trans hb, ownsRow_keep hv o.size (fun k hk => o.block k (fun e => hVq (by rw [hk, e])))⟩

set_option maxHeartbeats 16000000 in
theorem walk_cut_go (a0 : Option Addr) (len0 : Nat) (cap0 : Nat) (x0 : List Int) (a1 : Int) (w : World) (hl : Lst w w.heap.size a0 (x0.map (Value.int .i64))) (hlen : x0.length = len0) (hcm : len0 ≤ maxLen) (n : Nat) (hn1 : n ≤ len0) (hn2 : n ≤ 20) (hn3 : len0 ≤ n ∨ 20 ≤ n) :
    Calls Try.prog 8 #[.slice a0 len0 cap0, .int .i64 a1] w fun e w' => e = .returned (.bool true) ∧ Below w.heap.size w w' := by
  have HL0 := Lib.hid (And.intro hl hlen)
  unfold maxLen at hcm
  clear hl hlen
  go_enter Try.func8, Try.ntmps8
  go_wp2_with fail
  refine (known2 _).mono ?_
  rintro e w1 ⟨rfl, b1⟩
  go_wp2_with fail
  refine (bnew_any _).mono ?_
  rintro e w2 ⟨p, rfl, h2, b2⟩
  have s1 := b1.size
  have b2 := b1.trans (b2.mono s1)
  have H2 : Hid (Wb (fun k => w1.heap.size ≤ k) w2 p [] 0) := Lib.hid (h2.imp (fun k _ hk => hk.1))
  have s2 : w1.heap.size ≤ w2.heap.size := by have := h2.1; omega
  clear b1 h2
  go_wp2
  go_loopw [6] (fun i wr => ∃ k : Nat, k ≤ n ∧ i = .int .i64 (k : Int) ∧ Wb (fun k => w1.heap.size ≤ k) wr p (wrun (bs8 x0 k)).1 (wrun (bs8 x0 k)).2 ∧ Below w.heap.size w wr ∧ w1.heap.size ≤ wr.heap.size) (fun i _ => n - (intOf i).toNat)
  case atStart => exact ⟨0, by omega, rfl, by simpa [wrun, bs8] using H2.out, b2, s2⟩
  case round =>
    obtain ⟨k, kn, rfl, hw, hb, hs⟩ := hrel
    clear H2 b2 s2
    by_cases c1 : k < n
    · have c3 : (k : Int) < (len0 : Int) := by omega
      have c4 : (k : Int) < 20 := by omega
      obtain ⟨b, o, rfl, hbb, f1⟩ := lst_ati (HL0.out.1.below hb) (k := k) (by rw [HL0.out.2]; omega)
      have hst := bs8_succ x0 k
      have ok := wrun_ok (bs8 x0 k)
      have hlk := wrun_len2 (bs8 x0 k)
      have hlk2 := bs8_len x0 k
      generalize x0.getD k 0 = x at *
      have BC : Hid (Calls Try.prog 16 #[.pointer (some ⟨p, 0, none⟩), .int .i64 x, .int .i64 8] wr fun e w'' => e = .returned (.tuple #[]) ∧ Wb (fun k => w1.heap.size ≤ k) w'' p (wrun (bs8 x0 (k + 1))).1 (wrun (bs8 x0 (k + 1))).2 ∧ Below w.heap.size w w'' ∧ w1.heap.size ≤ w''.heap.size) := Lib.hid (by
        rw [hst, wrun_app]
        refine (wb_bits (w := wr) (s := wrun (bs8 x0 k)) (n := x) (size := 8) hw ok (by omega) (by omega) (by omega) (fun k hk => Nat.le_trans hs hk)).mono ?_
        rintro e w'' ⟨he, h3, o3⟩
        exact ⟨he, h3, hb.trans (o3.below (fun k hk => Nat.le_trans s1 hk)), Nat.le_trans hs o3.size⟩)
      clear hw ok hst hlk hlk2 hb hs
      go_wp2_with fail
      refine BC.out.mono ?_
      rintro e w3 ⟨rfl, h3, hb3, hs3⟩
      have H3 := Lib.hid h3
      clear BC h3
      go_wp2
      go_roundw
      case rel => exact ⟨k + 1, by omega, by go_num, H3.out, hb3, hs3⟩
      case measure => simp [intOf] <;> omega
    · obtain rfl : n = k := by omega
      have hfin : ((n : Int) < (len0 : Int) ∧ ¬ (n : Int) < 20) ∨ ¬ (n : Int) < (len0 : Int) := by omega
      rcases hfin with ⟨hf1, hf2⟩ | hf1
      all_goals
        obtain ⟨bs, hbs⟩ : ∃ bs, bs8 x0 n = bs := ⟨_, rfl⟩
        rw [hbs] at hw
        have hbl := bs8_len x0 n
        rw [hbs] at hbl
        have hbn : bs.length ≤ 160 := by omega
        have ok := wrun_ok bs
        have hlk := wrun_len2 bs
        obtain ⟨_, _, g3, g4⟩ := bytesF_ok ok
        have hok1 := (bytesF_ok ok).1
        have FC : Hid (Calls Try.prog 18 #[.pointer (some ⟨p, 0, none⟩)] wr fun e w' => ∃ v, e = .returned v ∧ w'.ownsRow wr.heap.size 5 1 v (bytesF (wrun bs).1).length ((bytesF (wrun bs).1).map (Value.int .u8)) ∧ Below wr.heap.size wr w') := wb_bytes hw (by omega)
        have CUT := Lib.hid (cut_end bs)
        have BAD := Lib.hid (bad_end bs)
        have FINE : Hid (endE (bytesF (wrun bs).1) (rit (bytesF (wrun bs).1) ⟨0, 0, false⟩ bs.length) = 0) := Lib.hid (by
          rw [rit_all _ bs (fun i hi => bytesF_get hi)]
          have := (end_back bs []).2
          rwa [List.append_nil] at this)
        rw [hbl] at CUT BAD FINE
        generalize bytesF (wrun bs).1 = F at *
        obtain ⟨m, hm⟩ : ∃ m, F.length = m := ⟨_, rfl⟩
        rw [hm] at FC g4 CUT BAD
        have HM := Lib.hid hm
        have HG3 := Lib.hid g3
        have HOK := Lib.hid hok1
        clear hw hbs ok g3 hm hok1 hbl
        go_wp2_with fail
        refine FC.out.mono ?_
        rintro e w3 ⟨v, rfl, hv, b3⟩
        have hs3 := Nat.le_trans s1 hs
        have b3' := hb.trans (b3.mono hs3)
        have s3 := b3'.size
        obtain ⟨A, c, rfl, hA, hmc, hcm⟩ := own_any hv
        unfold maxLen at hcm
        have HV := Lib.hid (Lst.own hv)
        have HA := Lib.hid hA
        clear b3 hb FC hA hs3
        by_cases hm0 : m = 0
        · have hmb : ((m : Int) == 0) = true := by simp [hm0]
          clear hv hm0
          go_wp2
          go_ret
          exact ⟨rfl, b3'⟩
        have hmb : ((m : Int) == 0) = false := by simp [hm0]
        have hr := within_rng a1 (m : Int) (by omega)
        obtain ⟨k, hk⟩ : ∃ k : Nat, a1 % (m : Int) = (k : Int) := ⟨(a1 % (m : Int)).toNat, by omega⟩
        have hkm : k < m := by omega
        have WI : Hid (∀ u, Calls Try.prog 13 #[.int .i64 a1, .int .i64 (m : Int)] u fun e w'' => e = .returned (.int .i64 (k : Int)) ∧ u = w'') := Lib.hid (fun u => by
          have := within_any a1 (m : Int) u (by omega) (by omega)
          rwa [hk] at this)
        have hkl : (F.take k).length = k := by rw [List.length_take, HM.out]; omega
        have HKL := Lib.hid hkl
        have hAn : A = none → k = 0 ∧ c = 0 := fun e => by have := (HA.out e).1; omega
        have HAN := Lib.hid hAn
        have HVk : Hid (Lst w3 w3.heap.size A ((F.take k).map (Value.int .u8))) := Lib.hid (by have := HV.out.take k; rwa [← List.map_take] at this)
        clear hr hk hkl hAn hv
        go_wp2_with fail
        refine (WI.out _).mono ?_
        rintro e w9 ⟨rfl, rfl⟩
        clear WI
        have kc : k ≤ c := by omega
        go_wp2_with fail
        refine (brnew_any HKL.out HAN.out HVk.out (by omega)).mono ?_
        rintro e w4 ⟨p1, rfl, h4, b4⟩
        have b4' := b3'.trans (b4.mono s3)
        have s4 := b4'.size
        have H4 := Lib.hid h4
        have HV4 := Lib.hid (HV.out.below b4)
        have p1lt := h4.lt
        have p1lo := h4.1
        clear h4 b4 b3' HVk HV
        go_wp2_with (at_builtin; refine wpList_clone8 rfl (.tmp 49) (.tmp 50) rfl rfl rfl HM.out HA.out HV4.out (by omega) ?_)
        intro V1 cv1 w5 hown5 b5
        have s45 := b5.size
        have B5 := Lib.hid b5
        obtain ⟨g, cap, hv1, hg, hgl, hcc, hcm5⟩ := own_form hown5 (by omega)
        injection hv1 with hv1a _ hv1c
        subst hv1a hv1c
        unfold maxLen at hcm5
        have HO5 := Lib.hid hown5
        clear hown5 b5 HV4 HA
        go_wp2
        go_loopw [10, 11] (fun sv iv wr => ∃ (st : Bool) (i j : Nat) (X : List Int), 1 ≤ i ∧ i ≤ m ∧ iv = .int .i64 (i : Int) ∧ sv = .bool st ∧ X.length = m ∧ wr.ownsRow w4.heap.size 5 1 (.slice (some ⟨g, 0, none⟩) m cv1) m (X.map (Value.int .u8)) ∧ Below w4.heap.size w4 wr ∧
            ((st = false ∧ X = F) ∨ (st = true ∧ X = F.set j (F.getD j 0 + 128) ∧ 1 ≤ j ∧ j < m ∧ F.getD (j - 1) 0 = 255 ∧ F.getD j 0 ≠ 127))) (fun _ iv _ => m - (intOf iv).toNat)
        case atStart => exact ⟨false, 1, 0, F, by omega, by omega, rfl, rfl, HM.out, HO5.out, B5.out, Or.inl ⟨rfl, rfl⟩⟩
        case round =>
          obtain ⟨st, i, j, X, i1, im, rfl, rfl, hXl, hO, hb, hX⟩ := hrel
          clear HO5 B5
          by_cases c7 : i < m
          · have c8 : (i : Int) < (m : Int) := by omega
            obtain ⟨i', rfl⟩ : ∃ i', i = i' + 1 := ⟨i - 1, by omega⟩
            have f1 := hO.cellAt i' (by omega)
            have f2 := hO.cellAt (i' + 1) (by omega)
            have z2 := hO.frozenAt (i' + 1)
            have e4 : (X.map (Value.int .u8))[i']? = some (.int .u8 (X.getD i' 0)) := by rw [List.getElem?_map, List.getD_eq_getElem?_getD, List.getElem?_eq_getElem (by omega)]; rfl
            have e5 : (X.map (Value.int .u8))[i' + 1]? = some (.int .u8 (X.getD (i' + 1) 0)) := by rw [List.getElem?_map, List.getD_eq_getElem?_getD, List.getElem?_eq_getElem (by omega)]; rfl
            rw [e4] at f1
            rw [e5] at f2
            clear e4 e5
            have i2 : (i' : Int) < (m : Int) := by omega
            have i3 : (i' : Int) + 1 < (m : Int) := by omega
            have HX := Lib.hid hX
            have HXL := Lib.hid hXl
            have HO := Lib.hid hO
            by_cases ha : X.getD i' 0 = 255
            · by_cases hbb : X.getD (i' + 1) 0 = 127
              · rw [ha] at f1
                rw [hbb] at f2
                clear ha hbb hX hO hXl
                go_wp2
                go_roundw
                case rel => exact ⟨st, i' + 2, j, X, by omega, by omega, by go_num, rfl, HXL.out, HO.out, hb, HX.out⟩
                case measure => simp [intOf] <;> omega
              · cases st
                · have hXF : X = F := by
                    rcases hX with ⟨_, h⟩ | ⟨h, _⟩
                    · exact h
                    · cases h
                  subst hXF
                  have hv1 : X.getD (i' + 1) 0 ≤ 127 := HOK.out i' ha (by rw [HM.out]; omega)
                  have hv2 : 0 ≤ X.getD (i' + 1) 0 := (HG3.out _ (by rw [List.getD_eq_getElem?_getD, List.getElem?_eq_getElem (by omega)]; exact List.getElem_mem _)).1
                  have hor := or128 hv2 hv1
                  have S := (HO.out.stored (i' + 1) (.int .u8 (X.getD (i' + 1) 0 + 128))).1
                  rw [← List.map_set] at S
                  have hb2 := hb.setCell (p := ⟨g, i' + 1, none⟩) (by show w4.heap.size ≤ g; omega) (.int .u8 (X.getD (i' + 1) 0 + 128))
                  generalize hW : wr.setCell ⟨g, i' + 1, none⟩ (.int .u8 (X.getD (i' + 1) 0 + 128)) = W2 at *
                  have HS := Lib.hid S
                  have HB2 := Lib.hid hb2
                  have HA1 := Lib.hid ha
                  have HB1 := Lib.hid hbb
                  rw [ha] at f1
                  have hbq : (X.getD (i' + 1) 0 == 127) = false := by simpa using hbb
                  have hbq2 : (X.getD (i' + 1) 0 != 127) = true := by simpa using hbb
                  clear S hb2 ha hbb hX hO hXl HO hb
                  obtain ⟨y, hy⟩ : ∃ y, X.getD (i' + 1) 0 = y := ⟨_, rfl⟩
                  have HY := Lib.hid hy
                  rw [hy] at f2 hor hbq hbq2 HS hW HB1
                  clear hy
                  go_wp2
                  go_roundw
                  case rel =>
                    refine ⟨true, i' + 2, i' + 1, X.set (i' + 1) (y + 128), by omega, by omega, by go_num, rfl, by rw [List.length_set]; exact HXL.out, HS.out, HB2.out, Or.inr ⟨rfl, by rw [HY.out], by omega, by omega, HA1.out, by rw [HY.out]; exact HB1.out⟩⟩
                  case measure => simp [intOf] <;> omega
                · rw [ha] at f1
                  have hbq : (X.getD (i' + 1) 0 == 127) = false := by simpa using hbb
                  have hbq2 : (X.getD (i' + 1) 0 != 127) = true := by simpa using hbb
                  clear ha hbb hX hO hXl
                  generalize X.getD (i' + 1) 0 = y at *
                  go_wp2
                  go_roundw
                  case rel => exact ⟨true, i' + 2, j, X, by omega, by omega, by go_num, rfl, HXL.out, HO.out, hb, HX.out⟩
                  case measure => simp [intOf] <;> omega
            · have haq : (X.getD i' 0 == 255) = false := by simpa using ha
              clear ha hX hO hXl
              generalize X.getD i' 0 = y at *
              go_wp2
              go_roundw
              case rel => exact ⟨st, i' + 2, j, X, by omega, by omega, by go_num, rfl, HXL.out, HO.out, hb, HX.out⟩
              case measure => simp [intOf] <;> omega
          · obtain rfl : i = m := by omega
            obtain ⟨wo, rfl⟩ : ∃ wo : World, wo = wr := ⟨_, rfl⟩
            have SE : Hid ((st = false ∧ endE X (rit X ⟨0, 0, false⟩ (8 * n)) = 0) ∨ (st = true ∧ endE X (rit X ⟨0, 0, false⟩ (8 * n)) = 10)) := Lib.hid (by
              rcases hX with ⟨h1, h2⟩ | ⟨h1, h2, h3, h4, h5, h6⟩
              · left; rw [h2]; exact ⟨h1, FINE.out⟩
              · right; rw [h2]; exact ⟨h1, BAD.out j h3 h4 h5 h6⟩)
            have RE := Lib.hid (CUT.out k hkm)
            have HXr : Hid (∀ x ∈ X, 0 ≤ x ∧ x ≤ 255) := Lib.hid (by
              rcases hX with ⟨h1, h2⟩ | ⟨h1, h2, h3, h4, h5, h6⟩
              · rw [h2]; exact HG3.out
              · rw [h2]
                intro x hx
                rcases List.mem_or_eq_of_mem_set hx with hx | hx
                · exact HG3.out x hx
                · have hv1 : F.getD j 0 ≤ 127 := by
                    have := HOK.out (j - 1) h5 (by rw [HM.out]; omega)
                    rwa [show j - 1 + 1 = j from by omega] at this
                  have hv2 : 0 ≤ F.getD j 0 := (HG3.out _ (by rw [List.getD_eq_getElem?_getD, List.getElem?_eq_getElem (by rw [HM.out]; omega)]; exact List.getElem_mem _)).1
                  omega)
            have HTr : Hid (∀ x ∈ F.take k, 0 ≤ x ∧ x ≤ 255) := Lib.hid (fun x hx => HG3.out x (List.mem_of_mem_take hx))
            have HXL := Lib.hid hXl
            have HOx := Lib.hid (Lst.own hO)
            have hbsz := hb.size
            have HR := Lib.hid (H4.out.below hb)
            have hb := b4'.trans (hb.mono s4)
            clear hX hXl hO CUT BAD FINE HG3 HOK H4 b4'
            go_wp2_with fail
            refine (brnew_any (A := some ⟨g, 0, none⟩) HXL.out (by simp) HOx.out (by omega)).mono ?_
            rintro e w6 ⟨q, rfl, h6, b6⟩
            have hbs := hb.size
            have b6' := hb.trans (b6.mono hbs)
            have hq : wo.heap.size ≤ q := h6.1
            have HR6 := Lib.hid (HR.out.below b6)
            have HQ6 := Lib.hid h6
            have hws : w4.heap.size ≤ wo.heap.size := by have := hbsz; omega
            have hpq : p1 ≠ q := by omega
            have hpw : w.heap.size ≤ p1 := by omega
            have hqw : w.heap.size ≤ q := by omega
            clear hb b6 h6 HR HOx
            go_wp2
            go_loopw [13] (fun iv wz => ∃ i : Nat, i ≤ n ∧ iv = .int .i64 (i : Int) ∧ Rb wz w3.heap.size p1 (F.take k) (rit (F.take k) ⟨0, 0, false⟩ (8 * i)) ∧ Rb wz wo.heap.size q X (rit X ⟨0, 0, false⟩ (8 * i)) ∧ Below w.heap.size w wz) (fun iv _ => n - (intOf iv).toNat)
            case atStart => exact ⟨0, by omega, rfl, HR6.out, HQ6.out, b6'⟩
            case round =>
              obtain ⟨i, hi, rfl, h1, h2, hbz⟩ := hrel
              clear HR6 HQ6 b6'
              by_cases c9 : i < n
              · have c10 : (i : Int) < (len0 : Int) := by omega
                have c11 : (i : Int) < 20 := by omega
                have r1 := rit_rng (F.take k) (8 * i)
                have r2 := rit_rng X (8 * i)
                have A1 := Lib.hid (rb_bits (size := 8) h1 (by rw [HKL.out]; omega) (by omega) r1.1 HTr.out (by omega) (by omega))
                have H2 := Lib.hid h2
                have H1 := Lib.hid h1
                rw [rbgo_rit, rit_add, show 8 * i + 8 = 8 * (i + 1) from by omega] at A1
                clear h1 h2
                go_wp2_with fail
                refine A1.out.mono ?_
                rintro e w7 ⟨rfl, h7, o7⟩
                have h72 := H2.out.keepO H1.out (fun e => hpq e.symm) o7
                have hb7 := hbz.trans (o7.below (lo := w.heap.size) (fun j hj => by subst hj; exact hpw))
                have A2 := Lib.hid (rb_bits (size := 8) h72 (by rw [HXL.out]; omega) (by omega) r2.1 HXr.out (by omega) (by omega))
                have H7 := Lib.hid h7
                have H72 := Lib.hid h72
                rw [rbgo_rit, rit_add, show 8 * i + 8 = 8 * (i + 1) from by omega] at A2
                clear h7 h72 o7 hbz A1 H2 H1
                go_wp2_with fail
                refine A2.out.mono ?_
                rintro e w8 ⟨rfl, h8, o8⟩
                have h82 := H7.out.keepO H72.out hpq o8
                have hb8 := hb7.trans (o8.below (lo := w.heap.size) (fun j hj => by subst hj; exact hqw))
                have H8 := Lib.hid h8
                have H82 := Lib.hid h82
                clear h8 h82 o8 hb7 A2 H7 H72
                go_wp2
                go_roundw
                case rel => exact ⟨i + 1, by omega, by go_num, H82.out, H8.out, hb8⟩
                case measure => simp [intOf] <;> omega
              · obtain rfl : i = n := by omega
                have r1 := rit_rng (F.take k) (8 * i)
                have r2 := rit_rng X (8 * i)
                have E1 := Lib.hid (rb_end h1 (by rw [HKL.out]; omega) (by omega))
                rw [RE.out.1, RE.out.2] at E1
                have H2 := Lib.hid h2
                clear h1 h2
                go_wp2_with fail
                refine E1.out.mono ?_
                rintro e w7 ⟨rfl, d7⟩
                have hb7 := Drew.to hbz d7
                have H7 : Hid (Rb w7 wo.heap.size q X (rit X ⟨0, 0, false⟩ (8 * i))) := Lib.hid (by obtain ⟨nn, rfl⟩ := d7; exact H2.out)
                have E2 := Lib.hid (rb_end H7.out (by rw [HXL.out]; omega) (by omega))
                clear d7 hbz E1 H2
                generalize (endK X (rit X ⟨0, 0, false⟩ (8 * i)) : Int) = kk at *
                generalize endE X (rit X ⟨0, 0, false⟩ (8 * i)) = ee at *
                go_wp2_with fail
                refine E2.out.mono ?_
                rintro e w8 ⟨rfl, d8⟩
                have hb8 := Drew.to hb7 d8
                rcases SE.out with ⟨rfl, rfl⟩ | ⟨rfl, rfl⟩
                · go_wp2
                  go_ret
                  exact ⟨rfl, hb8⟩
                · go_wp2
                  go_ret
                  exact ⟨rfl, hb8⟩
theorem walk_bitsCut (a0 : Option Addr) (len0 cap0 : Nat) (z0 : List Int) (a1 : Int) (w : World) (w0 : IsRow .i64 w a0 len0 cap0 z0) (w1 : (Lit.int .i64 a1).wf = true) :
    Calls Try.prog 8 #[.slice a0 len0 cap0, .int .i64 a1] w fun e w' => e = .returned (.bool true) ∧ Below w.heap.size w w' := by
  have hl := lst_of_row w0
  obtain ⟨hlen, hlc, hcm, _⟩ := row_len w0
  by_cases h : len0 ≤ 20
  · exact walk_cut_go a0 len0 cap0 _ a1 w hl hlen (by omega) len0 (Nat.le_refl _) h (Or.inl (Nat.le_refl _))
  · exact walk_cut_go a0 len0 cap0 _ a1 w hl hlen (by omega) 20 (by omega) (Nat.le_refl _) (Or.inr (Nat.le_refl _))
end Go.Proofs.Ytpobmnbloifpjaa
