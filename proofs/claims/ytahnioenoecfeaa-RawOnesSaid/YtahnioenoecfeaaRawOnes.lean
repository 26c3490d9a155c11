/- RawOnes, walked. -/
import Derived.Test.YtahnioenoecfeaaRawBack
set_option linter.unusedVariables false
namespace Go.Proofs.Ytahnioenoecfeaa
open Go.RowKit

/-- What is left when n ones were written. -/
def onesF (n : Nat) : List Int := flushF (wrun (List.replicate n 1)).1
def wantF (n : Nat) : Nat := 2 * (n / 15) + (if 8 < n % 15 then 2 else if 0 < n % 15 ∧ n % 15 < 8 then 1 else 0)
set_option maxRecDepth 100000 in
theorem ones_all : ∀ n : Fin 200, (onesF n.val).length = wantF n.val ∧ ∀ i, i < 2 * (n.val / 15) → (onesF n.val).getD i 0 = (if i % 2 = 0 then 255 else 127) := by decide +kernel
theorem ones_ok {n : Nat} (h : n < 200) : (onesF n).length = wantF n ∧ ∀ i, i < 2 * (n / 15) → (onesF n).getD i 0 = (if i % 2 = 0 then 255 else 127) := ones_all ⟨n, h⟩

set_option maxHeartbeats 8000000 in
theorem walk_rawOnes (a0 : Int) (w : World) (w0 : (Lit.int .i64 a0).wf = true) :
    Calls Try.prog 7 #[.int .i64 a0] w fun e w' => e = .returned (.bool true) ∧ Below w.heap.size w w' := by
  have hb := within_bd a0 200 (by omega)
  generalize ht : a0.tmod 200 = t at *
  obtain ⟨n, hn, hmx⟩ : ∃ n : Nat, n < 200 ∧ (if t < -t then -t else t) = (n : Int) := by
    by_cases h1 : t < -t
    · exact ⟨(-t).toNat, by omega, by rw [if_pos h1]; omega⟩
    · exact ⟨t.toNat, by omega, by rw [if_neg h1]; omega⟩
  have hwt : IntKind.i64.wrap (-t) = -t := IntWalk.i64_in _ (by omega)
  have hwt2 : IntKind.i64.wrap (0 - t) = -t := by rw [Int.zero_sub]; exact hwt
  have h199 : ¬ (199 : Int) < (n : Int) := by omega
  have hones := ones_ok hn
  unfold wantF at hones
  obtain ⟨q, hq⟩ : ∃ q, n / 15 = q := ⟨_, rfl⟩
  obtain ⟨r, hr⟩ : ∃ r, n % 15 = r := ⟨_, rfl⟩
  have hqb : q ≤ 13 ∧ r < 15 := by omega
  have hq2 : (n : Int).tdiv 15 = (q : Int) := by rw [Int.tdiv_eq_ediv_of_nonneg (by omega)]; omega
  have hr2 : (n : Int).tmod 15 = (r : Int) := by rw [Int.tmod_eq_emod_of_nonneg (by omega)]; omega
  have hq3 : (n : Int) / 15 = (q : Int) := by omega
  have hr3 : (n : Int) % 15 = (r : Int) := by omega
  rw [hq, hr] at hones
  have HO := Lib.hid hones
  clear hones
  go_enter Try.func7, Try.ntmps7
  go_wp2_with fail
  refine (known5 _).mono ?_
  rintro e w1 ⟨rfl, b1⟩
  go_wp2_with fail
  refine (wnew_any _).mono ?_
  rintro e w2 ⟨p, rfl, h2, b2⟩
  have s1 := b1.size
  have b2 := b1.trans (b2.mono s1)
  have H2 := Lib.hid h2
  clear b1 h2 hmx h199 hwt hwt2 ht
  go_wp2
  go_loopw [4] (fun i wr => ∃ k : Nat, k ≤ n ∧ i = .int .i64 (k : Int) ∧ Wr wr w1.heap.size p (wrun (List.replicate k 1)).1 (wrun (List.replicate k 1)).2 ∧ Below w.heap.size w wr ∧ w1.heap.size ≤ wr.heap.size) (fun i _ => n - (intOf i).toNat)
  case atStart => exact ⟨0, by omega, rfl, by simpa [wrun] using H2.out, b2, by have := H2.out.lt; have := H2.out.1; omega⟩
  case round =>
    obtain ⟨k, kn, rfl, hw, hb, hs⟩ := hrel
    clear H2 b2
    by_cases c1 : k < n
    · have hst : wstep (wrun (List.replicate k 1)) 1 = wrun (List.replicate (k + 1) 1) := by rw [List.replicate_succ', wrun_snoc]
      have ok := wrun_ok (List.replicate k 1)
      have hlk := wrun_len (List.replicate k 1)
      rw [List.length_replicate] at hlk
      have HW := Lib.hid hw
      have c2 : (k : Int) < (n : Int) := by omega
      have HST := Lib.hid hst
      clear hw hst hq2 hr2 hq3 hr3 hq hr
      go_wp2_with fail
      refine (bit_any HW.out ok (by omega) hs).mono ?_
      rintro e w3 ⟨rfl, h3, b3⟩
      rw [HST.out] at h3
      have hb3 := hb.trans (b3.mono s1)
      have hs3 : w1.heap.size ≤ w3.heap.size := by have := h3.1; have := h3.lt; omega
      have H3 := Lib.hid h3
      clear HW h3 b3 hb HST ok
      go_wp2
      go_roundw
      case rel => exact ⟨k + 1, by omega, by go_num, H3.out, hb3, hs3⟩
      case measure => simp [intOf] <;> omega
    · obtain rfl : k = n := by omega
      have hlr := wrun_len (List.replicate k 1)
      rw [List.length_replicate] at hlr
      have HW := Lib.hid hw
      have HQ := Lib.hid (And.intro hq hr)
      clear hw hq hr
      go_wp2_with fail
      refine (flush_any HW.out (by omega) hs).mono ?_
      rintro e w3 ⟨v, rfl, hv, b3⟩
      change w3.ownsRow _ _ _ _ (onesF k).length ((onesF k).map _) at hv
      have hones := HO.out
      obtain ⟨A, c, rfl, hA, hcc, hcx⟩ := own_any hv
      have hb3 := hb.trans (b3.mono s1)
      generalize onesF k = F at *
      have hlF : ∃ e : Nat, e ≤ 2 ∧ F.length = 2 * q + e ∧ ((8 < r ∧ e = 2) ∨ (r = 0 ∧ e = 0) ∨ (r = 8 ∧ e = 0) ∨ (0 < r ∧ r < 8 ∧ e = 1)) := by
        have h1 := hones.1
        by_cases c1 : 8 < r
        · rw [if_pos c1] at h1; exact ⟨2, by omega, h1, by omega⟩
        · rw [if_neg c1] at h1
          by_cases c2 : 0 < r ∧ r < 8
          · rw [if_pos c2] at h1; exact ⟨1, by omega, h1, by omega⟩
          · rw [if_neg c2] at h1; exact ⟨0, by omega, h1, by omega⟩
      obtain ⟨e, he2, hFe, hcase⟩ := hlF
      have HV := Lib.hid (Lst.own hv)
      have HG := Lib.hid hones.2
      have HF := Lib.hid hFe
      clear hones HO hv HW b3 hb hFe hA
      have hFl : F.length ≤ 40 := by have := HF.out; omega
      rcases hcase with ⟨d1, rfl⟩ | ⟨d1, rfl⟩ | ⟨d1, rfl⟩ | ⟨d1, d2, rfl⟩
      · have g1 : (8 : Int) < (r : Int) := by omega
        go_wp2
        all_goals (
          go_loopw [9] (fun i wr2 => ∃ m : Nat, i = .int .i64 (m : Int) ∧ m ≤ 2 * q ∧ w3 = wr2) (fun i _ => 2 * q - (intOf i).toNat)
          case atStart => exact ⟨0, rfl, by omega, rfl⟩
          case round =>
            obtain ⟨m, rfl, hm0, rfl⟩ := hrel
            by_cases c5 : m < 2 * q
            · have hml : m < F.length := by have := HF.out; omega
              obtain ⟨g, og, rfl, _, f6⟩ := lst_at HV.out (k := m) hml
              have hgm := HG.out m c5
              have c6 : (m : Int) < 2 * (q : Int) := by omega
              have c7 : (m : Int) < (F.length : Int) := by omega
              by_cases c8 : m % 2 = 0
              · rw [if_pos c8] at hgm
                rw [hgm] at f6
                have c9 : (m : Int).tmod 2 = 0 := by rw [Int.tmod_eq_emod_of_nonneg (by omega)]; omega
                have c10 : (m : Int) % 2 = 0 := by omega
                clear hgm
                go_wp2
                go_roundw
                case rel => exact ⟨m + 1, by go_num, by omega, by simp⟩
                case measure => simp [intOf] <;> omega
              · rw [if_neg c8] at hgm
                rw [hgm] at f6
                have c9 : (m : Int).tmod 2 = 1 := by rw [Int.tmod_eq_emod_of_nonneg (by omega)]; omega
                have c10 : (m : Int) % 2 = 1 := by omega
                have c11 : m % 2 = 1 := by omega
                clear hgm
                go_wp2
                go_roundw
                case rel => exact ⟨m + 1, by go_num, by omega, by simp⟩
                case measure => simp [intOf] <;> omega
            · have c6 : ¬ (m : Int) < 2 * (q : Int) := by omega
              go_wp2
              go_ret
              exact ⟨ret_bool (by have := HF.out; simp; omega), hb3⟩)
      · subst d1
        go_wp2
        all_goals (
          go_loopw [9] (fun i wr2 => ∃ m : Nat, i = .int .i64 (m : Int) ∧ m ≤ 2 * q ∧ w3 = wr2) (fun i _ => 2 * q - (intOf i).toNat)
          case atStart => exact ⟨0, rfl, by omega, rfl⟩
          case round =>
            obtain ⟨m, rfl, hm0, rfl⟩ := hrel
            by_cases c5 : m < 2 * q
            · have hml : m < F.length := by have := HF.out; omega
              obtain ⟨g, og, rfl, _, f6⟩ := lst_at HV.out (k := m) hml
              have hgm := HG.out m c5
              have c6 : (m : Int) < 2 * (q : Int) := by omega
              have c7 : (m : Int) < (F.length : Int) := by omega
              by_cases c8 : m % 2 = 0
              · rw [if_pos c8] at hgm
                rw [hgm] at f6
                have c9 : (m : Int).tmod 2 = 0 := by rw [Int.tmod_eq_emod_of_nonneg (by omega)]; omega
                have c10 : (m : Int) % 2 = 0 := by omega
                clear hgm
                go_wp2
                go_roundw
                case rel => exact ⟨m + 1, by go_num, by omega, by simp⟩
                case measure => simp [intOf] <;> omega
              · rw [if_neg c8] at hgm
                rw [hgm] at f6
                have c9 : (m : Int).tmod 2 = 1 := by rw [Int.tmod_eq_emod_of_nonneg (by omega)]; omega
                have c10 : (m : Int) % 2 = 1 := by omega
                have c11 : m % 2 = 1 := by omega
                clear hgm
                go_wp2
                go_roundw
                case rel => exact ⟨m + 1, by go_num, by omega, by simp⟩
                case measure => simp [intOf] <;> omega
            · have c6 : ¬ (m : Int) < 2 * (q : Int) := by omega
              go_wp2
              go_ret
              exact ⟨ret_bool (by have := HF.out; simp; omega), hb3⟩)
      · subst d1
        go_wp2
        all_goals (
          go_loopw [9] (fun i wr2 => ∃ m : Nat, i = .int .i64 (m : Int) ∧ m ≤ 2 * q ∧ w3 = wr2) (fun i _ => 2 * q - (intOf i).toNat)
          case atStart => exact ⟨0, rfl, by omega, rfl⟩
          case round =>
            obtain ⟨m, rfl, hm0, rfl⟩ := hrel
            by_cases c5 : m < 2 * q
            · have hml : m < F.length := by have := HF.out; omega
              obtain ⟨g, og, rfl, _, f6⟩ := lst_at HV.out (k := m) hml
              have hgm := HG.out m c5
              have c6 : (m : Int) < 2 * (q : Int) := by omega
              have c7 : (m : Int) < (F.length : Int) := by omega
              by_cases c8 : m % 2 = 0
              · rw [if_pos c8] at hgm
                rw [hgm] at f6
                have c9 : (m : Int).tmod 2 = 0 := by rw [Int.tmod_eq_emod_of_nonneg (by omega)]; omega
                have c10 : (m : Int) % 2 = 0 := by omega
                clear hgm
                go_wp2
                go_roundw
                case rel => exact ⟨m + 1, by go_num, by omega, by simp⟩
                case measure => simp [intOf] <;> omega
              · rw [if_neg c8] at hgm
                rw [hgm] at f6
                have c9 : (m : Int).tmod 2 = 1 := by rw [Int.tmod_eq_emod_of_nonneg (by omega)]; omega
                have c10 : (m : Int) % 2 = 1 := by omega
                have c11 : m % 2 = 1 := by omega
                clear hgm
                go_wp2
                go_roundw
                case rel => exact ⟨m + 1, by go_num, by omega, by simp⟩
                case measure => simp [intOf] <;> omega
            · have c6 : ¬ (m : Int) < 2 * (q : Int) := by omega
              go_wp2
              go_ret
              exact ⟨ret_bool (by have := HF.out; simp; omega), hb3⟩)
      · have g1 : ¬ (8 : Int) < (r : Int) := by omega
        have g2 : (0 : Int) < (r : Int) := by omega
        have g3 : (r : Int) < 8 := by omega
        go_wp2
        all_goals (
          go_loopw [9] (fun i wr2 => ∃ m : Nat, i = .int .i64 (m : Int) ∧ m ≤ 2 * q ∧ w3 = wr2) (fun i _ => 2 * q - (intOf i).toNat)
          case atStart => exact ⟨0, rfl, by omega, rfl⟩
          case round =>
            obtain ⟨m, rfl, hm0, rfl⟩ := hrel
            by_cases c5 : m < 2 * q
            · have hml : m < F.length := by have := HF.out; omega
              obtain ⟨g, og, rfl, _, f6⟩ := lst_at HV.out (k := m) hml
              have hgm := HG.out m c5
              have c6 : (m : Int) < 2 * (q : Int) := by omega
              have c7 : (m : Int) < (F.length : Int) := by omega
              by_cases c8 : m % 2 = 0
              · rw [if_pos c8] at hgm
                rw [hgm] at f6
                have c9 : (m : Int).tmod 2 = 0 := by rw [Int.tmod_eq_emod_of_nonneg (by omega)]; omega
                have c10 : (m : Int) % 2 = 0 := by omega
                clear hgm
                go_wp2
                go_roundw
                case rel => exact ⟨m + 1, by go_num, by omega, by simp⟩
                case measure => simp [intOf] <;> omega
              · rw [if_neg c8] at hgm
                rw [hgm] at f6
                have c9 : (m : Int).tmod 2 = 1 := by rw [Int.tmod_eq_emod_of_nonneg (by omega)]; omega
                have c10 : (m : Int) % 2 = 1 := by omega
                have c11 : m % 2 = 1 := by omega
                clear hgm
                go_wp2
                go_roundw
                case rel => exact ⟨m + 1, by go_num, by omega, by simp⟩
                case measure => simp [intOf] <;> omega
            · have c6 : ¬ (m : Int) < 2 * (q : Int) := by omega
              go_wp2
              go_ret
              exact ⟨ret_bool (by have := HF.out; simp; omega), hb3⟩)
end Go.Proofs.Ytahnioenoecfeaa
