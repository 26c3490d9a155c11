/- BitsStuffed, walked. -/
import Derived.Test.YtpobmnbloifpjaaBitX
import Derived.Deep.RegionWith
set_option linter.unusedVariables false
namespace Go.Proofs.Ytpobmnbloifpjaa
open Go.RowKit

theorem lst_at {w : World} {B : Nat} {A : Option Addr} {l : List Int} (h : Lst w B A (l.map (Value.int .u8))) {k : Nat} (hk : k < l.length) :
    ∃ b o, A = some ⟨b, o, none⟩ ∧ b < B ∧ w.cell? ⟨b, o + k, none⟩ = some (.int .u8 (l.getD k 0)) :=
  h k (.int .u8 (l.getD k 0)) (by rw [List.getElem?_map, List.getElem?_eq_getElem hk, List.getD_eq_getElem?_getD, List.getElem?_eq_getElem hk]; rfl)
theorem lst_ati {w : World} {B : Nat} {A : Option Addr} {l : List Int} (h : Lst w B A (l.map (Value.int .i64))) {k : Nat} (hk : k < l.length) :
    ∃ b o, A = some ⟨b, o, none⟩ ∧ b < B ∧ w.cell? ⟨b, o + k, none⟩ = some (.int .i64 (l.getD k 0)) :=
  h k (.int .i64 (l.getD k 0)) (by rw [List.getElem?_map, List.getElem?_eq_getElem hk, List.getD_eq_getElem?_getD, List.getElem?_eq_getElem hk]; rfl)
theorem bytesF_ok {s : List Int × Nat} (h : WOk s) : (∀ i, (bytesF s.1).getD i 0 = 255 → i + 1 < (bytesF s.1).length → (bytesF s.1).getD (i + 1) 0 ≤ 127) ∧ (∀ m, (bytesF s.1).length = m + 1 → (bytesF s.1).getD m 0 ≠ 255) ∧ (∀ x ∈ bytesF s.1, 0 ≤ x ∧ x ≤ 255) ∧ (bytesF s.1).length ≤ s.1.length + 1 := by
  obtain ⟨it, fr⟩ := s
  have hb := h.behind
  have hr := h.rng
  simp only at hb hr ⊢
  clear h
  unfold bytesF
  by_cases c : it.getLastD 0 = 255
  · rw [if_pos c]
    refine ⟨fun i h1 h2 => ?_, fun m hm => ?_, fun x hx => ?_, by simp⟩
    · rw [List.length_append, List.length_singleton] at h2
      rw [List.getD_eq_getElem?_getD, List.getElem?_append_left (by omega)] at h1
      by_cases c2 : i + 1 < it.length
      · have e1 : it[i]? = some 255 := by
          rw [List.getElem?_eq_getElem (by omega)] at h1 ⊢
          simpa using h1
        have := hb i e1 (it.getD (i + 1) 0) (by rw [List.getD_eq_getElem?_getD, List.getElem?_eq_getElem c2]; rfl)
        rw [List.getD_eq_getElem?_getD, List.getElem?_append_left c2, ← List.getD_eq_getElem?_getD]
        exact this
      · rw [List.getD_eq_getElem?_getD, List.getElem?_append_right (by omega), show i + 1 - it.length = 0 from by omega]
        decide
    · rw [List.length_append, List.length_singleton] at hm
      rw [List.getD_eq_getElem?_getD, List.getElem?_append_right (by omega), show m - it.length = 0 from by omega]
      decide
    · rcases List.mem_append.1 hx with hx | hx
      · exact hr x hx
      · simp at hx; omega
  · rw [if_neg c]
    refine ⟨fun i h1 h2 => ?_, fun m hm hx => c ?_, hr, by omega⟩
    · have e1 : it[i]? = some 255 := by
        rw [List.getD_eq_getElem?_getD] at h1
        rw [List.getElem?_eq_getElem (by omega)] at h1 ⊢
        simpa using h1
      exact hb i e1 (it.getD (i + 1) 0) (by rw [List.getD_eq_getElem?_getD, List.getElem?_eq_getElem h2]; rfl)
    · rw [List.getLastD_eq_getLast?, List.getLast?_eq_getElem?, show it.length - 1 = m from by omega, ← List.getD_eq_getElem?_getD]
      exact hx

set_option maxHeartbeats 8000000 in
theorem walk_bitsStuffed (a0 : Option Addr) (len0 cap0 : Nat) (z0 : List Int) (w : World) (w0 : IsRow .i64 w a0 len0 cap0 z0) :
    Calls Try.prog 6 #[.slice a0 len0 cap0] w fun e w' => e = .returned (.bool true) ∧ Below w.heap.size w w' := by
  have hl := lst_of_row w0
  obtain ⟨hlen, hlc, hcm, hnil⟩ := row_len w0
  clear w0
  generalize hz : z0.take len0 = l at *
  clear hz
  have HL := Lib.hid hl
  have HLen := Lib.hid hlen
  unfold maxLen at hcm
  clear hl hlen hnil
  go_enter Try.func6, Try.ntmps6
  go_wp2_with fail
  refine (known2 _).mono ?_
  rintro e w1 ⟨rfl, b1⟩
  go_wp2_with fail
  refine (bnew_any _).mono ?_
  rintro e w2 ⟨p, rfl, h2, b2⟩
  have s1 := b1.size
  have b2 := b1.trans (b2.mono s1)
  have H2 : Hid (Wb (fun k => w1.heap.size ≤ k) w2 p [] 0) := Lib.hid (h2.imp (fun k _ hk => hk.1))
  have s2 : w1.heap.size ≤ w2.heap.size := by have := h2.1; omega
  clear b1 h2
  go_wp2
  go_loopw [4] (fun i wr => ∃ k : Nat, ∃ s : List Int × Nat, k ≤ len0 ∧ k ≤ 60 ∧ i = .int .i64 (k : Int) ∧ Wb (fun k => w1.heap.size ≤ k) wr p s.1 s.2 ∧ WOk s ∧ s.1.length ≤ 11 * k ∧ Below w.heap.size w wr ∧ w1.heap.size ≤ wr.heap.size) (fun i _ => 60 - (intOf i).toNat)
  case atStart => exact ⟨0, ([], 0), by omega, by omega, rfl, H2.out, by simpa [wrun] using wrun_ok [], by simp, b2, s2⟩
  case round =>
    obtain ⟨k, s, kn, k60, rfl, hw, ok, hsl, hb, hs⟩ := hrel
    clear H2 b2 s2
    by_cases c1 : k < len0 ∧ k < 60
    · obtain ⟨c1, c2⟩ := c1
      have c1i : (k : Int) < (len0 : Int) := by omega
      have c2i : (k : Int) < 60 := by omega
      obtain ⟨b, o, rfl, hbb, f1⟩ := lst_ati (HL.out.below hb) (k := k) (by rw [HLen.out]; omega)
      obtain ⟨r, hr⟩ : ∃ r, k % 11 = r := ⟨_, rfl⟩
      have hr11 : r < 11 := by omega
      generalize l.getD k 0 = x at *
      have WI : Hid (∀ nq, Calls Try.prog 13 #[.int .i64 (k : Int), .int .i64 11] (wr.drewN nq) fun e w'' => e = .returned (.int .i64 (r : Int)) ∧ w'' = wr.drewN nq) := fun nq =>
        (within_any (k : Int) 11 (wr.drewN nq) (by omega) (by omega)).mono fun e w'' ⟨he, hw''⟩ => ⟨by rw [he]; exact ret_i64 (by omega), hw''.symm⟩
      have BC : Hid (∀ nq, Calls Try.prog 16 #[.pointer (some ⟨p, 0, none⟩), .int .i64 x, .int .i64 (1 + (r : Int))] (wr.drewN nq) fun e w'' => e = .returned (.tuple #[]) ∧ Wb (fun k => w1.heap.size ≤ k) w'' p (wfold s (bitsOf x (1 + r))).1 (wfold s (bitsOf x (1 + r))).2 ∧ Below w.heap.size w w'' ∧ w1.heap.size ≤ w''.heap.size) := fun nq => by
        rw [show (1 + (r : Int)) = ((1 + r : Nat) : Int) from by omega]
        refine (wb_bits (w := wr.drewN nq) (s := s) (n := x) (size := 1 + r) (hw.drew nq) ok (by omega) (by omega) (by omega) (fun k hk => Nat.le_trans hs hk)).mono ?_
        rintro e w'' ⟨he, h3, o3⟩
        exact ⟨he, h3, (below_drewN hb nq).trans (o3.below (fun k hk => Nat.le_trans s1 hk)), Nat.le_trans hs o3.size⟩
      have ok3 := wfold_ok ok (bitsOf x (1 + r))
      have hl3 := wfold_len ok (bitsOf x (1 + r))
      rw [bitsOf_len] at hl3
      have OK3 := Lib.hid ok3
      have w11 : IntKind.i64.wrap (1 + (r : Int)) = 1 + (r : Int) := IntWalk.i64_in _ (by omega)
      clear hw ok ok3 HL
      go_wp2
      go_region_with (first | (go_at_call 13; refine (WI.out 1).mono ?_; rintro e w' ⟨rfl, rfl⟩) | (go_at_call 16; refine (BC.out 1).mono ?_; rintro e w' ⟨rfl, h3, hb3, hs3⟩))
      all_goals
        have H3 := Lib.hid h3
        clear WI BC h3
        go_wp2
        go_roundw
        case rel => exact ⟨k + 1, _, by omega, by omega, by go_num, H3.out, OK3.out, by omega, hb3, hs3⟩
        case measure => simp [intOf] <;> omega
    · have FC : Hid (Calls Try.prog 18 #[.pointer (some ⟨p, 0, none⟩)] wr fun e w' => ∃ v, e = .returned v ∧ w'.ownsRow wr.heap.size 5 1 v (bytesF s.1).length ((bytesF s.1).map (Value.int .u8)) ∧ Below wr.heap.size wr w') := wb_bytes hw (by omega)
      obtain ⟨g1, g2, g3, g4⟩ := bytesF_ok ok
      generalize bytesF s.1 = F at *
      have HG1 := Lib.hid g1
      have HG2 := Lib.hid g2
      have hFl : F.length ≤ 700 := by omega
      have hex : ¬ ((k : Int) < (len0 : Int)) ∨ ((k : Int) < (len0 : Int) ∧ ¬ (k : Int) < 60) := by omega
      clear hw ok g1 g2 g3 g4 hsl
      rcases hex with hx | ⟨hx, hx2⟩
      all_goals
        go_wp2_with fail
        refine FC.out.mono ?_
        rintro e w3 ⟨v, rfl, hv, b3⟩
        have hb3 := hb.trans (b3.mono (Nat.le_trans s1 hs))
        obtain ⟨A, c, rfl, hA, hcc, hcx⟩ := own_any hv
        have HV := Lib.hid (Lst.own hv)
        clear hv b3 hb FC hA
        go_wp2
        go_loopw [6] (fun i wr2 => ∃ m : Nat, i = .int .i64 (m : Int) ∧ m ≤ F.length ∧ w3 = wr2) (fun i _ => F.length - (intOf i).toNat)
        case atStart => exact ⟨0, rfl, by omega, rfl⟩
        case round =>
          obtain ⟨m, rfl, hm, rfl⟩ := hrel
          by_cases c5 : m + 1 < F.length
          · have c5i : (m : Int) + 1 < (F.length : Int) := by omega
            obtain ⟨g, og, rfl, _, f6⟩ := lst_at HV.out (k := m) (by omega)
            obtain ⟨g', og', e', _, f7⟩ := lst_at HV.out (k := m + 1) (by omega)
            injection e' with e'
            injection e' with e1 e2
            subst e1 e2
            have hg := HG1.out m
            have f7' : w3.cell? ⟨g, og + (m + 1), none⟩ = some (.int .u8 (F.getD (m + 1) 0)) := f7
            by_cases c6 : F.getD m 0 = 255
            · have hg2 := hg c6 c5
              have c7 : ¬ (128 : Int) ≤ F.getD (m + 1) 0 := by omega
              have c8 : F.getD (m + 1) 0 < 128 := by omega
              rw [c6] at f6
              generalize F.getD (m + 1) 0 = y at *
              clear hg hg2
              go_wp2
              go_roundw
              case rel => exact ⟨m + 1, by go_num, by omega, by simp⟩
              case measure => simp [intOf] <;> omega
            · have c7 : (F.getD m 0 == 255) = false := by simpa using c6
              generalize F.getD m 0 = x at *
              generalize F.getD (m + 1) 0 = y at *
              clear hg
              go_wp2
              go_roundw
              case rel => exact ⟨m + 1, by go_num, by omega, by simp⟩
              case measure => simp [intOf] <;> omega
          · have c5i : ¬ (m : Int) + 1 < (F.length : Int) := by omega
            rcases Nat.eq_zero_or_pos F.length with h0 | h0
            · go_wp2
              go_ret
              exact ⟨ret_bool (by simp), hb3⟩
            · obtain ⟨n, hn⟩ : ∃ n, F.length = n + 1 := ⟨F.length - 1, by omega⟩
              obtain ⟨g, og, rfl, _, f6⟩ := lst_at HV.out (k := n) (by omega)
              have c9 : (F.getD n 0 == 255) = false := by simpa using HG2.out n hn
              have hne := HG2.out n hn
              generalize F.getD n 0 = x at *
              have hz0 : ¬ (F.length : Int) = 0 := by omega
              have hsub : (F.length : Int) - 1 = (n : Int) := by omega
              have hw1 : IntKind.i64.wrap (n : Int) = (n : Int) := IntWalk.i64_in _ (by omega)
              go_wp2
              go_ret
              exact ⟨ret_bool (by simp; omega), hb3⟩
end Go.Proofs.Ytpobmnbloifpjaa
