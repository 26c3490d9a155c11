/- The statement BytesTakes of chapter 1, walked. -/
import Derived.Test.YtcpgfekldkbcbaaBytesLaws
import Derived.Test.YtcpgfekldkbcbaaStr
import Derived.BigQuiet
import Derived.Deep.QuietTactic
set_option linter.unusedVariables false
namespace Go.Proofs.Ytcpgfekldkbcbaa
open Go.RowKit

set_option maxHeartbeats 2000000 in
theorem walk_bytesTakes (a0 : Option Addr) (len0 cap0 : Nat) (z0 : List Int) (a1 : Option Addr) (len1 cap1 : Nat) (z1 : List Int) (w : World) (w0 : IsRow .u8 w a0 len0 cap0 z0) (w1 : IsRow .i64 w a1 len1 cap1 z1) :
    Calls Try.prog 8 #[.slice a0 len0 cap0, .slice a1 len1 cap1] w fun e w' => e = .returned (.bool true) ∧ Below w.heap.size w w' := by
  have hl := lst_of_row w0
  obtain ⟨hlen, hlc, hcm, hnil⟩ := row_len w0
  have hb8 := row_u8 w0
  have hl1 := lst_of_row w1
  obtain ⟨hlen1, hlc1, hcm1, _⟩ := row_len w1
  clear w0 w1
  generalize hz : z0.take len0 = l at *
  generalize hz1 : z1.take len1 = m at *
  clear hz hz1
  unfold maxLen at hcm hcm1
  have HL := Lib.hid hl
  have HLen := Lib.hid hlen
  have HNil := Lib.hid hnil
  have HB8 := Lib.hid hb8
  have HM := Lib.hid hl1
  have HMen := Lib.hid hlen1
  clear hl hlen hnil hb8 hl1 hlen1
  by_cases c : len0 ≤ 200
  · go_enter Try.func8, Try.ntmps8
    go_wp2_with fail
    refine (known1 _).mono ?_
    rintro e w1 ⟨rfl, h1⟩
    have s1 := h1.size
    go_wp2_with fail
    refine (new_any a0 len0 cap0 l _ HLen.out HNil.out ((HL.out.below h1).more s1) (by omega)).mono ?_
    rintro e w2 ⟨p, rfl, hp, hb2⟩
    have h2 : Below w.heap.size w w2 := h1.trans (hb2.mono s1)
    have s2 := h2.size
    have P1 := Lib.hid hp.1
    clear hb2 h1
    go_wp2_with fail
    go_loopw [6, 7] (fun av i wr => ∃ (k o : Nat), k ≤ len1 ∧ k ≤ 20 ∧ o ≤ len0 ∧ i = .int .i64 k ∧ av = .int .i64 o ∧ Rd wr w1.heap.size p (l.drop o) 0 ∧ Below w.heap.size w wr) (fun _ i _ => 20 - (intOf i).toNat)
    case atStart => exact ⟨0, 0, by omega, by omega, by omega, rfl, rfl, by simpa using hp, h2⟩
    case round =>
      obtain ⟨k, o, k0, k1, o0, rfl, rfl, hr, hb⟩ := hrel
      have HR := Lib.hid hr
      clear hp h2 s2
      by_cases hk : k < len1 ∧ k < 20
      · obtain ⟨hk1, hk2⟩ := hk
        obtain ⟨b1, o1, rfl, q1, c1⟩ := lst_int (HM.out.below hb) (show k < m.length by have := HMen.out; omega)
        generalize m.getD k 0 = x0 at *
        have sb := hb.size
        go_wp2_with fail
        refine (some1 _ _ _ (by omega) (by omega)).mono ?_
        rintro e w' ⟨v, rfl, v0, v1, rfl⟩
        obtain ⟨n, rfl⟩ := Int.eq_ofNat_of_zero_le v0
        have hno : n ≤ len0 - o := by omega
        have hld : (l.drop o).length = len0 - o := by rw [List.length_drop, HLen.out]
        go_wp2_with fail
        refine (take_yes n HR.out (by rw [hld]; exact hno) (by rw [hld]; omega)).mono ?_
        rintro e w3 ⟨xv, rfl, hown, hr3, hg3⟩
        have h3 := hb.grown hg3 sb (by intro g hg; injection hg with hg; have := P1.out; omega)
        obtain ⟨A, cp, hv, hA, hcp, hcp2⟩ := own_any hown
        subst hv
        have L1 := Lst.own (own_mono hown (Nat.zero_le _) |> fun h => hown)
        obtain ⟨A2, hA2⟩ : ∃ A2, (if cap0 = o then a0 else a0.map (·.add o)) = A2 := ⟨_, rfl⟩
        have f1 : (0 : Int) ≤ (o : Int) + (n : Int) := by omega
        have f2 : (o : Int) + (n : Int) ≤ (cap0 : Int) := by omega
        have f3 : o ≤ ((o : Int) + (n : Int)).toNat := by omega
        have f4 : ((o : Int) + (n : Int)).toNat - o = n := by omega
        have hs1 : ∀ nq, (convert 22 9 (.slice A n cp)).run Try.prog (w3.drewN nq) = .ok (.string (strOf ((l.drop o).take n))) (w3.drewN nq) := fun nq =>
          conv_str (by rw [List.length_take, hld]; omega) (lst_drewN L1 nq)
        have hs2 : ∀ nq, (convert 22 9 (.slice A2 n (cap0 - o))).run Try.prog (w3.drewN nq) = .ok (.string (strOf ((l.drop o).take n))) (w3.drewN nq) := fun nq => by
          refine conv_str (B := w.heap.size) (by rw [List.length_take, hld]; omega) (lst_drewN ?_ nq)
          rw [← hA2]
          have := lst_cut (HL.out.below h3) o n cap0 (by omega) (by rw [List.length_map, HLen.out]; omega) (by rw [List.length_map, HLen.out]; omega)
          simpa [List.map_take, List.map_drop] using this
        have hleft : ∀ nq, Calls Try.prog 29 #[.pointer (some ⟨p, 0, none⟩)] (w3.drewN nq) fun e w'' => e = .returned (.int .i64 ((len0 : Int) - o - n)) ∧ ∃ q, w'' = w3.drewN q := fun nq => by
          refine (left_any (w := w3.drewN nq) (hr3.drew (Drew.mk _ _)) (by rw [List.length_drop, List.length_drop, HLen.out]; omega)).mono fun e w'' ⟨he, hw⟩ => ⟨?_, nq, hw.symm⟩
          rw [he, if_pos rfl, List.length_drop, hld]
          exact ret_i64 (by omega)
        have HLeft := Lib.hid hleft
        clear hleft
        generalize strOf ((l.drop o).take n) = S at *
        have u0' : (0 : Int) ≤ (o : Int) := by omega
        have wr1 : IntKind.i64.wrap ((o : Int) + (n : Int)) = (o : Int) + (n : Int) := IntWalk.i64_in _ (by omega)
        have wr2 : IntKind.i64.wrap ((len0 : Int) - (o : Int)) = (len0 : Int) - (o : Int) := IntWalk.i64_in _ (by omega)
        have wr3 : IntKind.i64.wrap ((len0 : Int) - (o : Int) - (n : Int)) = (len0 : Int) - (o : Int) - (n : Int) := IntWalk.i64_in _ (by omega)
        go_wp2_with fail
        go_quiet ((go_at_call 29; exact HLeft.out _))
        have hr4 : Rd (w3.drewN nq) w1.heap.size p (l.drop (o + n)) 0 := by
          have := hr3.drew (Drew.mk w3 nq)
          rwa [List.drop_drop] at this
        have h4 := Drew.to h3 (Drew.mk w3 nq)
        have HR4 := Lib.hid hr4
        have H4 := Lib.hid h4
        have hplt := hr.lt
        clear hs1 hs2 HLeft hA2 hr3 hr4 h3 h4 HR f3 f4
        by_cases hn0 : n = 0
        · have g0 : ¬ (0 : Int) < (n : Int) := by omega
          go_wp2
          go_roundw
          case rel => exact ⟨k + 1, o + n, by omega, by omega, by omega, by go_num, by go_num, HR4.out, H4.out⟩
          case measure => simp [intOf]; omega
        · have g0 : (0 : Int) < (n : Int) := by omega
          obtain ⟨g, cap', hv, hg1, hg2, _⟩ := own_form hown (by omega)
          injection hv with hv1 _ hv2
          subst hv1 hv2
          have hc := hown.cellAt 0 (by omega)
          have hf := hown.frozenAt 0
          obtain ⟨y, hy⟩ : ∃ y, (((l.drop o).take n).map (Value.int .u8))[0]? = some (.int .u8 y) := by
            have hlen2 : ((l.drop o).take n).length = n := by rw [List.length_take, hld]; omega
            exact ⟨((l.drop o).take n)[0]'(by omega), by rw [List.getElem?_map, List.getElem?_eq_getElem (by omega)]; rfl⟩
          rw [hy] at hc
          have hgp : p < g := by omega
          have hgb : w.heap.size ≤ g := by omega
          clear hown hy L1
          go_wp2
          go_roundw
          case rel =>
            refine ⟨k + 1, o + n, by omega, by omega, by omega, by go_num, by go_num, ?_, H4.out.setCell (p := ⟨g, 0, none⟩) hgb _⟩
            exact HR4.out.keep fun j _ h2 => Below.heap_setCell _ _ _ j (by simp; omega)
          case measure => simp [intOf]; omega
      · have hld : (l.drop o).length = len0 - o := by rw [List.length_drop, HLen.out]
        by_cases hk1 : k < len1
        · have hk2 : ¬ k < 20 := by omega
          clear hk
          by_cases ho : o = len0
          · have t1 : ((o : Int) == (len0 : Int)) = true := by rw [ho]; exact beq_self_eq_true _
            have he : endE (l.drop o).length 0 = 0 := by rw [hld]; exact if_neg (by omega)
            have HE := Lib.hid he
            clear he ho hr
            go_wp2_with fail
            refine (end_any HR.out (by rw [hld]; omega)).mono ?_
            rintro e w3 ⟨he, d3⟩
            rw [HE.out] at he
            subst he
            have h3 := Drew.to hb d3
            clear hb d3
            go_wp2
            go_ret
            exact ⟨rfl, h3⟩
          · have t1 : ((o : Int) == (len0 : Int)) = false := by simp; omega
            have he : endE (l.drop o).length 0 = 9 := by rw [hld]; exact if_pos (by omega)
            have HE := Lib.hid he
            clear he ho hr
            go_wp2_with fail
            refine (end_any HR.out (by rw [hld]; omega)).mono ?_
            rintro e w3 ⟨he, d3⟩
            rw [HE.out] at he
            subst he
            have h3 := Drew.to hb d3
            clear hb d3
            go_wp2
            go_ret
            exact ⟨rfl, h3⟩
        · clear hk
          by_cases ho : o = len0
          · have t1 : ((o : Int) == (len0 : Int)) = true := by rw [ho]; exact beq_self_eq_true _
            have he : endE (l.drop o).length 0 = 0 := by rw [hld]; exact if_neg (by omega)
            have HE := Lib.hid he
            clear he ho hr
            go_wp2_with fail
            refine (end_any HR.out (by rw [hld]; omega)).mono ?_
            rintro e w3 ⟨he, d3⟩
            rw [HE.out] at he
            subst he
            have h3 := Drew.to hb d3
            clear hb d3
            go_wp2
            go_ret
            exact ⟨rfl, h3⟩
          · have t1 : ((o : Int) == (len0 : Int)) = false := by simp; omega
            have he : endE (l.drop o).length 0 = 9 := by rw [hld]; exact if_pos (by omega)
            have HE := Lib.hid he
            clear he ho hr
            go_wp2_with fail
            refine (end_any HR.out (by rw [hld]; omega)).mono ?_
            rintro e w3 ⟨he, d3⟩
            rw [HE.out] at he
            subst he
            have h3 := Drew.to hb d3
            clear hb d3
            go_wp2
            go_ret
            exact ⟨rfl, h3⟩
  · go_enter Try.func8, Try.ntmps8
    go_wp2_with fail
    refine (known1 _).mono ?_
    rintro e w1 ⟨rfl, h1⟩
    go_wp2
    go_ret
    exact ⟨rfl, h1⟩
end Go.Proofs.Ytcpgfekldkbcbaa
