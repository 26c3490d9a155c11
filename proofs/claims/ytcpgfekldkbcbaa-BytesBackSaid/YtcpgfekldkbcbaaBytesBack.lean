/- The statement BytesBack of chapter 1, walked. -/
import Derived.Test.YtcpgfekldkbcbaaBytesPlain
import Derived.Test.YtcpgfekldkbcbaaBytesLaws
import Derived.Test.YtcpgfekldkbcbaaStr
import Derived.Deep.RegionWith
import Derived.StillTailTactics
set_option linter.unusedVariables false
namespace Go.Proofs.Ytcpgfekldkbcbaa
open Go.RowKit

/-- The numbers that are put, and the sizes of their fields. -/
def items (ns ss : List Int) (n : Nat) : List (Int × Nat) := (List.range n).map fun j => (ns.getD j 0, (1 + ss.getD j 0 % 8).toNat)
def flat (l : List (Int × Nat)) : List Int := l.flatMap fun p => putL p.1 p.2
theorem items_len (ns ss : List Int) (n : Nat) : (items ns ss n).length = n := by simp [items]
theorem items_get (ns ss : List Int) (n k : Nat) (h : k < n) : (items ns ss n)[k]? = some (ns.getD k 0, (1 + ss.getD k 0 % 8).toNat) := by
  simp [items, h]
theorem items_take (ns ss : List Int) (n k : Nat) (h : k < n) : flat ((items ns ss n).take (k + 1)) = flat ((items ns ss n).take k) ++ putL (ns.getD k 0) (1 + ss.getD k 0 % 8).toNat := by
  rw [List.take_add_one, items_get _ _ _ _ h]
  simp [flat, List.flatMap_append]
theorem items_drop (ns ss : List Int) (n k : Nat) (h : k < n) : flat ((items ns ss n).drop k) = putL (ns.getD k 0) (1 + ss.getD k 0 % 8).toNat ++ flat ((items ns ss n).drop (k + 1)) := by
  have hl : k < (items ns ss n).length := by rw [items_len]; exact h
  have e := items_get ns ss n k h
  rw [List.getElem?_eq_getElem hl] at e
  injection e with e
  rw [List.drop_eq_getElem_cons hl, e]
  rfl
theorem flat_rng (l : List (Int × Nat)) : ∀ x ∈ flat l, 0 ≤ x ∧ x ≤ 255 := by
  intro x hx
  simp only [flat, List.mem_flatMap] at hx
  obtain ⟨p, _, hx⟩ := hx
  exact put_rng _ _ _ hx
theorem flat_len (ns ss : List Int) (n k : Nat) (h : k ≤ n) : (flat ((items ns ss n).take k)).length ≤ 8 * k := by
  induction k with
  | zero => simp [flat]
  | succ k ih =>
    rw [items_take _ _ _ _ (by omega), List.length_append, putL_len]
    have := ih (by omega)
    have := within_rng (ss.getD k 0) 8 (by omega)
    omega

theorem mask_in (s : Nat) (h : s ≤ 6) : wrap64 (wrap64 ((2 : Int) ^ (8 * (1 + s))) - 1) = 2 ^ (8 * (1 + s)) - 1 := by
  have h1 : ((2 ^ (8 * (1 + s)) : Nat) : Int) = (2 : Int) ^ (8 * (1 + s)) := by simp
  have h2 : (2 : Nat) ^ (8 * (1 + s)) ≤ 2 ^ 56 := Nat.pow_le_pow_right (by decide) (by omega)
  have h3 : (2 : Nat) ^ 56 = 72057594037927936 := by decide
  have h4 : 1 ≤ (2 : Nat) ^ (8 * (1 + s)) := Nat.one_le_two_pow
  rw [h3] at h2
  rw [← h1]
  generalize (2 : Nat) ^ (8 * (1 + s)) = P at *
  clear h1 h3
  rw [IntWalk.wrap64_in (P : Int) (by omega), IntWalk.wrap64_in ((P : Int) - 1) (by omega)]

set_option maxHeartbeats 2000000 in
theorem walk_bytesBack (a0 : Option Addr) (len0 cap0 : Nat) (z0 : List Int) (a1 : Option Addr) (len1 cap1 : Nat) (z1 : List Int) (w : World) (w0 : IsRow .i64 w a0 len0 cap0 z0) (w1 : IsRow .i64 w a1 len1 cap1 z1) :
    Calls Try.prog 5 #[.slice a0 len0 cap0, .slice a1 len1 cap1] w fun e w' => e = .returned (.bool true) ∧ Below w.heap.size w w' := by
  have hl := lst_of_row w0
  obtain ⟨hlen, hlc, hcm, hnil⟩ := row_len w0
  have hl1 := lst_of_row w1
  obtain ⟨hlen1, hlc1, hcm1, _⟩ := row_len w1
  have hbd : ∀ x ∈ z0.take len0, -9223372036854775808 ≤ x ∧ x ≤ 9223372036854775807 := by
    rcases w0 with ⟨rfl, rfl, rfl, rfl⟩ | ⟨x, rfl, _, _, _, _, hw⟩
    · simp
    · intro y hy
      exact bd_i64 (hw y (List.mem_of_mem_take hy))
  clear w0 w1 hnil
  generalize hz : z0.take len0 = l at *
  generalize hz1 : z1.take len1 = m at *
  clear hz hz1
  unfold maxLen at hcm hcm1
  have HL := Lib.hid hl
  have HLen := Lib.hid hlen
  have HM := Lib.hid hl1
  have HMen := Lib.hid hlen1
  have HBD := Lib.hid hbd
  clear hl hlen hl1 hlen1 hbd
  rcases (show (len0 ≤ len1 ∧ len0 ≤ 20) ∨ (len1 < len0 ∧ len1 ≤ 20) ∨ (20 < len0 ∧ 20 < len1) from by omega) with ⟨m1, m2⟩ | ⟨m1, m2⟩ | ⟨m1, m2⟩
  · obtain ⟨n, hn, n0, n1, n2⟩ : ∃ n : Nat, n = len0 ∧ n ≤ len0 ∧ n ≤ len1 ∧ n ≤ 20 := ⟨len0, rfl, by omega, by omega, by omega⟩
    have HN := Lib.hid hn
    clear hn
    go_enter Try.func5, Try.ntmps5
    go_wp2_with fail
    refine (known1 _).mono ?_
    rintro e w1 ⟨rfl, h1⟩
    go_wp2_with fail
    rw [← HN.out]
    go_loopw [5, 7] (fun v i wr => ∃ k : Nat, k ≤ n ∧ i = .int .i64 k ∧ wr.ownsRow w.heap.size 5 1 v (flat ((items l m n).take k)).length ((flat ((items l m n).take k)).map (Value.int .u8)) ∧ Below w.heap.size w wr) (fun _ i _ => n - (intOf i).toNat)
    case atStart => exact ⟨0, by omega, rfl, by simpa [flat] using World.ownsRow_nil w1 _ _ _, h1⟩
    case round =>
      obtain ⟨k, k0, rfl, hown, hb⟩ := hrel
      by_cases hk : k < n
      · obtain ⟨b0, o0, rfl, q0, c0⟩ := lst_int (HL.out.below hb) (show k < l.length by have := HLen.out; omega)
        obtain ⟨b1, o1, rfl, q1, c1⟩ := lst_int (HM.out.below hb) (show k < m.length by have := HMen.out; omega)
        have fl := flat_len l m n k k0
        have ft := Lib.hid (items_take l m n k hk)
        obtain ⟨A, cp, hv, hA, hcp, hcp2⟩ := own_any hown
        subst hv
        have hsz := hb.size
        have HO := Lib.hid hown
        have HA := Lib.hid hA
        clear hown hA
        generalize hC : flat ((items l m n).take k) = C at *
        generalize hl0 : l.getD k 0 = x0 at *
        generalize hm0 : m.getD k 0 = y0 at *
        clear hC hl0 hm0
        have r0 := within_rng y0 8 (by omega)
        have kk : (k : Int) < n := by omega
        have g0 : (k : Int) < (len0 : Int) := by omega
        have g1 : (k : Int) < (len1 : Int) := by omega
        have kz : (0 : Int) ≤ (k : Int) := by omega
        go_wp2_with fail
        have wr1 : IntKind.i64.wrap (1 + y0 % 8) = 1 + y0 % 8 := IntWalk.i64_in _ (by omega)
        have CW := fun ww => (within1 y0 8 ww (by omega) (by omega)).mono fun e w' (h : _ ∧ _) => (⟨h.1, h.2.symm⟩ : e = Ending.returned (.int .i64 (y0 % 8)) ∧ w' = ww)
        refine wp_region_still_tail 11 (by kernel_rfl) (by kernel_rfl) ?_
        simp only [List.take_succ_cons, List.take_zero, List.drop_succ_cons, List.drop_zero]
        repeat still_step
        still_call (CW _)
        repeat still_step
        refine wpStill_nil ?_
        change wpList _ _ _ _ _ wr.drew
        have hb' : Below w.heap.size w wr.drew := below_drewN hb 1
        have HO' : Hid (wr.drew.ownsRow w.heap.size 5 1 (.slice A C.length cp) C.length (C.map (Value.int .u8))) := HO.out
        clear hb HO q0 q1 c0 c1
        generalize wr.drew = w2 at *
        go_wp2_with fail
        refine (put_in A C.length cp _ _ (1 + y0 % 8) x0 (by simp) HA.out (Lst.own HO'.out) (u8_one _) (by omega) (by omega)).mono ?_
        rintro e w3 ⟨v2, rfl, hown2, hb2⟩
        have hsz2 := hb'.size
        have hb3 := hb'.trans (hb2.mono hsz2)
        have hown3 : w3.ownsRow w.heap.size 5 1 v2 (flat ((items l m n).take (k + 1))).length ((flat ((items l m n).take (k + 1))).map (Value.int .u8)) := by
          rw [ft.out, List.length_append, putL_len, List.map_append]
          exact own_mono hown2 hsz2
        clear hb' hb2 hown2 HO' ft
        go_wp2
        go_roundw
        case rel => exact ⟨k + 1, by omega, by go_num, hown3, hb3⟩
        case measure => simp [intOf]; omega
      · have hkn : k = n := by omega
        have fl := flat_len l m n n (by omega)
        rw [hkn, List.take_of_length_le (by rw [items_len]; omega)] at hown
        rw [List.take_of_length_le (by rw [items_len]; omega)] at fl
        obtain ⟨A, cp, hv, hA, hcp, hcp2⟩ := own_any hown
        subst hv
        have hsz := hb.size
        have HO := Lib.hid hown
        have HA := Lib.hid hA
        obtain ⟨C, hC⟩ : ∃ C, flat (items l m n) = C := ⟨_, rfl⟩
        rw [hC] at HO HA fl
        rw [hC]
        have HC := Lib.hid hC
        clear hown hA hC hkn
        go_wp2_with fail
        refine (new_any A C.length cp C _ rfl HA.out (Lst.own HO.out) (by omega)).mono ?_
        rintro e w3 ⟨p, rfl, hr, hb3⟩
        have h3 := hb.trans (hb3.mono hsz)
        have P1 := Lib.hid hr.1
        clear hb3
        generalize hB : wr.heap.size = B at *
        go_wp2_with fail
        have HR0 : Hid (Rd w3 B p (flat ((items l m n).drop 0)) 0) := by
          rw [List.drop_zero, HC.out]; exact hr
        clear hr hb HO hB
        go_loopw [9] (fun i wr => ∃ k : Nat, k ≤ n ∧ i = .int .i64 k ∧ Rd wr B p (flat ((items l m n).drop k)) 0 ∧ Below w.heap.size w wr) (fun i _ => n - (intOf i).toNat)
        case atStart => exact ⟨0, by omega, rfl, HR0.out, h3⟩
        case round =>
          obtain ⟨k, k0, rfl, hr, hb⟩ := hrel
          by_cases hk : k < n
          · obtain ⟨b0, o0, rfl, q0, c0⟩ := lst_int (HL.out.below hb) (show k < l.length by have := HLen.out; omega)
            obtain ⟨b1, o1, rfl, q1, c1⟩ := lst_int (HM.out.below hb) (show k < m.length by have := HMen.out; omega)
            have hx0 := HBD.out (l.getD k 0) (by rw [List.getD_eq_getElem?_getD, List.getElem?_eq_getElem (by have := HLen.out; omega)]; exact List.getElem_mem _)
            have fd := Lib.hid (items_drop l m n k hk)
            have HR := Lib.hid hr
            clear hr HR0 h3
            generalize hl0 : l.getD k 0 = x0 at *
            generalize hm0 : m.getD k 0 = y0 at *
            clear hl0 hm0
            have r0 := within_rng y0 8 (by omega)
            go_wp2_with fail
            refine (within1 _ _ _ (by omega) (by omega)).mono ?_
            rintro e w' ⟨rfl, rfl⟩
            obtain ⟨s, hs, s0, s1⟩ : ∃ s : Nat, y0 % 8 = s ∧ 0 ≤ s ∧ s ≤ 7 := ⟨(y0 % 8).toNat, by omega, by omega, by omega⟩
            rw [hs] at fd ⊢
            clear hs r0
            have G : Hid (Calls Try.prog 21 #[.pointer (some ⟨p, 0, none⟩), .int .i64 (1 + (s : Int))] wr fun e w' => e = .returned (.int .i64 (if 1 + s < 8 then bits .and .i64 x0 (2 ^ (8 * (1 + s)) - 1) else x0)) ∧ Rd w' B p (flat ((items l m n).drop (k + 1))) 0 ∧ wr.grownBy w' (some p)) := by
              have e1 : (1 + (s : Int)).toNat = 1 + s := by omega
              have fe := fd.out
              rw [e1] at fe
              have fl2 : (flat ((items l m n).drop k)).length ≤ 160 := by
                have := congrArg List.length HC.out
                rw [← List.take_append_drop k (items l m n), flat, List.flatMap_append, List.length_append] at this
                show ((items l m n).drop k |>.flatMap fun p => putL p.1 p.2).length ≤ 160
                omega
              have g := get_yes (1 + s) HR.out (by omega) (by rw [fe, List.length_append, putL_len]; omega) (by omega) (flat_rng _)
              rw [show (((1 + s : Nat) : Int)) = 1 + (s : Int) from by omega] at g
              refine g.mono ?_
              rintro e w4 ⟨he, hr4, hg4⟩
              rw [fe, List.take_left' (putL_len _ _), got x0 (1 + s) (by omega) hx0] at he
              rw [fe, List.drop_left' (putL_len _ _)] at hr4
              exact ⟨he, hr4, hg4⟩
            clear fd HR hx0
            by_cases c8 : s = 7
            · rw [if_neg (by omega)] at G
              subst c8
              go_wp2_with fail
              refine G.out.mono ?_
              rintro e w4 ⟨rfl, hr4, hg4⟩
              have hb4 := hb.grown hg4 hb.size (by intro g hg; injection hg with hg; have := P1.out; omega)
              have HR4 := Lib.hid hr4
              clear hb hr4 hg4 G
              go_wp2
              go_roundw
              case rel => exact ⟨k + 1, by omega, by go_num, HR4.out, hb4⟩
              case measure => simp [intOf]; omega
            · have c9 : (s : Int) < 7 := by omega
              have mk : wrap64 (wrap64 ((2 : Int) ^ (8 * (1 + s))) - 1) = 2 ^ (8 * (1 + s)) - 1 := mask_in s (by omega)
              rw [if_pos (by omega), ← mk] at G
              clear mk
              go_wp2_with fail
              generalize bits BinOp.and IntKind.i64 x0 (wrap64 (wrap64 ((2 : Int) ^ (8 * (1 + s))) - 1)) = V at *
              go_wp2_with fail
              refine G.out.mono ?_
              rintro e w4 ⟨rfl, hr4, hg4⟩
              have hb4 := hb.grown hg4 hb.size (by intro g hg; injection hg with hg; have := P1.out; omega)
              have HR4 := Lib.hid hr4
              clear hb hr4 hg4 G
              go_wp2
              go_roundw
              case rel => exact ⟨k + 1, by omega, by go_num, HR4.out, hb4⟩
              case measure => simp [intOf]; omega
          · have hkn : k = n := by omega
            rw [hkn, List.drop_of_length_le (by rw [items_len]; omega)] at hr
            replace hr : Rd wr B p [] 0 := hr
            have HR := Lib.hid hr
            clear hr HR0 h3
            go_wp2_with fail
            refine (end_any HR.out (by simp)).mono ?_
            rintro e w4 ⟨he, d4⟩
            rw [show endE ([] : List Int).length 0 = 0 from rfl] at he
            subst he
            have hb4 := Drew.to hb d4
            have HR4 := Lib.hid (Rd.drew HR.out d4)
            clear hb d4 HR
            go_wp2_with fail
            refine (left_any HR4.out (by simp)).mono ?_
            rintro e w5 ⟨he, hw⟩
            rw [if_pos rfl] at he
            subst he hw
            go_wp2
            go_ret
            exact ⟨rfl, hb4⟩
  · obtain ⟨n, hn, n0, n1, n2⟩ : ∃ n : Nat, n = len1 ∧ n ≤ len0 ∧ n ≤ len1 ∧ n ≤ 20 := ⟨len1, rfl, by omega, by omega, by omega⟩
    have HN := Lib.hid hn
    clear hn
    go_enter Try.func5, Try.ntmps5
    go_wp2_with fail
    refine (known1 _).mono ?_
    rintro e w1 ⟨rfl, h1⟩
    go_wp2_with fail
    rw [← HN.out]
    go_loopw [5, 7] (fun v i wr => ∃ k : Nat, k ≤ n ∧ i = .int .i64 k ∧ wr.ownsRow w.heap.size 5 1 v (flat ((items l m n).take k)).length ((flat ((items l m n).take k)).map (Value.int .u8)) ∧ Below w.heap.size w wr) (fun _ i _ => n - (intOf i).toNat)
    case atStart => exact ⟨0, by omega, rfl, by simpa [flat] using World.ownsRow_nil w1 _ _ _, h1⟩
    case round =>
      obtain ⟨k, k0, rfl, hown, hb⟩ := hrel
      by_cases hk : k < n
      · obtain ⟨b0, o0, rfl, q0, c0⟩ := lst_int (HL.out.below hb) (show k < l.length by have := HLen.out; omega)
        obtain ⟨b1, o1, rfl, q1, c1⟩ := lst_int (HM.out.below hb) (show k < m.length by have := HMen.out; omega)
        have fl := flat_len l m n k k0
        have ft := Lib.hid (items_take l m n k hk)
        obtain ⟨A, cp, hv, hA, hcp, hcp2⟩ := own_any hown
        subst hv
        have hsz := hb.size
        have HO := Lib.hid hown
        have HA := Lib.hid hA
        clear hown hA
        generalize hC : flat ((items l m n).take k) = C at *
        generalize hl0 : l.getD k 0 = x0 at *
        generalize hm0 : m.getD k 0 = y0 at *
        clear hC hl0 hm0
        have r0 := within_rng y0 8 (by omega)
        have kk : (k : Int) < n := by omega
        have g0 : (k : Int) < (len0 : Int) := by omega
        have g1 : (k : Int) < (len1 : Int) := by omega
        have kz : (0 : Int) ≤ (k : Int) := by omega
        go_wp2_with fail
        have wr1 : IntKind.i64.wrap (1 + y0 % 8) = 1 + y0 % 8 := IntWalk.i64_in _ (by omega)
        have CW := fun ww => (within1 y0 8 ww (by omega) (by omega)).mono fun e w' (h : _ ∧ _) => (⟨h.1, h.2.symm⟩ : e = Ending.returned (.int .i64 (y0 % 8)) ∧ w' = ww)
        refine wp_region_still_tail 11 (by kernel_rfl) (by kernel_rfl) ?_
        simp only [List.take_succ_cons, List.take_zero, List.drop_succ_cons, List.drop_zero]
        repeat still_step
        still_call (CW _)
        repeat still_step
        refine wpStill_nil ?_
        change wpList _ _ _ _ _ wr.drew
        have hb' : Below w.heap.size w wr.drew := below_drewN hb 1
        have HO' : Hid (wr.drew.ownsRow w.heap.size 5 1 (.slice A C.length cp) C.length (C.map (Value.int .u8))) := HO.out
        clear hb HO q0 q1 c0 c1
        generalize wr.drew = w2 at *
        go_wp2_with fail
        refine (put_in A C.length cp _ _ (1 + y0 % 8) x0 (by simp) HA.out (Lst.own HO'.out) (u8_one _) (by omega) (by omega)).mono ?_
        rintro e w3 ⟨v2, rfl, hown2, hb2⟩
        have hsz2 := hb'.size
        have hb3 := hb'.trans (hb2.mono hsz2)
        have hown3 : w3.ownsRow w.heap.size 5 1 v2 (flat ((items l m n).take (k + 1))).length ((flat ((items l m n).take (k + 1))).map (Value.int .u8)) := by
          rw [ft.out, List.length_append, putL_len, List.map_append]
          exact own_mono hown2 hsz2
        clear hb' hb2 hown2 HO' ft
        go_wp2
        go_roundw
        case rel => exact ⟨k + 1, by omega, by go_num, hown3, hb3⟩
        case measure => simp [intOf]; omega
      · have hkn : k = n := by omega
        have fl := flat_len l m n n (by omega)
        rw [hkn, List.take_of_length_le (by rw [items_len]; omega)] at hown
        rw [List.take_of_length_le (by rw [items_len]; omega)] at fl
        obtain ⟨A, cp, hv, hA, hcp, hcp2⟩ := own_any hown
        subst hv
        have hsz := hb.size
        have HO := Lib.hid hown
        have HA := Lib.hid hA
        obtain ⟨C, hC⟩ : ∃ C, flat (items l m n) = C := ⟨_, rfl⟩
        rw [hC] at HO HA fl
        rw [hC]
        have HC := Lib.hid hC
        clear hown hA hC hkn
        go_wp2_with fail
        refine (new_any A C.length cp C _ rfl HA.out (Lst.own HO.out) (by omega)).mono ?_
        rintro e w3 ⟨p, rfl, hr, hb3⟩
        have h3 := hb.trans (hb3.mono hsz)
        have P1 := Lib.hid hr.1
        clear hb3
        generalize hB : wr.heap.size = B at *
        go_wp2_with fail
        have HR0 : Hid (Rd w3 B p (flat ((items l m n).drop 0)) 0) := by
          rw [List.drop_zero, HC.out]; exact hr
        clear hr hb HO hB
        go_loopw [9] (fun i wr => ∃ k : Nat, k ≤ n ∧ i = .int .i64 k ∧ Rd wr B p (flat ((items l m n).drop k)) 0 ∧ Below w.heap.size w wr) (fun i _ => n - (intOf i).toNat)
        case atStart => exact ⟨0, by omega, rfl, HR0.out, h3⟩
        case round =>
          obtain ⟨k, k0, rfl, hr, hb⟩ := hrel
          by_cases hk : k < n
          · obtain ⟨b0, o0, rfl, q0, c0⟩ := lst_int (HL.out.below hb) (show k < l.length by have := HLen.out; omega)
            obtain ⟨b1, o1, rfl, q1, c1⟩ := lst_int (HM.out.below hb) (show k < m.length by have := HMen.out; omega)
            have hx0 := HBD.out (l.getD k 0) (by rw [List.getD_eq_getElem?_getD, List.getElem?_eq_getElem (by have := HLen.out; omega)]; exact List.getElem_mem _)
            have fd := Lib.hid (items_drop l m n k hk)
            have HR := Lib.hid hr
            clear hr HR0 h3
            generalize hl0 : l.getD k 0 = x0 at *
            generalize hm0 : m.getD k 0 = y0 at *
            clear hl0 hm0
            have r0 := within_rng y0 8 (by omega)
            go_wp2_with fail
            refine (within1 _ _ _ (by omega) (by omega)).mono ?_
            rintro e w' ⟨rfl, rfl⟩
            obtain ⟨s, hs, s0, s1⟩ : ∃ s : Nat, y0 % 8 = s ∧ 0 ≤ s ∧ s ≤ 7 := ⟨(y0 % 8).toNat, by omega, by omega, by omega⟩
            rw [hs] at fd ⊢
            clear hs r0
            have G : Hid (Calls Try.prog 21 #[.pointer (some ⟨p, 0, none⟩), .int .i64 (1 + (s : Int))] wr fun e w' => e = .returned (.int .i64 (if 1 + s < 8 then bits .and .i64 x0 (2 ^ (8 * (1 + s)) - 1) else x0)) ∧ Rd w' B p (flat ((items l m n).drop (k + 1))) 0 ∧ wr.grownBy w' (some p)) := by
              have e1 : (1 + (s : Int)).toNat = 1 + s := by omega
              have fe := fd.out
              rw [e1] at fe
              have fl2 : (flat ((items l m n).drop k)).length ≤ 160 := by
                have := congrArg List.length HC.out
                rw [← List.take_append_drop k (items l m n), flat, List.flatMap_append, List.length_append] at this
                show ((items l m n).drop k |>.flatMap fun p => putL p.1 p.2).length ≤ 160
                omega
              have g := get_yes (1 + s) HR.out (by omega) (by rw [fe, List.length_append, putL_len]; omega) (by omega) (flat_rng _)
              rw [show (((1 + s : Nat) : Int)) = 1 + (s : Int) from by omega] at g
              refine g.mono ?_
              rintro e w4 ⟨he, hr4, hg4⟩
              rw [fe, List.take_left' (putL_len _ _), got x0 (1 + s) (by omega) hx0] at he
              rw [fe, List.drop_left' (putL_len _ _)] at hr4
              exact ⟨he, hr4, hg4⟩
            clear fd HR hx0
            by_cases c8 : s = 7
            · rw [if_neg (by omega)] at G
              subst c8
              go_wp2_with fail
              refine G.out.mono ?_
              rintro e w4 ⟨rfl, hr4, hg4⟩
              have hb4 := hb.grown hg4 hb.size (by intro g hg; injection hg with hg; have := P1.out; omega)
              have HR4 := Lib.hid hr4
              clear hb hr4 hg4 G
              go_wp2
              go_roundw
              case rel => exact ⟨k + 1, by omega, by go_num, HR4.out, hb4⟩
              case measure => simp [intOf]; omega
            · have c9 : (s : Int) < 7 := by omega
              have mk : wrap64 (wrap64 ((2 : Int) ^ (8 * (1 + s))) - 1) = 2 ^ (8 * (1 + s)) - 1 := mask_in s (by omega)
              rw [if_pos (by omega), ← mk] at G
              clear mk
              go_wp2_with fail
              generalize bits BinOp.and IntKind.i64 x0 (wrap64 (wrap64 ((2 : Int) ^ (8 * (1 + s))) - 1)) = V at *
              go_wp2_with fail
              refine G.out.mono ?_
              rintro e w4 ⟨rfl, hr4, hg4⟩
              have hb4 := hb.grown hg4 hb.size (by intro g hg; injection hg with hg; have := P1.out; omega)
              have HR4 := Lib.hid hr4
              clear hb hr4 hg4 G
              go_wp2
              go_roundw
              case rel => exact ⟨k + 1, by omega, by go_num, HR4.out, hb4⟩
              case measure => simp [intOf]; omega
          · have hkn : k = n := by omega
            rw [hkn, List.drop_of_length_le (by rw [items_len]; omega)] at hr
            replace hr : Rd wr B p [] 0 := hr
            have HR := Lib.hid hr
            clear hr HR0 h3
            go_wp2_with fail
            refine (end_any HR.out (by simp)).mono ?_
            rintro e w4 ⟨he, d4⟩
            rw [show endE ([] : List Int).length 0 = 0 from rfl] at he
            subst he
            have hb4 := Drew.to hb d4
            have HR4 := Lib.hid (Rd.drew HR.out d4)
            clear hb d4 HR
            go_wp2_with fail
            refine (left_any HR4.out (by simp)).mono ?_
            rintro e w5 ⟨he, hw⟩
            rw [if_pos rfl] at he
            subst he hw
            go_wp2
            go_ret
            exact ⟨rfl, hb4⟩
  · obtain ⟨n, hn, n0, n1, n2⟩ : ∃ n : Nat, (n : Int) = 20 ∧ n ≤ len0 ∧ n ≤ len1 ∧ n ≤ 20 := ⟨20, rfl, by omega, by omega, by omega⟩
    have HN := Lib.hid hn
    clear hn
    go_enter Try.func5, Try.ntmps5
    go_wp2_with fail
    refine (known1 _).mono ?_
    rintro e w1 ⟨rfl, h1⟩
    go_wp2_with fail
    rw [← HN.out]
    go_loopw [5, 7] (fun v i wr => ∃ k : Nat, k ≤ n ∧ i = .int .i64 k ∧ wr.ownsRow w.heap.size 5 1 v (flat ((items l m n).take k)).length ((flat ((items l m n).take k)).map (Value.int .u8)) ∧ Below w.heap.size w wr) (fun _ i _ => n - (intOf i).toNat)
    case atStart => exact ⟨0, by omega, rfl, by simpa [flat] using World.ownsRow_nil w1 _ _ _, h1⟩
    case round =>
      obtain ⟨k, k0, rfl, hown, hb⟩ := hrel
      by_cases hk : k < n
      · obtain ⟨b0, o0, rfl, q0, c0⟩ := lst_int (HL.out.below hb) (show k < l.length by have := HLen.out; omega)
        obtain ⟨b1, o1, rfl, q1, c1⟩ := lst_int (HM.out.below hb) (show k < m.length by have := HMen.out; omega)
        have fl := flat_len l m n k k0
        have ft := Lib.hid (items_take l m n k hk)
        obtain ⟨A, cp, hv, hA, hcp, hcp2⟩ := own_any hown
        subst hv
        have hsz := hb.size
        have HO := Lib.hid hown
        have HA := Lib.hid hA
        clear hown hA
        generalize hC : flat ((items l m n).take k) = C at *
        generalize hl0 : l.getD k 0 = x0 at *
        generalize hm0 : m.getD k 0 = y0 at *
        clear hC hl0 hm0
        have r0 := within_rng y0 8 (by omega)
        have kk : (k : Int) < n := by omega
        have g0 : (k : Int) < (len0 : Int) := by omega
        have g1 : (k : Int) < (len1 : Int) := by omega
        have kz : (0 : Int) ≤ (k : Int) := by omega
        go_wp2_with fail
        have wr1 : IntKind.i64.wrap (1 + y0 % 8) = 1 + y0 % 8 := IntWalk.i64_in _ (by omega)
        have CW := fun ww => (within1 y0 8 ww (by omega) (by omega)).mono fun e w' (h : _ ∧ _) => (⟨h.1, h.2.symm⟩ : e = Ending.returned (.int .i64 (y0 % 8)) ∧ w' = ww)
        refine wp_region_still_tail 11 (by kernel_rfl) (by kernel_rfl) ?_
        simp only [List.take_succ_cons, List.take_zero, List.drop_succ_cons, List.drop_zero]
        repeat still_step
        still_call (CW _)
        repeat still_step
        refine wpStill_nil ?_
        change wpList _ _ _ _ _ wr.drew
        have hb' : Below w.heap.size w wr.drew := below_drewN hb 1
        have HO' : Hid (wr.drew.ownsRow w.heap.size 5 1 (.slice A C.length cp) C.length (C.map (Value.int .u8))) := HO.out
        clear hb HO q0 q1 c0 c1
        generalize wr.drew = w2 at *
        go_wp2_with fail
        refine (put_in A C.length cp _ _ (1 + y0 % 8) x0 (by simp) HA.out (Lst.own HO'.out) (u8_one _) (by omega) (by omega)).mono ?_
        rintro e w3 ⟨v2, rfl, hown2, hb2⟩
        have hsz2 := hb'.size
        have hb3 := hb'.trans (hb2.mono hsz2)
        have hown3 : w3.ownsRow w.heap.size 5 1 v2 (flat ((items l m n).take (k + 1))).length ((flat ((items l m n).take (k + 1))).map (Value.int .u8)) := by
          rw [ft.out, List.length_append, putL_len, List.map_append]
          exact own_mono hown2 hsz2
        clear hb' hb2 hown2 HO' ft
        go_wp2
        go_roundw
        case rel => exact ⟨k + 1, by omega, by go_num, hown3, hb3⟩
        case measure => simp [intOf]; omega
      · have hkn : k = n := by omega
        have fl := flat_len l m n n (by omega)
        rw [hkn, List.take_of_length_le (by rw [items_len]; omega)] at hown
        rw [List.take_of_length_le (by rw [items_len]; omega)] at fl
        obtain ⟨A, cp, hv, hA, hcp, hcp2⟩ := own_any hown
        subst hv
        have hsz := hb.size
        have HO := Lib.hid hown
        have HA := Lib.hid hA
        obtain ⟨C, hC⟩ : ∃ C, flat (items l m n) = C := ⟨_, rfl⟩
        rw [hC] at HO HA fl
        rw [hC]
        have HC := Lib.hid hC
        clear hown hA hC hkn
        go_wp2_with fail
        refine (new_any A C.length cp C _ rfl HA.out (Lst.own HO.out) (by omega)).mono ?_
        rintro e w3 ⟨p, rfl, hr, hb3⟩
        have h3 := hb.trans (hb3.mono hsz)
        have P1 := Lib.hid hr.1
        clear hb3
        generalize hB : wr.heap.size = B at *
        go_wp2_with fail
        have HR0 : Hid (Rd w3 B p (flat ((items l m n).drop 0)) 0) := by
          rw [List.drop_zero, HC.out]; exact hr
        clear hr hb HO hB
        go_loopw [9] (fun i wr => ∃ k : Nat, k ≤ n ∧ i = .int .i64 k ∧ Rd wr B p (flat ((items l m n).drop k)) 0 ∧ Below w.heap.size w wr) (fun i _ => n - (intOf i).toNat)
        case atStart => exact ⟨0, by omega, rfl, HR0.out, h3⟩
        case round =>
          obtain ⟨k, k0, rfl, hr, hb⟩ := hrel
          by_cases hk : k < n
          · obtain ⟨b0, o0, rfl, q0, c0⟩ := lst_int (HL.out.below hb) (show k < l.length by have := HLen.out; omega)
            obtain ⟨b1, o1, rfl, q1, c1⟩ := lst_int (HM.out.below hb) (show k < m.length by have := HMen.out; omega)
            have hx0 := HBD.out (l.getD k 0) (by rw [List.getD_eq_getElem?_getD, List.getElem?_eq_getElem (by have := HLen.out; omega)]; exact List.getElem_mem _)
            have fd := Lib.hid (items_drop l m n k hk)
            have HR := Lib.hid hr
            clear hr HR0 h3
            generalize hl0 : l.getD k 0 = x0 at *
            generalize hm0 : m.getD k 0 = y0 at *
            clear hl0 hm0
            have r0 := within_rng y0 8 (by omega)
            go_wp2_with fail
            refine (within1 _ _ _ (by omega) (by omega)).mono ?_
            rintro e w' ⟨rfl, rfl⟩
            obtain ⟨s, hs, s0, s1⟩ : ∃ s : Nat, y0 % 8 = s ∧ 0 ≤ s ∧ s ≤ 7 := ⟨(y0 % 8).toNat, by omega, by omega, by omega⟩
            rw [hs] at fd ⊢
            clear hs r0
            have G : Hid (Calls Try.prog 21 #[.pointer (some ⟨p, 0, none⟩), .int .i64 (1 + (s : Int))] wr fun e w' => e = .returned (.int .i64 (if 1 + s < 8 then bits .and .i64 x0 (2 ^ (8 * (1 + s)) - 1) else x0)) ∧ Rd w' B p (flat ((items l m n).drop (k + 1))) 0 ∧ wr.grownBy w' (some p)) := by
              have e1 : (1 + (s : Int)).toNat = 1 + s := by omega
              have fe := fd.out
              rw [e1] at fe
              have fl2 : (flat ((items l m n).drop k)).length ≤ 160 := by
                have := congrArg List.length HC.out
                rw [← List.take_append_drop k (items l m n), flat, List.flatMap_append, List.length_append] at this
                show ((items l m n).drop k |>.flatMap fun p => putL p.1 p.2).length ≤ 160
                omega
              have g := get_yes (1 + s) HR.out (by omega) (by rw [fe, List.length_append, putL_len]; omega) (by omega) (flat_rng _)
              rw [show (((1 + s : Nat) : Int)) = 1 + (s : Int) from by omega] at g
              refine g.mono ?_
              rintro e w4 ⟨he, hr4, hg4⟩
              rw [fe, List.take_left' (putL_len _ _), got x0 (1 + s) (by omega) hx0] at he
              rw [fe, List.drop_left' (putL_len _ _)] at hr4
              exact ⟨he, hr4, hg4⟩
            clear fd HR hx0
            by_cases c8 : s = 7
            · rw [if_neg (by omega)] at G
              subst c8
              go_wp2_with fail
              refine G.out.mono ?_
              rintro e w4 ⟨rfl, hr4, hg4⟩
              have hb4 := hb.grown hg4 hb.size (by intro g hg; injection hg with hg; have := P1.out; omega)
              have HR4 := Lib.hid hr4
              clear hb hr4 hg4 G
              go_wp2
              go_roundw
              case rel => exact ⟨k + 1, by omega, by go_num, HR4.out, hb4⟩
              case measure => simp [intOf]; omega
            · have c9 : (s : Int) < 7 := by omega
              have mk : wrap64 (wrap64 ((2 : Int) ^ (8 * (1 + s))) - 1) = 2 ^ (8 * (1 + s)) - 1 := mask_in s (by omega)
              rw [if_pos (by omega), ← mk] at G
              clear mk
              go_wp2_with fail
              generalize bits BinOp.and IntKind.i64 x0 (wrap64 (wrap64 ((2 : Int) ^ (8 * (1 + s))) - 1)) = V at *
              go_wp2_with fail
              refine G.out.mono ?_
              rintro e w4 ⟨rfl, hr4, hg4⟩
              have hb4 := hb.grown hg4 hb.size (by intro g hg; injection hg with hg; have := P1.out; omega)
              have HR4 := Lib.hid hr4
              clear hb hr4 hg4 G
              go_wp2
              go_roundw
              case rel => exact ⟨k + 1, by omega, by go_num, HR4.out, hb4⟩
              case measure => simp [intOf]; omega
          · have hkn : k = n := by omega
            rw [hkn, List.drop_of_length_le (by rw [items_len]; omega)] at hr
            replace hr : Rd wr B p [] 0 := hr
            have HR := Lib.hid hr
            clear hr HR0 h3
            go_wp2_with fail
            refine (end_any HR.out (by simp)).mono ?_
            rintro e w4 ⟨he, d4⟩
            rw [show endE ([] : List Int).length 0 = 0 from rfl] at he
            subst he
            have hb4 := Drew.to hb d4
            have HR4 := Lib.hid (Rd.drew HR.out d4)
            clear hb d4 HR
            go_wp2_with fail
            refine (left_any HR4.out (by simp)).mono ?_
            rintro e w5 ⟨he, hw⟩
            rw [if_pos rfl] at he
            subst he hw
            go_wp2
            go_ret
            exact ⟨rfl, hb4⟩
end Go.Proofs.Ytcpgfekldkbcbaa
