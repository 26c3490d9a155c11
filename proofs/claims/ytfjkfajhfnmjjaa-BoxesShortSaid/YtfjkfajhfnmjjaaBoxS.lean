/- Package boxes: BoxesShort, walked. -/
import Derived.Test.YtfjkfajhfnmjjaaBoxP
set_option linter.unusedVariables false
set_option linter.unusedSimpArgs false
namespace Go.Proofs.Ytfjkfajhfnmjjaa
open Go.RowKit Go.Shelf
attribute [local go_sem ↓] appSem_eq
def cOf : Res → Int
  | .bad c => c
  | .good _ => 0
theorem rdF_app (pre : List (List Int × List Int)) : ∀ r, cOf (Res.app pre r) = cOf r
  | .bad _ => rfl
  | .good _ => rfl
def abcd : List Int := [97, 98, 99, 100]
theorem parts {m : Int} {kd r : List Int} (hk : kd.length = 4) : (putL m 4 ++ kd ++ r).length = 8 + r.length ∧ (putL m 4 ++ kd ++ r).take 4 = putL m 4 ∧ ((putL m 4 ++ kd ++ r).drop 4).take 4 = kd ∧ (putL m 4 ++ kd ++ r).drop 8 = r := by
  have h4 := putL_len m 4
  exact ⟨by rw [List.length_append, List.length_append]; omega, by rw [List.append_assoc]; exact List.take_left' h4, by rw [List.append_assoc, List.drop_left' h4]; exact List.take_left' hk, List.drop_left' (by rw [List.length_append]; omega)⟩
theorem c_err {S : List Int} {c : Int} (h0 : S ≠ []) (h : nxt S = .err c) : cOf (rdF (S.length + 1) 0 S) = c := by
  rw [rdF, if_neg h0, h]
  rfl
theorem c_box {S k d : List Int} (h0 : S ≠ []) (h : nxt S = .box k d []) : cOf (rdF (S.length + 1) 0 S) = 0 := by
  rw [rdF, if_neg h0, h]
  simp only
  rw [if_neg (by omega), rdF_app]
  obtain ⟨j, hj⟩ : ∃ j, S.length = j + 1 := ⟨S.length - 1, by have := List.length_pos_iff.2 h0; omega⟩
  rw [hj, rdF, if_pos rfl]
  rfl
theorem habcd : ∀ x ∈ abcd, 0 ≤ x ∧ x ≤ 255 := by decide
theorem ne_of {S : List Int} (h : 0 < S.length) : S ≠ [] := List.length_pos_iff.1 h
/-- A box with a short length. -/
theorem short_s {n : Nat} {d : List Int} (h2 : 2 ≤ n) (hn : n ≤ 1000) :
    (n < 8 → cOf (rdF ((putL n 4 ++ abcd ++ d).length + 1) 0 (putL n 4 ++ abcd ++ d)) = 15) ∧ (8 + d.length < n → cOf (rdF ((putL n 4 ++ abcd ++ d).length + 1) 0 (putL n 4 ++ abcd ++ d)) = 8) ∧ (n = 8 + d.length → cOf (rdF ((putL n 4 ++ abcd ++ d).length + 1) 0 (putL n 4 ++ abcd ++ d)) = 0) := by
  obtain ⟨p1, p2, p3, p4⟩ := parts (m := (n : Int)) (kd := abcd) (r := d) rfl
  have h0 : putL (n : Int) 4 ++ abcd ++ d ≠ [] := ne_of (by omega)
  have hx : nxt (putL (n : Int) 4 ++ abcd ++ d) = nxtB n 8 abcd d := by
    unfold nxt
    rw [if_neg (by omega), p2, p3, p4, numL_put n (by omega), if_neg (by omega), if_neg (by omega)]
  refine ⟨fun h => c_err h0 ?_, fun h => c_err h0 ?_, fun h => c_box (k := abcd) (d := d) h0 ?_⟩
  · rw [hx]; unfold nxtB; rw [if_neg (by omega), if_pos (by omega)]
  · rw [hx]; unfold nxtB; rw [if_neg (by omega), if_neg (by omega), if_pos (by omega)]
  · rw [hx]; unfold nxtB; rw [if_neg (by omega), if_neg (by omega), if_neg (by omega), show ((n : Int) - (8 : Nat)).toNat = d.length by omega, List.take_length, List.drop_length]
theorem num_put8 (n : Nat) (hn : n ≤ 1000) : num (putL (n : Int) 8) = n := by
  have e : putL (n : Int) 8 = [(n : Int) / 72057594037927936 % 256, (n : Int) / 281474976710656 % 256, (n : Int) / 1099511627776 % 256, (n : Int) / 4294967296 % 256, (n : Int) / 16777216 % 256, (n : Int) / 65536 % 256, (n : Int) / 256 % 256, (n : Int) / 1 % 256] := rfl
  have z : putL (n : Int) 8 = [0, 0, 0, 0, 0, 0, (n : Int) / 256, (n : Int) % 256] := by
    rw [e]
    rw [show (n : Int) / 72057594037927936 % 256 = 0 by omega, show (n : Int) / 281474976710656 % 256 = 0 by omega, show (n : Int) / 1099511627776 % 256 = 0 by omega, show (n : Int) / 4294967296 % 256 = 0 by omega, show (n : Int) / 16777216 % 256 = 0 by omega, show (n : Int) / 65536 % 256 = 0 by omega, show (n : Int) / 256 % 256 = (n : Int) / 256 by omega, show (n : Int) / 1 % 256 = (n : Int) % 256 by omega]
  have e2 : numL 0 (putL (n : Int) 8) = n := by
    rw [z]
    show (0 * 256 % 18446744073709551616 + (n : Int) / 256) * 256 % 18446744073709551616 + (n : Int) % 256 = n
    omega
  unfold num
  rw [e2]
  exact IntWalk.wrap64_in _ (by omega)
/-- A box with a long length. -/
theorem short_b {n : Nat} {d : List Int} (hn : n ≤ 1000) :
    (n < 16 → cOf (rdF ((putL 1 4 ++ abcd ++ putL n 8 ++ d).length + 1) 0 (putL 1 4 ++ abcd ++ putL n 8 ++ d)) = 15) ∧ (16 + d.length < n → cOf (rdF ((putL 1 4 ++ abcd ++ putL n 8 ++ d).length + 1) 0 (putL 1 4 ++ abcd ++ putL n 8 ++ d)) = 8) ∧ (n = 16 + d.length → cOf (rdF ((putL 1 4 ++ abcd ++ putL n 8 ++ d).length + 1) 0 (putL 1 4 ++ abcd ++ putL n 8 ++ d)) = 0) := by
  obtain ⟨p1, p2, p3, p4⟩ := parts (m := 1) (kd := abcd) (r := putL (n : Int) 8 ++ d) rfl
  rw [← List.append_assoc] at p1 p2 p3 p4
  have q1 : (putL (n : Int) 8 ++ d).length = 8 + d.length := by rw [List.length_append, putL_len]
  rw [q1] at p1
  have h0 : putL 1 4 ++ abcd ++ putL (n : Int) 8 ++ d ≠ [] := ne_of (by omega)
  have p5 : (putL 1 4 ++ abcd ++ putL (n : Int) 8 ++ d).drop 16 = d := List.drop_left' (by simp only [List.length_append, putL_len]; rfl)
  have hx : nxt (putL 1 4 ++ abcd ++ putL (n : Int) 8 ++ d) = nxtB n 16 abcd d := by
    unfold nxt
    rw [if_neg (by omega), p2, p3, p4, p5, numL_put 1 (by omega), if_neg (by omega), if_pos rfl, if_neg (by omega), List.take_left' (putL_len _ _), num_put8 n hn]
  refine ⟨fun h => c_err h0 ?_, fun h => c_err h0 ?_, fun h => c_box (k := abcd) (d := d) h0 ?_⟩
  · rw [hx]; unfold nxtB; rw [if_neg (by omega), if_pos (by omega)]
  · rw [hx]; unfold nxtB; rw [if_neg (by omega), if_neg (by omega), if_pos (by omega)]
  · rw [hx]; unfold nxtB; rw [if_neg (by omega), if_neg (by omega), if_neg (by omega), show ((n : Int) - (16 : Nat)).toNat = d.length by omega, List.take_length, List.drop_length]
set_option maxRecDepth 100000 in
set_option maxHeartbeats 4000000 in
theorem walk_boxesShort (a0 : Int) (b1 : Bool) (a2 : Option Addr) (len2 cap2 : Nat) (z2 : List Int) (w : World) (w0 : (Lit.int .i64 a0).wf = true) (w2 : IsRow .u8 w a2 len2 cap2 z2) :
    Calls Try.prog 6 #[.int .i64 a0, .bool b1, .slice a2 len2 cap2] w fun e w' => e = .returned (.bool true) ∧ Below w.heap.size w w' := by
  have hbd0 := bd_i64 w0
  have hl := lst_of_row w2
  obtain ⟨hlen, hlc, hcm, hnil⟩ := row_len w2
  have hb8 := row_u8 w2
  clear w0 w2
  generalize hz : z2.take len2 = l at *
  clear hz
  unfold maxLen at hcm
  have HL := Lib.hid hl
  have HLen := Lib.hid hlen
  have HNil := Lib.hid hnil
  have HB8 := Lib.hid hb8
  clear hl hlen hnil hb8
  have K := Lib.hid (fun u => known20 u)
  by_cases hc : len2 ≤ 100
  · have h2 : ¬ (100 : Int) < (len2 : Int) := by omega
    go_enter Try.func6, Try.ntmps6
    go_wp2_with fail
    refine (K.out _).mono ?_
    rintro e u0 ⟨rfl, hb⟩
    have HB := Lib.hid hb
    clear hb K
    go_wp2_with fail
    refine (some20 _ 300 _ (by omega) (by omega)).mono ?_
    rintro e w' ⟨rfl, rfl⟩
    obtain ⟨n, hm0⟩ : ∃ n : Nat, modN a0 300 = n := ⟨_, rfl⟩
    have hn8 : n < 300 := by rw [← hm0]; exact (modN_lt a0 300 (by omega)).1
    rw [hm0]
    clear hm0 hbd0
    have rest : ∀ (v : Value) (W : World) (X : List Int) (m : Nat), X.length = m → W.ownsRow w.heap.size 5 1 v m (X.map (Value.int .u8)) → Below w.heap.size w W → m ≤ 300 → (∀ x ∈ X, 0 ≤ x ∧ x ≤ 255) →
        ∃ v' w', (appSem #[24, 24] 24 #[v, .slice a2 len2 cap2]).run Try.prog W = .ok v' w' ∧ Calls Try.prog 11 #[v'] w' fun e w'' => Below w.heap.size w w'' ∧ ∃ V, e = .returned (.tuple #[V, .int .i64 (cOf (rdF ((X ++ l).length + 1) 0 (X ++ l)))]) := fun v W X m hXm ho hb hx hX => by
      have hlL := HLen.out
      obtain ⟨v', w', r1, o1, g1⟩ := app_lst ho HLen.out HNil.out (HL.out.below hb) hb.size (by omega)
      have hb' := hb.grown g1 hb.size (fun k e => (own_lt ho e).1)
      obtain ⟨A', c', rfl, hA', _⟩ := own_any o1
      refine ⟨_, w', r1, ?_⟩
      have hXl : (X ++ l).length = m + len2 := by rw [List.length_append, hlL, hXm]
      refine (read_any A' _ c' (X ++ l) w' hXl hA' (Lst.own o1) (by omega) (fun x hx => by
        rcases List.mem_append.1 hx with h | h
        · exact hX x h
        · exact HB8.out x h)).mono ?_
      rintro e w'' ⟨h1, h2⟩
      refine ⟨hb'.trans (h1.mono hb'.size), ?_⟩
      cases hR : rdF ((X ++ l).length + 1) 0 (X ++ l) with
      | bad c => rw [hR] at h2; exact ⟨_, h2⟩
      | good g => rw [hR] at h2; obtain ⟨V, h3, _⟩ := h2; exact ⟨V, h3⟩
    have RST := Lib.hid rest
    have HST : Hid ((ByteArray.mk #[97, 98, 99, 100]) = strOf abcd) := Lib.hid rfl
    clear rest
    have CP := Lib.hid (fun (m : Int) => rp_any (m := m) (size := 4) (X := []) (n := 0) (v := .slice none 0 0) (World.ownsRow_nil u0 w.heap.size 5 1) HB.out.size (by omega) (by omega))
    go_wp2_with fail
    refine (CP.out _).mono ?_
    rintro e u1 ⟨v1, rfl, ho1, hb1⟩
    have HB1 := Lib.hid (HB.out.trans hb1)
    obtain ⟨v2, u2, r2, o2, g2⟩ := app_str (L := abcd) ho1 (by decide) HB1.out.size (by decide)
    rw [← HST.out] at r2
    have hb2 := HB1.out.grown g2 HB1.out.size (fun k e => (own_lt ho1 e).1)
    have HO2 := Lib.hid (And.intro o2 hb2)
    clear ho1 hb1 o2 g2 hb2 CP
    cases b1 with
    | false =>
      by_cases h01 : n = 0 ∨ n = 1
      · rcases h01 with rfl | rfl
        all_goals
          go_wp2
          go_ret
          exact ⟨rfl, HO2.out.2⟩
      · have e0 : ((n : Int) == 0) = false := by simp; omega
        have e1 : ((n : Int) == 1) = false := by simp; omega
        obtain ⟨o2, hb2⟩ := HO2.out
        obtain ⟨v3, u3, r3, CR⟩ := RST.out v2 u2 (putL n 4 ++ abcd) 8 rfl o2 hb2 (by omega) (fun x hx => by
          rcases List.mem_append.1 hx with h | h
          · exact putL_bytes _ _ x h
          · exact habcd x h)
        clear o2 hb2 HO2 HB1 RST
        have SP := Lib.hid (short_s (n := n) (d := l) (by omega) (by omega))
        have CR := Lib.hid CR
        rcases (by omega : n < 8 ∨ (8 ≤ n ∧ 8 + len2 < n) ∨ (8 ≤ n ∧ n = 8 + len2) ∨ (8 ≤ n ∧ n < 8 + len2)) with hk | ⟨hk0, hk⟩ | ⟨hk0, hk⟩ | ⟨hk0, hk⟩
        · have i1 : (n : Int) < 8 := by omega
          rw [SP.out.1 hk] at CR
          clear SP hk
          go_wp2_with fail
          refine CR.out.mono ?_
          rintro e w9 ⟨hb9, V9, rfl⟩
          have HB9 := Lib.hid hb9
          clear hb9 CR
          go_wp2
          all_goals
            go_ret
            exact ⟨rfl, HB9.out⟩
        · have i1 : ¬ (n : Int) < 8 := by omega
          have i2 : (8 : Int) + (len2 : Int) < (n : Int) := by omega
          rw [SP.out.2.1 (by rw [HLen.out]; omega)] at CR
          clear SP hk
          go_wp2_with fail
          refine CR.out.mono ?_
          rintro e w9 ⟨hb9, V9, rfl⟩
          have HB9 := Lib.hid hb9
          clear hb9 CR
          go_wp2
          all_goals
            go_ret
            exact ⟨rfl, HB9.out⟩
        · have i1 : ¬ (n : Int) < 8 := by omega
          have i2 : ¬ (8 : Int) + (len2 : Int) < (n : Int) := by omega
          rw [SP.out.2.2 (by rw [HLen.out]; omega)] at CR
          clear SP hk
          go_wp2_with fail
          refine CR.out.mono ?_
          rintro e w9 ⟨hb9, V9, rfl⟩
          have HB9 := Lib.hid hb9
          clear hb9 CR
          go_wp2
          all_goals
            go_ret
            exact ⟨rfl, HB9.out⟩
        · have i1 : ¬ (n : Int) < 8 := by omega
          have i2 : ¬ (8 : Int) + (len2 : Int) < (n : Int) := by omega
          have i3 : ((n : Int) == 8 + (len2 : Int)) = false := by simp; omega
          generalize cOf _ = cc at CR
          clear SP hk
          go_wp2_with fail
          refine CR.out.mono ?_
          rintro e w9 ⟨hb9, V9, rfl⟩
          have HB9 := Lib.hid hb9
          clear hb9 CR
          go_wp2
          all_goals
            go_ret
            exact ⟨rfl, HB9.out⟩
    | true =>
      obtain ⟨_, hb2⟩ := HO2.out
      have CP2 := Lib.hid (fun (m : Int) => rp_any (m := m) (size := 4) (X := []) (n := 0) (v := .slice none 0 0) (World.ownsRow_nil u2 w.heap.size 5 1) hb2.size (by omega) (by omega))
      clear HO2 HB1
      go_wp2_with fail
      refine (CP2.out _).mono ?_
      rintro e u3 ⟨v3, rfl, ho3, hb3⟩
      replace hb3 := hb2.trans hb3
      obtain ⟨v4, u4, r4, o4, g4⟩ := app_str (L := abcd) ho3 (by decide) hb3.size (by decide)
      rw [← HST.out] at r4
      have hb4 := hb3.grown g4 hb3.size (fun k e => (own_lt ho3 e).1)
      have CP3 := Lib.hid (rp_any (m := (n : Int)) (size := 8) (X := putL 1 4 ++ abcd) (n := 8) (v := v4) o4 hb4.size (by omega) (by omega))
      have HB4 := Lib.hid hb4
      clear hb2 ho3 hb3 o4 g4 hb4 CP2
      go_wp2_with fail
      refine CP3.out.mono ?_
      rintro e u5 ⟨v5, rfl, ho5, hb5⟩
      obtain ⟨v6, u6, r6, CR⟩ := RST.out v5 u5 (putL 1 4 ++ abcd ++ putL n 8) 16 rfl ho5 (HB4.out.trans hb5) (by omega) (fun x hx => by
        rcases List.mem_append.1 hx with h | h
        · rcases List.mem_append.1 h with h | h
          · exact putL_bytes _ _ x h
          · exact habcd x h
        · exact putL_bytes _ _ x h)
      clear ho5 hb5 CP3 HB4 RST
      have SP := Lib.hid (short_b (n := n) (d := l) (by omega))
      have CR := Lib.hid CR
      rcases (by omega : n < 16 ∨ (16 ≤ n ∧ 16 + len2 < n) ∨ (16 ≤ n ∧ n = 16 + len2) ∨ (16 ≤ n ∧ n < 16 + len2)) with hk | ⟨hk0, hk⟩ | ⟨hk0, hk⟩ | ⟨hk0, hk⟩
      · have i1 : (n : Int) < 16 := by omega
        rw [SP.out.1 hk] at CR
        clear SP hk
        go_wp2_with fail
        refine CR.out.mono ?_
        rintro e w9 ⟨hb9, V9, rfl⟩
        have HB9 := Lib.hid hb9
        clear hb9 CR
        go_wp2
        all_goals
          go_ret
          exact ⟨rfl, HB9.out⟩
      · have i1 : ¬ (n : Int) < 16 := by omega
        have i2 : (16 : Int) + (len2 : Int) < (n : Int) := by omega
        rw [SP.out.2.1 (by rw [HLen.out]; omega)] at CR
        clear SP hk
        go_wp2_with fail
        refine CR.out.mono ?_
        rintro e w9 ⟨hb9, V9, rfl⟩
        have HB9 := Lib.hid hb9
        clear hb9 CR
        go_wp2
        all_goals
          go_ret
          exact ⟨rfl, HB9.out⟩
      · have i1 : ¬ (n : Int) < 16 := by omega
        have i2 : ¬ (16 : Int) + (len2 : Int) < (n : Int) := by omega
        rw [SP.out.2.2 (by rw [HLen.out]; omega)] at CR
        clear SP hk
        go_wp2_with fail
        refine CR.out.mono ?_
        rintro e w9 ⟨hb9, V9, rfl⟩
        have HB9 := Lib.hid hb9
        clear hb9 CR
        go_wp2
        all_goals
          go_ret
          exact ⟨rfl, HB9.out⟩
      · have i1 : ¬ (n : Int) < 16 := by omega
        have i2 : ¬ (16 : Int) + (len2 : Int) < (n : Int) := by omega
        have i3 : ((n : Int) == 16 + (len2 : Int)) = false := by simp; omega
        generalize cOf _ = cc at CR
        clear SP hk
        go_wp2_with fail
        refine CR.out.mono ?_
        rintro e w9 ⟨hb9, V9, rfl⟩
        have HB9 := Lib.hid hb9
        clear hb9 CR
        go_wp2
        all_goals
          go_ret
          exact ⟨rfl, HB9.out⟩
  · have h2 : (100 : Int) < (len2 : Int) := by omega
    go_enter Try.func6, Try.ntmps6
    go_wp2_with fail
    refine (K.out _).mono ?_
    rintro e u0 ⟨rfl, hb⟩
    have HB := Lib.hid hb
    clear hb K
    go_wp2
    go_ret
    exact ⟨rfl, HB.out⟩
end Go.Proofs.Ytfjkfajhfnmjjaa
