/- boxes: the reference's Read by its contract. -/
import Derived.Test.YtfjkfajhfnmjjaaBoxV
import Derived.Deep.LoopGhost
import Derived.Deep.CutRange
set_option linter.unusedVariables false
set_option linter.unusedSimpArgs false
namespace Go.Proofs.Ytfjkfajhfnmjjaa
open Go.RowKit
attribute [local go_sem ↓] appSem_eq
set_option maxRecDepth 100000
def RdR (B : Nat) (w : World) (R : Res) (e : Ending) (w' : World) : Prop := Below B w w' ∧ match R with
  | .bad c => e = .returned (.tuple #[.slice none 0 0, .int .i64 c])
  | .good l => ∃ V, e = .returned (.tuple #[V, .int .i64 0]) ∧ BoxQ w' B V l
theorem qget_num {w wr w1 : World} {B q b o k m c : Nat} {V : Value} {pre : List (List Int × List Int)} {F : List Int} (hB : Below B w wr) (hBw : B ≤ w.heap.size) (hq : wr.heap.size ≤ q) (hQ1 : Qr w1 q (some ⟨b, o + k, none⟩) c m 0 0) (hb1 : Below wr.heap.size wr w1) (hl : Lst w1 B (some ⟨b, o + k, none⟩) (F.map (Value.int .u8))) (hF : F.length = m) (hby : ∀ x ∈ F, 0 ≤ x ∧ x ≤ 255) (hm : 1 ≤ m ∧ m ≤ 8 ∧ m ≤ c ∧ c ≤ maxLen) (HQ : BoxQ wr B V pre) :
    Calls Try.prog 19 #[.pointer (some ⟨q, 0, none⟩), .int .i64 (m : Int)] w1 fun e w' => e = .returned (.int .i64 (num F)) ∧ ∃ w'', w' = w'' ∧ Below B w w'' ∧ BoxQ w'' B V pre := by
  have hs := hB.size
  have hB1 := hB.trans (hb1.mono (Nat.le_trans hBw hs))
  refine (qget_yes (m := m) (P := 0) (by intro h; cases h) hQ1 hF (hl.more (by omega)) hm.2.2.1 hm.2.2.2 (by omega) (by omega) hm.1 hm.2.1 hby).mono ?_
  rintro e w' ⟨he, _, ho⟩
  have hb1s := hb1.size
  refine ⟨?_, w', rfl, hB1.trans (ho.below fun k hk => ?_), ?_⟩
  · rw [he]
    unfold num
    rw [List.drop_zero, List.take_of_length_le (by omega)]
  · rcases hk with rfl | hk
    · omega
    · omega
  · exact HQ.below (hb1.trans (ho.below (lo := wr.heap.size) fun k hk => by
      rcases hk with rfl | hk
      · exact hq
      · omega))
theorem BoxQ.ge {w : World} {q : Nat} {V : Value} {bs : List (List Int × List Int)} (h : BoxQ w q V bs) {k : Nat} (e : V.ownBlock = some k) : q ≤ k := by
  obtain ⟨its, _, h2, _⟩ := h.ex
  exact (own_lt h2 e).1
set_option maxHeartbeats 8000000 in
set_option pp.deepTerms true in
set_option pp.maxSteps 10000000 in
theorem rread_any (A0 : Option Addr) (len cap : Nat) (bs : List Int) (w : World) (hbl : bs.length = len) (hA : A0 = none → len = 0 ∧ cap = 0) (hL : Lst w w.heap.size A0 (bs.map (Value.int .u8))) (hlen : len ≤ 100000) (hby : ∀ x ∈ bs, 0 ≤ x ∧ x ≤ 255) (hlc : len ≤ cap) (hcm : cap ≤ maxLen) :
    Calls Try.prog 14 #[.slice A0 len cap] w fun e w' => RdR w.heap.size w (rdF (bs.length + 1) 0 bs) e w' := by
  obtain ⟨R, hR⟩ : ∃ R, rdF (bs.length + 1) 0 bs = R := ⟨_, rfl⟩
  rw [hR]
  have R0 : Hid (RS R [] bs) := Lib.hid ⟨⟨by omega, by simp⟩, hby, _, Nat.lt_succ_self _, by rw [Res.app_nil]; exact hR.symm⟩
  have HL := Lib.hid hL
  have HBL := Lib.hid hbl
  unfold maxLen at hcm
  clear hR hL hbl hby hA
  go_enter Try.func14, Try.ntmps14
  go_wp2_with fail
  go_loopg [4, 5] len (fun g v4 v5 wr => ∃ (i : Nat) (pre : List (List Int × List Int)), i + g = len ∧ v5 = .int .i64 (i : Int) ∧ Hid (BoxQ wr w.heap.size v4 pre) ∧ Hid (Below w.heap.size w wr) ∧ Hid (RS R pre (bs.drop i)))
  case atStart => exact ⟨0, [], by omega, rfl, Lib.hid ⟨[], rfl, World.ownsRow_nil _ _ _ _, by simp⟩, Lib.hid (Below.refl _ _), R0⟩
  case round =>
    obtain ⟨i, pre, hig, rfl, HQ, HB, HR⟩ := hrel
    obtain ⟨va, vc, rfl⟩ := HQ.out.len
    obtain ⟨pl, hpl⟩ : ∃ pl, pre.length = pl := ⟨_, rfl⟩
    have hpb : pl ≤ 100 := by rw [← hpl]; exact HR.out.len.2
    rw [hpl] at HQ ⊢
    have HPL := Lib.hid hpl
    clear hpl
    by_cases hlt : i < len
    · obtain ⟨r, hr⟩ : ∃ r, bs.drop i = r := ⟨_, rfl⟩
      have hrl : r.length = len - i := by rw [← hr, List.length_drop, HBL.out]
      have h0 : r ≠ [] := fun e => by rw [e] at hrl; simp at hrl; omega
      rw [hr] at HR
      obtain ⟨b, o, rfl, hb⟩ := bs_some HL.out (fun e => h0 (by rw [← hr, e]; simp))
      have s1 : IntKind.i64.wrap ((len : Int) - (i : Int)) = (len : Int) - (i : Int) := IntWalk.i64_in _ (by omega)
      have s2 : IntKind.i64.wrap ((i : Int) + 4) = (i : Int) + 4 := IntWalk.i64_in _ (by omega)
      have hI : (i : Int) < (len : Int) ∧ (0 : Int) ≤ (i : Int) ∧ (len : Int) ≤ (cap : Int) := by omega
      have HRL := Lib.hid (And.intro hr (And.intro hrl h0))
      by_cases h8 : len - i < 8
      · have hX : Hid (R = .bad 8) := Lib.hid (HR.out.err h0 (by unfold nxt; rw [if_pos (by omega)]))
        have t8 : (len : Int) - (i : Int) < 8 := by omega
        clear hr hrl h0
        go_wp2
        go_ret2
        exact ⟨HB.out, by rw [hX.out]; rfl⟩
      · have t8 : ¬ (len : Int) - (i : Int) < 8 := by omega
        have ti : (i : Int) + 4 ≤ (cap : Int) ∧ (i : Int) + 4 ≤ (len : Int) ∧ (0 : Int) ≤ (i : Int) + 4 := by omega
        clear hr hrl h0
        obtain ⟨n4, hn4⟩ : ∃ n4, num (r.take 4) = n4 := ⟨_, rfl⟩
        have hr4 : (bs.drop i).take 4 = r.take 4 := by rw [HRL.out.1]
        have hl4 : (r.take 4).length = 4 := by rw [List.length_take]; have := HRL.out.2.1; omega
        have hb4 : ∀ x ∈ r.take 4, 0 ≤ x ∧ x ≤ 255 := fun x hx => HR.out.by_ x (List.mem_of_mem_take hx)
        have hn4b := num4 _ hb4 hl4
        rw [hn4] at hn4b
        have HN4 := Lib.hid hn4
        have LP : Hid (∀ (u : World) (k m : Nat), Below w.heap.size w u → Lst u w.heap.size (some ⟨b, o + k, none⟩) (((bs.drop k).take m).map (Value.int .u8))) := Lib.hid fun u k m hu => (HL.out.part rfl k m).below hu
        have HN4F := Lib.hid (And.intro hr4 (And.intro hl4 hb4))
        clear hn4 hr4 hl4 hb4
        go_wp2_with fail
        refine qnew1.mono ?_
        rintro e w1 ⟨q, rfl, hq, hQ1, hb1⟩
        have hB1 := HB.out.trans (hb1.mono HB.out.size)
        have hl1 := LP.out w1 i 4 hB1
        rw [HN4F.out.1] at hl1
        have G1 := qget_num HB.out (Nat.le_refl _) hq hQ1 hb1 hl1 HN4F.out.2.1 HN4F.out.2.2 (by unfold maxLen; omega) HQ.out
        rw [HN4.out] at G1
        have G1 := Lib.hid G1
        clear hq hQ1 hb1 hB1 hl1
        go_wp2_with fail
        refine G1.out.mono ?_
        rintro e w2 ⟨rfl, w2, rfl, hb2, hq2⟩
        have HB2 := Lib.hid hb2
        have HQ2 := Lib.hid hq2
        clear hb2 hq2 G1 HB HQ
        go_upto_if 25 with fail
        go_cut [6, 7] from 24 to 88 (fun a h wx => ∃ (N : Int) (hd : Nat), a = .int .i64 N ∧ h = .int .i64 (hd : Int) ∧ (hd = 8 ∨ hd = 16) ∧ hd ≤ len - i ∧ (-9223372036854775808 ≤ N ∧ N ≤ 9223372036854775807) ∧ Hid (nxt r = nxtB N hd ((r.drop 4).take 4) (r.drop hd)) ∧ Hid (Below w.heap.size w wx) ∧ Hid (BoxQ wx w.heap.size (.slice va pl vc) pre))
        case first =>
          have s3 : IntKind.i64.wrap ((i : Int) + 8) = (i : Int) + 8 := IntWalk.i64_in _ (by omega)
          have s4 : IntKind.i64.wrap ((i : Int) + 16) = (i : Int) + 16 := IntWalk.i64_in _ (by omega)
          have hrl := HRL.out.2.1
          by_cases h1 : n4 = 1
          · by_cases h16 : len - i < 16
            · have hX : Hid (R = .bad 8) := Lib.hid (HR.out.err HRL.out.2.2 (by unfold nxt; rw [if_neg (by omega), HN4.out, if_neg (by omega), if_pos h1, if_pos (by omega)]))
              have t16 : (len : Int) - (i : Int) < 16 := by omega
              clear hrl
              subst h1
              go_wp2
              go_ret2
              exact ⟨HB2.out, by rw [hX.out]; rfl⟩
            · have t16 : ¬ (len : Int) - (i : Int) < 16 := by omega
              have ti2 : (i : Int) + 8 ≤ (i : Int) + 16 ∧ (i : Int) + 16 ≤ (cap : Int) ∧ (0 : Int) ≤ (i : Int) + 8 := by omega
              have hX : Hid (nxt r = nxtB (num ((r.drop 8).take 8)) 16 ((r.drop 4).take 4) (r.drop 16)) := Lib.hid (by unfold nxt; rw [if_neg (by omega), HN4.out, if_neg (by omega), if_pos h1, if_neg (by omega)])
              have hr8 : (bs.drop (i + 8)).take 8 = (r.drop 8).take 8 := by rw [← HRL.out.1, List.drop_drop]
              have hl8 : ((r.drop 8).take 8).length = 8 := by rw [List.length_take, List.length_drop]; omega
              have hb8 : ∀ x ∈ (r.drop 8).take 8, 0 ≤ x ∧ x ≤ 255 := fun x hx => HR.out.by_ x (List.mem_of_mem_drop (List.mem_of_mem_take hx))
              have HN8 := Lib.hid (And.intro hr8 (And.intro hl8 hb8))
              clear hrl hr8 hl8 hb8
              subst h1
              go_wp2_with fail
              refine qnew1.mono ?_
              rintro e w3 ⟨q3, rfl, hq, hQ1, hb1⟩
              have hB1 := HB2.out.trans (hb1.mono HB2.out.size)
              have hl1 := LP.out w3 (i + 8) 8 hB1
              rw [HN8.out.1] at hl1
              have G2 := Lib.hid (qget_num HB2.out (Nat.le_refl _) hq hQ1 hb1 hl1 HN8.out.2.1 HN8.out.2.2 (by unfold maxLen; omega) HQ2.out)
              obtain ⟨N, hN⟩ : ∃ N, num ((r.drop 8).take 8) = N := ⟨_, rfl⟩
              rw [hN] at G2 hX
              have hNb : -9223372036854775808 ≤ N ∧ N ≤ 9223372036854775807 := by
                rw [← hN]; unfold num; unfold wrap64; omega
              clear hq hQ1 hb1 hB1 hl1 hN
              go_wp2_with fail
              refine G2.out.mono ?_
              rintro e w4 ⟨rfl, w4, rfl, hb4, hq4⟩
              clear G2
              go_wp2
              go_meet
              exact ⟨N, 16, rfl, rfl, .inr rfl, by omega, hNb, hX, Lib.hid hb4, Lib.hid hq4⟩
          · by_cases hz : n4 = 0
            · have hX : Hid (nxt r = nxtB ((len : Int) - (i : Int)) 8 ((r.drop 4).take 4) (r.drop 8)) := Lib.hid (by
                unfold nxt
                rw [if_neg (by omega), HN4.out, if_pos hz, show (r.length : Int) = (len : Int) - (i : Int) by omega])
              subst hz
              clear hrl
              go_wp2
              go_meet
              exact ⟨(len : Int) - (i : Int), 8, rfl, rfl, .inl rfl, by omega, by omega, hX, HB2, HQ2⟩
            · have hX : Hid (nxt r = nxtB n4 8 ((r.drop 4).take 4) (r.drop 8)) := Lib.hid (by
                unfold nxt
                rw [if_neg (by omega), HN4.out, if_neg hz, if_neg h1])
              clear hrl
              have e1 : (n4 == 1) = false := by simpa using h1
              have e0 : (n4 == 0) = false := by simpa using hz
              go_wp2
              go_meet
              exact ⟨n4, 8, rfl, rfl, .inl rfl, by omega, by omega, hX, HB2, HQ2⟩
        case rest =>
          obtain ⟨N, hd, rfl, rfl, h816, hdl, hNb, HX, HB, HQ⟩ := hcut
          clear HB2 HQ2
          have hrl := HRL.out.2.1
          have hdr : (r.drop hd).length = len - i - hd := by rw [List.length_drop, hrl]
          have h0N := HRL.out.2.2
          by_cases c1 : N < 0
          · have hX : Hid (R = .bad 8) := Lib.hid (HR.out.err h0N (by rw [HX.out]; unfold nxtB; rw [if_pos c1]))
            have c1' : ¬ (0 : Int) ≤ N := by omega
            clear hrl hdr h0N
            go_wp2
            go_ret2
            exact ⟨HB.out, by rw [hX.out]; rfl⟩
          · by_cases c2 : N < (hd : Int)
            · have hX : Hid (R = .bad 15) := Lib.hid (HR.out.err h0N (by rw [HX.out]; unfold nxtB; rw [if_neg c1, if_pos c2]))
              have c1' : (0 : Int) ≤ N := by omega
              clear hrl hdr h0N
              go_wp2
              go_ret2
              exact ⟨HB.out, by rw [hX.out]; rfl⟩
            · by_cases c3 : (len : Int) - (i : Int) < N
              · have hX : Hid (R = .bad 8) := Lib.hid (HR.out.err h0N (by rw [HX.out]; unfold nxtB; rw [if_neg c1, if_neg c2, if_pos (by omega)]))
                have c1' : (0 : Int) ≤ N := by omega
                clear hrl hdr h0N
                go_wp2
                go_ret2
                exact ⟨HB.out, by rw [hX.out]; rfl⟩
              · obtain ⟨n, rfl⟩ : ∃ n : Nat, N = (n : Int) := ⟨N.toNat, by omega⟩
                have c1' : (0 : Int) ≤ (n : Int) := by omega
                obtain ⟨kd, hkd⟩ : ∃ kd, (r.drop 4).take 4 = kd := ⟨_, rfl⟩
                obtain ⟨d, hd'⟩ : ∃ d, (r.drop hd).take (n - hd) = d := ⟨_, rfl⟩
                have hX : nxt r = .box kd d (r.drop n) := by
                  rw [HX.out]; unfold nxtB; rw [if_neg c1, if_neg c2, if_neg (by omega), hkd]
                  have e : ((n : Int) - (hd : Int)).toNat = n - hd := by omega
                  rw [e, hd', List.drop_drop, show hd + (n - hd) = n by omega]
                clear hrl hdr h0N
                go_upto_region 18 with fail
                have hc4 : (bs.drop (i + 4)).take 4 = kd := by rw [← hkd, ← HRL.out.1, List.drop_drop]
                have hkl : kd.length = 4 := by rw [← hkd, List.length_take, List.length_drop, HRL.out.2.1]; omega
                obtain ⟨i1, hi1⟩ : ∃ i1 : Nat, i + hd = i1 := ⟨_, rfl⟩
                obtain ⟨i2, hi2⟩ : ∃ i2 : Nat, i + n = i2 := ⟨_, rfl⟩
                have hdl2 : (bs.drop i1).take (i2 - i1) = d := by rw [← hd', ← HRL.out.1, List.drop_drop, hi1]; congr 1; omega
                have hdn : d.length = i2 - i1 := by rw [← hdl2, List.length_take, List.length_drop, HBL.out]; omega
                have k1 : IntKind.i64.wrap ((i : Int) + 8) = (i : Int) + 8 := IntWalk.i64_in _ (by omega)
                have k2 : IntKind.i64.wrap ((i : Int) + (hd : Int)) = (i1 : Int) := by rw [IntWalk.i64_in _ (by omega)]; omega
                have k3 : IntKind.i64.wrap ((i : Int) + (n : Int)) = (i2 : Int) := by rw [IntWalk.i64_in _ (by omega)]; omega
                have k4 : (i : Int) + (hd : Int) = (i1 : Int) := by omega
                have k5 : (i : Int) + (n : Int) = (i2 : Int) := by omega
                have k6 : IntKind.i64.wrap (i1 : Int) = (i1 : Int) := IntWalk.i64_in _ (by omega)
                have k7 : IntKind.i64.wrap (i2 : Int) = (i2 : Int) := IntWalk.i64_in _ (by omega)
                have T1 : ((i : Int) + 4).toNat = i + 4 := by omega
                have T2 : ((i : Int) + 8).toNat = i + 8 := by omega
                have T3 : ¬ cap = i + 4 := by omega
                have T4 : i + 8 - (i + 4) = 4 := by omega
                obtain ⟨AP, hAP⟩ : ∃ AP, (if cap = i1 then (some ⟨b, o, none⟩ : Option Addr) else some ⟨b, o + i1, none⟩) = AP := ⟨_, rfl⟩
                have HAP := Lib.hid hAP
                have HAN : Hid (AP ≠ none) := Lib.hid (by rw [← hAP]; split <;> simp)
                have hI2 : (i : Int) + 4 ≤ (i : Int) + 8 ∧ (i : Int) + 8 ≤ (cap : Int) ∧ (0 : Int) ≤ (i1 : Int) ∧ (i1 : Int) ≤ (i2 : Int) ∧ (i2 : Int) ≤ (cap : Int) := by omega
                obtain ⟨St, hSt⟩ : ∃ St, strOf kd = St := ⟨_, rfl⟩
                have HST := Lib.hid hSt
                have CV : Hid (∀ u, Below w.heap.size w u → (convert 24 9 (.slice (some ⟨b, o + (i + 4), none⟩) 4 (cap - (i + 4)))).run Try.prog u = .ok (.string St) u) := Lib.hid fun u hu => by
                  have h := LP.out u (i + 4) 4 hu
                  rw [hc4] at h
                  rw [← hSt]
                  exact conv_str hkl h
                have LD : Hid (∀ u, Below w.heap.size w u → Lst u w.heap.size AP (d.map (Value.int .u8))) := Lib.hid fun u hu => by
                  rw [← hAP]
                  by_cases hc : cap = i1
                  · have hd0 : d = [] := List.eq_nil_of_length_eq_zero (by omega)
                    rw [hd0]
                    exact Lst.nil
                  · rw [if_neg hc]
                    have h := LP.out u i1 (i2 - i1) hu
                    rw [hdl2] at h
                    exact h
                have HD := Lib.hid (And.intro hkl hdn)
                have HXB := Lib.hid hX
                obtain ⟨N0, hN0⟩ : ∃ N0, wc.heap.size = N0 := ⟨_, rfl⟩
                obtain ⟨WX, hWX⟩ : ∃ WX, wc.drew = WX := ⟨_, rfl⟩
                have HWX := Lib.hid hWX
                have HN0 : Hid (WX.heap.size = N0 ∧ w.heap.size ≤ N0) := Lib.hid ⟨by rw [← hWX]; exact hN0, by rw [← hN0]; exact HB.out.size⟩
                have HBX : Hid (Below w.heap.size w WX) := Lib.hid (by rw [← hWX]; exact below_drewN HB.out 1)
                have HQX : Hid (BoxQ WX w.heap.size (.slice va pl vc) pre) := Lib.hid (by rw [← hWX]; exact HQ.out.below (below_drewN (Below.refl _ wc) 1))
                clear hAP hX HX hkd hd' hc4 hkl hdl2 hdn hSt hN0 hWX HB HQ
                refine (wpIn_wide (n := 9)).1 (regionIn_inv (w := wc) (Inv := fun L a' w' => ∃ (g8 : Nat) (A17 : Option Addr) (c17 : Nat) (z : Nat) (V20 : Value), a' = { tmps := #[.slice (some ⟨b, o, none⟩) len cap, undef, u2, u3, bif L 21 then V20 else .slice va pl vc, .int .i64 (i : Int), .int .i64 (n : Int), .int .i64 (hd : Int), .int .i64 (i : Int), .slice (some ⟨b, o, none⟩) len cap, .int .i64 (len : Int), .bool true, .slice (some ⟨b, o, none⟩) len cap, .int .i64 (len : Int), .int .i64 (i : Int), .int .i64 ((len : Int) - (i : Int)), .bool false, .slice (some ⟨b, o, none⟩) len cap, .int .i64 (i : Int), .int .i64 (i : Int), .int .i64 ((i : Int) + 4), .slice (some ⟨b, o + i, none⟩) 4 (cap - i), .pointer (some ⟨q, 0, none⟩), .int .i64 n4, u24, u25, u26, u27, u28, u29, u30, u31, u32, u33, u34, u35, u36, u37, u38, u39, u40, u41, u42, u43, u44, .int .i64 (n : Int), .bool true, .bool true, .int .i64 (n : Int), .int .i64 (hd : Int), .bool false, .bool false, .int .i64 (n : Int), .bool false, .bool false, .int .i64 (n : Int), .slice (some ⟨b, o, none⟩) len cap, .int .i64 (len : Int), .int .i64 (i : Int), .int .i64 ((len : Int) - (i : Int)), .bool false, .bool false, bif L 0 then .slice va pl vc else u62, bif L 1 then .slice (some ⟨b, o, none⟩) len cap else u63, bif L 2 then .int .i64 (i : Int) else u64, bif L 3 then .int .i64 ((i : Int) + 4) else u65, bif L 4 then .int .i64 (i : Int) else u66, bif L 5 then .int .i64 ((i : Int) + 8) else u67, bif L 6 then .slice (some ⟨b, o + (i + 4), none⟩) 4 (cap - (i + 4)) else u68, bif L 7 then .string St else u69, bif L 8 then .slice (some ⟨g8, 0, none⟩) 0 0 else u70, bif L 9 then .slice (some ⟨b, o, none⟩) len cap else u71, bif L 10 then .int .i64 (i : Int) else u72, bif L 11 then .int .i64 (hd : Int) else u73, bif L 12 then .int .i64 (i1 : Int) else u74, bif L 13 then .int .i64 (i : Int) else u75, bif L 14 then .int .i64 (n : Int) else u76, bif L 15 then .int .i64 (i2 : Int) else u77, bif L 16 then .slice AP (i2 - i1) (cap - i1) else u78, bif L 17 then .slice A17 (i2 - i1) c17 else u79, bif L 18 then .agg #[.string St, .slice A17 (i2 - i1) c17] else u80, bif L 19 then .slice (some ⟨z, 0, none⟩) 1 1 else u81, bif L 20 then V20 else u82, u83, u84, u85, u86, u87, u88, undef], defers := [] } ∧ (Below w.heap.size w w') ∧ (bif L 20 then (BoxQ w' w.heap.size V20 (pre ++ [(kd, d)])) else (bif L 19 then (w'.heap[z]? = some (.cells #[.string St, .slice A17 (i2 - i1) c17] 47 (0, 0)) ∧ w'.ownsRow N0 5 1 (.slice A17 (i2 - i1) c17) (i2 - i1) ((d).map (Value.int .u8)) ∧ Below N0 WX w') else (bif L 17 then (w'.ownsRow N0 5 1 (.slice A17 (i2 - i1) c17) (i2 - i1) ((d).map (Value.int .u8)) ∧ Below N0 WX w') else (bif L 8 then (w'.ownsRow N0 5 1 (.slice (some ⟨g8, 0, none⟩) 0 0) 0 ((([] : List Int)).map (Value.int .u8)) ∧ Below N0 WX w') else Below N0 WX w'))))) (by kernel_rfl) (by kernel_rfl) ?start ?step ?fin)
                case start => exact ⟨0, none, 0, 0, .slice none 0 0, rfl, by rw [HWX.out]; exact HBX.out, by rw [HWX.out, ← HN0.out.1]; exact Below.refl _ _⟩
                case step =>
                  intro i hi L a' w' hI hs hu
                  obtain ⟨g8, A17, c17, z, V20, rfl, hcm, hph⟩ := hI
                  have hL := hu.1
                  have hi : i < 22 := hi
                  obtain rfl | rfl | rfl | rfl | rfl | rfl | rfl | rfl | rfl | rfl | rfl | rfl | rfl | rfl | rfl | rfl | rfl | rfl | rfl | rfl | rfl | rfl := (by omega : i = 0 ∨ i = 1 ∨ i = 2 ∨ i = 3 ∨ i = 4 ∨ i = 5 ∨ i = 6 ∨ i = 7 ∨ i = 8 ∨ i = 9 ∨ i = 10 ∨ i = 11 ∨ i = 12 ∨ i = 13 ∨ i = 14 ∨ i = 15 ∨ i = 16 ∨ i = 17 ∨ i = 18 ∨ i = 19 ∨ i = 20 ∨ i = 21)
                  · skip
                    have n20 : L 20 = false := not_yet hL fun h => shut_at hs 20 0 (by kernel_rfl) (h)
                    have n21 : L 21 = false := not_yet hL fun h => shut_at hs 21 0 (by kernel_rfl) (h)
                    refine opIn_run (v := .slice va pl vc) (w' := w') rfl rfl (fun c h => by cases h) (fun _ => trivial) ?_ ⟨g8, A17, c17, z, V20, by simp [Act.put, upd, n20, n21, hL], hcm, by simpa [upd] using hph⟩
                    simp only [n20, n21, hL, cond_true, cond_false]
                    go_simp
                  · skip
                    have n18 : L 18 = false := not_yet hL fun h => shut_at hs 6 1 (by kernel_rfl) (shut_at hs 7 6 (by kernel_rfl) (shut_at hs 18 7 (by kernel_rfl) (h)))
                    have n19 : L 19 = false := not_yet hL fun h => shut_at hs 6 1 (by kernel_rfl) (shut_at hs 7 6 (by kernel_rfl) (shut_at hs 18 7 (by kernel_rfl) (shut_at hs 19 18 (by kernel_rfl) (h))))
                    have n20 : L 20 = false := not_yet hL fun h => shut_at hs 6 1 (by kernel_rfl) (shut_at hs 7 6 (by kernel_rfl) (shut_at hs 18 7 (by kernel_rfl) (shut_at hs 19 18 (by kernel_rfl) (shut_at hs 20 19 (by kernel_rfl) (h)))))
                    have n21 : L 21 = false := not_yet hL fun h => shut_at hs 21 1 (by kernel_rfl) (h)
                    refine opIn_run (v := .slice (some ⟨b, o, none⟩) len cap) (w' := w') rfl rfl (fun c h => by cases h) (fun _ => trivial) ?_ ⟨g8, A17, c17, z, V20, by simp [Act.put, upd, n18, n19, n20, n21, hL], hcm, by simpa [upd] using hph⟩
                    simp only [n18, n19, n20, n21, hL, cond_true, cond_false]
                    go_simp
                  · skip
                    have n18 : L 18 = false := not_yet hL fun h => shut_at hs 3 2 (by kernel_rfl) (shut_at hs 6 3 (by kernel_rfl) (shut_at hs 7 6 (by kernel_rfl) (shut_at hs 18 7 (by kernel_rfl) (h))))
                    have n19 : L 19 = false := not_yet hL fun h => shut_at hs 3 2 (by kernel_rfl) (shut_at hs 6 3 (by kernel_rfl) (shut_at hs 7 6 (by kernel_rfl) (shut_at hs 18 7 (by kernel_rfl) (shut_at hs 19 18 (by kernel_rfl) (h)))))
                    have n20 : L 20 = false := not_yet hL fun h => shut_at hs 3 2 (by kernel_rfl) (shut_at hs 6 3 (by kernel_rfl) (shut_at hs 7 6 (by kernel_rfl) (shut_at hs 18 7 (by kernel_rfl) (shut_at hs 19 18 (by kernel_rfl) (shut_at hs 20 19 (by kernel_rfl) (h))))))
                    have n21 : L 21 = false := not_yet hL fun h => shut_at hs 21 2 (by kernel_rfl) (h)
                    refine opIn_run (v := .int .i64 (i : Int)) (w' := w') rfl rfl (fun c h => by cases h) (fun _ => trivial) ?_ ⟨g8, A17, c17, z, V20, by simp [Act.put, upd, n18, n19, n20, n21, hL], hcm, by simpa [upd] using hph⟩
                    simp only [n18, n19, n20, n21, hL, cond_true, cond_false]
                    go_simp
                  · skip
                    have y2 : L 2 = true := up_at hu 2 (by kernel_rfl)
                    have n18 : L 18 = false := not_yet hL fun h => shut_at hs 6 3 (by kernel_rfl) (shut_at hs 7 6 (by kernel_rfl) (shut_at hs 18 7 (by kernel_rfl) (h)))
                    have n19 : L 19 = false := not_yet hL fun h => shut_at hs 6 3 (by kernel_rfl) (shut_at hs 7 6 (by kernel_rfl) (shut_at hs 18 7 (by kernel_rfl) (shut_at hs 19 18 (by kernel_rfl) (h))))
                    have n20 : L 20 = false := not_yet hL fun h => shut_at hs 6 3 (by kernel_rfl) (shut_at hs 7 6 (by kernel_rfl) (shut_at hs 18 7 (by kernel_rfl) (shut_at hs 19 18 (by kernel_rfl) (shut_at hs 20 19 (by kernel_rfl) (h)))))
                    have n21 : L 21 = false := not_yet hL fun h => shut_at hs 21 3 (by kernel_rfl) (h)
                    refine opIn_run (v := .int .i64 ((i : Int) + 4)) (w' := w') rfl rfl (fun c h => by cases h) (fun _ => trivial) ?_ ⟨g8, A17, c17, z, V20, by simp [Act.put, upd, y2, n18, n19, n20, n21, hL], hcm, by simpa [upd] using hph⟩
                    simp only [y2, n18, n19, n20, n21, hL, cond_true, cond_false]
                    go_simp
                  · skip
                    have n18 : L 18 = false := not_yet hL fun h => shut_at hs 5 4 (by kernel_rfl) (shut_at hs 6 5 (by kernel_rfl) (shut_at hs 7 6 (by kernel_rfl) (shut_at hs 18 7 (by kernel_rfl) (h))))
                    have n19 : L 19 = false := not_yet hL fun h => shut_at hs 5 4 (by kernel_rfl) (shut_at hs 6 5 (by kernel_rfl) (shut_at hs 7 6 (by kernel_rfl) (shut_at hs 18 7 (by kernel_rfl) (shut_at hs 19 18 (by kernel_rfl) (h)))))
                    have n20 : L 20 = false := not_yet hL fun h => shut_at hs 5 4 (by kernel_rfl) (shut_at hs 6 5 (by kernel_rfl) (shut_at hs 7 6 (by kernel_rfl) (shut_at hs 18 7 (by kernel_rfl) (shut_at hs 19 18 (by kernel_rfl) (shut_at hs 20 19 (by kernel_rfl) (h))))))
                    have n21 : L 21 = false := not_yet hL fun h => shut_at hs 21 4 (by kernel_rfl) (h)
                    refine opIn_run (v := .int .i64 (i : Int)) (w' := w') rfl rfl (fun c h => by cases h) (fun _ => trivial) ?_ ⟨g8, A17, c17, z, V20, by simp [Act.put, upd, n18, n19, n20, n21, hL], hcm, by simpa [upd] using hph⟩
                    simp only [n18, n19, n20, n21, hL, cond_true, cond_false]
                    go_simp
                  · skip
                    have y4 : L 4 = true := up_at hu 4 (by kernel_rfl)
                    have n18 : L 18 = false := not_yet hL fun h => shut_at hs 6 5 (by kernel_rfl) (shut_at hs 7 6 (by kernel_rfl) (shut_at hs 18 7 (by kernel_rfl) (h)))
                    have n19 : L 19 = false := not_yet hL fun h => shut_at hs 6 5 (by kernel_rfl) (shut_at hs 7 6 (by kernel_rfl) (shut_at hs 18 7 (by kernel_rfl) (shut_at hs 19 18 (by kernel_rfl) (h))))
                    have n20 : L 20 = false := not_yet hL fun h => shut_at hs 6 5 (by kernel_rfl) (shut_at hs 7 6 (by kernel_rfl) (shut_at hs 18 7 (by kernel_rfl) (shut_at hs 19 18 (by kernel_rfl) (shut_at hs 20 19 (by kernel_rfl) (h)))))
                    have n21 : L 21 = false := not_yet hL fun h => shut_at hs 21 5 (by kernel_rfl) (h)
                    refine opIn_run (v := .int .i64 ((i : Int) + 8)) (w' := w') rfl rfl (fun c h => by cases h) (fun _ => trivial) ?_ ⟨g8, A17, c17, z, V20, by simp [Act.put, upd, y4, n18, n19, n20, n21, hL], hcm, by simpa [upd] using hph⟩
                    simp only [y4, n18, n19, n20, n21, hL, cond_true, cond_false]
                    go_simp
                  · skip
                    have y1 : L 1 = true := up_at hu 1 (by kernel_rfl)
                    have y2 : L 2 = true := shut_at hs 3 2 (by kernel_rfl) (up_at hu 3 (by kernel_rfl))
                    have y3 : L 3 = true := up_at hu 3 (by kernel_rfl)
                    have y4 : L 4 = true := shut_at hs 5 4 (by kernel_rfl) (up_at hu 5 (by kernel_rfl))
                    have y5 : L 5 = true := up_at hu 5 (by kernel_rfl)
                    have n18 : L 18 = false := not_yet hL fun h => shut_at hs 7 6 (by kernel_rfl) (shut_at hs 18 7 (by kernel_rfl) (h))
                    have n19 : L 19 = false := not_yet hL fun h => shut_at hs 7 6 (by kernel_rfl) (shut_at hs 18 7 (by kernel_rfl) (shut_at hs 19 18 (by kernel_rfl) (h)))
                    have n20 : L 20 = false := not_yet hL fun h => shut_at hs 7 6 (by kernel_rfl) (shut_at hs 18 7 (by kernel_rfl) (shut_at hs 19 18 (by kernel_rfl) (shut_at hs 20 19 (by kernel_rfl) (h))))
                    have n21 : L 21 = false := not_yet hL fun h => shut_at hs 21 6 (by kernel_rfl) (h)
                    refine opIn_run (v := .slice (some ⟨b, o + (i + 4), none⟩) 4 (cap - (i + 4))) (w' := w') rfl rfl (fun c h => by cases h) (fun _ => trivial) ?_ ⟨g8, A17, c17, z, V20, by simp [Act.put, upd, y1, y2, y3, y4, y5, n18, n19, n20, n21, hL], hcm, by simpa [upd] using hph⟩
                    simp only [y1, y2, y3, y4, y5, n18, n19, n20, n21, hL, cond_true, cond_false]
                    go_simp
                  · skip
                    have y1 : L 1 = true := shut_at hs 6 1 (by kernel_rfl) (up_at hu 6 (by kernel_rfl))
                    have y2 : L 2 = true := shut_at hs 3 2 (by kernel_rfl) (shut_at hs 6 3 (by kernel_rfl) (up_at hu 6 (by kernel_rfl)))
                    have y3 : L 3 = true := shut_at hs 6 3 (by kernel_rfl) (up_at hu 6 (by kernel_rfl))
                    have y4 : L 4 = true := shut_at hs 5 4 (by kernel_rfl) (shut_at hs 6 5 (by kernel_rfl) (up_at hu 6 (by kernel_rfl)))
                    have y5 : L 5 = true := shut_at hs 6 5 (by kernel_rfl) (up_at hu 6 (by kernel_rfl))
                    have y6 : L 6 = true := up_at hu 6 (by kernel_rfl)
                    have n18 : L 18 = false := not_yet hL fun h => shut_at hs 18 7 (by kernel_rfl) (h)
                    have n19 : L 19 = false := not_yet hL fun h => shut_at hs 18 7 (by kernel_rfl) (shut_at hs 19 18 (by kernel_rfl) (h))
                    have n20 : L 20 = false := not_yet hL fun h => shut_at hs 18 7 (by kernel_rfl) (shut_at hs 19 18 (by kernel_rfl) (shut_at hs 20 19 (by kernel_rfl) (h)))
                    have n21 : L 21 = false := not_yet hL fun h => shut_at hs 21 7 (by kernel_rfl) (h)
                    simp only [y1, y2, y3, y4, y5, y6, n18, n19, n20, n21, hL, cond_true, cond_false] at hph
                    have g0 := CV.out w' hcm
                    refine opIn_run (v := .string St) (w' := w') rfl rfl (fun c h => by cases h) (fun _ => trivial) ?_ ⟨g8, A17, c17, z, V20, by simp [Act.put, upd, y1, y2, y3, y4, y5, y6, n18, n19, n20, n21, hL], hcm, by simp only [upd, y1, y2, y3, y4, y5, y6, n18, n19, n20, n21, hL]; exact hph⟩
                    simp only [y1, y2, y3, y4, y5, y6, n18, n19, n20, n21, hL, cond_true, cond_false]
                    go_simp
                  · skip
                    have n17 : L 17 = false := not_yet hL fun h => shut_at hs 17 8 (by kernel_rfl) (h)
                    have n18 : L 18 = false := not_yet hL fun h => shut_at hs 17 8 (by kernel_rfl) (shut_at hs 18 17 (by kernel_rfl) (h))
                    have n19 : L 19 = false := not_yet hL fun h => shut_at hs 17 8 (by kernel_rfl) (shut_at hs 18 17 (by kernel_rfl) (shut_at hs 19 18 (by kernel_rfl) (h)))
                    have n20 : L 20 = false := not_yet hL fun h => shut_at hs 17 8 (by kernel_rfl) (shut_at hs 20 17 (by kernel_rfl) (h))
                    have n21 : L 21 = false := not_yet hL fun h => shut_at hs 21 8 (by kernel_rfl) (h)
                    simp only [n17, n18, n19, n20, n21, hL, cond_true, cond_false] at hph
                    have hph : Below N0 WX w' := hph
                    have hzz : N0 ≤ w'.heap.size := by rw [← HN0.out.1]; exact hph.size
                    refine opIn_run (v := .slice (some ⟨w'.heap.size, 0, none⟩) 0 0) (w' := w'.alloc (Obj.cells #[] 5)) rfl rfl (fun c h => by cases h) (fun _ => trivial) ?_ ⟨w'.heap.size, A17, c17, z, V20, by simp [Act.put, upd, n17, n18, n19, n20, n21, hL], hcm.alloc hcm.size _, by simp only [upd, n17, n18, n19, n20, n21, hL]; exact ⟨World.ownsRow_made w' #[] 0 hzz (by unfold maxLen; omega) rfl, hph.alloc hzz _⟩⟩
                    simp only [n17, n18, n19, n20, n21, hL, cond_true, cond_false]
                    clear hph hzz
                    go_simp
                  · skip
                    have n17 : L 17 = false := not_yet hL fun h => shut_at hs 16 9 (by kernel_rfl) (shut_at hs 17 16 (by kernel_rfl) (h))
                    have n18 : L 18 = false := not_yet hL fun h => shut_at hs 16 9 (by kernel_rfl) (shut_at hs 17 16 (by kernel_rfl) (shut_at hs 18 17 (by kernel_rfl) (h)))
                    have n19 : L 19 = false := not_yet hL fun h => shut_at hs 16 9 (by kernel_rfl) (shut_at hs 17 16 (by kernel_rfl) (shut_at hs 18 17 (by kernel_rfl) (shut_at hs 19 18 (by kernel_rfl) (h))))
                    have n20 : L 20 = false := not_yet hL fun h => shut_at hs 16 9 (by kernel_rfl) (shut_at hs 17 16 (by kernel_rfl) (shut_at hs 20 17 (by kernel_rfl) (h)))
                    have n21 : L 21 = false := not_yet hL fun h => shut_at hs 21 9 (by kernel_rfl) (h)
                    refine opIn_run (v := .slice (some ⟨b, o, none⟩) len cap) (w' := w') rfl rfl (fun c h => by cases h) (fun _ => trivial) ?_ ⟨g8, A17, c17, z, V20, by simp [Act.put, upd, n17, n18, n19, n20, n21, hL], hcm, by simpa [upd] using hph⟩
                    simp only [n17, n18, n19, n20, n21, hL, cond_true, cond_false]
                    go_simp
                  · skip
                    have n17 : L 17 = false := not_yet hL fun h => shut_at hs 12 10 (by kernel_rfl) (shut_at hs 16 12 (by kernel_rfl) (shut_at hs 17 16 (by kernel_rfl) (h)))
                    have n18 : L 18 = false := not_yet hL fun h => shut_at hs 12 10 (by kernel_rfl) (shut_at hs 16 12 (by kernel_rfl) (shut_at hs 17 16 (by kernel_rfl) (shut_at hs 18 17 (by kernel_rfl) (h))))
                    have n19 : L 19 = false := not_yet hL fun h => shut_at hs 12 10 (by kernel_rfl) (shut_at hs 16 12 (by kernel_rfl) (shut_at hs 17 16 (by kernel_rfl) (shut_at hs 18 17 (by kernel_rfl) (shut_at hs 19 18 (by kernel_rfl) (h)))))
                    have n20 : L 20 = false := not_yet hL fun h => shut_at hs 12 10 (by kernel_rfl) (shut_at hs 16 12 (by kernel_rfl) (shut_at hs 17 16 (by kernel_rfl) (shut_at hs 20 17 (by kernel_rfl) (h))))
                    have n21 : L 21 = false := not_yet hL fun h => shut_at hs 21 10 (by kernel_rfl) (h)
                    refine opIn_run (v := .int .i64 (i : Int)) (w' := w') rfl rfl (fun c h => by cases h) (fun _ => trivial) ?_ ⟨g8, A17, c17, z, V20, by simp [Act.put, upd, n17, n18, n19, n20, n21, hL], hcm, by simpa [upd] using hph⟩
                    simp only [n17, n18, n19, n20, n21, hL, cond_true, cond_false]
                    go_simp
                  · skip
                    have n17 : L 17 = false := not_yet hL fun h => shut_at hs 12 11 (by kernel_rfl) (shut_at hs 16 12 (by kernel_rfl) (shut_at hs 17 16 (by kernel_rfl) (h)))
                    have n18 : L 18 = false := not_yet hL fun h => shut_at hs 12 11 (by kernel_rfl) (shut_at hs 16 12 (by kernel_rfl) (shut_at hs 17 16 (by kernel_rfl) (shut_at hs 18 17 (by kernel_rfl) (h))))
                    have n19 : L 19 = false := not_yet hL fun h => shut_at hs 12 11 (by kernel_rfl) (shut_at hs 16 12 (by kernel_rfl) (shut_at hs 17 16 (by kernel_rfl) (shut_at hs 18 17 (by kernel_rfl) (shut_at hs 19 18 (by kernel_rfl) (h)))))
                    have n20 : L 20 = false := not_yet hL fun h => shut_at hs 12 11 (by kernel_rfl) (shut_at hs 16 12 (by kernel_rfl) (shut_at hs 17 16 (by kernel_rfl) (shut_at hs 20 17 (by kernel_rfl) (h))))
                    have n21 : L 21 = false := not_yet hL fun h => shut_at hs 21 11 (by kernel_rfl) (h)
                    refine opIn_run (v := .int .i64 (hd : Int)) (w' := w') rfl rfl (fun c h => by cases h) (fun _ => trivial) ?_ ⟨g8, A17, c17, z, V20, by simp [Act.put, upd, n17, n18, n19, n20, n21, hL], hcm, by simpa [upd] using hph⟩
                    simp only [n17, n18, n19, n20, n21, hL, cond_true, cond_false]
                    go_simp
                  · skip
                    have y10 : L 10 = true := up_at hu 10 (by kernel_rfl)
                    have y11 : L 11 = true := up_at hu 11 (by kernel_rfl)
                    have n17 : L 17 = false := not_yet hL fun h => shut_at hs 16 12 (by kernel_rfl) (shut_at hs 17 16 (by kernel_rfl) (h))
                    have n18 : L 18 = false := not_yet hL fun h => shut_at hs 16 12 (by kernel_rfl) (shut_at hs 17 16 (by kernel_rfl) (shut_at hs 18 17 (by kernel_rfl) (h)))
                    have n19 : L 19 = false := not_yet hL fun h => shut_at hs 16 12 (by kernel_rfl) (shut_at hs 17 16 (by kernel_rfl) (shut_at hs 18 17 (by kernel_rfl) (shut_at hs 19 18 (by kernel_rfl) (h))))
                    have n20 : L 20 = false := not_yet hL fun h => shut_at hs 16 12 (by kernel_rfl) (shut_at hs 17 16 (by kernel_rfl) (shut_at hs 20 17 (by kernel_rfl) (h)))
                    have n21 : L 21 = false := not_yet hL fun h => shut_at hs 21 12 (by kernel_rfl) (h)
                    refine opIn_run (v := .int .i64 (i1 : Int)) (w' := w') rfl rfl (fun c h => by cases h) (fun _ => trivial) ?_ ⟨g8, A17, c17, z, V20, by simp [Act.put, upd, y10, y11, n17, n18, n19, n20, n21, hL], hcm, by simpa [upd] using hph⟩
                    simp only [y10, y11, n17, n18, n19, n20, n21, hL, cond_true, cond_false]
                    go_simp
                  · skip
                    have n17 : L 17 = false := not_yet hL fun h => shut_at hs 15 13 (by kernel_rfl) (shut_at hs 16 15 (by kernel_rfl) (shut_at hs 17 16 (by kernel_rfl) (h)))
                    have n18 : L 18 = false := not_yet hL fun h => shut_at hs 15 13 (by kernel_rfl) (shut_at hs 16 15 (by kernel_rfl) (shut_at hs 17 16 (by kernel_rfl) (shut_at hs 18 17 (by kernel_rfl) (h))))
                    have n19 : L 19 = false := not_yet hL fun h => shut_at hs 15 13 (by kernel_rfl) (shut_at hs 16 15 (by kernel_rfl) (shut_at hs 17 16 (by kernel_rfl) (shut_at hs 18 17 (by kernel_rfl) (shut_at hs 19 18 (by kernel_rfl) (h)))))
                    have n20 : L 20 = false := not_yet hL fun h => shut_at hs 15 13 (by kernel_rfl) (shut_at hs 16 15 (by kernel_rfl) (shut_at hs 17 16 (by kernel_rfl) (shut_at hs 20 17 (by kernel_rfl) (h))))
                    have n21 : L 21 = false := not_yet hL fun h => shut_at hs 21 13 (by kernel_rfl) (h)
                    refine opIn_run (v := .int .i64 (i : Int)) (w' := w') rfl rfl (fun c h => by cases h) (fun _ => trivial) ?_ ⟨g8, A17, c17, z, V20, by simp [Act.put, upd, n17, n18, n19, n20, n21, hL], hcm, by simpa [upd] using hph⟩
                    simp only [n17, n18, n19, n20, n21, hL, cond_true, cond_false]
                    go_simp
                  · skip
                    have n17 : L 17 = false := not_yet hL fun h => shut_at hs 15 14 (by kernel_rfl) (shut_at hs 16 15 (by kernel_rfl) (shut_at hs 17 16 (by kernel_rfl) (h)))
                    have n18 : L 18 = false := not_yet hL fun h => shut_at hs 15 14 (by kernel_rfl) (shut_at hs 16 15 (by kernel_rfl) (shut_at hs 17 16 (by kernel_rfl) (shut_at hs 18 17 (by kernel_rfl) (h))))
                    have n19 : L 19 = false := not_yet hL fun h => shut_at hs 15 14 (by kernel_rfl) (shut_at hs 16 15 (by kernel_rfl) (shut_at hs 17 16 (by kernel_rfl) (shut_at hs 18 17 (by kernel_rfl) (shut_at hs 19 18 (by kernel_rfl) (h)))))
                    have n20 : L 20 = false := not_yet hL fun h => shut_at hs 15 14 (by kernel_rfl) (shut_at hs 16 15 (by kernel_rfl) (shut_at hs 17 16 (by kernel_rfl) (shut_at hs 20 17 (by kernel_rfl) (h))))
                    have n21 : L 21 = false := not_yet hL fun h => shut_at hs 21 14 (by kernel_rfl) (h)
                    refine opIn_run (v := .int .i64 (n : Int)) (w' := w') rfl rfl (fun c h => by cases h) (fun _ => trivial) ?_ ⟨g8, A17, c17, z, V20, by simp [Act.put, upd, n17, n18, n19, n20, n21, hL], hcm, by simpa [upd] using hph⟩
                    simp only [n17, n18, n19, n20, n21, hL, cond_true, cond_false]
                    go_simp
                  · skip
                    have y13 : L 13 = true := up_at hu 13 (by kernel_rfl)
                    have y14 : L 14 = true := up_at hu 14 (by kernel_rfl)
                    have n17 : L 17 = false := not_yet hL fun h => shut_at hs 16 15 (by kernel_rfl) (shut_at hs 17 16 (by kernel_rfl) (h))
                    have n18 : L 18 = false := not_yet hL fun h => shut_at hs 16 15 (by kernel_rfl) (shut_at hs 17 16 (by kernel_rfl) (shut_at hs 18 17 (by kernel_rfl) (h)))
                    have n19 : L 19 = false := not_yet hL fun h => shut_at hs 16 15 (by kernel_rfl) (shut_at hs 17 16 (by kernel_rfl) (shut_at hs 18 17 (by kernel_rfl) (shut_at hs 19 18 (by kernel_rfl) (h))))
                    have n20 : L 20 = false := not_yet hL fun h => shut_at hs 16 15 (by kernel_rfl) (shut_at hs 17 16 (by kernel_rfl) (shut_at hs 20 17 (by kernel_rfl) (h)))
                    have n21 : L 21 = false := not_yet hL fun h => shut_at hs 21 15 (by kernel_rfl) (h)
                    refine opIn_run (v := .int .i64 (i2 : Int)) (w' := w') rfl rfl (fun c h => by cases h) (fun _ => trivial) ?_ ⟨g8, A17, c17, z, V20, by simp [Act.put, upd, y13, y14, n17, n18, n19, n20, n21, hL], hcm, by simpa [upd] using hph⟩
                    simp only [y13, y14, n17, n18, n19, n20, n21, hL, cond_true, cond_false]
                    go_simp
                  · skip
                    have y9 : L 9 = true := up_at hu 9 (by kernel_rfl)
                    have y10 : L 10 = true := shut_at hs 12 10 (by kernel_rfl) (up_at hu 12 (by kernel_rfl))
                    have y11 : L 11 = true := shut_at hs 12 11 (by kernel_rfl) (up_at hu 12 (by kernel_rfl))
                    have y12 : L 12 = true := up_at hu 12 (by kernel_rfl)
                    have y13 : L 13 = true := shut_at hs 15 13 (by kernel_rfl) (up_at hu 15 (by kernel_rfl))
                    have y14 : L 14 = true := shut_at hs 15 14 (by kernel_rfl) (up_at hu 15 (by kernel_rfl))
                    have y15 : L 15 = true := up_at hu 15 (by kernel_rfl)
                    have n17 : L 17 = false := not_yet hL fun h => shut_at hs 17 16 (by kernel_rfl) (h)
                    have n18 : L 18 = false := not_yet hL fun h => shut_at hs 17 16 (by kernel_rfl) (shut_at hs 18 17 (by kernel_rfl) (h))
                    have n19 : L 19 = false := not_yet hL fun h => shut_at hs 17 16 (by kernel_rfl) (shut_at hs 18 17 (by kernel_rfl) (shut_at hs 19 18 (by kernel_rfl) (h)))
                    have n20 : L 20 = false := not_yet hL fun h => shut_at hs 17 16 (by kernel_rfl) (shut_at hs 20 17 (by kernel_rfl) (h))
                    have n21 : L 21 = false := not_yet hL fun h => shut_at hs 21 16 (by kernel_rfl) (h)
                    refine opIn_run (v := .slice AP (i2 - i1) (cap - i1)) (w' := w') rfl rfl (fun c h => by cases h) (fun _ => trivial) ?_ ⟨g8, A17, c17, z, V20, by simp [Act.put, upd, y9, y10, y11, y12, y13, y14, y15, n17, n18, n19, n20, n21, hL], hcm, by simpa [upd] using hph⟩
                    simp only [y9, y10, y11, y12, y13, y14, y15, n17, n18, n19, n20, n21, hL, cond_true, cond_false]
                    go_simp
                    exact HAP.out
                  · skip
                    have y8 : L 8 = true := up_at hu 8 (by kernel_rfl)
                    have y9 : L 9 = true := shut_at hs 16 9 (by kernel_rfl) (up_at hu 16 (by kernel_rfl))
                    have y10 : L 10 = true := shut_at hs 12 10 (by kernel_rfl) (shut_at hs 16 12 (by kernel_rfl) (up_at hu 16 (by kernel_rfl)))
                    have y11 : L 11 = true := shut_at hs 12 11 (by kernel_rfl) (shut_at hs 16 12 (by kernel_rfl) (up_at hu 16 (by kernel_rfl)))
                    have y12 : L 12 = true := shut_at hs 16 12 (by kernel_rfl) (up_at hu 16 (by kernel_rfl))
                    have y13 : L 13 = true := shut_at hs 15 13 (by kernel_rfl) (shut_at hs 16 15 (by kernel_rfl) (up_at hu 16 (by kernel_rfl)))
                    have y14 : L 14 = true := shut_at hs 15 14 (by kernel_rfl) (shut_at hs 16 15 (by kernel_rfl) (up_at hu 16 (by kernel_rfl)))
                    have y15 : L 15 = true := shut_at hs 16 15 (by kernel_rfl) (up_at hu 16 (by kernel_rfl))
                    have y16 : L 16 = true := up_at hu 16 (by kernel_rfl)
                    have n18 : L 18 = false := not_yet hL fun h => shut_at hs 18 17 (by kernel_rfl) (h)
                    have n19 : L 19 = false := not_yet hL fun h => shut_at hs 18 17 (by kernel_rfl) (shut_at hs 19 18 (by kernel_rfl) (h))
                    have n20 : L 20 = false := not_yet hL fun h => shut_at hs 20 17 (by kernel_rfl) (h)
                    have n21 : L 21 = false := not_yet hL fun h => shut_at hs 21 17 (by kernel_rfl) (h)
                    simp only [y8, y9, y10, y11, y12, y13, y14, y15, y16, n18, n19, n20, n21, hL, cond_true, cond_false] at hph
                    have hzz : N0 ≤ w'.heap.size := by rw [← HN0.out.1]; exact hph.2.size
                    obtain ⟨v', w2, hr, ho, hg⟩ := app_lst (L := d) (m := i2 - i1) (c := cap - i1) (A := AP) hph.1 HD.out.2 (fun h => absurd h HAN.out) (LD.out w' hcm) hzz (by omega)
                    rw [Nat.zero_add, List.nil_append] at ho
                    obtain ⟨A17', c17', rfl, _⟩ := own_any ho
                    refine opIn_run (v := .slice A17' (i2 - i1) c17') (w' := w2) rfl rfl (fun c h => by cases h) (fun _ => trivial) ?_ ⟨g8, A17', c17', z, V20, by simp [Act.put, upd, y8, y9, y10, y11, y12, y13, y14, y15, y16, n18, n19, n20, n21, hL], hcm.grown hg hcm.size (fun q e => Nat.le_trans HN0.out.2 (own_lt hph.1 e).1), by simp only [upd, y8, y9, y10, y11, y12, y13, y14, y15, y16, n18, n19, n20, n21, hL]; exact ⟨ho, hph.2.grown hg hzz (fun q e => (own_lt hph.1 e).1)⟩⟩
                    simp only [y8, y9, y10, y11, y12, y13, y14, y15, y16, n18, n19, n20, n21, hL, cond_true, cond_false]
                    clear hph ho hg
                    go_simp
                  · skip
                    have y1 : L 1 = true := shut_at hs 6 1 (by kernel_rfl) (shut_at hs 7 6 (by kernel_rfl) (up_at hu 7 (by kernel_rfl)))
                    have y2 : L 2 = true := shut_at hs 3 2 (by kernel_rfl) (shut_at hs 6 3 (by kernel_rfl) (shut_at hs 7 6 (by kernel_rfl) (up_at hu 7 (by kernel_rfl))))
                    have y3 : L 3 = true := shut_at hs 6 3 (by kernel_rfl) (shut_at hs 7 6 (by kernel_rfl) (up_at hu 7 (by kernel_rfl)))
                    have y4 : L 4 = true := shut_at hs 5 4 (by kernel_rfl) (shut_at hs 6 5 (by kernel_rfl) (shut_at hs 7 6 (by kernel_rfl) (up_at hu 7 (by kernel_rfl))))
                    have y5 : L 5 = true := shut_at hs 6 5 (by kernel_rfl) (shut_at hs 7 6 (by kernel_rfl) (up_at hu 7 (by kernel_rfl)))
                    have y6 : L 6 = true := shut_at hs 7 6 (by kernel_rfl) (up_at hu 7 (by kernel_rfl))
                    have y7 : L 7 = true := up_at hu 7 (by kernel_rfl)
                    have y8 : L 8 = true := shut_at hs 17 8 (by kernel_rfl) (up_at hu 17 (by kernel_rfl))
                    have y9 : L 9 = true := shut_at hs 16 9 (by kernel_rfl) (shut_at hs 17 16 (by kernel_rfl) (up_at hu 17 (by kernel_rfl)))
                    have y10 : L 10 = true := shut_at hs 12 10 (by kernel_rfl) (shut_at hs 16 12 (by kernel_rfl) (shut_at hs 17 16 (by kernel_rfl) (up_at hu 17 (by kernel_rfl))))
                    have y11 : L 11 = true := shut_at hs 12 11 (by kernel_rfl) (shut_at hs 16 12 (by kernel_rfl) (shut_at hs 17 16 (by kernel_rfl) (up_at hu 17 (by kernel_rfl))))
                    have y12 : L 12 = true := shut_at hs 16 12 (by kernel_rfl) (shut_at hs 17 16 (by kernel_rfl) (up_at hu 17 (by kernel_rfl)))
                    have y13 : L 13 = true := shut_at hs 15 13 (by kernel_rfl) (shut_at hs 16 15 (by kernel_rfl) (shut_at hs 17 16 (by kernel_rfl) (up_at hu 17 (by kernel_rfl))))
                    have y14 : L 14 = true := shut_at hs 15 14 (by kernel_rfl) (shut_at hs 16 15 (by kernel_rfl) (shut_at hs 17 16 (by kernel_rfl) (up_at hu 17 (by kernel_rfl))))
                    have y15 : L 15 = true := shut_at hs 16 15 (by kernel_rfl) (shut_at hs 17 16 (by kernel_rfl) (up_at hu 17 (by kernel_rfl)))
                    have y16 : L 16 = true := shut_at hs 17 16 (by kernel_rfl) (up_at hu 17 (by kernel_rfl))
                    have y17 : L 17 = true := up_at hu 17 (by kernel_rfl)
                    have n19 : L 19 = false := not_yet hL fun h => shut_at hs 19 18 (by kernel_rfl) (h)
                    have n20 : L 20 = false := not_yet hL fun h => shut_at hs 19 18 (by kernel_rfl) (shut_at hs 20 19 (by kernel_rfl) (h))
                    have n21 : L 21 = false := not_yet hL fun h => shut_at hs 21 18 (by kernel_rfl) (h)
                    refine opIn_run (v := .agg #[.string St, .slice A17 (i2 - i1) c17]) (w' := w') rfl rfl (fun c h => by cases h) (fun _ => trivial) ?_ ⟨g8, A17, c17, z, V20, by simp [Act.put, upd, y1, y2, y3, y4, y5, y6, y7, y8, y9, y10, y11, y12, y13, y14, y15, y16, y17, n19, n20, n21, hL], hcm, by simpa [upd] using hph⟩
                    simp only [y1, y2, y3, y4, y5, y6, y7, y8, y9, y10, y11, y12, y13, y14, y15, y16, y17, n19, n20, n21, hL, cond_true, cond_false]
                    go_simp
                  · skip
                    have y1 : L 1 = true := shut_at hs 6 1 (by kernel_rfl) (shut_at hs 7 6 (by kernel_rfl) (shut_at hs 18 7 (by kernel_rfl) (up_at hu 18 (by kernel_rfl))))
                    have y2 : L 2 = true := shut_at hs 3 2 (by kernel_rfl) (shut_at hs 6 3 (by kernel_rfl) (shut_at hs 7 6 (by kernel_rfl) (shut_at hs 18 7 (by kernel_rfl) (up_at hu 18 (by kernel_rfl)))))
                    have y3 : L 3 = true := shut_at hs 6 3 (by kernel_rfl) (shut_at hs 7 6 (by kernel_rfl) (shut_at hs 18 7 (by kernel_rfl) (up_at hu 18 (by kernel_rfl))))
                    have y4 : L 4 = true := shut_at hs 5 4 (by kernel_rfl) (shut_at hs 6 5 (by kernel_rfl) (shut_at hs 7 6 (by kernel_rfl) (shut_at hs 18 7 (by kernel_rfl) (up_at hu 18 (by kernel_rfl)))))
                    have y5 : L 5 = true := shut_at hs 6 5 (by kernel_rfl) (shut_at hs 7 6 (by kernel_rfl) (shut_at hs 18 7 (by kernel_rfl) (up_at hu 18 (by kernel_rfl))))
                    have y6 : L 6 = true := shut_at hs 7 6 (by kernel_rfl) (shut_at hs 18 7 (by kernel_rfl) (up_at hu 18 (by kernel_rfl)))
                    have y7 : L 7 = true := shut_at hs 18 7 (by kernel_rfl) (up_at hu 18 (by kernel_rfl))
                    have y8 : L 8 = true := shut_at hs 17 8 (by kernel_rfl) (shut_at hs 18 17 (by kernel_rfl) (up_at hu 18 (by kernel_rfl)))
                    have y9 : L 9 = true := shut_at hs 16 9 (by kernel_rfl) (shut_at hs 17 16 (by kernel_rfl) (shut_at hs 18 17 (by kernel_rfl) (up_at hu 18 (by kernel_rfl))))
                    have y10 : L 10 = true := shut_at hs 12 10 (by kernel_rfl) (shut_at hs 16 12 (by kernel_rfl) (shut_at hs 17 16 (by kernel_rfl) (shut_at hs 18 17 (by kernel_rfl) (up_at hu 18 (by kernel_rfl)))))
                    have y11 : L 11 = true := shut_at hs 12 11 (by kernel_rfl) (shut_at hs 16 12 (by kernel_rfl) (shut_at hs 17 16 (by kernel_rfl) (shut_at hs 18 17 (by kernel_rfl) (up_at hu 18 (by kernel_rfl)))))
                    have y12 : L 12 = true := shut_at hs 16 12 (by kernel_rfl) (shut_at hs 17 16 (by kernel_rfl) (shut_at hs 18 17 (by kernel_rfl) (up_at hu 18 (by kernel_rfl))))
                    have y13 : L 13 = true := shut_at hs 15 13 (by kernel_rfl) (shut_at hs 16 15 (by kernel_rfl) (shut_at hs 17 16 (by kernel_rfl) (shut_at hs 18 17 (by kernel_rfl) (up_at hu 18 (by kernel_rfl)))))
                    have y14 : L 14 = true := shut_at hs 15 14 (by kernel_rfl) (shut_at hs 16 15 (by kernel_rfl) (shut_at hs 17 16 (by kernel_rfl) (shut_at hs 18 17 (by kernel_rfl) (up_at hu 18 (by kernel_rfl)))))
                    have y15 : L 15 = true := shut_at hs 16 15 (by kernel_rfl) (shut_at hs 17 16 (by kernel_rfl) (shut_at hs 18 17 (by kernel_rfl) (up_at hu 18 (by kernel_rfl))))
                    have y16 : L 16 = true := shut_at hs 17 16 (by kernel_rfl) (shut_at hs 18 17 (by kernel_rfl) (up_at hu 18 (by kernel_rfl)))
                    have y17 : L 17 = true := shut_at hs 18 17 (by kernel_rfl) (up_at hu 18 (by kernel_rfl))
                    have y18 : L 18 = true := up_at hu 18 (by kernel_rfl)
                    have n20 : L 20 = false := not_yet hL fun h => shut_at hs 20 19 (by kernel_rfl) (h)
                    have n21 : L 21 = false := not_yet hL fun h => shut_at hs 21 19 (by kernel_rfl) (h)
                    simp only [y1, y2, y3, y4, y5, y6, y7, y8, y9, y10, y11, y12, y13, y14, y15, y16, y17, y18, n20, n21, hL, cond_true, cond_false] at hph
                    have hzz : N0 ≤ w'.heap.size := by rw [← HN0.out.1]; exact hph.2.size
                    refine opIn_run (v := .slice (some ⟨w'.heap.size, 0, none⟩) 1 1) (w' := w'.alloc (Obj.cells #[.string St, .slice A17 (i2 - i1) c17] 47)) rfl rfl (fun c h => by cases h) (fun _ => trivial) ?_ ⟨g8, A17, c17, w'.heap.size, V20, by simp [Act.put, upd, y1, y2, y3, y4, y5, y6, y7, y8, y9, y10, y11, y12, y13, y14, y15, y16, y17, y18, n20, n21, hL], hcm.alloc hcm.size _, by simp only [upd, y1, y2, y3, y4, y5, y6, y7, y8, y9, y10, y11, y12, y13, y14, y15, y16, y17, y18, n20, n21, hL]; exact ⟨World.alloc_heap_new w' _, hph.1.alloc _, hph.2.alloc hzz _⟩⟩
                    simp only [y1, y2, y3, y4, y5, y6, y7, y8, y9, y10, y11, y12, y13, y14, y15, y16, y17, y18, n20, n21, hL, cond_true, cond_false]
                    clear hph
                    go_simp
                  · skip
                    have y0 : L 0 = true := up_at hu 0 (by kernel_rfl)
                    have y1 : L 1 = true := shut_at hs 6 1 (by kernel_rfl) (shut_at hs 7 6 (by kernel_rfl) (shut_at hs 18 7 (by kernel_rfl) (shut_at hs 19 18 (by kernel_rfl) (up_at hu 19 (by kernel_rfl)))))
                    have y2 : L 2 = true := shut_at hs 3 2 (by kernel_rfl) (shut_at hs 6 3 (by kernel_rfl) (shut_at hs 7 6 (by kernel_rfl) (shut_at hs 18 7 (by kernel_rfl) (shut_at hs 19 18 (by kernel_rfl) (up_at hu 19 (by kernel_rfl))))))
                    have y3 : L 3 = true := shut_at hs 6 3 (by kernel_rfl) (shut_at hs 7 6 (by kernel_rfl) (shut_at hs 18 7 (by kernel_rfl) (shut_at hs 19 18 (by kernel_rfl) (up_at hu 19 (by kernel_rfl)))))
                    have y4 : L 4 = true := shut_at hs 5 4 (by kernel_rfl) (shut_at hs 6 5 (by kernel_rfl) (shut_at hs 7 6 (by kernel_rfl) (shut_at hs 18 7 (by kernel_rfl) (shut_at hs 19 18 (by kernel_rfl) (up_at hu 19 (by kernel_rfl))))))
                    have y5 : L 5 = true := shut_at hs 6 5 (by kernel_rfl) (shut_at hs 7 6 (by kernel_rfl) (shut_at hs 18 7 (by kernel_rfl) (shut_at hs 19 18 (by kernel_rfl) (up_at hu 19 (by kernel_rfl)))))
                    have y6 : L 6 = true := shut_at hs 7 6 (by kernel_rfl) (shut_at hs 18 7 (by kernel_rfl) (shut_at hs 19 18 (by kernel_rfl) (up_at hu 19 (by kernel_rfl))))
                    have y7 : L 7 = true := shut_at hs 18 7 (by kernel_rfl) (shut_at hs 19 18 (by kernel_rfl) (up_at hu 19 (by kernel_rfl)))
                    have y8 : L 8 = true := shut_at hs 17 8 (by kernel_rfl) (up_at hu 17 (by kernel_rfl))
                    have y9 : L 9 = true := shut_at hs 16 9 (by kernel_rfl) (shut_at hs 17 16 (by kernel_rfl) (up_at hu 17 (by kernel_rfl)))
                    have y10 : L 10 = true := shut_at hs 12 10 (by kernel_rfl) (shut_at hs 16 12 (by kernel_rfl) (shut_at hs 17 16 (by kernel_rfl) (up_at hu 17 (by kernel_rfl))))
                    have y11 : L 11 = true := shut_at hs 12 11 (by kernel_rfl) (shut_at hs 16 12 (by kernel_rfl) (shut_at hs 17 16 (by kernel_rfl) (up_at hu 17 (by kernel_rfl))))
                    have y12 : L 12 = true := shut_at hs 16 12 (by kernel_rfl) (shut_at hs 17 16 (by kernel_rfl) (up_at hu 17 (by kernel_rfl)))
                    have y13 : L 13 = true := shut_at hs 15 13 (by kernel_rfl) (shut_at hs 16 15 (by kernel_rfl) (shut_at hs 17 16 (by kernel_rfl) (up_at hu 17 (by kernel_rfl))))
                    have y14 : L 14 = true := shut_at hs 15 14 (by kernel_rfl) (shut_at hs 16 15 (by kernel_rfl) (shut_at hs 17 16 (by kernel_rfl) (up_at hu 17 (by kernel_rfl))))
                    have y15 : L 15 = true := shut_at hs 16 15 (by kernel_rfl) (shut_at hs 17 16 (by kernel_rfl) (up_at hu 17 (by kernel_rfl)))
                    have y16 : L 16 = true := shut_at hs 17 16 (by kernel_rfl) (up_at hu 17 (by kernel_rfl))
                    have y17 : L 17 = true := up_at hu 17 (by kernel_rfl)
                    have y18 : L 18 = true := shut_at hs 19 18 (by kernel_rfl) (up_at hu 19 (by kernel_rfl))
                    have y19 : L 19 = true := up_at hu 19 (by kernel_rfl)
                    have n21 : L 21 = false := not_yet hL fun h => shut_at hs 21 20 (by kernel_rfl) (h)
                    simp only [y0, y1, y2, y3, y4, y5, y6, y7, y8, y9, y10, y11, y12, y13, y14, y15, y16, y17, y18, y19, n21, hL, cond_true, cond_false] at hph
                    have hbq := HQX.out.below (by rw [HN0.out.1]; exact hph.2.2)
                    have hvv := own_base hph.2.1 HN0.out.2
                    have hzz := hph.1
                    rw [← HST.out] at hzz
                    rw [← HD.out.2] at hvv hzz
                    obtain ⟨v', w2, hr, hq2, hg⟩ := hbq.app (k := kd) (d := d) hvv hzz hcm.size (by rw [HPL.out]; omega)
                    refine opIn_run (v := v') (w' := w2) rfl rfl (fun c h => by cases h) (fun _ => trivial) ?_ ⟨g8, A17, c17, z, v', by simp [Act.put, upd, y0, y1, y2, y3, y4, y5, y6, y7, y8, y9, y10, y11, y12, y13, y14, y15, y16, y17, y18, y19, n21, hL], hcm.grown hg hcm.size (fun q e => hbq.ge e), by simp only [upd, y0, y1, y2, y3, y4, y5, y6, y7, y8, y9, y10, y11, y12, y13, y14, y15, y16, y17, y18, y19, n21, hL]; exact hq2⟩
                    simp only [y0, y1, y2, y3, y4, y5, y6, y7, y8, y9, y10, y11, y12, y13, y14, y15, y16, y17, y18, y19, n21, hL, cond_true, cond_false]
                    clear hph hg hq2 hvv hzz hbq
                    go_simp
                  · skip
                    have y0 : L 0 = true := up_at hu 0 (by kernel_rfl)
                    have y1 : L 1 = true := up_at hu 1 (by kernel_rfl)
                    have y2 : L 2 = true := up_at hu 2 (by kernel_rfl)
                    have y3 : L 3 = true := up_at hu 3 (by kernel_rfl)
                    have y4 : L 4 = true := up_at hu 4 (by kernel_rfl)
                    have y5 : L 5 = true := up_at hu 5 (by kernel_rfl)
                    have y6 : L 6 = true := up_at hu 6 (by kernel_rfl)
                    have y7 : L 7 = true := up_at hu 7 (by kernel_rfl)
                    have y8 : L 8 = true := up_at hu 8 (by kernel_rfl)
                    have y9 : L 9 = true := up_at hu 9 (by kernel_rfl)
                    have y10 : L 10 = true := up_at hu 10 (by kernel_rfl)
                    have y11 : L 11 = true := up_at hu 11 (by kernel_rfl)
                    have y12 : L 12 = true := up_at hu 12 (by kernel_rfl)
                    have y13 : L 13 = true := up_at hu 13 (by kernel_rfl)
                    have y14 : L 14 = true := up_at hu 14 (by kernel_rfl)
                    have y15 : L 15 = true := up_at hu 15 (by kernel_rfl)
                    have y16 : L 16 = true := up_at hu 16 (by kernel_rfl)
                    have y17 : L 17 = true := up_at hu 17 (by kernel_rfl)
                    have y18 : L 18 = true := up_at hu 18 (by kernel_rfl)
                    have y19 : L 19 = true := up_at hu 19 (by kernel_rfl)
                    have y20 : L 20 = true := up_at hu 20 (by kernel_rfl)
                    refine opIn_run (v := V20) (w' := w') rfl rfl (fun c h => by cases h) (fun _ => trivial) ?_ ⟨g8, A17, c17, z, V20, by simp [Act.put, upd, y0, y1, y2, y3, y4, y5, y6, y7, y8, y9, y10, y11, y12, y13, y14, y15, y16, y17, y18, y19, y20, hL], hcm, by simpa [upd] using hph⟩
                    simp only [y0, y1, y2, y3, y4, y5, y6, y7, y8, y9, y10, y11, y12, y13, y14, y15, y16, y17, y18, y19, y20, hL, cond_true, cond_false]
                    go_simp
                case fin =>
                  intro L a' w' hall hI
                  obtain ⟨g8, A17, c17, z, V20, rfl, hcm, hph⟩ := hI
                  have l0 := hall 0 (by decide)
                  have l1 := hall 1 (by decide)
                  have l2 := hall 2 (by decide)
                  have l3 := hall 3 (by decide)
                  have l4 := hall 4 (by decide)
                  have l5 := hall 5 (by decide)
                  have l6 := hall 6 (by decide)
                  have l7 := hall 7 (by decide)
                  have l8 := hall 8 (by decide)
                  have l9 := hall 9 (by decide)
                  have l10 := hall 10 (by decide)
                  have l11 := hall 11 (by decide)
                  have l12 := hall 12 (by decide)
                  have l13 := hall 13 (by decide)
                  have l14 := hall 14 (by decide)
                  have l15 := hall 15 (by decide)
                  have l16 := hall 16 (by decide)
                  have l17 := hall 17 (by decide)
                  have l18 := hall 18 (by decide)
                  have l19 := hall 19 (by decide)
                  have l20 := hall 20 (by decide)
                  have l21 := hall 21 (by decide)
                  simp only [l0, l1, l2, l3, l4, l5, l6, l7, l8, l9, l10, l11, l12, l13, l14, l15, l16, l17, l18, l19, l20, l21, cond_true] at hph ⊢
                  clear l0 l1 l2 l3 l4 l5 l6 l7 l8 l9 l10 l11 l12 l13 l14 l15 l16 l17 l18 l19 l20 l21 hall
                  obtain ⟨vb, vd, hV⟩ := hph.len
                  have hpl1 : (pre ++ [(kd, d)]).length = pl + 1 := by rw [List.length_append, HPL.out]; rfl
                  rw [hpl1] at hV
                  subst hV
                  have HQN := Lib.hid hph
                  have HBN := Lib.hid hcm
                  clear hph hcm HQX HN0 LD CV HST hpl1
                  by_cases c100 : pl = 100
                  · have hX4 : Hid (R = .bad 4) := Lib.hid (HR.out.many HRL.out.2.2 HXB.out (by rw [HPL.out]; exact c100))
                    subst c100
                    go_wp2
                    go_ret2
                    exact ⟨HBN.out, by rw [hX4.out]; rfl⟩
                  · have HRN : Hid (RS R (pre ++ [(kd, d)]) (bs.drop i2)) := Lib.hid (by
                      have h := HR.out.next HRL.out.2.2 HXB.out (by rw [HPL.out]; omega)
                      have e : bs.drop i2 = r.drop n := by rw [← HRL.out.1, List.drop_drop]; congr 1; omega
                      rw [e]; exact h)
                    have t100 : ¬ (100 : Int) < ((pl + 1 : Nat) : Int) := by omega
                    have t101 : ¬ (100 : Int) < (pl : Int) + 1 := by omega
                    go_wp2
                    go_roundg (gk - n)
                    case rel => exact ⟨i2, pre ++ [(kd, d)], by omega, by go_num, HQN, HBN, HRN⟩
                    case measure => omega
    · obtain rfl : i = len := by omega
      have hnlt : ¬ (i : Int) < (i : Int) := by omega
      have hX : Hid (R = .good pre) := Lib.hid (by
        have h := HR.out
        rw [List.drop_of_length_le (by rw [HBL.out]; exact Nat.le_refl _)] at h
        exact h.done)
      go_wp2
      go_ret2
      refine ⟨HB.out, ?_⟩
      rw [hX.out]
      exact ⟨_, rfl, HQ.out⟩
end Go.Proofs.Ytfjkfajhfnmjjaa
