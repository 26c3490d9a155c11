/- The laws of chapter 4: contexts and bits of raw numbers. -/
import Derived.Test.YtdgkeghgfibolaaDoorMqSh
import Derived.Test.YtdgkeghgfibolaaDoorApps
set_option linter.unusedVariables false
set_option linter.unusedSimpArgs false
namespace Go.Proofs.YtdgkeghgfibolaaDoor
open Go.RowKit
attribute [local go_sem ↓] Go.Proofs.YtdgkeghgfibolaaDoor.appSem_eq

theorem tdiv_bd (v n : Int) (hv : -9223372036854775808 ≤ v ∧ v ≤ 9223372036854775807) (hn : 2 ≤ n) : -9223372036854775808 ≤ v.tdiv n ∧ v.tdiv n ≤ 9223372036854775807 := by
  by_cases h : 0 ≤ v
  · rw [Int.tdiv_eq_ediv_of_nonneg h]
    have h1 : 0 ≤ v / n := Int.ediv_nonneg h (by omega)
    have h2 : v / n ≤ v := Int.ediv_le_self n h
    omega
  · have e : v.tdiv n = -((-v) / n) := by
      rw [← Int.tdiv_eq_ediv_of_nonneg (by omega), Int.neg_tdiv, Int.neg_neg]
    rw [e]
    have h1 : 0 ≤ (-v) / n := Int.ediv_nonneg (by omega) (by omega)
    have h2 : (-v) / n ≤ -v := Int.ediv_le_self n (by omega)
    omega
structure Bk (w0 w : World) (VK VB : Value) (ks bs : List Int) (j : Nat) : Prop where
  gr : Grow w0.heap.size w0 w (sel3 VK VB (.slice none 0 0)) (sel3 ks bs []) 2
  lk : ks.length = j
  lb : bs.length = j
  hk : ∀ x ∈ ks, 0 ≤ x ∧ x < 19
  hb : ∀ x ∈ bs, 0 ≤ x ∧ x ≤ 1
theorem Bk.set {w0 w : World} {VK : Value} {g c j : Nat} {ks bs : List Int} (h : Bk w0 w VK (.slice (some ⟨g, 0, none⟩) (j + 1) c) ks bs (j + 1)) {x : Int} (hx : 0 ≤ x ∧ x ≤ 1) : Bk w0 (w.setCell ⟨g, j, none⟩ (.int .i64 x)) VK (.slice (some ⟨g, 0, none⟩) (j + 1) c) ks (bs.set j x) (j + 1) := by
  have o1 : w.ownsRow w0.heap.size 3 1 (.slice (some ⟨g, 0, none⟩) (j + 1) c) bs.length (bs.map (Value.int .i64)) := h.gr.own 1 (by omega)
  have o0 : w.ownsRow w0.heap.size 3 1 VK ks.length (ks.map (Value.int .i64)) := h.gr.own 0 (by omega)
  have hd : VK.ownBlock ≠ some g := fun e => h.gr.dis 0 1 (by omega) (by omega) (by omega) g e rfl
  rw [h.lb] at o1
  have S := (o1.stored j (.int .i64 x)).1
  have es : (bs.map (Value.int .i64)).set j (.int .i64 x) = (bs.set j x).map (Value.int .i64) := by rw [List.map_set]
  rw [es] at S
  have hg := (own_lt o1 (k := g) rfl).1
  refine ⟨⟨fun i hi => ?_, fun i k hi hk hik q hq => h.gr.dis i k hi hk hik q hq, h.gr.bel.setCell hg _, h.gr.siz⟩, h.lk, by rw [List.length_set]; exact h.lb, h.hk, fun y hy => ?_⟩
  · rcases i with _ | _ | i
    · exact ownsRow_setCell_other o0 (a := ⟨g, j, none⟩) hd _
    · show (w.setCell _ _).ownsRow _ _ _ _ (bs.set j x).length _
      rw [List.length_set, h.lb]; exact S
    · omega
  · rcases List.mem_or_eq_of_mem_set hy with e | e
    · exact h.hb y e
    · rw [e]; exact hx
def BitsP (w : World) (n : Nat) (e : Ending) (w' : World) : Prop := ∃ VK VB ks bs, e = .returned (.tuple #[VK, VB]) ∧ Bk w w' VK VB ks bs n
set_option maxRecDepth 100000 in
set_option maxHeartbeats 8000000 in
theorem bits_any (a0 : Option Addr) (len0 cap0 : Nat) (l : List Int) (B : Nat) (w : World) (hB : B ≤ w.heap.size) (hL : Lst w B a0 (l.map (Value.int .i64))) (hll : l.length = len0) (hlen : len0 ≤ 9223372036854775807) (hwf : ∀ v ∈ l, -9223372036854775808 ≤ v ∧ v ≤ 9223372036854775807) :
    Calls Tryd.prog 14 #[.slice a0 len0 cap0] w (BitsP w (min len0 400)) := by
  have HL := Lib.hid (And.intro hL (And.intro hll hwf))
  have hmo : Tryd.prog.follows .mixedOrders = true := by kernel_rfl
  obtain ⟨n, hn⟩ : ∃ n : Nat, min len0 400 = n := ⟨_, rfl⟩
  rw [hn]
  have hn1 : n ≤ len0 := by omega
  have hn2 : n ≤ 400 := by omega
  have hn3 : n = len0 ∨ n = 400 := by omega
  have H0 : Hid (Bk w w (.slice none 0 0) (.slice none 0 0) [] [] 0) := Lib.hid ⟨Grow.nil3 w 2, rfl, rfl, by simp, by simp⟩
  clear hL hll hwf hn
  go_enter Tryd.func14, Tryd.ntmps14
  go_wp2
  go_loopw [4, 5, 6] (fun k b i wr => ∃ (j : Nat) (ks bs : List Int), j ≤ n ∧ i = .int .i64 (j : Int) ∧ Bk w wr k b ks bs j) (fun _ _ i _ => n - (intOf i).toNat)
  case atStart => exact ⟨0, [], [], by omega, rfl, H0.out⟩
  case round =>
    obtain ⟨j, ks, bs, hj, rfl, hS⟩ := hrel
    have HS := Lib.hid hS
    clear hS H0
    by_cases hlt : j < n
    · obtain ⟨v, hv⟩ : ∃ v, l[j]? = some v := ⟨_, List.getElem?_eq_getElem (by rw [HL.out.2.1]; omega)⟩
      obtain ⟨ba, oa, rfl, hba, m0⟩ := HL.out.1 j (.int .i64 v) (by rw [List.getElem?_map, hv]; rfl)
      have hvb := HL.out.2.2 v (List.mem_of_getElem? hv)
      have h1 : (j : Int) < (len0 : Int) := by omega
      have h2 : (j : Int) < 400 := by omega
      have h4 : (0 : Int) ≤ (j : Int) := by omega
      clear hv
      obtain ⟨q19, hq19⟩ : ∃ q, v.tdiv 19 = q := ⟨_, rfl⟩
      have hqb := tdiv_bd v 19 hvb (by omega)
      rw [hq19] at hqb
      have hqw : IntKind.i64.wrap q19 = q19 := IntWalk.i64_in _ (by omega)
      have hq8 := within_rng q19 8 (by omega)
      have hv19 := within_rng v 19 (by omega)
      have hq7 : IntKind.i64.wrap (q19 % 8 / 7) = q19 % 8 / 7 := IntWalk.i64_in _ (by omega)
      have hq7a : (q19 % 8).tdiv 7 = q19 % 8 / 7 := Int.tdiv_eq_ediv_of_nonneg hq8.1
      have hq8a := hq8.1
      have hq8b : q19 % 8 ≤ 7 := by omega
      have hlk := HS.out.lk
      have hlb := HS.out.lb
      go_wp2_with fail
      have hG0 := HS.out.gr.drew
      refine (wpIn_wide (n := 9)).1 (regionIn_inv (Inv := fun L a w' => ∃ (nb : Nat → Nat) (V : Nat → Value), a = { tmps := #[.slice (some ⟨ba, oa, none⟩) len0 cap0, undef, .slice none 0 0, .slice none 0 0, bif L 18 then V 0 else u4, bif L 19 then V 1 else u5, .int .i64 (j : Int), .int .i64 (j : Int), .slice (some ⟨ba, oa, none⟩) len0 cap0, .int .i64 (len0 : Int), .bool true, .bool true, .int .i64 (j : Int), .bool true, .bool true, u15, u16, bif L 0 then u4 else u17, bif L 1 then .slice (some ⟨ba, oa, none⟩) len0 cap0 else u18, bif L 2 then .int .i64 (j : Int) else u19, bif L 3 then .pointer (some ⟨ba, oa + j, none⟩) else u20, bif L 4 then .int .i64 v else u21, bif L 5 then .int .i64 (v % 19) else u22, bif L 6 then .slice (some ⟨nb 0, 0, none⟩) 1 1 else u23, bif L 7 then V 0 else u24, bif L 8 then u5 else u25, bif L 9 then .slice (some ⟨ba, oa, none⟩) len0 cap0 else u26, bif L 10 then .int .i64 (j : Int) else u27, bif L 11 then .pointer (some ⟨ba, oa + j, none⟩) else u28, bif L 12 then .int .i64 v else u29, bif L 13 then .int .i64 q19 else u30, bif L 14 then .int .i64 (q19 % 8) else u31, bif L 15 then .int .i64 (q19 % 8 / 7) else u32, bif L 16 then .slice (some ⟨nb 1, 0, none⟩) 1 1 else u33, bif L 17 then V 1 else u34, u35, u36, u37, u38, u39, u40, u41, u42, u43, u44, u45, u46, u47, u48, u49, u50, undef, undef], defers := [] } ∧ Grow w.heap.size w w' V (sel3 (bif L 7 then ks ++ [v % 19] else ks) (bif L 17 then bs ++ [q19 % 8 / 7] else bs) []) 2 ∧ (L 6 = true → L 7 = false → Temp w' V 2 (nb 0) (v % 19)) ∧ (L 7 = false → V 0 = u4) ∧ (L 16 = true → L 17 = false → Temp w' V 2 (nb 1) (q19 % 8 / 7)) ∧ (L 17 = false → V 1 = u5)) hmo (by kernel_rfl) ?start ?step ?fin)
      case step =>
        intro i hi L a' w' hI hs hu
        obtain ⟨nb, V, rfl, hG, hT0, hV0, hT1, hV1⟩ := hI
        have hL := hu.1
        have hi : i < 20 := hi
        obtain rfl | rfl | rfl | rfl | rfl | rfl | rfl | rfl | rfl | rfl | rfl | rfl | rfl | rfl | rfl | rfl | rfl | rfl | rfl | rfl := (by omega : i = 0 ∨ i = 1 ∨ i = 2 ∨ i = 3 ∨ i = 4 ∨ i = 5 ∨ i = 6 ∨ i = 7 ∨ i = 8 ∨ i = 9 ∨ i = 10 ∨ i = 11 ∨ i = 12 ∨ i = 13 ∨ i = 14 ∨ i = 15 ∨ i = 16 ∨ i = 17 ∨ i = 18 ∨ i = 19)
        · skip
          have n7 : L 7 = false := not_yet hL fun h => shut_at hs 7 0 (by kernel_rfl) (h)
          have n16 : L 16 = false := not_yet hL fun h => shut_at hs 7 0 (by kernel_rfl) (shut_at hs 14 7 (by kernel_rfl) (shut_at hs 15 14 (by kernel_rfl) (shut_at hs 16 15 (by kernel_rfl) (h))))
          have n17 : L 17 = false := not_yet hL fun h => shut_at hs 7 0 (by kernel_rfl) (shut_at hs 14 7 (by kernel_rfl) (shut_at hs 17 14 (by kernel_rfl) (h)))
          have n18 : L 18 = false := not_yet hL fun h => shut_at hs 18 0 (by kernel_rfl) (h)
          have n19 : L 19 = false := not_yet hL fun h => shut_at hs 19 0 (by kernel_rfl) (h)
          refine opIn_run (v := u4) (w' := w') rfl rfl (fun c h => by cases h) (fun _ => trivial) ?_ ⟨nb, V, by simp [Act.put, upd, n7, n16, n17, n18, n19, hL], hG, hT0, hV0, hT1, hV1⟩
          simp only [n7, n16, n17, n18, n19, hL, cond_true, cond_false]
          go_simp
        · skip
          have n6 : L 6 = false := not_yet hL fun h => shut_at hs 3 1 (by kernel_rfl) (shut_at hs 4 3 (by kernel_rfl) (shut_at hs 5 4 (by kernel_rfl) (shut_at hs 6 5 (by kernel_rfl) (h))))
          have n7 : L 7 = false := not_yet hL fun h => shut_at hs 3 1 (by kernel_rfl) (shut_at hs 4 3 (by kernel_rfl) (shut_at hs 5 4 (by kernel_rfl) (shut_at hs 7 5 (by kernel_rfl) (h))))
          have n16 : L 16 = false := not_yet hL fun h => shut_at hs 3 1 (by kernel_rfl) (shut_at hs 4 3 (by kernel_rfl) (shut_at hs 5 4 (by kernel_rfl) (shut_at hs 7 5 (by kernel_rfl) (shut_at hs 14 7 (by kernel_rfl) (shut_at hs 15 14 (by kernel_rfl) (shut_at hs 16 15 (by kernel_rfl) (h)))))))
          have n17 : L 17 = false := not_yet hL fun h => shut_at hs 3 1 (by kernel_rfl) (shut_at hs 4 3 (by kernel_rfl) (shut_at hs 5 4 (by kernel_rfl) (shut_at hs 7 5 (by kernel_rfl) (shut_at hs 14 7 (by kernel_rfl) (shut_at hs 17 14 (by kernel_rfl) (h))))))
          have n18 : L 18 = false := not_yet hL fun h => shut_at hs 18 1 (by kernel_rfl) (h)
          have n19 : L 19 = false := not_yet hL fun h => shut_at hs 19 1 (by kernel_rfl) (h)
          refine opIn_run (v := .slice (some ⟨ba, oa, none⟩) len0 cap0) (w' := w') rfl rfl (fun c h => by cases h) (fun _ => trivial) ?_ ⟨nb, V, by simp [Act.put, upd, n6, n7, n16, n17, n18, n19, hL], hG, hT0, hV0, hT1, hV1⟩
          simp only [n6, n7, n16, n17, n18, n19, hL, cond_true, cond_false]
          go_simp
        · skip
          have n6 : L 6 = false := not_yet hL fun h => shut_at hs 3 2 (by kernel_rfl) (shut_at hs 4 3 (by kernel_rfl) (shut_at hs 5 4 (by kernel_rfl) (shut_at hs 6 5 (by kernel_rfl) (h))))
          have n7 : L 7 = false := not_yet hL fun h => shut_at hs 3 2 (by kernel_rfl) (shut_at hs 4 3 (by kernel_rfl) (shut_at hs 5 4 (by kernel_rfl) (shut_at hs 7 5 (by kernel_rfl) (h))))
          have n16 : L 16 = false := not_yet hL fun h => shut_at hs 3 2 (by kernel_rfl) (shut_at hs 4 3 (by kernel_rfl) (shut_at hs 5 4 (by kernel_rfl) (shut_at hs 7 5 (by kernel_rfl) (shut_at hs 14 7 (by kernel_rfl) (shut_at hs 15 14 (by kernel_rfl) (shut_at hs 16 15 (by kernel_rfl) (h)))))))
          have n17 : L 17 = false := not_yet hL fun h => shut_at hs 3 2 (by kernel_rfl) (shut_at hs 4 3 (by kernel_rfl) (shut_at hs 5 4 (by kernel_rfl) (shut_at hs 7 5 (by kernel_rfl) (shut_at hs 14 7 (by kernel_rfl) (shut_at hs 17 14 (by kernel_rfl) (h))))))
          have n18 : L 18 = false := not_yet hL fun h => shut_at hs 18 2 (by kernel_rfl) (h)
          have n19 : L 19 = false := not_yet hL fun h => shut_at hs 19 2 (by kernel_rfl) (h)
          refine opIn_run (v := .int .i64 (j : Int)) (w' := w') rfl rfl (fun c h => by cases h) (fun _ => trivial) ?_ ⟨nb, V, by simp [Act.put, upd, n6, n7, n16, n17, n18, n19, hL], hG, hT0, hV0, hT1, hV1⟩
          simp only [n6, n7, n16, n17, n18, n19, hL, cond_true, cond_false]
          go_simp
        · skip
          have y1 : L 1 = true := up_at hu 1 (by kernel_rfl)
          have y2 : L 2 = true := up_at hu 2 (by kernel_rfl)
          have n6 : L 6 = false := not_yet hL fun h => shut_at hs 4 3 (by kernel_rfl) (shut_at hs 5 4 (by kernel_rfl) (shut_at hs 6 5 (by kernel_rfl) (h)))
          have n7 : L 7 = false := not_yet hL fun h => shut_at hs 4 3 (by kernel_rfl) (shut_at hs 5 4 (by kernel_rfl) (shut_at hs 7 5 (by kernel_rfl) (h)))
          have n16 : L 16 = false := not_yet hL fun h => shut_at hs 4 3 (by kernel_rfl) (shut_at hs 5 4 (by kernel_rfl) (shut_at hs 7 5 (by kernel_rfl) (shut_at hs 14 7 (by kernel_rfl) (shut_at hs 15 14 (by kernel_rfl) (shut_at hs 16 15 (by kernel_rfl) (h))))))
          have n17 : L 17 = false := not_yet hL fun h => shut_at hs 4 3 (by kernel_rfl) (shut_at hs 5 4 (by kernel_rfl) (shut_at hs 7 5 (by kernel_rfl) (shut_at hs 14 7 (by kernel_rfl) (shut_at hs 17 14 (by kernel_rfl) (h)))))
          have n18 : L 18 = false := not_yet hL fun h => shut_at hs 18 3 (by kernel_rfl) (h)
          have n19 : L 19 = false := not_yet hL fun h => shut_at hs 19 3 (by kernel_rfl) (h)
          refine opIn_run (v := .pointer (some ⟨ba, oa + j, none⟩)) (w' := w') rfl rfl (fun c h => by cases h) (fun _ => trivial) ?_ ⟨nb, V, by simp [Act.put, upd, y1, y2, n6, n7, n16, n17, n18, n19, hL], hG, hT0, hV0, hT1, hV1⟩
          simp only [y1, y2, n6, n7, n16, n17, n18, n19, hL, cond_true, cond_false]
          go_simp
        · skip
          have y1 : L 1 = true := shut_at hs 3 1 (by kernel_rfl) (up_at hu 3 (by kernel_rfl))
          have y2 : L 2 = true := shut_at hs 3 2 (by kernel_rfl) (up_at hu 3 (by kernel_rfl))
          have y3 : L 3 = true := up_at hu 3 (by kernel_rfl)
          have n6 : L 6 = false := not_yet hL fun h => shut_at hs 5 4 (by kernel_rfl) (shut_at hs 6 5 (by kernel_rfl) (h))
          have n7 : L 7 = false := not_yet hL fun h => shut_at hs 5 4 (by kernel_rfl) (shut_at hs 7 5 (by kernel_rfl) (h))
          have n16 : L 16 = false := not_yet hL fun h => shut_at hs 5 4 (by kernel_rfl) (shut_at hs 7 5 (by kernel_rfl) (shut_at hs 14 7 (by kernel_rfl) (shut_at hs 15 14 (by kernel_rfl) (shut_at hs 16 15 (by kernel_rfl) (h)))))
          have n17 : L 17 = false := not_yet hL fun h => shut_at hs 5 4 (by kernel_rfl) (shut_at hs 7 5 (by kernel_rfl) (shut_at hs 14 7 (by kernel_rfl) (shut_at hs 17 14 (by kernel_rfl) (h))))
          have n18 : L 18 = false := not_yet hL fun h => shut_at hs 18 4 (by kernel_rfl) (h)
          have n19 : L 19 = false := not_yet hL fun h => shut_at hs 19 4 (by kernel_rfl) (h)
          have m1 := (hG.bel.cell (p := ⟨ba, oa + j, none⟩) (Nat.lt_of_lt_of_le hba hB)).trans m0
          refine opIn_run (v := .int .i64 v) (w' := w') rfl rfl (fun c h => by cases h) (fun _ => trivial) ?_ ⟨nb, V, by simp [Act.put, upd, y1, y2, y3, n6, n7, n16, n17, n18, n19, hL], hG, hT0, hV0, hT1, hV1⟩
          simp only [y1, y2, y3, n6, n7, n16, n17, n18, n19, hL, cond_true, cond_false]
          go_simp
        · skip
          have y1 : L 1 = true := shut_at hs 3 1 (by kernel_rfl) (shut_at hs 4 3 (by kernel_rfl) (up_at hu 4 (by kernel_rfl)))
          have y2 : L 2 = true := shut_at hs 3 2 (by kernel_rfl) (shut_at hs 4 3 (by kernel_rfl) (up_at hu 4 (by kernel_rfl)))
          have y3 : L 3 = true := shut_at hs 4 3 (by kernel_rfl) (up_at hu 4 (by kernel_rfl))
          have y4 : L 4 = true := up_at hu 4 (by kernel_rfl)
          have n6 : L 6 = false := not_yet hL fun h => shut_at hs 6 5 (by kernel_rfl) (h)
          have n7 : L 7 = false := not_yet hL fun h => shut_at hs 7 5 (by kernel_rfl) (h)
          have n16 : L 16 = false := not_yet hL fun h => shut_at hs 7 5 (by kernel_rfl) (shut_at hs 14 7 (by kernel_rfl) (shut_at hs 15 14 (by kernel_rfl) (shut_at hs 16 15 (by kernel_rfl) (h))))
          have n17 : L 17 = false := not_yet hL fun h => shut_at hs 7 5 (by kernel_rfl) (shut_at hs 14 7 (by kernel_rfl) (shut_at hs 17 14 (by kernel_rfl) (h)))
          have n18 : L 18 = false := not_yet hL fun h => shut_at hs 18 5 (by kernel_rfl) (h)
          have n19 : L 19 = false := not_yet hL fun h => shut_at hs 19 5 (by kernel_rfl) (h)
          refine opIn_call (f := 28) (args := #[.int .i64 v, .int .i64 19]) (w' := w') rfl rfl (fun c h => by cases h) (fun _ => trivial) rfl ?_ ((callsIn_wide.2 (within_any v 19 w' (by omega) (by omega))).mono ?_)
          · simp only [y1, y2, y3, y4, n6, n7, n16, n17, n18, n19, hL, cond_true, cond_false]
            go_simp
          · rintro e w2 ⟨rfl, rfl⟩
            exact ⟨_, rfl, nb, V, by simp [Act.put, upd, y1, y2, y3, y4, n6, n7, n16, n17, n18, n19, hL], hG, hT0, hV0, hT1, hV1⟩
        · skip
          have y1 : L 1 = true := shut_at hs 3 1 (by kernel_rfl) (shut_at hs 4 3 (by kernel_rfl) (shut_at hs 5 4 (by kernel_rfl) (up_at hu 5 (by kernel_rfl))))
          have y2 : L 2 = true := shut_at hs 3 2 (by kernel_rfl) (shut_at hs 4 3 (by kernel_rfl) (shut_at hs 5 4 (by kernel_rfl) (up_at hu 5 (by kernel_rfl))))
          have y3 : L 3 = true := shut_at hs 4 3 (by kernel_rfl) (shut_at hs 5 4 (by kernel_rfl) (up_at hu 5 (by kernel_rfl)))
          have y4 : L 4 = true := shut_at hs 5 4 (by kernel_rfl) (up_at hu 5 (by kernel_rfl))
          have y5 : L 5 = true := up_at hu 5 (by kernel_rfl)
          have n7 : L 7 = false := not_yet hL fun h => shut_at hs 7 6 (by kernel_rfl) (h)
          have n16 : L 16 = false := not_yet hL fun h => shut_at hs 7 6 (by kernel_rfl) (shut_at hs 14 7 (by kernel_rfl) (shut_at hs 15 14 (by kernel_rfl) (shut_at hs 16 15 (by kernel_rfl) (h))))
          have n17 : L 17 = false := not_yet hL fun h => shut_at hs 7 6 (by kernel_rfl) (shut_at hs 14 7 (by kernel_rfl) (shut_at hs 17 14 (by kernel_rfl) (h)))
          have n18 : L 18 = false := not_yet hL fun h => shut_at hs 18 6 (by kernel_rfl) (h)
          have n19 : L 19 = false := not_yet hL fun h => shut_at hs 19 6 (by kernel_rfl) (h)
          refine opIn_run (v := .slice (some ⟨w'.heap.size, 0, none⟩) 1 1) (w' := w'.alloc (.cells #[.int .i64 (v % 19)] 3)) rfl rfl (fun c h => by cases h) (fun _ => trivial) ?_ ⟨put1 nb 0 w'.heap.size, V, by simp [Act.put, upd, put1, y1, y2, y3, y4, y5, n7, n16, n17, n18, n19, hL], hG.alloc _, (fun _ _ => by simpa [put1] using Temp.new hG (v % 19)), hV0, (fun h1 h2 => by simpa [put1] using (hT1 h1 h2).alloc _), hV1⟩
          simp only [y1, y2, y3, y4, y5, n7, n16, n17, n18, n19, hL, cond_true, cond_false]
          go_simp
        · skip
          have y0 : L 0 = true := up_at hu 0 (by kernel_rfl)
          have y1 : L 1 = true := shut_at hs 3 1 (by kernel_rfl) (shut_at hs 4 3 (by kernel_rfl) (shut_at hs 5 4 (by kernel_rfl) (up_at hu 5 (by kernel_rfl))))
          have y2 : L 2 = true := shut_at hs 3 2 (by kernel_rfl) (shut_at hs 4 3 (by kernel_rfl) (shut_at hs 5 4 (by kernel_rfl) (up_at hu 5 (by kernel_rfl))))
          have y3 : L 3 = true := shut_at hs 4 3 (by kernel_rfl) (shut_at hs 5 4 (by kernel_rfl) (up_at hu 5 (by kernel_rfl)))
          have y4 : L 4 = true := shut_at hs 5 4 (by kernel_rfl) (up_at hu 5 (by kernel_rfl))
          have y5 : L 5 = true := up_at hu 5 (by kernel_rfl)
          have y6 : L 6 = true := up_at hu 6 (by kernel_rfl)
          have n16 : L 16 = false := not_yet hL fun h => shut_at hs 14 7 (by kernel_rfl) (shut_at hs 15 14 (by kernel_rfl) (shut_at hs 16 15 (by kernel_rfl) (h)))
          have n17 : L 17 = false := not_yet hL fun h => shut_at hs 14 7 (by kernel_rfl) (shut_at hs 17 14 (by kernel_rfl) (h))
          have n18 : L 18 = false := not_yet hL fun h => shut_at hs 18 7 (by kernel_rfl) (h)
          have n19 : L 19 = false := not_yet hL fun h => shut_at hs 19 7 (by kernel_rfl) (h)
          have hT := hT0 y6 hL
          obtain ⟨g, c, w2, hr, hG2, hTT, _⟩ := hG.app (i := 0) (by omega) hT (by simp only [sel3]; simp [y0, y1, y2, y3, y4, y5, y6, n16, n17, n18, n19, hL]; omega)
          have hVo := hV0 hL
          rw [hVo] at hr
          simp only [sel3, hL, cond_false, if_true, if_false, Nat.zero_ne_one, Nat.one_ne_zero, reduceIte, Nat.succ_ne_self, Nat.reduceEqDiff] at hr hTT
          clear hVo
          refine opIn_run (v := .slice (some ⟨g, 0, none⟩) (ks.length + 1) c) (w' := w2) rfl rfl (fun c h => by cases h) (fun _ => trivial) ?_ ⟨nb, put1 V 0 (.slice (some ⟨g, 0, none⟩) (ks.length + 1) c), by simp [Act.put, upd, put1, y0, y1, y2, y3, y4, y5, y6, n16, n17, n18, n19, hL], ?_, (fun h1 h2 => by simp [upd] at h2), (fun h2 => by simp [upd] at h2), (fun h1 h2 => hTT _ _ (hT1 h1 h2)), (fun h2 => by rw [put1_ne _ _ (by decide)]; exact hV1 h2)⟩
          · simp only [y0, y1, y2, y3, y4, y5, y6, n16, n17, n18, n19, hL, cond_true, cond_false]
            go_simp
          · rw [sel3_put0] at hG2
            simpa [sel3, upd, y0, y1, y2, y3, y4, y5, y6, n16, n17, n18, n19, hL] using hG2
        · skip
          have n17 : L 17 = false := not_yet hL fun h => shut_at hs 17 8 (by kernel_rfl) (h)
          have n18 : L 18 = false := not_yet hL fun h => shut_at hs 17 8 (by kernel_rfl) (shut_at hs 18 17 (by kernel_rfl) (h))
          have n19 : L 19 = false := not_yet hL fun h => shut_at hs 19 8 (by kernel_rfl) (h)
          refine opIn_run (v := u5) (w' := w') rfl rfl (fun c h => by cases h) (fun _ => trivial) ?_ ⟨nb, V, by simp [Act.put, upd, n17, n18, n19, hL], hG, hT0, hV0, hT1, hV1⟩
          simp only [n17, n18, n19, hL, cond_true, cond_false]
          go_simp
        · skip
          have n16 : L 16 = false := not_yet hL fun h => shut_at hs 11 9 (by kernel_rfl) (shut_at hs 12 11 (by kernel_rfl) (shut_at hs 13 12 (by kernel_rfl) (shut_at hs 14 13 (by kernel_rfl) (shut_at hs 15 14 (by kernel_rfl) (shut_at hs 16 15 (by kernel_rfl) (h))))))
          have n17 : L 17 = false := not_yet hL fun h => shut_at hs 11 9 (by kernel_rfl) (shut_at hs 12 11 (by kernel_rfl) (shut_at hs 13 12 (by kernel_rfl) (shut_at hs 14 13 (by kernel_rfl) (shut_at hs 17 14 (by kernel_rfl) (h)))))
          have n18 : L 18 = false := not_yet hL fun h => shut_at hs 11 9 (by kernel_rfl) (shut_at hs 12 11 (by kernel_rfl) (shut_at hs 13 12 (by kernel_rfl) (shut_at hs 14 13 (by kernel_rfl) (shut_at hs 17 14 (by kernel_rfl) (shut_at hs 18 17 (by kernel_rfl) (h))))))
          have n19 : L 19 = false := not_yet hL fun h => shut_at hs 19 9 (by kernel_rfl) (h)
          refine opIn_run (v := .slice (some ⟨ba, oa, none⟩) len0 cap0) (w' := w') rfl rfl (fun c h => by cases h) (fun _ => trivial) ?_ ⟨nb, V, by simp [Act.put, upd, n16, n17, n18, n19, hL], hG, hT0, hV0, hT1, hV1⟩
          simp only [n16, n17, n18, n19, hL, cond_true, cond_false]
          go_simp
        · skip
          have n16 : L 16 = false := not_yet hL fun h => shut_at hs 11 10 (by kernel_rfl) (shut_at hs 12 11 (by kernel_rfl) (shut_at hs 13 12 (by kernel_rfl) (shut_at hs 14 13 (by kernel_rfl) (shut_at hs 15 14 (by kernel_rfl) (shut_at hs 16 15 (by kernel_rfl) (h))))))
          have n17 : L 17 = false := not_yet hL fun h => shut_at hs 11 10 (by kernel_rfl) (shut_at hs 12 11 (by kernel_rfl) (shut_at hs 13 12 (by kernel_rfl) (shut_at hs 14 13 (by kernel_rfl) (shut_at hs 17 14 (by kernel_rfl) (h)))))
          have n18 : L 18 = false := not_yet hL fun h => shut_at hs 11 10 (by kernel_rfl) (shut_at hs 12 11 (by kernel_rfl) (shut_at hs 13 12 (by kernel_rfl) (shut_at hs 14 13 (by kernel_rfl) (shut_at hs 17 14 (by kernel_rfl) (shut_at hs 18 17 (by kernel_rfl) (h))))))
          have n19 : L 19 = false := not_yet hL fun h => shut_at hs 19 10 (by kernel_rfl) (h)
          refine opIn_run (v := .int .i64 (j : Int)) (w' := w') rfl rfl (fun c h => by cases h) (fun _ => trivial) ?_ ⟨nb, V, by simp [Act.put, upd, n16, n17, n18, n19, hL], hG, hT0, hV0, hT1, hV1⟩
          simp only [n16, n17, n18, n19, hL, cond_true, cond_false]
          go_simp
        · skip
          have y9 : L 9 = true := up_at hu 9 (by kernel_rfl)
          have y10 : L 10 = true := up_at hu 10 (by kernel_rfl)
          have n16 : L 16 = false := not_yet hL fun h => shut_at hs 12 11 (by kernel_rfl) (shut_at hs 13 12 (by kernel_rfl) (shut_at hs 14 13 (by kernel_rfl) (shut_at hs 15 14 (by kernel_rfl) (shut_at hs 16 15 (by kernel_rfl) (h)))))
          have n17 : L 17 = false := not_yet hL fun h => shut_at hs 12 11 (by kernel_rfl) (shut_at hs 13 12 (by kernel_rfl) (shut_at hs 14 13 (by kernel_rfl) (shut_at hs 17 14 (by kernel_rfl) (h))))
          have n18 : L 18 = false := not_yet hL fun h => shut_at hs 12 11 (by kernel_rfl) (shut_at hs 13 12 (by kernel_rfl) (shut_at hs 14 13 (by kernel_rfl) (shut_at hs 17 14 (by kernel_rfl) (shut_at hs 18 17 (by kernel_rfl) (h)))))
          have n19 : L 19 = false := not_yet hL fun h => shut_at hs 19 11 (by kernel_rfl) (h)
          refine opIn_run (v := .pointer (some ⟨ba, oa + j, none⟩)) (w' := w') rfl rfl (fun c h => by cases h) (fun _ => trivial) ?_ ⟨nb, V, by simp [Act.put, upd, y9, y10, n16, n17, n18, n19, hL], hG, hT0, hV0, hT1, hV1⟩
          simp only [y9, y10, n16, n17, n18, n19, hL, cond_true, cond_false]
          go_simp
        · skip
          have y9 : L 9 = true := shut_at hs 11 9 (by kernel_rfl) (up_at hu 11 (by kernel_rfl))
          have y10 : L 10 = true := shut_at hs 11 10 (by kernel_rfl) (up_at hu 11 (by kernel_rfl))
          have y11 : L 11 = true := up_at hu 11 (by kernel_rfl)
          have n16 : L 16 = false := not_yet hL fun h => shut_at hs 13 12 (by kernel_rfl) (shut_at hs 14 13 (by kernel_rfl) (shut_at hs 15 14 (by kernel_rfl) (shut_at hs 16 15 (by kernel_rfl) (h))))
          have n17 : L 17 = false := not_yet hL fun h => shut_at hs 13 12 (by kernel_rfl) (shut_at hs 14 13 (by kernel_rfl) (shut_at hs 17 14 (by kernel_rfl) (h)))
          have n18 : L 18 = false := not_yet hL fun h => shut_at hs 13 12 (by kernel_rfl) (shut_at hs 14 13 (by kernel_rfl) (shut_at hs 17 14 (by kernel_rfl) (shut_at hs 18 17 (by kernel_rfl) (h))))
          have n19 : L 19 = false := not_yet hL fun h => shut_at hs 19 12 (by kernel_rfl) (h)
          have m1 := (hG.bel.cell (p := ⟨ba, oa + j, none⟩) (Nat.lt_of_lt_of_le hba hB)).trans m0
          refine opIn_run (v := .int .i64 v) (w' := w') rfl rfl (fun c h => by cases h) (fun _ => trivial) ?_ ⟨nb, V, by simp [Act.put, upd, y9, y10, y11, n16, n17, n18, n19, hL], hG, hT0, hV0, hT1, hV1⟩
          simp only [y9, y10, y11, n16, n17, n18, n19, hL, cond_true, cond_false]
          go_simp
        · skip
          have y9 : L 9 = true := shut_at hs 11 9 (by kernel_rfl) (shut_at hs 12 11 (by kernel_rfl) (up_at hu 12 (by kernel_rfl)))
          have y10 : L 10 = true := shut_at hs 11 10 (by kernel_rfl) (shut_at hs 12 11 (by kernel_rfl) (up_at hu 12 (by kernel_rfl)))
          have y11 : L 11 = true := shut_at hs 12 11 (by kernel_rfl) (up_at hu 12 (by kernel_rfl))
          have y12 : L 12 = true := up_at hu 12 (by kernel_rfl)
          have n16 : L 16 = false := not_yet hL fun h => shut_at hs 14 13 (by kernel_rfl) (shut_at hs 15 14 (by kernel_rfl) (shut_at hs 16 15 (by kernel_rfl) (h)))
          have n17 : L 17 = false := not_yet hL fun h => shut_at hs 14 13 (by kernel_rfl) (shut_at hs 17 14 (by kernel_rfl) (h))
          have n18 : L 18 = false := not_yet hL fun h => shut_at hs 14 13 (by kernel_rfl) (shut_at hs 17 14 (by kernel_rfl) (shut_at hs 18 17 (by kernel_rfl) (h)))
          have n19 : L 19 = false := not_yet hL fun h => shut_at hs 19 13 (by kernel_rfl) (h)
          refine opIn_run (v := .int .i64 q19) (w' := w') rfl rfl (fun c h => by cases h) (fun _ => trivial) ?_ ⟨nb, V, by simp [Act.put, upd, y9, y10, y11, y12, n16, n17, n18, n19, hL], hG, hT0, hV0, hT1, hV1⟩
          simp only [y9, y10, y11, y12, n16, n17, n18, n19, hL, cond_true, cond_false]
          go_simp
        · skip
          have y0 : L 0 = true := shut_at hs 7 0 (by kernel_rfl) (up_at hu 7 (by kernel_rfl))
          have y1 : L 1 = true := shut_at hs 3 1 (by kernel_rfl) (shut_at hs 4 3 (by kernel_rfl) (shut_at hs 5 4 (by kernel_rfl) (shut_at hs 7 5 (by kernel_rfl) (up_at hu 7 (by kernel_rfl)))))
          have y2 : L 2 = true := shut_at hs 3 2 (by kernel_rfl) (shut_at hs 4 3 (by kernel_rfl) (shut_at hs 5 4 (by kernel_rfl) (shut_at hs 7 5 (by kernel_rfl) (up_at hu 7 (by kernel_rfl)))))
          have y3 : L 3 = true := shut_at hs 4 3 (by kernel_rfl) (shut_at hs 5 4 (by kernel_rfl) (shut_at hs 7 5 (by kernel_rfl) (up_at hu 7 (by kernel_rfl))))
          have y4 : L 4 = true := shut_at hs 5 4 (by kernel_rfl) (shut_at hs 7 5 (by kernel_rfl) (up_at hu 7 (by kernel_rfl)))
          have y5 : L 5 = true := shut_at hs 7 5 (by kernel_rfl) (up_at hu 7 (by kernel_rfl))
          have y6 : L 6 = true := shut_at hs 7 6 (by kernel_rfl) (up_at hu 7 (by kernel_rfl))
          have y7 : L 7 = true := up_at hu 7 (by kernel_rfl)
          have y9 : L 9 = true := shut_at hs 11 9 (by kernel_rfl) (shut_at hs 12 11 (by kernel_rfl) (shut_at hs 13 12 (by kernel_rfl) (up_at hu 13 (by kernel_rfl))))
          have y10 : L 10 = true := shut_at hs 11 10 (by kernel_rfl) (shut_at hs 12 11 (by kernel_rfl) (shut_at hs 13 12 (by kernel_rfl) (up_at hu 13 (by kernel_rfl))))
          have y11 : L 11 = true := shut_at hs 12 11 (by kernel_rfl) (shut_at hs 13 12 (by kernel_rfl) (up_at hu 13 (by kernel_rfl)))
          have y12 : L 12 = true := shut_at hs 13 12 (by kernel_rfl) (up_at hu 13 (by kernel_rfl))
          have y13 : L 13 = true := up_at hu 13 (by kernel_rfl)
          have n16 : L 16 = false := not_yet hL fun h => shut_at hs 15 14 (by kernel_rfl) (shut_at hs 16 15 (by kernel_rfl) (h))
          have n17 : L 17 = false := not_yet hL fun h => shut_at hs 17 14 (by kernel_rfl) (h)
          have n18 : L 18 = false := not_yet hL fun h => shut_at hs 17 14 (by kernel_rfl) (shut_at hs 18 17 (by kernel_rfl) (h))
          have n19 : L 19 = false := not_yet hL fun h => shut_at hs 19 14 (by kernel_rfl) (h)
          refine opIn_call (f := 28) (args := #[.int .i64 q19, .int .i64 8]) (w' := w') rfl rfl (fun c h => by cases h) (fun _ => trivial) rfl ?_ ((callsIn_wide.2 (within_any q19 8 w' (by omega) (by omega))).mono ?_)
          · simp only [y0, y1, y2, y3, y4, y5, y6, y7, y9, y10, y11, y12, y13, n16, n17, n18, n19, hL, cond_true, cond_false]
            go_simp
          · rintro e w2 ⟨rfl, rfl⟩
            exact ⟨_, rfl, nb, V, by simp [Act.put, upd, y0, y1, y2, y3, y4, y5, y6, y7, y9, y10, y11, y12, y13, n16, n17, n18, n19, hL], hG, hT0, hV0, hT1, hV1⟩
        · skip
          have y0 : L 0 = true := shut_at hs 7 0 (by kernel_rfl) (shut_at hs 14 7 (by kernel_rfl) (up_at hu 14 (by kernel_rfl)))
          have y1 : L 1 = true := shut_at hs 3 1 (by kernel_rfl) (shut_at hs 4 3 (by kernel_rfl) (shut_at hs 5 4 (by kernel_rfl) (shut_at hs 7 5 (by kernel_rfl) (shut_at hs 14 7 (by kernel_rfl) (up_at hu 14 (by kernel_rfl))))))
          have y2 : L 2 = true := shut_at hs 3 2 (by kernel_rfl) (shut_at hs 4 3 (by kernel_rfl) (shut_at hs 5 4 (by kernel_rfl) (shut_at hs 7 5 (by kernel_rfl) (shut_at hs 14 7 (by kernel_rfl) (up_at hu 14 (by kernel_rfl))))))
          have y3 : L 3 = true := shut_at hs 4 3 (by kernel_rfl) (shut_at hs 5 4 (by kernel_rfl) (shut_at hs 7 5 (by kernel_rfl) (shut_at hs 14 7 (by kernel_rfl) (up_at hu 14 (by kernel_rfl)))))
          have y4 : L 4 = true := shut_at hs 5 4 (by kernel_rfl) (shut_at hs 7 5 (by kernel_rfl) (shut_at hs 14 7 (by kernel_rfl) (up_at hu 14 (by kernel_rfl))))
          have y5 : L 5 = true := shut_at hs 7 5 (by kernel_rfl) (shut_at hs 14 7 (by kernel_rfl) (up_at hu 14 (by kernel_rfl)))
          have y6 : L 6 = true := shut_at hs 7 6 (by kernel_rfl) (shut_at hs 14 7 (by kernel_rfl) (up_at hu 14 (by kernel_rfl)))
          have y7 : L 7 = true := shut_at hs 14 7 (by kernel_rfl) (up_at hu 14 (by kernel_rfl))
          have y9 : L 9 = true := shut_at hs 11 9 (by kernel_rfl) (shut_at hs 12 11 (by kernel_rfl) (shut_at hs 13 12 (by kernel_rfl) (shut_at hs 14 13 (by kernel_rfl) (up_at hu 14 (by kernel_rfl)))))
          have y10 : L 10 = true := shut_at hs 11 10 (by kernel_rfl) (shut_at hs 12 11 (by kernel_rfl) (shut_at hs 13 12 (by kernel_rfl) (shut_at hs 14 13 (by kernel_rfl) (up_at hu 14 (by kernel_rfl)))))
          have y11 : L 11 = true := shut_at hs 12 11 (by kernel_rfl) (shut_at hs 13 12 (by kernel_rfl) (shut_at hs 14 13 (by kernel_rfl) (up_at hu 14 (by kernel_rfl))))
          have y12 : L 12 = true := shut_at hs 13 12 (by kernel_rfl) (shut_at hs 14 13 (by kernel_rfl) (up_at hu 14 (by kernel_rfl)))
          have y13 : L 13 = true := shut_at hs 14 13 (by kernel_rfl) (up_at hu 14 (by kernel_rfl))
          have y14 : L 14 = true := up_at hu 14 (by kernel_rfl)
          have n16 : L 16 = false := not_yet hL fun h => shut_at hs 16 15 (by kernel_rfl) (h)
          have n17 : L 17 = false := not_yet hL fun h => shut_at hs 16 15 (by kernel_rfl) (shut_at hs 17 16 (by kernel_rfl) (h))
          have n18 : L 18 = false := not_yet hL fun h => shut_at hs 16 15 (by kernel_rfl) (shut_at hs 17 16 (by kernel_rfl) (shut_at hs 18 17 (by kernel_rfl) (h)))
          have n19 : L 19 = false := not_yet hL fun h => shut_at hs 19 15 (by kernel_rfl) (h)
          refine opIn_run (v := .int .i64 (q19 % 8 / 7)) (w' := w') rfl rfl (fun c h => by cases h) (fun _ => trivial) ?_ ⟨nb, V, by simp [Act.put, upd, y0, y1, y2, y3, y4, y5, y6, y7, y9, y10, y11, y12, y13, y14, n16, n17, n18, n19, hL], hG, hT0, hV0, hT1, hV1⟩
          simp only [y0, y1, y2, y3, y4, y5, y6, y7, y9, y10, y11, y12, y13, y14, n16, n17, n18, n19, hL, cond_true, cond_false]
          go_simp
        · skip
          have y0 : L 0 = true := shut_at hs 7 0 (by kernel_rfl) (shut_at hs 14 7 (by kernel_rfl) (shut_at hs 15 14 (by kernel_rfl) (up_at hu 15 (by kernel_rfl))))
          have y1 : L 1 = true := shut_at hs 3 1 (by kernel_rfl) (shut_at hs 4 3 (by kernel_rfl) (shut_at hs 5 4 (by kernel_rfl) (shut_at hs 7 5 (by kernel_rfl) (shut_at hs 14 7 (by kernel_rfl) (shut_at hs 15 14 (by kernel_rfl) (up_at hu 15 (by kernel_rfl)))))))
          have y2 : L 2 = true := shut_at hs 3 2 (by kernel_rfl) (shut_at hs 4 3 (by kernel_rfl) (shut_at hs 5 4 (by kernel_rfl) (shut_at hs 7 5 (by kernel_rfl) (shut_at hs 14 7 (by kernel_rfl) (shut_at hs 15 14 (by kernel_rfl) (up_at hu 15 (by kernel_rfl)))))))
          have y3 : L 3 = true := shut_at hs 4 3 (by kernel_rfl) (shut_at hs 5 4 (by kernel_rfl) (shut_at hs 7 5 (by kernel_rfl) (shut_at hs 14 7 (by kernel_rfl) (shut_at hs 15 14 (by kernel_rfl) (up_at hu 15 (by kernel_rfl))))))
          have y4 : L 4 = true := shut_at hs 5 4 (by kernel_rfl) (shut_at hs 7 5 (by kernel_rfl) (shut_at hs 14 7 (by kernel_rfl) (shut_at hs 15 14 (by kernel_rfl) (up_at hu 15 (by kernel_rfl)))))
          have y5 : L 5 = true := shut_at hs 7 5 (by kernel_rfl) (shut_at hs 14 7 (by kernel_rfl) (shut_at hs 15 14 (by kernel_rfl) (up_at hu 15 (by kernel_rfl))))
          have y6 : L 6 = true := shut_at hs 7 6 (by kernel_rfl) (shut_at hs 14 7 (by kernel_rfl) (shut_at hs 15 14 (by kernel_rfl) (up_at hu 15 (by kernel_rfl))))
          have y7 : L 7 = true := shut_at hs 14 7 (by kernel_rfl) (shut_at hs 15 14 (by kernel_rfl) (up_at hu 15 (by kernel_rfl)))
          have y9 : L 9 = true := shut_at hs 11 9 (by kernel_rfl) (shut_at hs 12 11 (by kernel_rfl) (shut_at hs 13 12 (by kernel_rfl) (shut_at hs 14 13 (by kernel_rfl) (shut_at hs 15 14 (by kernel_rfl) (up_at hu 15 (by kernel_rfl))))))
          have y10 : L 10 = true := shut_at hs 11 10 (by kernel_rfl) (shut_at hs 12 11 (by kernel_rfl) (shut_at hs 13 12 (by kernel_rfl) (shut_at hs 14 13 (by kernel_rfl) (shut_at hs 15 14 (by kernel_rfl) (up_at hu 15 (by kernel_rfl))))))
          have y11 : L 11 = true := shut_at hs 12 11 (by kernel_rfl) (shut_at hs 13 12 (by kernel_rfl) (shut_at hs 14 13 (by kernel_rfl) (shut_at hs 15 14 (by kernel_rfl) (up_at hu 15 (by kernel_rfl)))))
          have y12 : L 12 = true := shut_at hs 13 12 (by kernel_rfl) (shut_at hs 14 13 (by kernel_rfl) (shut_at hs 15 14 (by kernel_rfl) (up_at hu 15 (by kernel_rfl))))
          have y13 : L 13 = true := shut_at hs 14 13 (by kernel_rfl) (shut_at hs 15 14 (by kernel_rfl) (up_at hu 15 (by kernel_rfl)))
          have y14 : L 14 = true := shut_at hs 15 14 (by kernel_rfl) (up_at hu 15 (by kernel_rfl))
          have y15 : L 15 = true := up_at hu 15 (by kernel_rfl)
          have n17 : L 17 = false := not_yet hL fun h => shut_at hs 17 16 (by kernel_rfl) (h)
          have n18 : L 18 = false := not_yet hL fun h => shut_at hs 17 16 (by kernel_rfl) (shut_at hs 18 17 (by kernel_rfl) (h))
          have n19 : L 19 = false := not_yet hL fun h => shut_at hs 19 16 (by kernel_rfl) (h)
          refine opIn_run (v := .slice (some ⟨w'.heap.size, 0, none⟩) 1 1) (w' := w'.alloc (.cells #[.int .i64 (q19 % 8 / 7)] 3)) rfl rfl (fun c h => by cases h) (fun _ => trivial) ?_ ⟨put1 nb 1 w'.heap.size, V, by simp [Act.put, upd, put1, y0, y1, y2, y3, y4, y5, y6, y7, y9, y10, y11, y12, y13, y14, y15, n17, n18, n19, hL], hG.alloc _, (fun h1 h2 => by simpa [put1] using (hT0 h1 h2).alloc _), hV0, (fun _ _ => by simpa [put1] using Temp.new hG (q19 % 8 / 7)), hV1⟩
          simp only [y0, y1, y2, y3, y4, y5, y6, y7, y9, y10, y11, y12, y13, y14, y15, n17, n18, n19, hL, cond_true, cond_false]
          go_simp
        · skip
          have y0 : L 0 = true := shut_at hs 7 0 (by kernel_rfl) (shut_at hs 14 7 (by kernel_rfl) (up_at hu 14 (by kernel_rfl)))
          have y1 : L 1 = true := shut_at hs 3 1 (by kernel_rfl) (shut_at hs 4 3 (by kernel_rfl) (shut_at hs 5 4 (by kernel_rfl) (shut_at hs 7 5 (by kernel_rfl) (shut_at hs 14 7 (by kernel_rfl) (up_at hu 14 (by kernel_rfl))))))
          have y2 : L 2 = true := shut_at hs 3 2 (by kernel_rfl) (shut_at hs 4 3 (by kernel_rfl) (shut_at hs 5 4 (by kernel_rfl) (shut_at hs 7 5 (by kernel_rfl) (shut_at hs 14 7 (by kernel_rfl) (up_at hu 14 (by kernel_rfl))))))
          have y3 : L 3 = true := shut_at hs 4 3 (by kernel_rfl) (shut_at hs 5 4 (by kernel_rfl) (shut_at hs 7 5 (by kernel_rfl) (shut_at hs 14 7 (by kernel_rfl) (up_at hu 14 (by kernel_rfl)))))
          have y4 : L 4 = true := shut_at hs 5 4 (by kernel_rfl) (shut_at hs 7 5 (by kernel_rfl) (shut_at hs 14 7 (by kernel_rfl) (up_at hu 14 (by kernel_rfl))))
          have y5 : L 5 = true := shut_at hs 7 5 (by kernel_rfl) (shut_at hs 14 7 (by kernel_rfl) (up_at hu 14 (by kernel_rfl)))
          have y6 : L 6 = true := shut_at hs 7 6 (by kernel_rfl) (shut_at hs 14 7 (by kernel_rfl) (up_at hu 14 (by kernel_rfl)))
          have y7 : L 7 = true := shut_at hs 14 7 (by kernel_rfl) (up_at hu 14 (by kernel_rfl))
          have y8 : L 8 = true := up_at hu 8 (by kernel_rfl)
          have y9 : L 9 = true := shut_at hs 11 9 (by kernel_rfl) (shut_at hs 12 11 (by kernel_rfl) (shut_at hs 13 12 (by kernel_rfl) (shut_at hs 14 13 (by kernel_rfl) (up_at hu 14 (by kernel_rfl)))))
          have y10 : L 10 = true := shut_at hs 11 10 (by kernel_rfl) (shut_at hs 12 11 (by kernel_rfl) (shut_at hs 13 12 (by kernel_rfl) (shut_at hs 14 13 (by kernel_rfl) (up_at hu 14 (by kernel_rfl)))))
          have y11 : L 11 = true := shut_at hs 12 11 (by kernel_rfl) (shut_at hs 13 12 (by kernel_rfl) (shut_at hs 14 13 (by kernel_rfl) (up_at hu 14 (by kernel_rfl))))
          have y12 : L 12 = true := shut_at hs 13 12 (by kernel_rfl) (shut_at hs 14 13 (by kernel_rfl) (up_at hu 14 (by kernel_rfl)))
          have y13 : L 13 = true := shut_at hs 14 13 (by kernel_rfl) (up_at hu 14 (by kernel_rfl))
          have y14 : L 14 = true := up_at hu 14 (by kernel_rfl)
          have y15 : L 15 = true := shut_at hs 16 15 (by kernel_rfl) (up_at hu 16 (by kernel_rfl))
          have y16 : L 16 = true := up_at hu 16 (by kernel_rfl)
          have n18 : L 18 = false := not_yet hL fun h => shut_at hs 18 17 (by kernel_rfl) (h)
          have n19 : L 19 = false := not_yet hL fun h => shut_at hs 19 17 (by kernel_rfl) (h)
          have hT := hT1 y16 hL
          obtain ⟨g, c, w2, hr, hG2, hTT, _⟩ := hG.app (i := 1) (by omega) hT (by simp only [sel3]; simp [y0, y1, y2, y3, y4, y5, y6, y7, y8, y9, y10, y11, y12, y13, y14, y15, y16, n18, n19, hL]; omega)
          have hVo := hV1 hL
          rw [hVo] at hr
          simp only [sel3, hL, cond_false, if_true, if_false, Nat.zero_ne_one, Nat.one_ne_zero, reduceIte, Nat.succ_ne_self, Nat.reduceEqDiff] at hr hTT
          clear hVo
          refine opIn_run (v := .slice (some ⟨g, 0, none⟩) (bs.length + 1) c) (w' := w2) rfl rfl (fun c h => by cases h) (fun _ => trivial) ?_ ⟨nb, put1 V 1 (.slice (some ⟨g, 0, none⟩) (bs.length + 1) c), by simp [Act.put, upd, put1, y0, y1, y2, y3, y4, y5, y6, y7, y8, y9, y10, y11, y12, y13, y14, y15, y16, n18, n19, hL], ?_, (fun h1 h2 => hTT _ _ (hT0 h1 h2)), (fun h2 => by rw [put1_ne _ _ (by decide)]; exact hV0 h2), (fun h1 h2 => by simp [upd] at h2), (fun h2 => by simp [upd] at h2)⟩
          · simp only [y0, y1, y2, y3, y4, y5, y6, y7, y8, y9, y10, y11, y12, y13, y14, y15, y16, n18, n19, hL, cond_true, cond_false]
            go_simp
          · rw [sel3_put1] at hG2
            simpa [sel3, upd, y0, y1, y2, y3, y4, y5, y6, y7, y8, y9, y10, y11, y12, y13, y14, y15, y16, n18, n19, hL] using hG2
        · skip
          have y0 : L 0 = true := up_at hu 0 (by kernel_rfl)
          have y1 : L 1 = true := up_at hu 1 (by kernel_rfl)
          have y2 : L 2 = true := up_at hu 2 (by kernel_rfl)
          have y3 : L 3 = true := up_at hu 3 (by kernel_rfl)
          have y4 : L 4 = true := up_at hu 4 (by kernel_rfl)
          have y5 : L 5 = true := up_at hu 5 (by kernel_rfl)
          have y6 : L 6 = true := up_at hu 6 (by kernel_rfl)
          have y7 : L 7 = true := up_at hu 7 (by kernel_rfl)
          have y8 : L 8 = true := shut_at hs 17 8 (by kernel_rfl) (up_at hu 17 (by kernel_rfl))
          have y9 : L 9 = true := shut_at hs 11 9 (by kernel_rfl) (shut_at hs 12 11 (by kernel_rfl) (shut_at hs 13 12 (by kernel_rfl) (shut_at hs 14 13 (by kernel_rfl) (shut_at hs 17 14 (by kernel_rfl) (up_at hu 17 (by kernel_rfl))))))
          have y10 : L 10 = true := shut_at hs 11 10 (by kernel_rfl) (shut_at hs 12 11 (by kernel_rfl) (shut_at hs 13 12 (by kernel_rfl) (shut_at hs 14 13 (by kernel_rfl) (shut_at hs 17 14 (by kernel_rfl) (up_at hu 17 (by kernel_rfl))))))
          have y11 : L 11 = true := shut_at hs 12 11 (by kernel_rfl) (shut_at hs 13 12 (by kernel_rfl) (shut_at hs 14 13 (by kernel_rfl) (shut_at hs 17 14 (by kernel_rfl) (up_at hu 17 (by kernel_rfl)))))
          have y12 : L 12 = true := shut_at hs 13 12 (by kernel_rfl) (shut_at hs 14 13 (by kernel_rfl) (shut_at hs 17 14 (by kernel_rfl) (up_at hu 17 (by kernel_rfl))))
          have y13 : L 13 = true := shut_at hs 14 13 (by kernel_rfl) (shut_at hs 17 14 (by kernel_rfl) (up_at hu 17 (by kernel_rfl)))
          have y14 : L 14 = true := shut_at hs 17 14 (by kernel_rfl) (up_at hu 17 (by kernel_rfl))
          have y15 : L 15 = true := shut_at hs 16 15 (by kernel_rfl) (shut_at hs 17 16 (by kernel_rfl) (up_at hu 17 (by kernel_rfl)))
          have y16 : L 16 = true := shut_at hs 17 16 (by kernel_rfl) (up_at hu 17 (by kernel_rfl))
          have y17 : L 17 = true := up_at hu 17 (by kernel_rfl)
          have n19 : L 19 = false := not_yet hL fun h => shut_at hs 19 18 (by kernel_rfl) (h)
          refine opIn_run (v := V 0) (w' := w') rfl rfl (fun c h => by cases h) (fun _ => trivial) ?_ ⟨nb, V, by simp [Act.put, upd, y0, y1, y2, y3, y4, y5, y6, y7, y8, y9, y10, y11, y12, y13, y14, y15, y16, y17, n19, hL], hG, hT0, hV0, hT1, hV1⟩
          simp only [y0, y1, y2, y3, y4, y5, y6, y7, y8, y9, y10, y11, y12, y13, y14, y15, y16, y17, n19, hL, cond_true, cond_false]
          go_simp
        · skip
          have y0 : L 0 = true := up_at hu 0 (by kernel_rfl)
          have y1 : L 1 = true := up_at hu 1 (by kernel_rfl)
          have y2 : L 2 = true := up_at hu 2 (by kernel_rfl)
          have y3 : L 3 = true := up_at hu 3 (by kernel_rfl)
          have y4 : L 4 = true := up_at hu 4 (by kernel_rfl)
          have y5 : L 5 = true := up_at hu 5 (by kernel_rfl)
          have y6 : L 6 = true := up_at hu 6 (by kernel_rfl)
          have y7 : L 7 = true := up_at hu 7 (by kernel_rfl)
          have y8 : L 8 = true := up_at hu 8 (by kernel_rfl)
          have y9 : L 9 = true := up_at hu 9 (by kernel_rfl)
          have y10 : L 10 = true := up_at hu 10 (by kernel_rfl)
          have y11 : L 11 = true := up_at hu 11 (by kernel_rfl)
          have y12 : L 12 = true := up_at hu 12 (by kernel_rfl)
          have y13 : L 13 = true := up_at hu 13 (by kernel_rfl)
          have y14 : L 14 = true := up_at hu 14 (by kernel_rfl)
          have y15 : L 15 = true := up_at hu 15 (by kernel_rfl)
          have y16 : L 16 = true := up_at hu 16 (by kernel_rfl)
          have y17 : L 17 = true := up_at hu 17 (by kernel_rfl)
          have y18 : L 18 = true := up_at hu 18 (by kernel_rfl)
          refine opIn_run (v := V 1) (w' := w') rfl rfl (fun c h => by cases h) (fun _ => trivial) ?_ ⟨nb, V, by simp [Act.put, upd, y0, y1, y2, y3, y4, y5, y6, y7, y8, y9, y10, y11, y12, y13, y14, y15, y16, y17, y18, hL], hG, hT0, hV0, hT1, hV1⟩
          simp only [y0, y1, y2, y3, y4, y5, y6, y7, y8, y9, y10, y11, y12, y13, y14, y15, y16, y17, y18, hL, cond_true, cond_false]
          go_simp
      case start =>
        exact ⟨fun _ => 0, sel3 u4 u5 (.slice none 0 0), rfl, hG0, (fun h _ => by cases h), (fun _ => rfl), (fun h _ => by cases h), (fun _ => rfl)⟩
      case fin =>
        intro L a' w' hall hI
        obtain ⟨nb, V, rfl, hG, hT0, hV0, hT1, hV1⟩ := hI
        have l6 := hall 6 (by decide)
        have l7 := hall 7 (by decide)
        have l16 := hall 16 (by decide)
        have l17 := hall 17 (by decide)
        have l18 := hall 18 (by decide)
        have l19 := hall 19 (by decide)
        have l0 := hall 0 (by decide)
        have l1 := hall 1 (by decide)
        have l2 := hall 2 (by decide)
        have l3 := hall 3 (by decide)
        have l4 := hall 4 (by decide)
        have l5 := hall 5 (by decide)
        have l8 := hall 8 (by decide)
        have l9 := hall 9 (by decide)
        have l10 := hall 10 (by decide)
        have l11 := hall 11 (by decide)
        have l12 := hall 12 (by decide)
        have l13 := hall 13 (by decide)
        have l14 := hall 14 (by decide)
        have l15 := hall 15 (by decide)
        simp only [l0, l1, l2, l3, l4, l5, l6, l7, l8, l9, l10, l11, l12, l13, l14, l15, l16, l17, l18, l19, cond_true] at hG ⊢
        clear l0 l1 l2 l3 l4 l5 l6 l7 l8 l9 l10 l11 l12 l13 l14 l15 l16 l17 l18 l19 hall hT0 hV0 hT1 hV1
        have hG3 := hG.x3
        simp only [sel3, if_true, if_false, Nat.one_ne_zero, reduceIte, Nat.reduceEqDiff] at hG3
        clear hG
        generalize V 0 = v0 at *
        generalize V 1 = v1 at *
        generalize V 2 = v2 at *
        have HN : Hid (Bk w w' v0 v1 (ks ++ [v % 19]) (bs ++ [q19 % 8 / 7]) (j + 1)) := Lib.hid ⟨Grow.third hG3, by simp [hlk], by simp [hlb], fun x hx => by
          rcases List.mem_append.1 hx with hx | hx
          · exact HS.out.hk x hx
          · rw [List.mem_singleton.1 hx]; exact hv19, fun x hx => by
          rcases List.mem_append.1 hx with hx | hx
          · exact HS.out.hb x hx
          · rw [List.mem_singleton.1 hx]; omega⟩
        have mm : w'.cell? ⟨ba, oa + j, none⟩ = some (.int .i64 v) := (hG3.bel.cell (p := ⟨ba, oa + j, none⟩) (Nat.lt_of_lt_of_le hba hB)).trans m0
        obtain ⟨r, hr⟩ : ∃ r, v.tdiv 152 = r := ⟨_, rfl⟩
        have hrb := tdiv_bd v 152 hvb (by omega)
        rw [hr] at hrb
        have hrw : IntKind.i64.wrap r = r := IntWalk.i64_in _ (by omega)
        have hr3 := within_rng r 3 (by omega)
        have Z3 := Lib.hid (within_any r 3 w' (by omega) (by omega))
        have Z2 := Lib.hid (fun u : World => within_any q19 2 u (by omega) (by omega))
        have hq2 := within_rng q19 2 (by omega)
        clear hG3 hG0 HS
        go_wp2_with fail
        refine Z3.out.mono ?_
        rintro e w2 ⟨rfl, rfl⟩
        have o1 : w'.ownsRow w.heap.size 3 1 v1 (bs ++ [q19 % 8 / 7]).length ((bs ++ [q19 % 8 / 7]).map (Value.int .i64)) := HN.out.gr.own 1 (by omega)
        rw [HN.out.lb] at o1
        obtain ⟨gb, cb, rfl, _, hgl, hcb, _⟩ := own_form o1 (by omega)
        have cj := o1.cellAt j (by omega)
        have cz := o1.frozenAt j
        have ej : ((bs ++ [q19 % 8 / 7]).map (Value.int .i64))[j]? = some (.int .i64 (q19 % 8 / 7)) := by
          rw [List.getElem?_map, List.getElem?_append_right (by omega), show j - bs.length = 0 from by omega]; rfl
        rw [ej] at cj
        have hjj : (j : Int) < (j : Int) + 1 := by omega
        have HST := Lib.hid (HN.out.set (x := q19 % 2) (by omega))
        clear o1 ej Z3
        by_cases h0 : r % 3 = 0
        · have e0 : (r % 3 == 0) = true := by simp; omega
          clear h0
          go_wp2_with fail
          refine (Z2.out _).mono ?_
          rintro e w2 ⟨rfl, rfl⟩
          go_wp2
          exact ⟨⟨j + 1, _, _, by omega, by go_num, HST.out⟩, by simp [intOf]; omega⟩
        · have e0 : (r % 3 == 0) = false := by simp; omega
          clear h0
          go_wp2
          exact ⟨⟨j + 1, _, _, by omega, by go_num, HN.out⟩, by simp [intOf]; omega⟩
    · obtain rfl : j = n := by omega
      clear hlt
      rcases hn3 with h3 | h3
      · have e0 : ¬ (j : Int) < (len0 : Int) := by omega
        clear h3
        go_wp2
        go_ret2
        exact ⟨_, _, ks, bs, rfl, HS.out⟩
      · have e0 : ¬ (j : Int) < 400 := by omega
        clear h3
        by_cases h4 : j < len0
        · have e1 : (j : Int) < (len0 : Int) := by omega
          go_wp2
          go_ret2
          exact ⟨_, _, ks, bs, rfl, HS.out⟩
        · have e1 : ¬ (j : Int) < (len0 : Int) := by omega
          go_wp2
          go_ret2
          exact ⟨_, _, ks, bs, rfl, HS.out⟩
end Go.Proofs.YtdgkeghgfibolaaDoor
