/- boxes: the reference's Write. -/
import Derived.Test.YtfjkfajhfnmjjaaBoxT
import Derived.Test.YtfjkfajhfnmjjaaBoxP
import Derived.Test.YtfjkfajhfnmjjaaAnyInv
set_option linter.unusedVariables false
set_option linter.unusedSimpArgs false
namespace Go.Proofs.Ytfjkfajhfnmjjaa
open Go.RowKit
attribute [local go_sem ↓] appSem_eq
set_option maxRecDepth 100000
theorem wrB_take {bs : List (List Int × List Int)} {i : Nat} {k d : List Int} (h : bs[i]? = some (k, d)) : wrB (bs.take (i + 1)) = wrB (bs.take i) ++ putL ((d.length : Int) + 8) 4 ++ k ++ d := by
  unfold wrB
  rw [List.take_add_one, h, List.flatMap_append]
  simp [boxB, Int.add_comm]
theorem wrB_len_take (bs : List (List Int × List Int)) (i : Nat) : (wrB (bs.take i)).length ≤ (wrB bs).length := by
  conv => rhs; rw [← List.take_append_drop i bs]
  unfold wrB
  rw [List.flatMap_append, List.length_append]
  omega
set_option maxHeartbeats 8000000 in
set_option pp.deepTerms true in
set_option pp.maxSteps 10000000 in
theorem rwrite_any {w : World} {V : Value} {bs : List (List Int × List Int)} (h : BxR w w.heap.size V bs) (hlen : (wrB bs).length ≤ 90000) (hk : ∀ x ∈ bs, ∀ y ∈ x.1, 0 ≤ y ∧ y ≤ 255) (hn : bs.length ≤ 1000) :
    Calls Try.prog 10 #[V] w fun e w' => ∃ v, e = .returned v ∧ w'.ownsRow w.heap.size 5 1 v (wrB bs).length ((wrB bs).map (Value.int .u8)) ∧ Below w.heap.size w w' := by
  obtain ⟨n, hn'⟩ : ∃ n, bs.length = n := ⟨_, rfl⟩
  obtain ⟨A, c, rfl, H⟩ := h
  rw [hn'] at hn ⊢
  have HN := Lib.hid hn'
  have H1 := Lib.hid H
  have HK := Lib.hid hk
  clear hn' H hk
  go_enter Try.func10, Try.ntmps10
  go_wp2_with fail
  go_loopg [3, 4] n (fun g v3 v wr => ∃ i : Nat, i + g = n ∧ v = .int .i64 (i : Int) ∧ Hid (wr.ownsRow w.heap.size 5 1 v3 (wrB (bs.take i)).length ((wrB (bs.take i)).map (Value.int .u8))) ∧ Hid (Below w.heap.size w wr))
  case atStart => exact ⟨0, by omega, rfl, Lib.hid (World.ownsRow_nil _ _ _ _), Lib.hid (Below.refl _ _)⟩
  case round =>
    obtain ⟨i, hig, rfl, HO, HB⟩ := hrel
    obtain ⟨A0, c0, rfl, hA0, hc0, hc1⟩ := own_any HO.out
    by_cases hlt : i < n
    · obtain ⟨g1, rfl⟩ : ∃ g1, gk = g1 + 1 := ⟨gk - 1, by omega⟩
      have hil : i < bs.length := by rw [HN.out]; exact hlt
      obtain ⟨kd, hkd⟩ : ∃ kd, bs[i] = kd := ⟨_, rfl⟩
      obtain ⟨k, d⟩ := kd
      have he : bs[i]? = some (k, d) := by rw [List.getElem?_eq_getElem hil, hkd]
      have hkb := HK.out (k, d) (List.mem_of_getElem? he)
      simp only at hkb
      have hwt := wrB_take he
      have hln := wrB_len_take bs (i + 1)
      rw [hwt] at hln
      simp only [List.length_append, putL_len] at hln
      obtain ⟨g, o, va, vc, rfl, hg, q0, q1, q2, q3, q4, q5⟩ := H1.out i k d he
      obtain ⟨X, hX⟩ : ∃ X, wrB (bs.take i) = X := ⟨_, rfl⟩
      rw [hX] at HO hwt hln hc0
      rw [hX]
      obtain ⟨xl, hxl⟩ : ∃ xl, X.length = xl := ⟨_, rfl⟩
      obtain ⟨kl, hkl⟩ : ∃ kl, k.length = kl := ⟨_, rfl⟩
      obtain ⟨dl, hdl⟩ : ∃ dl, d.length = dl := ⟨_, rfl⟩
      rw [hxl, hkl, hdl] at hln
      rw [hxl] at HO hc0
      rw [hxl]
      rw [hdl] at q1 q2 q3
      obtain ⟨WX, hWX⟩ : ∃ WX, wr.drew = WX := ⟨_, rfl⟩
      have HXE := Lib.hid hWX
      have HOX : Hid (WX.ownsRow w.heap.size 5 1 (.slice A0 xl c0) xl (X.map (Value.int .u8))) := Lib.hid (by rw [← hWX]; exact HO.out)
      have HBX : Hid (Below w.heap.size w WX) := Lib.hid (by rw [← hWX]; exact below_drewN HB.out 1)
      have HS := Lib.hid HBX.out.size
      have HF : Hid (w.cell? ⟨g, o + i * 2, none⟩ = some (.string (strOf k)) ∧ w.cell? ⟨g, o + i * 2 + 1, none⟩ = some (.slice va dl vc) ∧ g < w.heap.size) := Lib.hid ⟨q0, q1, hg⟩
      have HQ : Hid ((va = none → dl = 0 ∧ vc = 0) ∧ Lst w w.heap.size va (d.map (Value.int .u8))) := Lib.hid ⟨q2, q5⟩
      have HKB := Lib.hid hkb
      have HLL := Lib.hid (And.intro hxl (And.intro hkl hdl))
      have HWT := Lib.hid hwt
      have hI : (i : Int) < (n : Int) ∧ (0 : Int) ≤ (i : Int) := by omega
      have hdI : IntKind.i64.wrap ((dl : Int) + 8) = (dl : Int) + 8 := IntWalk.i64_in _ (by omega)
      obtain ⟨St, hSt⟩ : ∃ St, strOf k = St := ⟨_, rfl⟩
      have HST := Lib.hid hSt
      rw [hSt] at HF
      clear hkd he hil hkb hwt hX hxl hkl hdl hWX q0 q1 q2 q3 q4 q5 hg HO HB hSt hA0 hc0 hc1
      go_wp2
      refine (wpIn_wide (n := 9)).1 (regionIn_inv (w := wr) (Inv := fun L a' w' => ∃ (V8 : Value) (V14 : Value) (V20 : Value), a' = { tmps := #[.slice (some ⟨g, o, none⟩) n c, undef, .slice none 0 0, bif L 21 then V20 else .slice A0 xl c0, .int .i64 (i : Int), .int .i64 (i : Int), .slice (some ⟨g, o, none⟩) n c, .int .i64 (n : Int), .bool true, u9, u10, bif L 0 then .slice A0 xl c0 else u11, bif L 1 then .slice (some ⟨g, o, none⟩) n c else u12, bif L 2 then .int .i64 (i : Int) else u13, bif L 3 then .pointer (some ⟨g, o + i * 2, none⟩) else u14, bif L 4 then .pointer (some ⟨g, o + i * 2 + 1, none⟩) else u15, bif L 5 then .slice va dl vc else u16, bif L 6 then .int .i64 (dl : Int) else u17, bif L 7 then .int .i64 ((dl : Int) + 8) else u18, bif L 8 then V8 else u19, bif L 9 then .slice (some ⟨g, o, none⟩) n c else u20, bif L 10 then .int .i64 (i : Int) else u21, bif L 11 then .pointer (some ⟨g, o + i * 2, none⟩) else u22, bif L 12 then .pointer (some ⟨g, o + i * 2, none⟩) else u23, bif L 13 then .string St else u24, bif L 14 then V14 else u25, bif L 15 then .slice (some ⟨g, o, none⟩) n c else u26, bif L 16 then .int .i64 (i : Int) else u27, bif L 17 then .pointer (some ⟨g, o + i * 2, none⟩) else u28, bif L 18 then .pointer (some ⟨g, o + i * 2 + 1, none⟩) else u29, bif L 19 then .slice va dl vc else u30, bif L 20 then V20 else u31, undef], defers := [] } ∧ (Below w.heap.size w w') ∧ (bif L 20 then (w'.ownsRow w.heap.size 5 1 V20 (xl + 4 + kl + dl) ((X ++ putL ((dl : Int) + 8) 4 ++ k ++ d).map (Value.int .u8))) else (bif L 14 then (w'.ownsRow w.heap.size 5 1 V14 (xl + 4 + kl) ((X ++ putL ((dl : Int) + 8) 4 ++ k).map (Value.int .u8))) else (bif L 8 then (w'.ownsRow w.heap.size 5 1 V8 (xl + 4) ((X ++ putL ((dl : Int) + 8) 4).map (Value.int .u8))) else w'.ownsRow w.heap.size 5 1 (.slice A0 xl c0) (xl) ((X).map (Value.int .u8)))))) (by kernel_rfl) (by kernel_rfl) ?start ?step ?fin)
      case start => exact ⟨.slice none 0 0, .slice none 0 0, .slice none 0 0, rfl, by rw [HXE.out]; exact HBX.out, by rw [HXE.out]; exact HOX.out⟩
      case step =>
        intro i hi L a' w' hI hs hu
        obtain ⟨V8, V14, V20, rfl, hcm, hph⟩ := hI
        have hL := hu.1
        have hi : i < 22 := hi
        obtain rfl | rfl | rfl | rfl | rfl | rfl | rfl | rfl | rfl | rfl | rfl | rfl | rfl | rfl | rfl | rfl | rfl | rfl | rfl | rfl | rfl | rfl := (by omega : i = 0 ∨ i = 1 ∨ i = 2 ∨ i = 3 ∨ i = 4 ∨ i = 5 ∨ i = 6 ∨ i = 7 ∨ i = 8 ∨ i = 9 ∨ i = 10 ∨ i = 11 ∨ i = 12 ∨ i = 13 ∨ i = 14 ∨ i = 15 ∨ i = 16 ∨ i = 17 ∨ i = 18 ∨ i = 19 ∨ i = 20 ∨ i = 21)
        · skip
          have n8 : L 8 = false := not_yet hL fun h => shut_at hs 8 0 (by kernel_rfl) (h)
          have n14 : L 14 = false := not_yet hL fun h => shut_at hs 8 0 (by kernel_rfl) (shut_at hs 14 8 (by kernel_rfl) (h))
          have n20 : L 20 = false := not_yet hL fun h => shut_at hs 8 0 (by kernel_rfl) (shut_at hs 14 8 (by kernel_rfl) (shut_at hs 20 14 (by kernel_rfl) (h)))
          have n21 : L 21 = false := not_yet hL fun h => shut_at hs 21 0 (by kernel_rfl) (h)
          refine opIn_run (v := .slice A0 xl c0) (w' := w') rfl rfl (fun c h => by cases h) (fun _ => trivial) ?_ ⟨V8, V14, V20, by simp [Act.put, upd, n8, n14, n20, n21, hL], hcm, by simpa [upd] using hph⟩
          simp only [n8, n14, n20, n21, hL, cond_true, cond_false]
          go_simp
        · skip
          have n8 : L 8 = false := not_yet hL fun h => shut_at hs 3 1 (by kernel_rfl) (shut_at hs 4 3 (by kernel_rfl) (shut_at hs 5 4 (by kernel_rfl) (shut_at hs 6 5 (by kernel_rfl) (shut_at hs 7 6 (by kernel_rfl) (shut_at hs 8 7 (by kernel_rfl) (h))))))
          have n14 : L 14 = false := not_yet hL fun h => shut_at hs 3 1 (by kernel_rfl) (shut_at hs 4 3 (by kernel_rfl) (shut_at hs 5 4 (by kernel_rfl) (shut_at hs 6 5 (by kernel_rfl) (shut_at hs 7 6 (by kernel_rfl) (shut_at hs 8 7 (by kernel_rfl) (shut_at hs 14 8 (by kernel_rfl) (h)))))))
          have n20 : L 20 = false := not_yet hL fun h => shut_at hs 3 1 (by kernel_rfl) (shut_at hs 4 3 (by kernel_rfl) (shut_at hs 5 4 (by kernel_rfl) (shut_at hs 6 5 (by kernel_rfl) (shut_at hs 7 6 (by kernel_rfl) (shut_at hs 8 7 (by kernel_rfl) (shut_at hs 14 8 (by kernel_rfl) (shut_at hs 20 14 (by kernel_rfl) (h))))))))
          have n21 : L 21 = false := not_yet hL fun h => shut_at hs 21 1 (by kernel_rfl) (h)
          refine opIn_run (v := .slice (some ⟨g, o, none⟩) n c) (w' := w') rfl rfl (fun c h => by cases h) (fun _ => trivial) ?_ ⟨V8, V14, V20, by simp [Act.put, upd, n8, n14, n20, n21, hL], hcm, by simpa [upd] using hph⟩
          simp only [n8, n14, n20, n21, hL, cond_true, cond_false]
          go_simp
        · skip
          have n8 : L 8 = false := not_yet hL fun h => shut_at hs 3 2 (by kernel_rfl) (shut_at hs 4 3 (by kernel_rfl) (shut_at hs 5 4 (by kernel_rfl) (shut_at hs 6 5 (by kernel_rfl) (shut_at hs 7 6 (by kernel_rfl) (shut_at hs 8 7 (by kernel_rfl) (h))))))
          have n14 : L 14 = false := not_yet hL fun h => shut_at hs 3 2 (by kernel_rfl) (shut_at hs 4 3 (by kernel_rfl) (shut_at hs 5 4 (by kernel_rfl) (shut_at hs 6 5 (by kernel_rfl) (shut_at hs 7 6 (by kernel_rfl) (shut_at hs 8 7 (by kernel_rfl) (shut_at hs 14 8 (by kernel_rfl) (h)))))))
          have n20 : L 20 = false := not_yet hL fun h => shut_at hs 3 2 (by kernel_rfl) (shut_at hs 4 3 (by kernel_rfl) (shut_at hs 5 4 (by kernel_rfl) (shut_at hs 6 5 (by kernel_rfl) (shut_at hs 7 6 (by kernel_rfl) (shut_at hs 8 7 (by kernel_rfl) (shut_at hs 14 8 (by kernel_rfl) (shut_at hs 20 14 (by kernel_rfl) (h))))))))
          have n21 : L 21 = false := not_yet hL fun h => shut_at hs 21 2 (by kernel_rfl) (h)
          refine opIn_run (v := .int .i64 (i : Int)) (w' := w') rfl rfl (fun c h => by cases h) (fun _ => trivial) ?_ ⟨V8, V14, V20, by simp [Act.put, upd, n8, n14, n20, n21, hL], hcm, by simpa [upd] using hph⟩
          simp only [n8, n14, n20, n21, hL, cond_true, cond_false]
          go_simp
        · skip
          have y1 : L 1 = true := up_at hu 1 (by kernel_rfl)
          have y2 : L 2 = true := up_at hu 2 (by kernel_rfl)
          have n8 : L 8 = false := not_yet hL fun h => shut_at hs 4 3 (by kernel_rfl) (shut_at hs 5 4 (by kernel_rfl) (shut_at hs 6 5 (by kernel_rfl) (shut_at hs 7 6 (by kernel_rfl) (shut_at hs 8 7 (by kernel_rfl) (h)))))
          have n14 : L 14 = false := not_yet hL fun h => shut_at hs 4 3 (by kernel_rfl) (shut_at hs 5 4 (by kernel_rfl) (shut_at hs 6 5 (by kernel_rfl) (shut_at hs 7 6 (by kernel_rfl) (shut_at hs 8 7 (by kernel_rfl) (shut_at hs 14 8 (by kernel_rfl) (h))))))
          have n20 : L 20 = false := not_yet hL fun h => shut_at hs 4 3 (by kernel_rfl) (shut_at hs 5 4 (by kernel_rfl) (shut_at hs 6 5 (by kernel_rfl) (shut_at hs 7 6 (by kernel_rfl) (shut_at hs 8 7 (by kernel_rfl) (shut_at hs 14 8 (by kernel_rfl) (shut_at hs 20 14 (by kernel_rfl) (h)))))))
          have n21 : L 21 = false := not_yet hL fun h => shut_at hs 21 3 (by kernel_rfl) (h)
          refine opIn_run (v := .pointer (some ⟨g, o + i * 2, none⟩)) (w' := w') rfl rfl (fun c h => by cases h) (fun _ => trivial) ?_ ⟨V8, V14, V20, by simp [Act.put, upd, y1, y2, n8, n14, n20, n21, hL], hcm, by simpa [upd] using hph⟩
          simp only [y1, y2, n8, n14, n20, n21, hL, cond_true, cond_false]
          go_simp
        · skip
          have y1 : L 1 = true := shut_at hs 3 1 (by kernel_rfl) (up_at hu 3 (by kernel_rfl))
          have y2 : L 2 = true := shut_at hs 3 2 (by kernel_rfl) (up_at hu 3 (by kernel_rfl))
          have y3 : L 3 = true := up_at hu 3 (by kernel_rfl)
          have n8 : L 8 = false := not_yet hL fun h => shut_at hs 5 4 (by kernel_rfl) (shut_at hs 6 5 (by kernel_rfl) (shut_at hs 7 6 (by kernel_rfl) (shut_at hs 8 7 (by kernel_rfl) (h))))
          have n14 : L 14 = false := not_yet hL fun h => shut_at hs 5 4 (by kernel_rfl) (shut_at hs 6 5 (by kernel_rfl) (shut_at hs 7 6 (by kernel_rfl) (shut_at hs 8 7 (by kernel_rfl) (shut_at hs 14 8 (by kernel_rfl) (h)))))
          have n20 : L 20 = false := not_yet hL fun h => shut_at hs 5 4 (by kernel_rfl) (shut_at hs 6 5 (by kernel_rfl) (shut_at hs 7 6 (by kernel_rfl) (shut_at hs 8 7 (by kernel_rfl) (shut_at hs 14 8 (by kernel_rfl) (shut_at hs 20 14 (by kernel_rfl) (h))))))
          have n21 : L 21 = false := not_yet hL fun h => shut_at hs 21 4 (by kernel_rfl) (h)
          refine opIn_run (v := .pointer (some ⟨g, o + i * 2 + 1, none⟩)) (w' := w') rfl rfl (fun c h => by cases h) (fun _ => trivial) ?_ ⟨V8, V14, V20, by simp [Act.put, upd, y1, y2, y3, n8, n14, n20, n21, hL], hcm, by simpa [upd] using hph⟩
          simp only [y1, y2, y3, n8, n14, n20, n21, hL, cond_true, cond_false]
          go_simp
        · skip
          have y1 : L 1 = true := shut_at hs 3 1 (by kernel_rfl) (shut_at hs 4 3 (by kernel_rfl) (up_at hu 4 (by kernel_rfl)))
          have y2 : L 2 = true := shut_at hs 3 2 (by kernel_rfl) (shut_at hs 4 3 (by kernel_rfl) (up_at hu 4 (by kernel_rfl)))
          have y3 : L 3 = true := shut_at hs 4 3 (by kernel_rfl) (up_at hu 4 (by kernel_rfl))
          have y4 : L 4 = true := up_at hu 4 (by kernel_rfl)
          have n8 : L 8 = false := not_yet hL fun h => shut_at hs 6 5 (by kernel_rfl) (shut_at hs 7 6 (by kernel_rfl) (shut_at hs 8 7 (by kernel_rfl) (h)))
          have n14 : L 14 = false := not_yet hL fun h => shut_at hs 6 5 (by kernel_rfl) (shut_at hs 7 6 (by kernel_rfl) (shut_at hs 8 7 (by kernel_rfl) (shut_at hs 14 8 (by kernel_rfl) (h))))
          have n20 : L 20 = false := not_yet hL fun h => shut_at hs 6 5 (by kernel_rfl) (shut_at hs 7 6 (by kernel_rfl) (shut_at hs 8 7 (by kernel_rfl) (shut_at hs 14 8 (by kernel_rfl) (shut_at hs 20 14 (by kernel_rfl) (h)))))
          have n21 : L 21 = false := not_yet hL fun h => shut_at hs 21 5 (by kernel_rfl) (h)
          simp only [y1, y2, y3, y4, n8, n14, n20, n21, hL, cond_true, cond_false] at hph
          have g0 : w'.cell? ⟨g, o + i * 2 + 1, none⟩ = some (.slice va dl vc) := (hcm.cell (p := ⟨g, _, none⟩) HF.out.2.2).trans HF.out.2.1
          refine opIn_run (v := .slice va dl vc) (w' := w') rfl rfl (fun c h => by cases h) (fun _ => trivial) ?_ ⟨V8, V14, V20, by simp [Act.put, upd, y1, y2, y3, y4, n8, n14, n20, n21, hL], hcm, by simp only [upd, y1, y2, y3, y4, n8, n14, n20, n21, hL]; exact hph⟩
          simp only [y1, y2, y3, y4, n8, n14, n20, n21, hL, cond_true, cond_false]
          go_simp
        · skip
          have y1 : L 1 = true := shut_at hs 3 1 (by kernel_rfl) (shut_at hs 4 3 (by kernel_rfl) (shut_at hs 5 4 (by kernel_rfl) (up_at hu 5 (by kernel_rfl))))
          have y2 : L 2 = true := shut_at hs 3 2 (by kernel_rfl) (shut_at hs 4 3 (by kernel_rfl) (shut_at hs 5 4 (by kernel_rfl) (up_at hu 5 (by kernel_rfl))))
          have y3 : L 3 = true := shut_at hs 4 3 (by kernel_rfl) (shut_at hs 5 4 (by kernel_rfl) (up_at hu 5 (by kernel_rfl)))
          have y4 : L 4 = true := shut_at hs 5 4 (by kernel_rfl) (up_at hu 5 (by kernel_rfl))
          have y5 : L 5 = true := up_at hu 5 (by kernel_rfl)
          have n8 : L 8 = false := not_yet hL fun h => shut_at hs 7 6 (by kernel_rfl) (shut_at hs 8 7 (by kernel_rfl) (h))
          have n14 : L 14 = false := not_yet hL fun h => shut_at hs 7 6 (by kernel_rfl) (shut_at hs 8 7 (by kernel_rfl) (shut_at hs 14 8 (by kernel_rfl) (h)))
          have n20 : L 20 = false := not_yet hL fun h => shut_at hs 7 6 (by kernel_rfl) (shut_at hs 8 7 (by kernel_rfl) (shut_at hs 14 8 (by kernel_rfl) (shut_at hs 20 14 (by kernel_rfl) (h))))
          have n21 : L 21 = false := not_yet hL fun h => shut_at hs 21 6 (by kernel_rfl) (h)
          refine opIn_run (v := .int .i64 (dl : Int)) (w' := w') rfl rfl (fun c h => by cases h) (fun _ => trivial) ?_ ⟨V8, V14, V20, by simp [Act.put, upd, y1, y2, y3, y4, y5, n8, n14, n20, n21, hL], hcm, by simpa [upd] using hph⟩
          simp only [y1, y2, y3, y4, y5, n8, n14, n20, n21, hL, cond_true, cond_false]
          go_simp
        · skip
          have y1 : L 1 = true := shut_at hs 3 1 (by kernel_rfl) (shut_at hs 4 3 (by kernel_rfl) (shut_at hs 5 4 (by kernel_rfl) (shut_at hs 6 5 (by kernel_rfl) (up_at hu 6 (by kernel_rfl)))))
          have y2 : L 2 = true := shut_at hs 3 2 (by kernel_rfl) (shut_at hs 4 3 (by kernel_rfl) (shut_at hs 5 4 (by kernel_rfl) (shut_at hs 6 5 (by kernel_rfl) (up_at hu 6 (by kernel_rfl)))))
          have y3 : L 3 = true := shut_at hs 4 3 (by kernel_rfl) (shut_at hs 5 4 (by kernel_rfl) (shut_at hs 6 5 (by kernel_rfl) (up_at hu 6 (by kernel_rfl))))
          have y4 : L 4 = true := shut_at hs 5 4 (by kernel_rfl) (shut_at hs 6 5 (by kernel_rfl) (up_at hu 6 (by kernel_rfl)))
          have y5 : L 5 = true := shut_at hs 6 5 (by kernel_rfl) (up_at hu 6 (by kernel_rfl))
          have y6 : L 6 = true := up_at hu 6 (by kernel_rfl)
          have n8 : L 8 = false := not_yet hL fun h => shut_at hs 8 7 (by kernel_rfl) (h)
          have n14 : L 14 = false := not_yet hL fun h => shut_at hs 8 7 (by kernel_rfl) (shut_at hs 14 8 (by kernel_rfl) (h))
          have n20 : L 20 = false := not_yet hL fun h => shut_at hs 8 7 (by kernel_rfl) (shut_at hs 14 8 (by kernel_rfl) (shut_at hs 20 14 (by kernel_rfl) (h)))
          have n21 : L 21 = false := not_yet hL fun h => shut_at hs 21 7 (by kernel_rfl) (h)
          refine opIn_run (v := .int .i64 ((dl : Int) + 8)) (w' := w') rfl rfl (fun c h => by cases h) (fun _ => trivial) ?_ ⟨V8, V14, V20, by simp [Act.put, upd, y1, y2, y3, y4, y5, y6, n8, n14, n20, n21, hL], hcm, by simpa [upd] using hph⟩
          simp only [y1, y2, y3, y4, y5, y6, n8, n14, n20, n21, hL, cond_true, cond_false]
          go_simp
        · skip
          have y0 : L 0 = true := up_at hu 0 (by kernel_rfl)
          have y1 : L 1 = true := shut_at hs 3 1 (by kernel_rfl) (shut_at hs 4 3 (by kernel_rfl) (shut_at hs 5 4 (by kernel_rfl) (shut_at hs 6 5 (by kernel_rfl) (shut_at hs 7 6 (by kernel_rfl) (up_at hu 7 (by kernel_rfl))))))
          have y2 : L 2 = true := shut_at hs 3 2 (by kernel_rfl) (shut_at hs 4 3 (by kernel_rfl) (shut_at hs 5 4 (by kernel_rfl) (shut_at hs 6 5 (by kernel_rfl) (shut_at hs 7 6 (by kernel_rfl) (up_at hu 7 (by kernel_rfl))))))
          have y3 : L 3 = true := shut_at hs 4 3 (by kernel_rfl) (shut_at hs 5 4 (by kernel_rfl) (shut_at hs 6 5 (by kernel_rfl) (shut_at hs 7 6 (by kernel_rfl) (up_at hu 7 (by kernel_rfl)))))
          have y4 : L 4 = true := shut_at hs 5 4 (by kernel_rfl) (shut_at hs 6 5 (by kernel_rfl) (shut_at hs 7 6 (by kernel_rfl) (up_at hu 7 (by kernel_rfl))))
          have y5 : L 5 = true := shut_at hs 6 5 (by kernel_rfl) (shut_at hs 7 6 (by kernel_rfl) (up_at hu 7 (by kernel_rfl)))
          have y6 : L 6 = true := shut_at hs 7 6 (by kernel_rfl) (up_at hu 7 (by kernel_rfl))
          have y7 : L 7 = true := up_at hu 7 (by kernel_rfl)
          have n14 : L 14 = false := not_yet hL fun h => shut_at hs 14 8 (by kernel_rfl) (h)
          have n20 : L 20 = false := not_yet hL fun h => shut_at hs 14 8 (by kernel_rfl) (shut_at hs 20 14 (by kernel_rfl) (h))
          have n21 : L 21 = false := not_yet hL fun h => shut_at hs 21 8 (by kernel_rfl) (h)
          simp only [y0, y1, y2, y3, y4, y5, y6, y7, n14, n20, n21, hL, cond_true, cond_false] at hph
          refine opIn_call (f := 15) (args := #[.slice A0 xl c0, .int .i64 4, .int .i64 ((dl : Int) + 8)]) (w' := w') rfl rfl (fun c h => by cases h) (fun _ => trivial) rfl ?_ ((callsIn_wide.2 (rp_any (lo := w.heap.size) (X := X) hph hcm.size (by omega) (by omega))).mono ?_)
          · simp only [y0, y1, y2, y3, y4, y5, y6, y7, n14, n20, n21, hL, cond_true, cond_false]
            go_simp
          · rintro e w2 ⟨v', rfl, ho, hb⟩
            exact ⟨_, rfl, v', V14, V20, by simp [Act.put, upd, y0, y1, y2, y3, y4, y5, y6, y7, n14, n20, n21, hL], hcm.trans hb, by simp only [upd, y0, y1, y2, y3, y4, y5, y6, y7, n14, n20, n21, hL]; exact ho⟩
        · skip
          have n14 : L 14 = false := not_yet hL fun h => shut_at hs 11 9 (by kernel_rfl) (shut_at hs 12 11 (by kernel_rfl) (shut_at hs 13 12 (by kernel_rfl) (shut_at hs 14 13 (by kernel_rfl) (h))))
          have n20 : L 20 = false := not_yet hL fun h => shut_at hs 11 9 (by kernel_rfl) (shut_at hs 12 11 (by kernel_rfl) (shut_at hs 13 12 (by kernel_rfl) (shut_at hs 14 13 (by kernel_rfl) (shut_at hs 20 14 (by kernel_rfl) (h)))))
          have n21 : L 21 = false := not_yet hL fun h => shut_at hs 21 9 (by kernel_rfl) (h)
          refine opIn_run (v := .slice (some ⟨g, o, none⟩) n c) (w' := w') rfl rfl (fun c h => by cases h) (fun _ => trivial) ?_ ⟨V8, V14, V20, by simp [Act.put, upd, n14, n20, n21, hL], hcm, by simpa [upd] using hph⟩
          simp only [n14, n20, n21, hL, cond_true, cond_false]
          go_simp
        · skip
          have n14 : L 14 = false := not_yet hL fun h => shut_at hs 11 10 (by kernel_rfl) (shut_at hs 12 11 (by kernel_rfl) (shut_at hs 13 12 (by kernel_rfl) (shut_at hs 14 13 (by kernel_rfl) (h))))
          have n20 : L 20 = false := not_yet hL fun h => shut_at hs 11 10 (by kernel_rfl) (shut_at hs 12 11 (by kernel_rfl) (shut_at hs 13 12 (by kernel_rfl) (shut_at hs 14 13 (by kernel_rfl) (shut_at hs 20 14 (by kernel_rfl) (h)))))
          have n21 : L 21 = false := not_yet hL fun h => shut_at hs 21 10 (by kernel_rfl) (h)
          refine opIn_run (v := .int .i64 (i : Int)) (w' := w') rfl rfl (fun c h => by cases h) (fun _ => trivial) ?_ ⟨V8, V14, V20, by simp [Act.put, upd, n14, n20, n21, hL], hcm, by simpa [upd] using hph⟩
          simp only [n14, n20, n21, hL, cond_true, cond_false]
          go_simp
        · skip
          have y9 : L 9 = true := up_at hu 9 (by kernel_rfl)
          have y10 : L 10 = true := up_at hu 10 (by kernel_rfl)
          have n14 : L 14 = false := not_yet hL fun h => shut_at hs 12 11 (by kernel_rfl) (shut_at hs 13 12 (by kernel_rfl) (shut_at hs 14 13 (by kernel_rfl) (h)))
          have n20 : L 20 = false := not_yet hL fun h => shut_at hs 12 11 (by kernel_rfl) (shut_at hs 13 12 (by kernel_rfl) (shut_at hs 14 13 (by kernel_rfl) (shut_at hs 20 14 (by kernel_rfl) (h))))
          have n21 : L 21 = false := not_yet hL fun h => shut_at hs 21 11 (by kernel_rfl) (h)
          refine opIn_run (v := .pointer (some ⟨g, o + i * 2, none⟩)) (w' := w') rfl rfl (fun c h => by cases h) (fun _ => trivial) ?_ ⟨V8, V14, V20, by simp [Act.put, upd, y9, y10, n14, n20, n21, hL], hcm, by simpa [upd] using hph⟩
          simp only [y9, y10, n14, n20, n21, hL, cond_true, cond_false]
          go_simp
        · skip
          have y9 : L 9 = true := shut_at hs 11 9 (by kernel_rfl) (up_at hu 11 (by kernel_rfl))
          have y10 : L 10 = true := shut_at hs 11 10 (by kernel_rfl) (up_at hu 11 (by kernel_rfl))
          have y11 : L 11 = true := up_at hu 11 (by kernel_rfl)
          have n14 : L 14 = false := not_yet hL fun h => shut_at hs 13 12 (by kernel_rfl) (shut_at hs 14 13 (by kernel_rfl) (h))
          have n20 : L 20 = false := not_yet hL fun h => shut_at hs 13 12 (by kernel_rfl) (shut_at hs 14 13 (by kernel_rfl) (shut_at hs 20 14 (by kernel_rfl) (h)))
          have n21 : L 21 = false := not_yet hL fun h => shut_at hs 21 12 (by kernel_rfl) (h)
          refine opIn_run (v := .pointer (some ⟨g, o + i * 2, none⟩)) (w' := w') rfl rfl (fun c h => by cases h) (fun _ => trivial) ?_ ⟨V8, V14, V20, by simp [Act.put, upd, y9, y10, y11, n14, n20, n21, hL], hcm, by simpa [upd] using hph⟩
          simp only [y9, y10, y11, n14, n20, n21, hL, cond_true, cond_false]
          go_simp
        · skip
          have y9 : L 9 = true := shut_at hs 11 9 (by kernel_rfl) (shut_at hs 12 11 (by kernel_rfl) (up_at hu 12 (by kernel_rfl)))
          have y10 : L 10 = true := shut_at hs 11 10 (by kernel_rfl) (shut_at hs 12 11 (by kernel_rfl) (up_at hu 12 (by kernel_rfl)))
          have y11 : L 11 = true := shut_at hs 12 11 (by kernel_rfl) (up_at hu 12 (by kernel_rfl))
          have y12 : L 12 = true := up_at hu 12 (by kernel_rfl)
          have n14 : L 14 = false := not_yet hL fun h => shut_at hs 14 13 (by kernel_rfl) (h)
          have n20 : L 20 = false := not_yet hL fun h => shut_at hs 14 13 (by kernel_rfl) (shut_at hs 20 14 (by kernel_rfl) (h))
          have n21 : L 21 = false := not_yet hL fun h => shut_at hs 21 13 (by kernel_rfl) (h)
          simp only [y9, y10, y11, y12, n14, n20, n21, hL, cond_true, cond_false] at hph
          have g0 : w'.cell? ⟨g, o + i * 2, none⟩ = some (.string St) := (hcm.cell (p := ⟨g, _, none⟩) HF.out.2.2).trans HF.out.1
          refine opIn_run (v := .string St) (w' := w') rfl rfl (fun c h => by cases h) (fun _ => trivial) ?_ ⟨V8, V14, V20, by simp [Act.put, upd, y9, y10, y11, y12, n14, n20, n21, hL], hcm, by simp only [upd, y9, y10, y11, y12, n14, n20, n21, hL]; exact hph⟩
          simp only [y9, y10, y11, y12, n14, n20, n21, hL, cond_true, cond_false]
          go_simp
        · skip
          have y0 : L 0 = true := shut_at hs 8 0 (by kernel_rfl) (up_at hu 8 (by kernel_rfl))
          have y1 : L 1 = true := shut_at hs 3 1 (by kernel_rfl) (shut_at hs 4 3 (by kernel_rfl) (shut_at hs 5 4 (by kernel_rfl) (shut_at hs 6 5 (by kernel_rfl) (shut_at hs 7 6 (by kernel_rfl) (shut_at hs 8 7 (by kernel_rfl) (up_at hu 8 (by kernel_rfl)))))))
          have y2 : L 2 = true := shut_at hs 3 2 (by kernel_rfl) (shut_at hs 4 3 (by kernel_rfl) (shut_at hs 5 4 (by kernel_rfl) (shut_at hs 6 5 (by kernel_rfl) (shut_at hs 7 6 (by kernel_rfl) (shut_at hs 8 7 (by kernel_rfl) (up_at hu 8 (by kernel_rfl)))))))
          have y3 : L 3 = true := shut_at hs 4 3 (by kernel_rfl) (shut_at hs 5 4 (by kernel_rfl) (shut_at hs 6 5 (by kernel_rfl) (shut_at hs 7 6 (by kernel_rfl) (shut_at hs 8 7 (by kernel_rfl) (up_at hu 8 (by kernel_rfl))))))
          have y4 : L 4 = true := shut_at hs 5 4 (by kernel_rfl) (shut_at hs 6 5 (by kernel_rfl) (shut_at hs 7 6 (by kernel_rfl) (shut_at hs 8 7 (by kernel_rfl) (up_at hu 8 (by kernel_rfl)))))
          have y5 : L 5 = true := shut_at hs 6 5 (by kernel_rfl) (shut_at hs 7 6 (by kernel_rfl) (shut_at hs 8 7 (by kernel_rfl) (up_at hu 8 (by kernel_rfl))))
          have y6 : L 6 = true := shut_at hs 7 6 (by kernel_rfl) (shut_at hs 8 7 (by kernel_rfl) (up_at hu 8 (by kernel_rfl)))
          have y7 : L 7 = true := shut_at hs 8 7 (by kernel_rfl) (up_at hu 8 (by kernel_rfl))
          have y8 : L 8 = true := up_at hu 8 (by kernel_rfl)
          have y9 : L 9 = true := shut_at hs 11 9 (by kernel_rfl) (shut_at hs 12 11 (by kernel_rfl) (shut_at hs 13 12 (by kernel_rfl) (up_at hu 13 (by kernel_rfl))))
          have y10 : L 10 = true := shut_at hs 11 10 (by kernel_rfl) (shut_at hs 12 11 (by kernel_rfl) (shut_at hs 13 12 (by kernel_rfl) (up_at hu 13 (by kernel_rfl))))
          have y11 : L 11 = true := shut_at hs 12 11 (by kernel_rfl) (shut_at hs 13 12 (by kernel_rfl) (up_at hu 13 (by kernel_rfl)))
          have y12 : L 12 = true := shut_at hs 13 12 (by kernel_rfl) (up_at hu 13 (by kernel_rfl))
          have y13 : L 13 = true := up_at hu 13 (by kernel_rfl)
          have n20 : L 20 = false := not_yet hL fun h => shut_at hs 20 14 (by kernel_rfl) (h)
          have n21 : L 21 = false := not_yet hL fun h => shut_at hs 21 14 (by kernel_rfl) (h)
          simp only [y0, y1, y2, y3, y4, y5, y6, y7, y8, y9, y10, y11, y12, y13, n20, n21, hL, cond_true, cond_false] at hph
          have hkl := HLL.out.2.1
          obtain ⟨v', w2, hr, ho, hg⟩ := app_str hph HKB.out hcm.size (by omega)
          rw [hkl] at ho
          rw [HST.out] at hr
          refine opIn_run (v := v') (w' := w2) rfl rfl (fun c h => by cases h) (fun _ => trivial) ?_ ⟨V8, v', V20, by simp [Act.put, upd, y0, y1, y2, y3, y4, y5, y6, y7, y8, y9, y10, y11, y12, y13, n20, n21, hL], hcm.grown hg hcm.size (fun q e => (own_lt hph e).1), by simp only [upd, y0, y1, y2, y3, y4, y5, y6, y7, y8, y9, y10, y11, y12, y13, n20, n21, hL]; exact ho⟩
          simp only [y0, y1, y2, y3, y4, y5, y6, y7, y8, y9, y10, y11, y12, y13, n20, n21, hL, cond_true, cond_false]
          clear hph ho hg
          go_simp
        · skip
          have n20 : L 20 = false := not_yet hL fun h => shut_at hs 17 15 (by kernel_rfl) (shut_at hs 18 17 (by kernel_rfl) (shut_at hs 19 18 (by kernel_rfl) (shut_at hs 20 19 (by kernel_rfl) (h))))
          have n21 : L 21 = false := not_yet hL fun h => shut_at hs 21 15 (by kernel_rfl) (h)
          refine opIn_run (v := .slice (some ⟨g, o, none⟩) n c) (w' := w') rfl rfl (fun c h => by cases h) (fun _ => trivial) ?_ ⟨V8, V14, V20, by simp [Act.put, upd, n20, n21, hL], hcm, by simpa [upd] using hph⟩
          simp only [n20, n21, hL, cond_true, cond_false]
          go_simp
        · skip
          have n20 : L 20 = false := not_yet hL fun h => shut_at hs 17 16 (by kernel_rfl) (shut_at hs 18 17 (by kernel_rfl) (shut_at hs 19 18 (by kernel_rfl) (shut_at hs 20 19 (by kernel_rfl) (h))))
          have n21 : L 21 = false := not_yet hL fun h => shut_at hs 21 16 (by kernel_rfl) (h)
          refine opIn_run (v := .int .i64 (i : Int)) (w' := w') rfl rfl (fun c h => by cases h) (fun _ => trivial) ?_ ⟨V8, V14, V20, by simp [Act.put, upd, n20, n21, hL], hcm, by simpa [upd] using hph⟩
          simp only [n20, n21, hL, cond_true, cond_false]
          go_simp
        · skip
          have y15 : L 15 = true := up_at hu 15 (by kernel_rfl)
          have y16 : L 16 = true := up_at hu 16 (by kernel_rfl)
          have n20 : L 20 = false := not_yet hL fun h => shut_at hs 18 17 (by kernel_rfl) (shut_at hs 19 18 (by kernel_rfl) (shut_at hs 20 19 (by kernel_rfl) (h)))
          have n21 : L 21 = false := not_yet hL fun h => shut_at hs 21 17 (by kernel_rfl) (h)
          refine opIn_run (v := .pointer (some ⟨g, o + i * 2, none⟩)) (w' := w') rfl rfl (fun c h => by cases h) (fun _ => trivial) ?_ ⟨V8, V14, V20, by simp [Act.put, upd, y15, y16, n20, n21, hL], hcm, by simpa [upd] using hph⟩
          simp only [y15, y16, n20, n21, hL, cond_true, cond_false]
          go_simp
        · skip
          have y15 : L 15 = true := shut_at hs 17 15 (by kernel_rfl) (up_at hu 17 (by kernel_rfl))
          have y16 : L 16 = true := shut_at hs 17 16 (by kernel_rfl) (up_at hu 17 (by kernel_rfl))
          have y17 : L 17 = true := up_at hu 17 (by kernel_rfl)
          have n20 : L 20 = false := not_yet hL fun h => shut_at hs 19 18 (by kernel_rfl) (shut_at hs 20 19 (by kernel_rfl) (h))
          have n21 : L 21 = false := not_yet hL fun h => shut_at hs 21 18 (by kernel_rfl) (h)
          refine opIn_run (v := .pointer (some ⟨g, o + i * 2 + 1, none⟩)) (w' := w') rfl rfl (fun c h => by cases h) (fun _ => trivial) ?_ ⟨V8, V14, V20, by simp [Act.put, upd, y15, y16, y17, n20, n21, hL], hcm, by simpa [upd] using hph⟩
          simp only [y15, y16, y17, n20, n21, hL, cond_true, cond_false]
          go_simp
        · skip
          have y15 : L 15 = true := shut_at hs 17 15 (by kernel_rfl) (shut_at hs 18 17 (by kernel_rfl) (up_at hu 18 (by kernel_rfl)))
          have y16 : L 16 = true := shut_at hs 17 16 (by kernel_rfl) (shut_at hs 18 17 (by kernel_rfl) (up_at hu 18 (by kernel_rfl)))
          have y17 : L 17 = true := shut_at hs 18 17 (by kernel_rfl) (up_at hu 18 (by kernel_rfl))
          have y18 : L 18 = true := up_at hu 18 (by kernel_rfl)
          have n20 : L 20 = false := not_yet hL fun h => shut_at hs 20 19 (by kernel_rfl) (h)
          have n21 : L 21 = false := not_yet hL fun h => shut_at hs 21 19 (by kernel_rfl) (h)
          simp only [y15, y16, y17, y18, n20, n21, hL, cond_true, cond_false] at hph
          have g0 : w'.cell? ⟨g, o + i * 2 + 1, none⟩ = some (.slice va dl vc) := (hcm.cell (p := ⟨g, _, none⟩) HF.out.2.2).trans HF.out.2.1
          refine opIn_run (v := .slice va dl vc) (w' := w') rfl rfl (fun c h => by cases h) (fun _ => trivial) ?_ ⟨V8, V14, V20, by simp [Act.put, upd, y15, y16, y17, y18, n20, n21, hL], hcm, by simp only [upd, y15, y16, y17, y18, n20, n21, hL]; exact hph⟩
          simp only [y15, y16, y17, y18, n20, n21, hL, cond_true, cond_false]
          go_simp
        · skip
          have y0 : L 0 = true := shut_at hs 8 0 (by kernel_rfl) (shut_at hs 14 8 (by kernel_rfl) (up_at hu 14 (by kernel_rfl)))
          have y1 : L 1 = true := shut_at hs 3 1 (by kernel_rfl) (shut_at hs 4 3 (by kernel_rfl) (shut_at hs 5 4 (by kernel_rfl) (shut_at hs 6 5 (by kernel_rfl) (shut_at hs 7 6 (by kernel_rfl) (shut_at hs 8 7 (by kernel_rfl) (shut_at hs 14 8 (by kernel_rfl) (up_at hu 14 (by kernel_rfl))))))))
          have y2 : L 2 = true := shut_at hs 3 2 (by kernel_rfl) (shut_at hs 4 3 (by kernel_rfl) (shut_at hs 5 4 (by kernel_rfl) (shut_at hs 6 5 (by kernel_rfl) (shut_at hs 7 6 (by kernel_rfl) (shut_at hs 8 7 (by kernel_rfl) (shut_at hs 14 8 (by kernel_rfl) (up_at hu 14 (by kernel_rfl))))))))
          have y3 : L 3 = true := shut_at hs 4 3 (by kernel_rfl) (shut_at hs 5 4 (by kernel_rfl) (shut_at hs 6 5 (by kernel_rfl) (shut_at hs 7 6 (by kernel_rfl) (shut_at hs 8 7 (by kernel_rfl) (shut_at hs 14 8 (by kernel_rfl) (up_at hu 14 (by kernel_rfl)))))))
          have y4 : L 4 = true := shut_at hs 5 4 (by kernel_rfl) (shut_at hs 6 5 (by kernel_rfl) (shut_at hs 7 6 (by kernel_rfl) (shut_at hs 8 7 (by kernel_rfl) (shut_at hs 14 8 (by kernel_rfl) (up_at hu 14 (by kernel_rfl))))))
          have y5 : L 5 = true := shut_at hs 6 5 (by kernel_rfl) (shut_at hs 7 6 (by kernel_rfl) (shut_at hs 8 7 (by kernel_rfl) (shut_at hs 14 8 (by kernel_rfl) (up_at hu 14 (by kernel_rfl)))))
          have y6 : L 6 = true := shut_at hs 7 6 (by kernel_rfl) (shut_at hs 8 7 (by kernel_rfl) (shut_at hs 14 8 (by kernel_rfl) (up_at hu 14 (by kernel_rfl))))
          have y7 : L 7 = true := shut_at hs 8 7 (by kernel_rfl) (shut_at hs 14 8 (by kernel_rfl) (up_at hu 14 (by kernel_rfl)))
          have y8 : L 8 = true := shut_at hs 14 8 (by kernel_rfl) (up_at hu 14 (by kernel_rfl))
          have y9 : L 9 = true := shut_at hs 11 9 (by kernel_rfl) (shut_at hs 12 11 (by kernel_rfl) (shut_at hs 13 12 (by kernel_rfl) (shut_at hs 14 13 (by kernel_rfl) (up_at hu 14 (by kernel_rfl)))))
          have y10 : L 10 = true := shut_at hs 11 10 (by kernel_rfl) (shut_at hs 12 11 (by kernel_rfl) (shut_at hs 13 12 (by kernel_rfl) (shut_at hs 14 13 (by kernel_rfl) (up_at hu 14 (by kernel_rfl)))))
          have y11 : L 11 = true := shut_at hs 12 11 (by kernel_rfl) (shut_at hs 13 12 (by kernel_rfl) (shut_at hs 14 13 (by kernel_rfl) (up_at hu 14 (by kernel_rfl))))
          have y12 : L 12 = true := shut_at hs 13 12 (by kernel_rfl) (shut_at hs 14 13 (by kernel_rfl) (up_at hu 14 (by kernel_rfl)))
          have y13 : L 13 = true := shut_at hs 14 13 (by kernel_rfl) (up_at hu 14 (by kernel_rfl))
          have y14 : L 14 = true := up_at hu 14 (by kernel_rfl)
          have y15 : L 15 = true := shut_at hs 17 15 (by kernel_rfl) (shut_at hs 18 17 (by kernel_rfl) (shut_at hs 19 18 (by kernel_rfl) (up_at hu 19 (by kernel_rfl))))
          have y16 : L 16 = true := shut_at hs 17 16 (by kernel_rfl) (shut_at hs 18 17 (by kernel_rfl) (shut_at hs 19 18 (by kernel_rfl) (up_at hu 19 (by kernel_rfl))))
          have y17 : L 17 = true := shut_at hs 18 17 (by kernel_rfl) (shut_at hs 19 18 (by kernel_rfl) (up_at hu 19 (by kernel_rfl)))
          have y18 : L 18 = true := shut_at hs 19 18 (by kernel_rfl) (up_at hu 19 (by kernel_rfl))
          have y19 : L 19 = true := up_at hu 19 (by kernel_rfl)
          have n21 : L 21 = false := not_yet hL fun h => shut_at hs 21 20 (by kernel_rfl) (h)
          simp only [y0, y1, y2, y3, y4, y5, y6, y7, y8, y9, y10, y11, y12, y13, y14, y15, y16, y17, y18, y19, n21, hL, cond_true, cond_false] at hph
          have hkl := HLL.out.2.2
          obtain ⟨v', w2, hr, ho, hg⟩ := app_lst hph hkl HQ.out.1 (HQ.out.2.below hcm) hcm.size (by omega)
          refine opIn_run (v := v') (w' := w2) rfl rfl (fun c h => by cases h) (fun _ => trivial) ?_ ⟨V8, V14, v', by simp [Act.put, upd, y0, y1, y2, y3, y4, y5, y6, y7, y8, y9, y10, y11, y12, y13, y14, y15, y16, y17, y18, y19, n21, hL], hcm.grown hg hcm.size (fun q e => (own_lt hph e).1), by simp only [upd, y0, y1, y2, y3, y4, y5, y6, y7, y8, y9, y10, y11, y12, y13, y14, y15, y16, y17, y18, y19, n21, hL]; exact ho⟩
          simp only [y0, y1, y2, y3, y4, y5, y6, y7, y8, y9, y10, y11, y12, y13, y14, y15, y16, y17, y18, y19, n21, hL, cond_true, cond_false]
          clear hph ho hg
          go_simp
        · skip
          have y0 : L 0 = true := up_at hu 0 (by kernel_rfl)
          have y1 : L 1 = true := up_at hu 1 (by kernel_rfl)
          have y2 : L 2 = true := up_at hu 2 (by kernel_rfl)
          have y3 : L 3 = true := up_at hu 3 (by kernel_rfl)
          have y4 : L 4 = true := up_at hu 4 (by kernel_rfl)
          have y5 : L 5 = true := up_at hu 5 (by kernel_rfl)
          have y6 : L 6 = true := up_at hu 6 (by kernel_rfl)
          have y7 : L 7 = true := up_at hu 7 (by kernel_rfl)
          have y8 : L 8 = true := up_at hu 8 (by kernel_rfl)
          have y9 : L 9 = true := up_at hu 9 (by kernel_rfl)
          have y10 : L 10 = true := up_at hu 10 (by kernel_rfl)
          have y11 : L 11 = true := up_at hu 11 (by kernel_rfl)
          have y12 : L 12 = true := up_at hu 12 (by kernel_rfl)
          have y13 : L 13 = true := up_at hu 13 (by kernel_rfl)
          have y14 : L 14 = true := up_at hu 14 (by kernel_rfl)
          have y15 : L 15 = true := up_at hu 15 (by kernel_rfl)
          have y16 : L 16 = true := up_at hu 16 (by kernel_rfl)
          have y17 : L 17 = true := up_at hu 17 (by kernel_rfl)
          have y18 : L 18 = true := up_at hu 18 (by kernel_rfl)
          have y19 : L 19 = true := up_at hu 19 (by kernel_rfl)
          have y20 : L 20 = true := up_at hu 20 (by kernel_rfl)
          refine opIn_run (v := V20) (w' := w') rfl rfl (fun c h => by cases h) (fun _ => trivial) ?_ ⟨V8, V14, V20, by simp [Act.put, upd, y0, y1, y2, y3, y4, y5, y6, y7, y8, y9, y10, y11, y12, y13, y14, y15, y16, y17, y18, y19, y20, hL], hcm, by simpa [upd] using hph⟩
          simp only [y0, y1, y2, y3, y4, y5, y6, y7, y8, y9, y10, y11, y12, y13, y14, y15, y16, y17, y18, y19, y20, hL, cond_true, cond_false]
          go_simp
      case fin =>
        intro L a' w' hall hI
        obtain ⟨V8, V14, V20, rfl, hcm, hph⟩ := hI
        have l0 := hall 0 (by decide)
        have l1 := hall 1 (by decide)
        have l2 := hall 2 (by decide)
        have l3 := hall 3 (by decide)
        have l4 := hall 4 (by decide)
        have l5 := hall 5 (by decide)
        have l6 := hall 6 (by decide)
        have l7 := hall 7 (by decide)
        have l8 := hall 8 (by decide)
        have l9 := hall 9 (by decide)
        have l10 := hall 10 (by decide)
        have l11 := hall 11 (by decide)
        have l12 := hall 12 (by decide)
        have l13 := hall 13 (by decide)
        have l14 := hall 14 (by decide)
        have l15 := hall 15 (by decide)
        have l16 := hall 16 (by decide)
        have l17 := hall 17 (by decide)
        have l18 := hall 18 (by decide)
        have l19 := hall 19 (by decide)
        have l20 := hall 20 (by decide)
        have l21 := hall 21 (by decide)
        simp only [l0, l1, l2, l3, l4, l5, l6, l7, l8, l9, l10, l11, l12, l13, l14, l15, l16, l17, l18, l19, l20, l21, cond_true] at hph ⊢
        clear l0 l1 l2 l3 l4 l5 l6 l7 l8 l9 l10 l11 l12 l13 l14 l15 l16 l17 l18 l19 l20 l21 hall
        have HR : Hid (w'.ownsRow w.heap.size 5 1 V20 (wrB (bs.take (i + 1))).length ((wrB (bs.take (i + 1))).map (Value.int .u8))) := Lib.hid (by
          have h1 := HLL.out
          have h2 := HWT.out
          rw [h1.2.2] at h2
          rw [h2]
          have e : (X ++ putL ((dl : Int) + 8) 4 ++ k ++ d).length = xl + 4 + kl + dl := by
            simp only [List.length_append, putL_len]; omega
          rw [e]
          exact hph)
        have HBN := Lib.hid hcm
        clear hph hcm HWT HLL HKB HQ HF HS HBX HOX HXE HST
        go_wp2
        go_roundg g1
        case rel => exact ⟨i + 1, by omega, by go_num, HR, HBN⟩
        case measure => omega
    · obtain rfl : i = n := by omega
      have hnlt : ¬ (i : Int) < (i : Int) := by omega
      have hZ : Hid (wr.ownsRow w.heap.size 5 1 (.slice A0 (wrB (bs.take i)).length c0) (wrB bs).length ((wrB bs).map (Value.int .u8)) ∧ Below w.heap.size w wr) := Lib.hid ⟨by
        have h := HO.out
        rw [List.take_of_length_le (by rw [HN.out]; omega)] at h ⊢
        exact h, HB.out⟩
      clear hA0 hc0 hc1
      go_wp2
      go_ret
      exact ⟨_, rfl, hZ.out.1, hZ.out.2⟩
end Go.Proofs.Ytfjkfajhfnmjjaa
