/- Back of the reference, by its contract: one region with three appends. -/
import Derived.Test.YtgplaikcahpiiaaColRt
import Derived.Test.YtgplaikcahpiiaaApps
import Derived.Outline
set_option linter.unusedVariables false
namespace Go.Proofs.Ytgplaikcahpiiaa
open Go.RowKit

attribute [local go_sem ↓] appSem_eq

def f0 (y u v : Int) : Int := v + backF y u v
def f2 (y u v : Int) : Int := u + backF y u v
set_option maxRecDepth 100000 in
set_option maxHeartbeats 32000000 in
theorem rback_any {A B C : Option Addr} {n ca cb cc : Nat} {a b c : List Int} {w : World} (ha : RowI w A n ca a) (hb : RowI w B n cb b) (hc : RowI w C n cc c) (hn : n ≤ 900)
    (ra : Rng 268435456 a) (rb : Rng 268435456 b) (rc : Rng 268435456 c) :
    Calls Try.prog 23 #[.slice A n ca, .slice B n cb, .slice C n cc] w fun e w' => ∃ A1 c1 A2 c2 A3 c3, e = .returned (.tuple #[.slice A1 n c1, .slice A2 n c2, .slice A3 n c3]) ∧
      RowI w' A1 n c1 (map3 f0 a b c n) ∧ RowI w' A2 n c2 (map3 backF a b c n) ∧ RowI w' A3 n c3 (map3 f2 a b c n) ∧ Below w.heap.size w w' := by
  obtain ⟨i0, hi, hz0, hz1, hz2⟩ := info_parts Try.info3
  have HA := Lib.hid (And.intro ha ra)
  have HB := Lib.hid (And.intro hb rb)
  have HC := Lib.hid (And.intro hc rc)
  clear ha hb hc ra rb rc
  go_enter Try.func23, Try.ntmps23
  go_wp2
  go_loopw [9, 10, 11, 12] (fun v0 v1 v2 i wr => ∃ k : Nat, k ≤ n ∧ i = .int .i64 (k : Int) ∧ Grow w.heap.size w wr (sel3 v0 v1 v2) (sel3 (map3 f0 a b c k) (map3 backF a b c k) (map3 f2 a b c k)) 3) (fun _ _ _ i _ => n - (intOf i).toNat)
  case atStart => exact ⟨0, by omega, rfl, Grow.nil3 w 3⟩
  case round =>
    obtain ⟨k, kn, rfl, hT⟩ := hrel
    by_cases ck : k < n
    · obtain ⟨p0, o0, rfl, hp0, m0⟩ := HA.out.1.cell ck
      obtain ⟨p1, o1, rfl, hp1, m1⟩ := HB.out.1.cell ck
      obtain ⟨p2, o2, rfl, hp2, m2⟩ := HC.out.1.cell ck
      have x0 := HA.out.2 k
      have x1 := HB.out.2 k
      have x2 := HC.out.2 k
      have E1 := Lib.hid (map3_succ f0 a b c k)
      have E2 := Lib.hid (map3_succ backF a b c k)
      have E3 := Lib.hid (map3_succ f2 a b c k)
      have z1 := map3_len f0 a b c k
      have z2 := map3_len backF a b c k
      have z3 := map3_len f2 a b c k
      generalize a.getD k 0 = x at *
      generalize b.getD k 0 = y at *
      generalize c.getD k 0 = z at *
      generalize map3 f0 a b c k = K0 at *
      generalize map3 backF a b c k = K1 at *
      generalize map3 f2 a b c k = K2 at *
      have M0 := Lib.hid m0
      have M1 := Lib.hid m1
      have M2 := Lib.hid m2
      have e1 : IntKind.i64.wrap (y + z) = y + z := IntWalk.i64_in _ (by omega)
      have e2 : IntKind.i64.wrap (x - (y + z) / 4) = x - (y + z) / 4 := IntWalk.i64_in _ (by omega)
      have ckk : (k : Int) < (n : Int) := by omega
      have y0 := (hT.bel.cell (p := ⟨p0, o0 + k, none⟩) hp0).trans M0.out
      have y1 := (hT.bel.cell (p := ⟨p1, o1 + k, none⟩) hp1).trans M1.out
      have y2 := (hT.bel.cell (p := ⟨p2, o2 + k, none⟩) hp2).trans M2.out
      have HT := Lib.hid hT
      clear hT m0 m1 m2
      go_wp2
      go_quiet (fail)
      go_wp2_with fail
      have hT := HT.out.drewN nq
      have hg : -1099511627776 ≤ x - (y + z) / 4 ∧ x - (y + z) / 4 ≤ 1099511627776 := by omega
      have hgf : Hid (f0 x y z = z + (x - (y + z) / 4) ∧ backF x y z = x - (y + z) / 4 ∧ f2 x y z = y + (x - (y + z) / 4)) := Lib.hid ⟨rfl, rfl, rfl⟩
      clear y0 y1 y2 e1 e2
      generalize wr.drewN nq = u at *
      generalize x - (y + z) / 4 = gg at *
      have e3 : IntKind.i64.wrap (z + gg) = z + gg := IntWalk.i64_in _ (by omega)
      have e4 : IntKind.i64.wrap (y + gg) = y + gg := IntWalk.i64_in _ (by omega)
      clear x0 x1 x2
      have hmo : Try.prog.follows .mixedOrders = true := by kernel_rfl
      have hl0 : K0.length ≤ 900 := by omega
      have hl1 : K1.length ≤ 900 := by omega
      have hl2 : K2.length ≤ 900 := by omega
      have hG0 := hT.drew
      clear hT
      refine (wpIn_wide (n := 9)).1 (regionIn_inv (Inv := fun L a w' => ∃ (nb : Nat → Nat) (V : Nat → Value), a = { tmps := #[Value.slice (some { block := p0, off := o0 }) n ca, Value.slice (some { block := p1, off := o1 }) n cb, Value.slice (some { block := p2, off := o2 }) n cc, undef, undef, undef, Value.slice none 0 0, Value.slice none 0 0, Value.slice none 0 0, bif L 22 then V 0 else u9, bif L 23 then V 1 else u10, bif L 24 then V 2 else u11, Value.int IntKind.i64 ↑k, Value.int IntKind.i64 gg, Value.int IntKind.i64 ↑k, Value.slice (some { block := p0, off := o0 }) n ca, Value.int IntKind.i64 ↑n, Value.bool true, u18, u19, Value.slice (some { block := p0, off := o0 }) n ca, Value.int IntKind.i64 ↑k, Value.pointer (some { block := p0, off := o0 + k }), Value.int IntKind.i64 x, Value.slice (some { block := p1, off := o1 }) n cb, Value.int IntKind.i64 ↑k, Value.pointer (some { block := p1, off := o1 + k }), Value.int IntKind.i64 y, Value.slice (some { block := p2, off := o2 }) n cc, Value.int IntKind.i64 ↑k, Value.pointer (some { block := p2, off := o2 + k }), Value.int IntKind.i64 z, Value.int IntKind.i64 (y + z), Value.int IntKind.i64 ((y + z) / 4), Value.int IntKind.i64 gg, bif L 0 then u9 else u35, bif L 1 then .slice (some ⟨p2, o2, none⟩) n cc else u36, bif L 2 then .int .i64 k else u37, bif L 3 then .pointer (some ⟨p2, o2 + k, none⟩) else u38, bif L 4 then .int .i64 z else u39, bif L 5 then .int .i64 gg else u40, bif L 6 then .int .i64 (z + gg) else u41, bif L 7 then .slice (some ⟨nb 0, 0, none⟩) 1 1 else u42, bif L 8 then V 0 else u43, bif L 9 then u10 else u44, bif L 10 then .int .i64 gg else u45, bif L 11 then .slice (some ⟨nb 1, 0, none⟩) 1 1 else u46, bif L 12 then V 1 else u47, bif L 13 then u11 else u48, bif L 14 then .slice (some ⟨p1, o1, none⟩) n cb else u49, bif L 15 then .int .i64 k else u50, bif L 16 then .pointer (some ⟨p1, o1 + k, none⟩) else u51, bif L 17 then .int .i64 y else u52, bif L 18 then .int .i64 gg else u53, bif L 19 then .int .i64 (y + gg) else u54, bif L 20 then .slice (some ⟨nb 2, 0, none⟩) 1 1 else u55, bif L 21 then V 2 else u56, undef, undef, undef], defers := [] } ∧ Grow w.heap.size w w' V (sel3 (bif L 8 then K0 ++ [z + gg] else K0) (bif L 12 then K1 ++ [gg] else K1) (bif L 21 then K2 ++ [y + gg] else K2)) 3 ∧ (L 7 = true → L 8 = false → Temp w' V 3 (nb 0) (z + gg)) ∧ (L 8 = false → V 0 = u9) ∧ (L 11 = true → L 12 = false → Temp w' V 3 (nb 1) (gg)) ∧ (L 12 = false → V 1 = u10) ∧ (L 20 = true → L 21 = false → Temp w' V 3 (nb 2) (y + gg)) ∧ (L 21 = false → V 2 = u11)) hmo (by kernel_rfl) ?start ?step ?fin)
      case step =>
        intro i hi L a' w' hI hs hu
        obtain ⟨nb, V, rfl, hG, hT0, hV0, hT1, hV1, hT2, hV2⟩ := hI
        have hL := hu.1
        have hi : i < 25 := hi
        obtain rfl | rfl | rfl | rfl | rfl | rfl | rfl | rfl | rfl | rfl | rfl | rfl | rfl | rfl | rfl | rfl | rfl | rfl | rfl | rfl | rfl | rfl | rfl | rfl | rfl := (by omega : i = 0 ∨ i = 1 ∨ i = 2 ∨ i = 3 ∨ i = 4 ∨ i = 5 ∨ i = 6 ∨ i = 7 ∨ i = 8 ∨ i = 9 ∨ i = 10 ∨ i = 11 ∨ i = 12 ∨ i = 13 ∨ i = 14 ∨ i = 15 ∨ i = 16 ∨ i = 17 ∨ i = 18 ∨ i = 19 ∨ i = 20 ∨ i = 21 ∨ i = 22 ∨ i = 23 ∨ i = 24)
        · trace "op 0"
          have n8 : L 8 = false := not_yet hL fun h => shut_at hs 8 0 (by kernel_rfl) (h)
          have n12 : L 12 = false := not_yet hL fun h => shut_at hs 8 0 (by kernel_rfl) (shut_at hs 12 8 (by kernel_rfl) (h))
          have n21 : L 21 = false := not_yet hL fun h => shut_at hs 8 0 (by kernel_rfl) (shut_at hs 12 8 (by kernel_rfl) (shut_at hs 21 12 (by kernel_rfl) (h)))
          have n22 : L 22 = false := not_yet hL fun h => shut_at hs 22 0 (by kernel_rfl) (h)
          have n23 : L 23 = false := not_yet hL fun h => shut_at hs 23 0 (by kernel_rfl) (h)
          have n24 : L 24 = false := not_yet hL fun h => shut_at hs 24 0 (by kernel_rfl) (h)
          refine opIn_run (v := u9) (w' := w') rfl rfl (fun c h => by cases h) (fun _ => trivial) ?_ ⟨nb, V, by simp [Act.put, upd, n8, n12, n21, n22, n23, n24, hL], hG, hT0, hV0, hT1, hV1, hT2, hV2⟩
          simp only [n8, n12, n21, n22, n23, n24, hL, cond_true, cond_false]
          go_simp
        · trace "op 1"
          have n7 : L 7 = false := not_yet hL fun h => shut_at hs 3 1 (by kernel_rfl) (shut_at hs 4 3 (by kernel_rfl) (shut_at hs 6 4 (by kernel_rfl) (shut_at hs 7 6 (by kernel_rfl) (h))))
          have n8 : L 8 = false := not_yet hL fun h => shut_at hs 3 1 (by kernel_rfl) (shut_at hs 4 3 (by kernel_rfl) (shut_at hs 6 4 (by kernel_rfl) (shut_at hs 7 6 (by kernel_rfl) (shut_at hs 8 7 (by kernel_rfl) (h)))))
          have n12 : L 12 = false := not_yet hL fun h => shut_at hs 3 1 (by kernel_rfl) (shut_at hs 4 3 (by kernel_rfl) (shut_at hs 6 4 (by kernel_rfl) (shut_at hs 7 6 (by kernel_rfl) (shut_at hs 8 7 (by kernel_rfl) (shut_at hs 12 8 (by kernel_rfl) (h))))))
          have n21 : L 21 = false := not_yet hL fun h => shut_at hs 3 1 (by kernel_rfl) (shut_at hs 4 3 (by kernel_rfl) (shut_at hs 6 4 (by kernel_rfl) (shut_at hs 7 6 (by kernel_rfl) (shut_at hs 8 7 (by kernel_rfl) (shut_at hs 12 8 (by kernel_rfl) (shut_at hs 21 12 (by kernel_rfl) (h)))))))
          have n22 : L 22 = false := not_yet hL fun h => shut_at hs 22 1 (by kernel_rfl) (h)
          have n23 : L 23 = false := not_yet hL fun h => shut_at hs 23 1 (by kernel_rfl) (h)
          have n24 : L 24 = false := not_yet hL fun h => shut_at hs 24 1 (by kernel_rfl) (h)
          refine opIn_run (v := .slice (some ⟨p2, o2, none⟩) n cc) (w' := w') rfl rfl (fun c h => by cases h) (fun _ => trivial) ?_ ⟨nb, V, by simp [Act.put, upd, n7, n8, n12, n21, n22, n23, n24, hL], hG, hT0, hV0, hT1, hV1, hT2, hV2⟩
          simp only [n7, n8, n12, n21, n22, n23, n24, hL, cond_true, cond_false]
          go_simp
        · trace "op 2"
          have n7 : L 7 = false := not_yet hL fun h => shut_at hs 3 2 (by kernel_rfl) (shut_at hs 4 3 (by kernel_rfl) (shut_at hs 6 4 (by kernel_rfl) (shut_at hs 7 6 (by kernel_rfl) (h))))
          have n8 : L 8 = false := not_yet hL fun h => shut_at hs 3 2 (by kernel_rfl) (shut_at hs 4 3 (by kernel_rfl) (shut_at hs 6 4 (by kernel_rfl) (shut_at hs 7 6 (by kernel_rfl) (shut_at hs 8 7 (by kernel_rfl) (h)))))
          have n12 : L 12 = false := not_yet hL fun h => shut_at hs 3 2 (by kernel_rfl) (shut_at hs 4 3 (by kernel_rfl) (shut_at hs 6 4 (by kernel_rfl) (shut_at hs 7 6 (by kernel_rfl) (shut_at hs 8 7 (by kernel_rfl) (shut_at hs 12 8 (by kernel_rfl) (h))))))
          have n21 : L 21 = false := not_yet hL fun h => shut_at hs 3 2 (by kernel_rfl) (shut_at hs 4 3 (by kernel_rfl) (shut_at hs 6 4 (by kernel_rfl) (shut_at hs 7 6 (by kernel_rfl) (shut_at hs 8 7 (by kernel_rfl) (shut_at hs 12 8 (by kernel_rfl) (shut_at hs 21 12 (by kernel_rfl) (h)))))))
          have n22 : L 22 = false := not_yet hL fun h => shut_at hs 22 2 (by kernel_rfl) (h)
          have n23 : L 23 = false := not_yet hL fun h => shut_at hs 23 2 (by kernel_rfl) (h)
          have n24 : L 24 = false := not_yet hL fun h => shut_at hs 24 2 (by kernel_rfl) (h)
          refine opIn_run (v := .int .i64 k) (w' := w') rfl rfl (fun c h => by cases h) (fun _ => trivial) ?_ ⟨nb, V, by simp [Act.put, upd, n7, n8, n12, n21, n22, n23, n24, hL], hG, hT0, hV0, hT1, hV1, hT2, hV2⟩
          simp only [n7, n8, n12, n21, n22, n23, n24, hL, cond_true, cond_false]
          go_simp
        · trace "op 3"
          have y1 : L 1 = true := up_at hu 1 (by kernel_rfl)
          have y2 : L 2 = true := up_at hu 2 (by kernel_rfl)
          have n7 : L 7 = false := not_yet hL fun h => shut_at hs 4 3 (by kernel_rfl) (shut_at hs 6 4 (by kernel_rfl) (shut_at hs 7 6 (by kernel_rfl) (h)))
          have n8 : L 8 = false := not_yet hL fun h => shut_at hs 4 3 (by kernel_rfl) (shut_at hs 6 4 (by kernel_rfl) (shut_at hs 7 6 (by kernel_rfl) (shut_at hs 8 7 (by kernel_rfl) (h))))
          have n12 : L 12 = false := not_yet hL fun h => shut_at hs 4 3 (by kernel_rfl) (shut_at hs 6 4 (by kernel_rfl) (shut_at hs 7 6 (by kernel_rfl) (shut_at hs 8 7 (by kernel_rfl) (shut_at hs 12 8 (by kernel_rfl) (h)))))
          have n21 : L 21 = false := not_yet hL fun h => shut_at hs 4 3 (by kernel_rfl) (shut_at hs 6 4 (by kernel_rfl) (shut_at hs 7 6 (by kernel_rfl) (shut_at hs 8 7 (by kernel_rfl) (shut_at hs 12 8 (by kernel_rfl) (shut_at hs 21 12 (by kernel_rfl) (h))))))
          have n22 : L 22 = false := not_yet hL fun h => shut_at hs 22 3 (by kernel_rfl) (h)
          have n23 : L 23 = false := not_yet hL fun h => shut_at hs 23 3 (by kernel_rfl) (h)
          have n24 : L 24 = false := not_yet hL fun h => shut_at hs 24 3 (by kernel_rfl) (h)
          refine opIn_run (v := .pointer (some ⟨p2, o2 + k, none⟩)) (w' := w') rfl rfl (fun c h => by cases h) (fun _ => trivial) ?_ ⟨nb, V, by simp [Act.put, upd, y1, y2, n7, n8, n12, n21, n22, n23, n24, hL], hG, hT0, hV0, hT1, hV1, hT2, hV2⟩
          simp only [y1, y2, n7, n8, n12, n21, n22, n23, n24, hL, cond_true, cond_false]
          go_simp
        · trace "op 4"
          have y1 : L 1 = true := shut_at hs 3 1 (by kernel_rfl) (up_at hu 3 (by kernel_rfl))
          have y2 : L 2 = true := shut_at hs 3 2 (by kernel_rfl) (up_at hu 3 (by kernel_rfl))
          have y3 : L 3 = true := up_at hu 3 (by kernel_rfl)
          have n7 : L 7 = false := not_yet hL fun h => shut_at hs 6 4 (by kernel_rfl) (shut_at hs 7 6 (by kernel_rfl) (h))
          have n8 : L 8 = false := not_yet hL fun h => shut_at hs 6 4 (by kernel_rfl) (shut_at hs 7 6 (by kernel_rfl) (shut_at hs 8 7 (by kernel_rfl) (h)))
          have n12 : L 12 = false := not_yet hL fun h => shut_at hs 6 4 (by kernel_rfl) (shut_at hs 7 6 (by kernel_rfl) (shut_at hs 8 7 (by kernel_rfl) (shut_at hs 12 8 (by kernel_rfl) (h))))
          have n21 : L 21 = false := not_yet hL fun h => shut_at hs 6 4 (by kernel_rfl) (shut_at hs 7 6 (by kernel_rfl) (shut_at hs 8 7 (by kernel_rfl) (shut_at hs 12 8 (by kernel_rfl) (shut_at hs 21 12 (by kernel_rfl) (h)))))
          have n22 : L 22 = false := not_yet hL fun h => shut_at hs 22 4 (by kernel_rfl) (h)
          have n23 : L 23 = false := not_yet hL fun h => shut_at hs 23 4 (by kernel_rfl) (h)
          have n24 : L 24 = false := not_yet hL fun h => shut_at hs 24 4 (by kernel_rfl) (h)
          have cz := (hG.bel.cell (p := ⟨p2, o2 + k, none⟩) hp2).trans M2.out
          refine opIn_run (v := .int .i64 z) (w' := w') rfl rfl (fun c h => by cases h) (fun _ => trivial) ?_ ⟨nb, V, by simp [Act.put, upd, y1, y2, y3, n7, n8, n12, n21, n22, n23, n24, hL], hG, hT0, hV0, hT1, hV1, hT2, hV2⟩
          simp only [y1, y2, y3, n7, n8, n12, n21, n22, n23, n24, hL, cond_true, cond_false]
          go_simp
        · trace "op 5"
          have n7 : L 7 = false := not_yet hL fun h => shut_at hs 6 5 (by kernel_rfl) (shut_at hs 7 6 (by kernel_rfl) (h))
          have n8 : L 8 = false := not_yet hL fun h => shut_at hs 6 5 (by kernel_rfl) (shut_at hs 7 6 (by kernel_rfl) (shut_at hs 8 7 (by kernel_rfl) (h)))
          have n12 : L 12 = false := not_yet hL fun h => shut_at hs 6 5 (by kernel_rfl) (shut_at hs 7 6 (by kernel_rfl) (shut_at hs 8 7 (by kernel_rfl) (shut_at hs 12 8 (by kernel_rfl) (h))))
          have n21 : L 21 = false := not_yet hL fun h => shut_at hs 6 5 (by kernel_rfl) (shut_at hs 7 6 (by kernel_rfl) (shut_at hs 8 7 (by kernel_rfl) (shut_at hs 12 8 (by kernel_rfl) (shut_at hs 21 12 (by kernel_rfl) (h)))))
          have n22 : L 22 = false := not_yet hL fun h => shut_at hs 22 5 (by kernel_rfl) (h)
          have n23 : L 23 = false := not_yet hL fun h => shut_at hs 23 5 (by kernel_rfl) (h)
          have n24 : L 24 = false := not_yet hL fun h => shut_at hs 24 5 (by kernel_rfl) (h)
          refine opIn_run (v := .int .i64 gg) (w' := w') rfl rfl (fun c h => by cases h) (fun _ => trivial) ?_ ⟨nb, V, by simp [Act.put, upd, n7, n8, n12, n21, n22, n23, n24, hL], hG, hT0, hV0, hT1, hV1, hT2, hV2⟩
          simp only [n7, n8, n12, n21, n22, n23, n24, hL, cond_true, cond_false]
          go_simp
        · trace "op 6"
          have y1 : L 1 = true := shut_at hs 3 1 (by kernel_rfl) (shut_at hs 4 3 (by kernel_rfl) (up_at hu 4 (by kernel_rfl)))
          have y2 : L 2 = true := shut_at hs 3 2 (by kernel_rfl) (shut_at hs 4 3 (by kernel_rfl) (up_at hu 4 (by kernel_rfl)))
          have y3 : L 3 = true := shut_at hs 4 3 (by kernel_rfl) (up_at hu 4 (by kernel_rfl))
          have y4 : L 4 = true := up_at hu 4 (by kernel_rfl)
          have y5 : L 5 = true := up_at hu 5 (by kernel_rfl)
          have n7 : L 7 = false := not_yet hL fun h => shut_at hs 7 6 (by kernel_rfl) (h)
          have n8 : L 8 = false := not_yet hL fun h => shut_at hs 7 6 (by kernel_rfl) (shut_at hs 8 7 (by kernel_rfl) (h))
          have n12 : L 12 = false := not_yet hL fun h => shut_at hs 7 6 (by kernel_rfl) (shut_at hs 8 7 (by kernel_rfl) (shut_at hs 12 8 (by kernel_rfl) (h)))
          have n21 : L 21 = false := not_yet hL fun h => shut_at hs 7 6 (by kernel_rfl) (shut_at hs 8 7 (by kernel_rfl) (shut_at hs 12 8 (by kernel_rfl) (shut_at hs 21 12 (by kernel_rfl) (h))))
          have n22 : L 22 = false := not_yet hL fun h => shut_at hs 22 6 (by kernel_rfl) (h)
          have n23 : L 23 = false := not_yet hL fun h => shut_at hs 23 6 (by kernel_rfl) (h)
          have n24 : L 24 = false := not_yet hL fun h => shut_at hs 24 6 (by kernel_rfl) (h)
          have ez := e3
          refine opIn_run (v := .int .i64 (z + gg)) (w' := w') rfl rfl (fun c h => by cases h) (fun _ => trivial) ?_ ⟨nb, V, by simp [Act.put, upd, y1, y2, y3, y4, y5, n7, n8, n12, n21, n22, n23, n24, hL], hG, hT0, hV0, hT1, hV1, hT2, hV2⟩
          simp only [y1, y2, y3, y4, y5, n7, n8, n12, n21, n22, n23, n24, hL, cond_true, cond_false]
          go_simp
        · trace "op 7"
          have y1 : L 1 = true := shut_at hs 3 1 (by kernel_rfl) (shut_at hs 4 3 (by kernel_rfl) (shut_at hs 6 4 (by kernel_rfl) (up_at hu 6 (by kernel_rfl))))
          have y2 : L 2 = true := shut_at hs 3 2 (by kernel_rfl) (shut_at hs 4 3 (by kernel_rfl) (shut_at hs 6 4 (by kernel_rfl) (up_at hu 6 (by kernel_rfl))))
          have y3 : L 3 = true := shut_at hs 4 3 (by kernel_rfl) (shut_at hs 6 4 (by kernel_rfl) (up_at hu 6 (by kernel_rfl)))
          have y4 : L 4 = true := shut_at hs 6 4 (by kernel_rfl) (up_at hu 6 (by kernel_rfl))
          have y5 : L 5 = true := shut_at hs 6 5 (by kernel_rfl) (up_at hu 6 (by kernel_rfl))
          have y6 : L 6 = true := up_at hu 6 (by kernel_rfl)
          have n8 : L 8 = false := not_yet hL fun h => shut_at hs 8 7 (by kernel_rfl) (h)
          have n12 : L 12 = false := not_yet hL fun h => shut_at hs 8 7 (by kernel_rfl) (shut_at hs 12 8 (by kernel_rfl) (h))
          have n21 : L 21 = false := not_yet hL fun h => shut_at hs 8 7 (by kernel_rfl) (shut_at hs 12 8 (by kernel_rfl) (shut_at hs 21 12 (by kernel_rfl) (h)))
          have n22 : L 22 = false := not_yet hL fun h => shut_at hs 22 7 (by kernel_rfl) (h)
          have n23 : L 23 = false := not_yet hL fun h => shut_at hs 23 7 (by kernel_rfl) (h)
          have n24 : L 24 = false := not_yet hL fun h => shut_at hs 24 7 (by kernel_rfl) (h)
          refine opIn_run (v := .slice (some ⟨w'.heap.size, 0, none⟩) 1 1) (w' := w'.alloc (.cells #[.int .i64 (z + gg)] 3)) rfl rfl (fun c h => by cases h) (fun _ => trivial) ?_ ⟨put1 nb 0 w'.heap.size, V, by simp [Act.put, upd, put1, y1, y2, y3, y4, y5, y6, n8, n12, n21, n22, n23, n24, hL], hG.alloc _, (fun _ _ => by simpa [put1] using Temp.new hG (z + gg)), hV0, (fun h1 h2 => by simpa [put1] using (hT1 h1 h2).alloc _), hV1, (fun h1 h2 => by simpa [put1] using (hT2 h1 h2).alloc _), hV2⟩
          simp only [y1, y2, y3, y4, y5, y6, n8, n12, n21, n22, n23, n24, hL, cond_true, cond_false]
          go_simp
        · trace "op 8"
          have y0 : L 0 = true := up_at hu 0 (by kernel_rfl)
          have y1 : L 1 = true := shut_at hs 3 1 (by kernel_rfl) (shut_at hs 4 3 (by kernel_rfl) (shut_at hs 6 4 (by kernel_rfl) (shut_at hs 7 6 (by kernel_rfl) (up_at hu 7 (by kernel_rfl)))))
          have y2 : L 2 = true := shut_at hs 3 2 (by kernel_rfl) (shut_at hs 4 3 (by kernel_rfl) (shut_at hs 6 4 (by kernel_rfl) (shut_at hs 7 6 (by kernel_rfl) (up_at hu 7 (by kernel_rfl)))))
          have y3 : L 3 = true := shut_at hs 4 3 (by kernel_rfl) (shut_at hs 6 4 (by kernel_rfl) (shut_at hs 7 6 (by kernel_rfl) (up_at hu 7 (by kernel_rfl))))
          have y4 : L 4 = true := shut_at hs 6 4 (by kernel_rfl) (shut_at hs 7 6 (by kernel_rfl) (up_at hu 7 (by kernel_rfl)))
          have y5 : L 5 = true := shut_at hs 6 5 (by kernel_rfl) (shut_at hs 7 6 (by kernel_rfl) (up_at hu 7 (by kernel_rfl)))
          have y6 : L 6 = true := shut_at hs 7 6 (by kernel_rfl) (up_at hu 7 (by kernel_rfl))
          have y7 : L 7 = true := up_at hu 7 (by kernel_rfl)
          have n12 : L 12 = false := not_yet hL fun h => shut_at hs 12 8 (by kernel_rfl) (h)
          have n21 : L 21 = false := not_yet hL fun h => shut_at hs 12 8 (by kernel_rfl) (shut_at hs 21 12 (by kernel_rfl) (h))
          have n22 : L 22 = false := not_yet hL fun h => shut_at hs 22 8 (by kernel_rfl) (h)
          have n23 : L 23 = false := not_yet hL fun h => shut_at hs 23 8 (by kernel_rfl) (h)
          have n24 : L 24 = false := not_yet hL fun h => shut_at hs 24 8 (by kernel_rfl) (h)
          have hT := hT0 y7 hL
          obtain ⟨g, c, w2, hr, hG2, hTT, _⟩ := hG.app (i := 0) (by omega) hT (by simp only [sel3]; simp [y0, y1, y2, y3, y4, y5, y6, y7, n12, n21, n22, n23, n24, hL]; omega)
          have hVo := hV0 hL
          rw [hVo] at hr
          simp only [sel3, hL, cond_false, if_true, if_false, Nat.zero_ne_one, Nat.one_ne_zero, reduceIte, Nat.succ_ne_self, Nat.reduceEqDiff] at hr hTT
          clear hVo
          refine opIn_run (v := .slice (some ⟨g, 0, none⟩) (K0.length + 1) c) (w' := w2) rfl rfl (fun c h => by cases h) (fun _ => trivial) ?_ ⟨nb, put1 V 0 (.slice (some ⟨g, 0, none⟩) (K0.length + 1) c), by simp [Act.put, upd, put1, y0, y1, y2, y3, y4, y5, y6, y7, n12, n21, n22, n23, n24, hL], ?_, (fun h1 h2 => by simp [upd] at h2), (fun h2 => by simp [upd] at h2), (fun h1 h2 => hTT _ _ (hT1 h1 h2)), (fun h2 => by rw [put1_ne _ _ (by decide)]; exact hV1 h2), (fun h1 h2 => hTT _ _ (hT2 h1 h2)), (fun h2 => by rw [put1_ne _ _ (by decide)]; exact hV2 h2)⟩
          · simp only [y0, y1, y2, y3, y4, y5, y6, y7, n12, n21, n22, n23, n24, hL, cond_true, cond_false]
            go_simp
          · rw [sel3_put0] at hG2
            simpa [sel3, upd, y0, y1, y2, y3, y4, y5, y6, y7, n12, n21, n22, n23, n24, hL] using hG2
        · trace "op 9"
          have n12 : L 12 = false := not_yet hL fun h => shut_at hs 12 9 (by kernel_rfl) (h)
          have n21 : L 21 = false := not_yet hL fun h => shut_at hs 12 9 (by kernel_rfl) (shut_at hs 21 12 (by kernel_rfl) (h))
          have n22 : L 22 = false := not_yet hL fun h => shut_at hs 12 9 (by kernel_rfl) (shut_at hs 21 12 (by kernel_rfl) (shut_at hs 22 21 (by kernel_rfl) (h)))
          have n23 : L 23 = false := not_yet hL fun h => shut_at hs 23 9 (by kernel_rfl) (h)
          have n24 : L 24 = false := not_yet hL fun h => shut_at hs 24 9 (by kernel_rfl) (h)
          refine opIn_run (v := u10) (w' := w') rfl rfl (fun c h => by cases h) (fun _ => trivial) ?_ ⟨nb, V, by simp [Act.put, upd, n12, n21, n22, n23, n24, hL], hG, hT0, hV0, hT1, hV1, hT2, hV2⟩
          simp only [n12, n21, n22, n23, n24, hL, cond_true, cond_false]
          go_simp
        · trace "op 10"
          have n11 : L 11 = false := not_yet hL fun h => shut_at hs 11 10 (by kernel_rfl) (h)
          have n12 : L 12 = false := not_yet hL fun h => shut_at hs 11 10 (by kernel_rfl) (shut_at hs 12 11 (by kernel_rfl) (h))
          have n21 : L 21 = false := not_yet hL fun h => shut_at hs 11 10 (by kernel_rfl) (shut_at hs 12 11 (by kernel_rfl) (shut_at hs 21 12 (by kernel_rfl) (h)))
          have n22 : L 22 = false := not_yet hL fun h => shut_at hs 11 10 (by kernel_rfl) (shut_at hs 12 11 (by kernel_rfl) (shut_at hs 21 12 (by kernel_rfl) (shut_at hs 22 21 (by kernel_rfl) (h))))
          have n23 : L 23 = false := not_yet hL fun h => shut_at hs 23 10 (by kernel_rfl) (h)
          have n24 : L 24 = false := not_yet hL fun h => shut_at hs 24 10 (by kernel_rfl) (h)
          refine opIn_run (v := .int .i64 gg) (w' := w') rfl rfl (fun c h => by cases h) (fun _ => trivial) ?_ ⟨nb, V, by simp [Act.put, upd, n11, n12, n21, n22, n23, n24, hL], hG, hT0, hV0, hT1, hV1, hT2, hV2⟩
          simp only [n11, n12, n21, n22, n23, n24, hL, cond_true, cond_false]
          go_simp
        · trace "op 11"
          have y10 : L 10 = true := up_at hu 10 (by kernel_rfl)
          have n12 : L 12 = false := not_yet hL fun h => shut_at hs 12 11 (by kernel_rfl) (h)
          have n21 : L 21 = false := not_yet hL fun h => shut_at hs 12 11 (by kernel_rfl) (shut_at hs 21 12 (by kernel_rfl) (h))
          have n22 : L 22 = false := not_yet hL fun h => shut_at hs 12 11 (by kernel_rfl) (shut_at hs 21 12 (by kernel_rfl) (shut_at hs 22 21 (by kernel_rfl) (h)))
          have n23 : L 23 = false := not_yet hL fun h => shut_at hs 23 11 (by kernel_rfl) (h)
          have n24 : L 24 = false := not_yet hL fun h => shut_at hs 24 11 (by kernel_rfl) (h)
          refine opIn_run (v := .slice (some ⟨w'.heap.size, 0, none⟩) 1 1) (w' := w'.alloc (.cells #[.int .i64 (gg)] 3)) rfl rfl (fun c h => by cases h) (fun _ => trivial) ?_ ⟨put1 nb 1 w'.heap.size, V, by simp [Act.put, upd, put1, y10, n12, n21, n22, n23, n24, hL], hG.alloc _, (fun h1 h2 => by simpa [put1] using (hT0 h1 h2).alloc _), hV0, (fun _ _ => by simpa [put1] using Temp.new hG (gg)), hV1, (fun h1 h2 => by simpa [put1] using (hT2 h1 h2).alloc _), hV2⟩
          simp only [y10, n12, n21, n22, n23, n24, hL, cond_true, cond_false]
          go_simp
        · trace "op 12"
          have y0 : L 0 = true := shut_at hs 8 0 (by kernel_rfl) (up_at hu 8 (by kernel_rfl))
          have y1 : L 1 = true := shut_at hs 3 1 (by kernel_rfl) (shut_at hs 4 3 (by kernel_rfl) (shut_at hs 6 4 (by kernel_rfl) (shut_at hs 7 6 (by kernel_rfl) (shut_at hs 8 7 (by kernel_rfl) (up_at hu 8 (by kernel_rfl))))))
          have y2 : L 2 = true := shut_at hs 3 2 (by kernel_rfl) (shut_at hs 4 3 (by kernel_rfl) (shut_at hs 6 4 (by kernel_rfl) (shut_at hs 7 6 (by kernel_rfl) (shut_at hs 8 7 (by kernel_rfl) (up_at hu 8 (by kernel_rfl))))))
          have y3 : L 3 = true := shut_at hs 4 3 (by kernel_rfl) (shut_at hs 6 4 (by kernel_rfl) (shut_at hs 7 6 (by kernel_rfl) (shut_at hs 8 7 (by kernel_rfl) (up_at hu 8 (by kernel_rfl)))))
          have y4 : L 4 = true := shut_at hs 6 4 (by kernel_rfl) (shut_at hs 7 6 (by kernel_rfl) (shut_at hs 8 7 (by kernel_rfl) (up_at hu 8 (by kernel_rfl))))
          have y5 : L 5 = true := shut_at hs 6 5 (by kernel_rfl) (shut_at hs 7 6 (by kernel_rfl) (shut_at hs 8 7 (by kernel_rfl) (up_at hu 8 (by kernel_rfl))))
          have y6 : L 6 = true := shut_at hs 7 6 (by kernel_rfl) (shut_at hs 8 7 (by kernel_rfl) (up_at hu 8 (by kernel_rfl)))
          have y7 : L 7 = true := shut_at hs 8 7 (by kernel_rfl) (up_at hu 8 (by kernel_rfl))
          have y8 : L 8 = true := up_at hu 8 (by kernel_rfl)
          have y9 : L 9 = true := up_at hu 9 (by kernel_rfl)
          have y10 : L 10 = true := shut_at hs 11 10 (by kernel_rfl) (up_at hu 11 (by kernel_rfl))
          have y11 : L 11 = true := up_at hu 11 (by kernel_rfl)
          have n21 : L 21 = false := not_yet hL fun h => shut_at hs 21 12 (by kernel_rfl) (h)
          have n22 : L 22 = false := not_yet hL fun h => shut_at hs 21 12 (by kernel_rfl) (shut_at hs 22 21 (by kernel_rfl) (h))
          have n23 : L 23 = false := not_yet hL fun h => shut_at hs 23 12 (by kernel_rfl) (h)
          have n24 : L 24 = false := not_yet hL fun h => shut_at hs 24 12 (by kernel_rfl) (h)
          have hT := hT1 y11 hL
          obtain ⟨g, c, w2, hr, hG2, hTT, _⟩ := hG.app (i := 1) (by omega) hT (by simp only [sel3]; simp [y0, y1, y2, y3, y4, y5, y6, y7, y8, y9, y10, y11, n21, n22, n23, n24, hL]; omega)
          have hVo := hV1 hL
          rw [hVo] at hr
          simp only [sel3, hL, cond_false, if_true, if_false, Nat.zero_ne_one, Nat.one_ne_zero, reduceIte, Nat.succ_ne_self, Nat.reduceEqDiff] at hr hTT
          clear hVo
          refine opIn_run (v := .slice (some ⟨g, 0, none⟩) (K1.length + 1) c) (w' := w2) rfl rfl (fun c h => by cases h) (fun _ => trivial) ?_ ⟨nb, put1 V 1 (.slice (some ⟨g, 0, none⟩) (K1.length + 1) c), by simp [Act.put, upd, put1, y0, y1, y2, y3, y4, y5, y6, y7, y8, y9, y10, y11, n21, n22, n23, n24, hL], ?_, (fun h1 h2 => hTT _ _ (hT0 h1 h2)), (fun h2 => by rw [put1_ne _ _ (by decide)]; exact hV0 h2), (fun h1 h2 => by simp [upd] at h2), (fun h2 => by simp [upd] at h2), (fun h1 h2 => hTT _ _ (hT2 h1 h2)), (fun h2 => by rw [put1_ne _ _ (by decide)]; exact hV2 h2)⟩
          · simp only [y0, y1, y2, y3, y4, y5, y6, y7, y8, y9, y10, y11, n21, n22, n23, n24, hL, cond_true, cond_false]
            go_simp
          · rw [sel3_put1] at hG2
            simpa [sel3, upd, y0, y1, y2, y3, y4, y5, y6, y7, y8, y9, y10, y11, n21, n22, n23, n24, hL] using hG2
        · trace "op 13"
          have n21 : L 21 = false := not_yet hL fun h => shut_at hs 21 13 (by kernel_rfl) (h)
          have n22 : L 22 = false := not_yet hL fun h => shut_at hs 21 13 (by kernel_rfl) (shut_at hs 22 21 (by kernel_rfl) (h))
          have n23 : L 23 = false := not_yet hL fun h => shut_at hs 21 13 (by kernel_rfl) (shut_at hs 22 21 (by kernel_rfl) (shut_at hs 23 22 (by kernel_rfl) (h)))
          have n24 : L 24 = false := not_yet hL fun h => shut_at hs 24 13 (by kernel_rfl) (h)
          refine opIn_run (v := u11) (w' := w') rfl rfl (fun c h => by cases h) (fun _ => trivial) ?_ ⟨nb, V, by simp [Act.put, upd, n21, n22, n23, n24, hL], hG, hT0, hV0, hT1, hV1, hT2, hV2⟩
          simp only [n21, n22, n23, n24, hL, cond_true, cond_false]
          go_simp
        · trace "op 14"
          have n20 : L 20 = false := not_yet hL fun h => shut_at hs 16 14 (by kernel_rfl) (shut_at hs 17 16 (by kernel_rfl) (shut_at hs 19 17 (by kernel_rfl) (shut_at hs 20 19 (by kernel_rfl) (h))))
          have n21 : L 21 = false := not_yet hL fun h => shut_at hs 16 14 (by kernel_rfl) (shut_at hs 17 16 (by kernel_rfl) (shut_at hs 19 17 (by kernel_rfl) (shut_at hs 20 19 (by kernel_rfl) (shut_at hs 21 20 (by kernel_rfl) (h)))))
          have n22 : L 22 = false := not_yet hL fun h => shut_at hs 16 14 (by kernel_rfl) (shut_at hs 17 16 (by kernel_rfl) (shut_at hs 19 17 (by kernel_rfl) (shut_at hs 20 19 (by kernel_rfl) (shut_at hs 21 20 (by kernel_rfl) (shut_at hs 22 21 (by kernel_rfl) (h))))))
          have n23 : L 23 = false := not_yet hL fun h => shut_at hs 16 14 (by kernel_rfl) (shut_at hs 17 16 (by kernel_rfl) (shut_at hs 19 17 (by kernel_rfl) (shut_at hs 20 19 (by kernel_rfl) (shut_at hs 21 20 (by kernel_rfl) (shut_at hs 22 21 (by kernel_rfl) (shut_at hs 23 22 (by kernel_rfl) (h)))))))
          have n24 : L 24 = false := not_yet hL fun h => shut_at hs 24 14 (by kernel_rfl) (h)
          refine opIn_run (v := .slice (some ⟨p1, o1, none⟩) n cb) (w' := w') rfl rfl (fun c h => by cases h) (fun _ => trivial) ?_ ⟨nb, V, by simp [Act.put, upd, n20, n21, n22, n23, n24, hL], hG, hT0, hV0, hT1, hV1, hT2, hV2⟩
          simp only [n20, n21, n22, n23, n24, hL, cond_true, cond_false]
          go_simp
        · trace "op 15"
          have n20 : L 20 = false := not_yet hL fun h => shut_at hs 16 15 (by kernel_rfl) (shut_at hs 17 16 (by kernel_rfl) (shut_at hs 19 17 (by kernel_rfl) (shut_at hs 20 19 (by kernel_rfl) (h))))
          have n21 : L 21 = false := not_yet hL fun h => shut_at hs 16 15 (by kernel_rfl) (shut_at hs 17 16 (by kernel_rfl) (shut_at hs 19 17 (by kernel_rfl) (shut_at hs 20 19 (by kernel_rfl) (shut_at hs 21 20 (by kernel_rfl) (h)))))
          have n22 : L 22 = false := not_yet hL fun h => shut_at hs 16 15 (by kernel_rfl) (shut_at hs 17 16 (by kernel_rfl) (shut_at hs 19 17 (by kernel_rfl) (shut_at hs 20 19 (by kernel_rfl) (shut_at hs 21 20 (by kernel_rfl) (shut_at hs 22 21 (by kernel_rfl) (h))))))
          have n23 : L 23 = false := not_yet hL fun h => shut_at hs 16 15 (by kernel_rfl) (shut_at hs 17 16 (by kernel_rfl) (shut_at hs 19 17 (by kernel_rfl) (shut_at hs 20 19 (by kernel_rfl) (shut_at hs 21 20 (by kernel_rfl) (shut_at hs 22 21 (by kernel_rfl) (shut_at hs 23 22 (by kernel_rfl) (h)))))))
          have n24 : L 24 = false := not_yet hL fun h => shut_at hs 24 15 (by kernel_rfl) (h)
          refine opIn_run (v := .int .i64 k) (w' := w') rfl rfl (fun c h => by cases h) (fun _ => trivial) ?_ ⟨nb, V, by simp [Act.put, upd, n20, n21, n22, n23, n24, hL], hG, hT0, hV0, hT1, hV1, hT2, hV2⟩
          simp only [n20, n21, n22, n23, n24, hL, cond_true, cond_false]
          go_simp
        · trace "op 16"
          have y14 : L 14 = true := up_at hu 14 (by kernel_rfl)
          have y15 : L 15 = true := up_at hu 15 (by kernel_rfl)
          have n20 : L 20 = false := not_yet hL fun h => shut_at hs 17 16 (by kernel_rfl) (shut_at hs 19 17 (by kernel_rfl) (shut_at hs 20 19 (by kernel_rfl) (h)))
          have n21 : L 21 = false := not_yet hL fun h => shut_at hs 17 16 (by kernel_rfl) (shut_at hs 19 17 (by kernel_rfl) (shut_at hs 20 19 (by kernel_rfl) (shut_at hs 21 20 (by kernel_rfl) (h))))
          have n22 : L 22 = false := not_yet hL fun h => shut_at hs 17 16 (by kernel_rfl) (shut_at hs 19 17 (by kernel_rfl) (shut_at hs 20 19 (by kernel_rfl) (shut_at hs 21 20 (by kernel_rfl) (shut_at hs 22 21 (by kernel_rfl) (h)))))
          have n23 : L 23 = false := not_yet hL fun h => shut_at hs 17 16 (by kernel_rfl) (shut_at hs 19 17 (by kernel_rfl) (shut_at hs 20 19 (by kernel_rfl) (shut_at hs 21 20 (by kernel_rfl) (shut_at hs 22 21 (by kernel_rfl) (shut_at hs 23 22 (by kernel_rfl) (h))))))
          have n24 : L 24 = false := not_yet hL fun h => shut_at hs 24 16 (by kernel_rfl) (h)
          refine opIn_run (v := .pointer (some ⟨p1, o1 + k, none⟩)) (w' := w') rfl rfl (fun c h => by cases h) (fun _ => trivial) ?_ ⟨nb, V, by simp [Act.put, upd, y14, y15, n20, n21, n22, n23, n24, hL], hG, hT0, hV0, hT1, hV1, hT2, hV2⟩
          simp only [y14, y15, n20, n21, n22, n23, n24, hL, cond_true, cond_false]
          go_simp
        · trace "op 17"
          have y14 : L 14 = true := shut_at hs 16 14 (by kernel_rfl) (up_at hu 16 (by kernel_rfl))
          have y15 : L 15 = true := shut_at hs 16 15 (by kernel_rfl) (up_at hu 16 (by kernel_rfl))
          have y16 : L 16 = true := up_at hu 16 (by kernel_rfl)
          have n20 : L 20 = false := not_yet hL fun h => shut_at hs 19 17 (by kernel_rfl) (shut_at hs 20 19 (by kernel_rfl) (h))
          have n21 : L 21 = false := not_yet hL fun h => shut_at hs 19 17 (by kernel_rfl) (shut_at hs 20 19 (by kernel_rfl) (shut_at hs 21 20 (by kernel_rfl) (h)))
          have n22 : L 22 = false := not_yet hL fun h => shut_at hs 19 17 (by kernel_rfl) (shut_at hs 20 19 (by kernel_rfl) (shut_at hs 21 20 (by kernel_rfl) (shut_at hs 22 21 (by kernel_rfl) (h))))
          have n23 : L 23 = false := not_yet hL fun h => shut_at hs 19 17 (by kernel_rfl) (shut_at hs 20 19 (by kernel_rfl) (shut_at hs 21 20 (by kernel_rfl) (shut_at hs 22 21 (by kernel_rfl) (shut_at hs 23 22 (by kernel_rfl) (h)))))
          have n24 : L 24 = false := not_yet hL fun h => shut_at hs 24 17 (by kernel_rfl) (h)
          have cz := (hG.bel.cell (p := ⟨p1, o1 + k, none⟩) hp1).trans M1.out
          refine opIn_run (v := .int .i64 y) (w' := w') rfl rfl (fun c h => by cases h) (fun _ => trivial) ?_ ⟨nb, V, by simp [Act.put, upd, y14, y15, y16, n20, n21, n22, n23, n24, hL], hG, hT0, hV0, hT1, hV1, hT2, hV2⟩
          simp only [y14, y15, y16, n20, n21, n22, n23, n24, hL, cond_true, cond_false]
          go_simp
        · trace "op 18"
          have n20 : L 20 = false := not_yet hL fun h => shut_at hs 19 18 (by kernel_rfl) (shut_at hs 20 19 (by kernel_rfl) (h))
          have n21 : L 21 = false := not_yet hL fun h => shut_at hs 19 18 (by kernel_rfl) (shut_at hs 20 19 (by kernel_rfl) (shut_at hs 21 20 (by kernel_rfl) (h)))
          have n22 : L 22 = false := not_yet hL fun h => shut_at hs 19 18 (by kernel_rfl) (shut_at hs 20 19 (by kernel_rfl) (shut_at hs 21 20 (by kernel_rfl) (shut_at hs 22 21 (by kernel_rfl) (h))))
          have n23 : L 23 = false := not_yet hL fun h => shut_at hs 19 18 (by kernel_rfl) (shut_at hs 20 19 (by kernel_rfl) (shut_at hs 21 20 (by kernel_rfl) (shut_at hs 22 21 (by kernel_rfl) (shut_at hs 23 22 (by kernel_rfl) (h)))))
          have n24 : L 24 = false := not_yet hL fun h => shut_at hs 24 18 (by kernel_rfl) (h)
          refine opIn_run (v := .int .i64 gg) (w' := w') rfl rfl (fun c h => by cases h) (fun _ => trivial) ?_ ⟨nb, V, by simp [Act.put, upd, n20, n21, n22, n23, n24, hL], hG, hT0, hV0, hT1, hV1, hT2, hV2⟩
          simp only [n20, n21, n22, n23, n24, hL, cond_true, cond_false]
          go_simp
        · trace "op 19"
          have y14 : L 14 = true := shut_at hs 16 14 (by kernel_rfl) (shut_at hs 17 16 (by kernel_rfl) (up_at hu 17 (by kernel_rfl)))
          have y15 : L 15 = true := shut_at hs 16 15 (by kernel_rfl) (shut_at hs 17 16 (by kernel_rfl) (up_at hu 17 (by kernel_rfl)))
          have y16 : L 16 = true := shut_at hs 17 16 (by kernel_rfl) (up_at hu 17 (by kernel_rfl))
          have y17 : L 17 = true := up_at hu 17 (by kernel_rfl)
          have y18 : L 18 = true := up_at hu 18 (by kernel_rfl)
          have n20 : L 20 = false := not_yet hL fun h => shut_at hs 20 19 (by kernel_rfl) (h)
          have n21 : L 21 = false := not_yet hL fun h => shut_at hs 20 19 (by kernel_rfl) (shut_at hs 21 20 (by kernel_rfl) (h))
          have n22 : L 22 = false := not_yet hL fun h => shut_at hs 20 19 (by kernel_rfl) (shut_at hs 21 20 (by kernel_rfl) (shut_at hs 22 21 (by kernel_rfl) (h)))
          have n23 : L 23 = false := not_yet hL fun h => shut_at hs 20 19 (by kernel_rfl) (shut_at hs 21 20 (by kernel_rfl) (shut_at hs 22 21 (by kernel_rfl) (shut_at hs 23 22 (by kernel_rfl) (h))))
          have n24 : L 24 = false := not_yet hL fun h => shut_at hs 24 19 (by kernel_rfl) (h)
          have ez := e4
          refine opIn_run (v := .int .i64 (y + gg)) (w' := w') rfl rfl (fun c h => by cases h) (fun _ => trivial) ?_ ⟨nb, V, by simp [Act.put, upd, y14, y15, y16, y17, y18, n20, n21, n22, n23, n24, hL], hG, hT0, hV0, hT1, hV1, hT2, hV2⟩
          simp only [y14, y15, y16, y17, y18, n20, n21, n22, n23, n24, hL, cond_true, cond_false]
          go_simp
        · trace "op 20"
          have y14 : L 14 = true := shut_at hs 16 14 (by kernel_rfl) (shut_at hs 17 16 (by kernel_rfl) (shut_at hs 19 17 (by kernel_rfl) (up_at hu 19 (by kernel_rfl))))
          have y15 : L 15 = true := shut_at hs 16 15 (by kernel_rfl) (shut_at hs 17 16 (by kernel_rfl) (shut_at hs 19 17 (by kernel_rfl) (up_at hu 19 (by kernel_rfl))))
          have y16 : L 16 = true := shut_at hs 17 16 (by kernel_rfl) (shut_at hs 19 17 (by kernel_rfl) (up_at hu 19 (by kernel_rfl)))
          have y17 : L 17 = true := shut_at hs 19 17 (by kernel_rfl) (up_at hu 19 (by kernel_rfl))
          have y18 : L 18 = true := shut_at hs 19 18 (by kernel_rfl) (up_at hu 19 (by kernel_rfl))
          have y19 : L 19 = true := up_at hu 19 (by kernel_rfl)
          have n21 : L 21 = false := not_yet hL fun h => shut_at hs 21 20 (by kernel_rfl) (h)
          have n22 : L 22 = false := not_yet hL fun h => shut_at hs 21 20 (by kernel_rfl) (shut_at hs 22 21 (by kernel_rfl) (h))
          have n23 : L 23 = false := not_yet hL fun h => shut_at hs 21 20 (by kernel_rfl) (shut_at hs 22 21 (by kernel_rfl) (shut_at hs 23 22 (by kernel_rfl) (h)))
          have n24 : L 24 = false := not_yet hL fun h => shut_at hs 24 20 (by kernel_rfl) (h)
          refine opIn_run (v := .slice (some ⟨w'.heap.size, 0, none⟩) 1 1) (w' := w'.alloc (.cells #[.int .i64 (y + gg)] 3)) rfl rfl (fun c h => by cases h) (fun _ => trivial) ?_ ⟨put1 nb 2 w'.heap.size, V, by simp [Act.put, upd, put1, y14, y15, y16, y17, y18, y19, n21, n22, n23, n24, hL], hG.alloc _, (fun h1 h2 => by simpa [put1] using (hT0 h1 h2).alloc _), hV0, (fun h1 h2 => by simpa [put1] using (hT1 h1 h2).alloc _), hV1, (fun _ _ => by simpa [put1] using Temp.new hG (y + gg)), hV2⟩
          simp only [y14, y15, y16, y17, y18, y19, n21, n22, n23, n24, hL, cond_true, cond_false]
          go_simp
        · trace "op 21"
          have y0 : L 0 = true := shut_at hs 8 0 (by kernel_rfl) (shut_at hs 12 8 (by kernel_rfl) (up_at hu 12 (by kernel_rfl)))
          have y1 : L 1 = true := shut_at hs 3 1 (by kernel_rfl) (shut_at hs 4 3 (by kernel_rfl) (shut_at hs 6 4 (by kernel_rfl) (shut_at hs 7 6 (by kernel_rfl) (shut_at hs 8 7 (by kernel_rfl) (shut_at hs 12 8 (by kernel_rfl) (up_at hu 12 (by kernel_rfl)))))))
          have y2 : L 2 = true := shut_at hs 3 2 (by kernel_rfl) (shut_at hs 4 3 (by kernel_rfl) (shut_at hs 6 4 (by kernel_rfl) (shut_at hs 7 6 (by kernel_rfl) (shut_at hs 8 7 (by kernel_rfl) (shut_at hs 12 8 (by kernel_rfl) (up_at hu 12 (by kernel_rfl)))))))
          have y3 : L 3 = true := shut_at hs 4 3 (by kernel_rfl) (shut_at hs 6 4 (by kernel_rfl) (shut_at hs 7 6 (by kernel_rfl) (shut_at hs 8 7 (by kernel_rfl) (shut_at hs 12 8 (by kernel_rfl) (up_at hu 12 (by kernel_rfl))))))
          have y4 : L 4 = true := shut_at hs 6 4 (by kernel_rfl) (shut_at hs 7 6 (by kernel_rfl) (shut_at hs 8 7 (by kernel_rfl) (shut_at hs 12 8 (by kernel_rfl) (up_at hu 12 (by kernel_rfl)))))
          have y5 : L 5 = true := shut_at hs 6 5 (by kernel_rfl) (shut_at hs 7 6 (by kernel_rfl) (shut_at hs 8 7 (by kernel_rfl) (shut_at hs 12 8 (by kernel_rfl) (up_at hu 12 (by kernel_rfl)))))
          have y6 : L 6 = true := shut_at hs 7 6 (by kernel_rfl) (shut_at hs 8 7 (by kernel_rfl) (shut_at hs 12 8 (by kernel_rfl) (up_at hu 12 (by kernel_rfl))))
          have y7 : L 7 = true := shut_at hs 8 7 (by kernel_rfl) (shut_at hs 12 8 (by kernel_rfl) (up_at hu 12 (by kernel_rfl)))
          have y8 : L 8 = true := shut_at hs 12 8 (by kernel_rfl) (up_at hu 12 (by kernel_rfl))
          have y9 : L 9 = true := shut_at hs 12 9 (by kernel_rfl) (up_at hu 12 (by kernel_rfl))
          have y10 : L 10 = true := shut_at hs 11 10 (by kernel_rfl) (shut_at hs 12 11 (by kernel_rfl) (up_at hu 12 (by kernel_rfl)))
          have y11 : L 11 = true := shut_at hs 12 11 (by kernel_rfl) (up_at hu 12 (by kernel_rfl))
          have y12 : L 12 = true := up_at hu 12 (by kernel_rfl)
          have y13 : L 13 = true := up_at hu 13 (by kernel_rfl)
          have y14 : L 14 = true := shut_at hs 16 14 (by kernel_rfl) (shut_at hs 17 16 (by kernel_rfl) (shut_at hs 19 17 (by kernel_rfl) (shut_at hs 20 19 (by kernel_rfl) (up_at hu 20 (by kernel_rfl)))))
          have y15 : L 15 = true := shut_at hs 16 15 (by kernel_rfl) (shut_at hs 17 16 (by kernel_rfl) (shut_at hs 19 17 (by kernel_rfl) (shut_at hs 20 19 (by kernel_rfl) (up_at hu 20 (by kernel_rfl)))))
          have y16 : L 16 = true := shut_at hs 17 16 (by kernel_rfl) (shut_at hs 19 17 (by kernel_rfl) (shut_at hs 20 19 (by kernel_rfl) (up_at hu 20 (by kernel_rfl))))
          have y17 : L 17 = true := shut_at hs 19 17 (by kernel_rfl) (shut_at hs 20 19 (by kernel_rfl) (up_at hu 20 (by kernel_rfl)))
          have y18 : L 18 = true := shut_at hs 19 18 (by kernel_rfl) (shut_at hs 20 19 (by kernel_rfl) (up_at hu 20 (by kernel_rfl)))
          have y19 : L 19 = true := shut_at hs 20 19 (by kernel_rfl) (up_at hu 20 (by kernel_rfl))
          have y20 : L 20 = true := up_at hu 20 (by kernel_rfl)
          have n22 : L 22 = false := not_yet hL fun h => shut_at hs 22 21 (by kernel_rfl) (h)
          have n23 : L 23 = false := not_yet hL fun h => shut_at hs 22 21 (by kernel_rfl) (shut_at hs 23 22 (by kernel_rfl) (h))
          have n24 : L 24 = false := not_yet hL fun h => shut_at hs 24 21 (by kernel_rfl) (h)
          have hT := hT2 y20 hL
          obtain ⟨g, c, w2, hr, hG2, hTT, _⟩ := hG.app (i := 2) (by omega) hT (by simp only [sel3]; simp [y0, y1, y2, y3, y4, y5, y6, y7, y8, y9, y10, y11, y12, y13, y14, y15, y16, y17, y18, y19, y20, n22, n23, n24, hL]; omega)
          have hVo := hV2 hL
          rw [hVo] at hr
          simp only [sel3, hL, cond_false, if_true, if_false, Nat.zero_ne_one, Nat.one_ne_zero, reduceIte, Nat.succ_ne_self, Nat.reduceEqDiff] at hr hTT
          clear hVo
          refine opIn_run (v := .slice (some ⟨g, 0, none⟩) (K2.length + 1) c) (w' := w2) rfl rfl (fun c h => by cases h) (fun _ => trivial) ?_ ⟨nb, put1 V 2 (.slice (some ⟨g, 0, none⟩) (K2.length + 1) c), by simp [Act.put, upd, put1, y0, y1, y2, y3, y4, y5, y6, y7, y8, y9, y10, y11, y12, y13, y14, y15, y16, y17, y18, y19, y20, n22, n23, n24, hL], ?_, (fun h1 h2 => hTT _ _ (hT0 h1 h2)), (fun h2 => by rw [put1_ne _ _ (by decide)]; exact hV0 h2), (fun h1 h2 => hTT _ _ (hT1 h1 h2)), (fun h2 => by rw [put1_ne _ _ (by decide)]; exact hV1 h2), (fun h1 h2 => by simp [upd] at h2), (fun h2 => by simp [upd] at h2)⟩
          · simp only [y0, y1, y2, y3, y4, y5, y6, y7, y8, y9, y10, y11, y12, y13, y14, y15, y16, y17, y18, y19, y20, n22, n23, n24, hL, cond_true, cond_false]
            go_simp
          · have hG2 := sel3_put2 hG2 (by omega)
            simpa [sel3, upd, y0, y1, y2, y3, y4, y5, y6, y7, y8, y9, y10, y11, y12, y13, y14, y15, y16, y17, y18, y19, y20, n22, n23, n24, hL] using hG2
        · trace "op 22"
          have y0 : L 0 = true := up_at hu 0 (by kernel_rfl)
          have y1 : L 1 = true := up_at hu 1 (by kernel_rfl)
          have y2 : L 2 = true := up_at hu 2 (by kernel_rfl)
          have y3 : L 3 = true := up_at hu 3 (by kernel_rfl)
          have y4 : L 4 = true := up_at hu 4 (by kernel_rfl)
          have y5 : L 5 = true := up_at hu 5 (by kernel_rfl)
          have y6 : L 6 = true := up_at hu 6 (by kernel_rfl)
          have y7 : L 7 = true := up_at hu 7 (by kernel_rfl)
          have y8 : L 8 = true := up_at hu 8 (by kernel_rfl)
          have y9 : L 9 = true := shut_at hs 12 9 (by kernel_rfl) (shut_at hs 21 12 (by kernel_rfl) (up_at hu 21 (by kernel_rfl)))
          have y10 : L 10 = true := shut_at hs 11 10 (by kernel_rfl) (shut_at hs 12 11 (by kernel_rfl) (shut_at hs 21 12 (by kernel_rfl) (up_at hu 21 (by kernel_rfl))))
          have y11 : L 11 = true := shut_at hs 12 11 (by kernel_rfl) (shut_at hs 21 12 (by kernel_rfl) (up_at hu 21 (by kernel_rfl)))
          have y12 : L 12 = true := shut_at hs 21 12 (by kernel_rfl) (up_at hu 21 (by kernel_rfl))
          have y13 : L 13 = true := shut_at hs 21 13 (by kernel_rfl) (up_at hu 21 (by kernel_rfl))
          have y14 : L 14 = true := shut_at hs 16 14 (by kernel_rfl) (shut_at hs 17 16 (by kernel_rfl) (shut_at hs 19 17 (by kernel_rfl) (shut_at hs 20 19 (by kernel_rfl) (shut_at hs 21 20 (by kernel_rfl) (up_at hu 21 (by kernel_rfl))))))
          have y15 : L 15 = true := shut_at hs 16 15 (by kernel_rfl) (shut_at hs 17 16 (by kernel_rfl) (shut_at hs 19 17 (by kernel_rfl) (shut_at hs 20 19 (by kernel_rfl) (shut_at hs 21 20 (by kernel_rfl) (up_at hu 21 (by kernel_rfl))))))
          have y16 : L 16 = true := shut_at hs 17 16 (by kernel_rfl) (shut_at hs 19 17 (by kernel_rfl) (shut_at hs 20 19 (by kernel_rfl) (shut_at hs 21 20 (by kernel_rfl) (up_at hu 21 (by kernel_rfl)))))
          have y17 : L 17 = true := shut_at hs 19 17 (by kernel_rfl) (shut_at hs 20 19 (by kernel_rfl) (shut_at hs 21 20 (by kernel_rfl) (up_at hu 21 (by kernel_rfl))))
          have y18 : L 18 = true := shut_at hs 19 18 (by kernel_rfl) (shut_at hs 20 19 (by kernel_rfl) (shut_at hs 21 20 (by kernel_rfl) (up_at hu 21 (by kernel_rfl))))
          have y19 : L 19 = true := shut_at hs 20 19 (by kernel_rfl) (shut_at hs 21 20 (by kernel_rfl) (up_at hu 21 (by kernel_rfl)))
          have y20 : L 20 = true := shut_at hs 21 20 (by kernel_rfl) (up_at hu 21 (by kernel_rfl))
          have y21 : L 21 = true := up_at hu 21 (by kernel_rfl)
          have n23 : L 23 = false := not_yet hL fun h => shut_at hs 23 22 (by kernel_rfl) (h)
          have n24 : L 24 = false := not_yet hL fun h => shut_at hs 24 22 (by kernel_rfl) (h)
          refine opIn_run (v := V 0) (w' := w') rfl rfl (fun c h => by cases h) (fun _ => trivial) ?_ ⟨nb, V, by simp [Act.put, upd, y0, y1, y2, y3, y4, y5, y6, y7, y8, y9, y10, y11, y12, y13, y14, y15, y16, y17, y18, y19, y20, y21, n23, n24, hL], hG, hT0, hV0, hT1, hV1, hT2, hV2⟩
          simp only [y0, y1, y2, y3, y4, y5, y6, y7, y8, y9, y10, y11, y12, y13, y14, y15, y16, y17, y18, y19, y20, y21, n23, n24, hL, cond_true, cond_false]
          go_simp
        · trace "op 23"
          have y0 : L 0 = true := up_at hu 0 (by kernel_rfl)
          have y1 : L 1 = true := up_at hu 1 (by kernel_rfl)
          have y2 : L 2 = true := up_at hu 2 (by kernel_rfl)
          have y3 : L 3 = true := up_at hu 3 (by kernel_rfl)
          have y4 : L 4 = true := up_at hu 4 (by kernel_rfl)
          have y5 : L 5 = true := up_at hu 5 (by kernel_rfl)
          have y6 : L 6 = true := up_at hu 6 (by kernel_rfl)
          have y7 : L 7 = true := up_at hu 7 (by kernel_rfl)
          have y8 : L 8 = true := up_at hu 8 (by kernel_rfl)
          have y9 : L 9 = true := up_at hu 9 (by kernel_rfl)
          have y10 : L 10 = true := up_at hu 10 (by kernel_rfl)
          have y11 : L 11 = true := up_at hu 11 (by kernel_rfl)
          have y12 : L 12 = true := up_at hu 12 (by kernel_rfl)
          have y13 : L 13 = true := shut_at hs 21 13 (by kernel_rfl) (shut_at hs 22 21 (by kernel_rfl) (up_at hu 22 (by kernel_rfl)))
          have y14 : L 14 = true := shut_at hs 16 14 (by kernel_rfl) (shut_at hs 17 16 (by kernel_rfl) (shut_at hs 19 17 (by kernel_rfl) (shut_at hs 20 19 (by kernel_rfl) (shut_at hs 21 20 (by kernel_rfl) (shut_at hs 22 21 (by kernel_rfl) (up_at hu 22 (by kernel_rfl)))))))
          have y15 : L 15 = true := shut_at hs 16 15 (by kernel_rfl) (shut_at hs 17 16 (by kernel_rfl) (shut_at hs 19 17 (by kernel_rfl) (shut_at hs 20 19 (by kernel_rfl) (shut_at hs 21 20 (by kernel_rfl) (shut_at hs 22 21 (by kernel_rfl) (up_at hu 22 (by kernel_rfl)))))))
          have y16 : L 16 = true := shut_at hs 17 16 (by kernel_rfl) (shut_at hs 19 17 (by kernel_rfl) (shut_at hs 20 19 (by kernel_rfl) (shut_at hs 21 20 (by kernel_rfl) (shut_at hs 22 21 (by kernel_rfl) (up_at hu 22 (by kernel_rfl))))))
          have y17 : L 17 = true := shut_at hs 19 17 (by kernel_rfl) (shut_at hs 20 19 (by kernel_rfl) (shut_at hs 21 20 (by kernel_rfl) (shut_at hs 22 21 (by kernel_rfl) (up_at hu 22 (by kernel_rfl)))))
          have y18 : L 18 = true := shut_at hs 19 18 (by kernel_rfl) (shut_at hs 20 19 (by kernel_rfl) (shut_at hs 21 20 (by kernel_rfl) (shut_at hs 22 21 (by kernel_rfl) (up_at hu 22 (by kernel_rfl)))))
          have y19 : L 19 = true := shut_at hs 20 19 (by kernel_rfl) (shut_at hs 21 20 (by kernel_rfl) (shut_at hs 22 21 (by kernel_rfl) (up_at hu 22 (by kernel_rfl))))
          have y20 : L 20 = true := shut_at hs 21 20 (by kernel_rfl) (shut_at hs 22 21 (by kernel_rfl) (up_at hu 22 (by kernel_rfl)))
          have y21 : L 21 = true := shut_at hs 22 21 (by kernel_rfl) (up_at hu 22 (by kernel_rfl))
          have y22 : L 22 = true := up_at hu 22 (by kernel_rfl)
          have n24 : L 24 = false := not_yet hL fun h => shut_at hs 24 23 (by kernel_rfl) (h)
          refine opIn_run (v := V 1) (w' := w') rfl rfl (fun c h => by cases h) (fun _ => trivial) ?_ ⟨nb, V, by simp [Act.put, upd, y0, y1, y2, y3, y4, y5, y6, y7, y8, y9, y10, y11, y12, y13, y14, y15, y16, y17, y18, y19, y20, y21, y22, n24, hL], hG, hT0, hV0, hT1, hV1, hT2, hV2⟩
          simp only [y0, y1, y2, y3, y4, y5, y6, y7, y8, y9, y10, y11, y12, y13, y14, y15, y16, y17, y18, y19, y20, y21, y22, n24, hL, cond_true, cond_false]
          go_simp
        · trace "op 24"
          have y0 : L 0 = true := up_at hu 0 (by kernel_rfl)
          have y1 : L 1 = true := up_at hu 1 (by kernel_rfl)
          have y2 : L 2 = true := up_at hu 2 (by kernel_rfl)
          have y3 : L 3 = true := up_at hu 3 (by kernel_rfl)
          have y4 : L 4 = true := up_at hu 4 (by kernel_rfl)
          have y5 : L 5 = true := up_at hu 5 (by kernel_rfl)
          have y6 : L 6 = true := up_at hu 6 (by kernel_rfl)
          have y7 : L 7 = true := up_at hu 7 (by kernel_rfl)
          have y8 : L 8 = true := up_at hu 8 (by kernel_rfl)
          have y9 : L 9 = true := up_at hu 9 (by kernel_rfl)
          have y10 : L 10 = true := up_at hu 10 (by kernel_rfl)
          have y11 : L 11 = true := up_at hu 11 (by kernel_rfl)
          have y12 : L 12 = true := up_at hu 12 (by kernel_rfl)
          have y13 : L 13 = true := up_at hu 13 (by kernel_rfl)
          have y14 : L 14 = true := up_at hu 14 (by kernel_rfl)
          have y15 : L 15 = true := up_at hu 15 (by kernel_rfl)
          have y16 : L 16 = true := up_at hu 16 (by kernel_rfl)
          have y17 : L 17 = true := up_at hu 17 (by kernel_rfl)
          have y18 : L 18 = true := up_at hu 18 (by kernel_rfl)
          have y19 : L 19 = true := up_at hu 19 (by kernel_rfl)
          have y20 : L 20 = true := up_at hu 20 (by kernel_rfl)
          have y21 : L 21 = true := up_at hu 21 (by kernel_rfl)
          have y22 : L 22 = true := up_at hu 22 (by kernel_rfl)
          have y23 : L 23 = true := up_at hu 23 (by kernel_rfl)
          refine opIn_run (v := V 2) (w' := w') rfl rfl (fun c h => by cases h) (fun _ => trivial) ?_ ⟨nb, V, by simp [Act.put, upd, y0, y1, y2, y3, y4, y5, y6, y7, y8, y9, y10, y11, y12, y13, y14, y15, y16, y17, y18, y19, y20, y21, y22, y23, hL], hG, hT0, hV0, hT1, hV1, hT2, hV2⟩
          simp only [y0, y1, y2, y3, y4, y5, y6, y7, y8, y9, y10, y11, y12, y13, y14, y15, y16, y17, y18, y19, y20, y21, y22, y23, hL, cond_true, cond_false]
          go_simp
      case start =>
        exact ⟨fun _ => 0, sel3 u9 u10 u11, rfl, hG0, (fun h _ => by cases h), (fun _ => rfl), (fun h _ => by cases h), (fun _ => rfl), (fun h _ => by cases h), (fun _ => rfl)⟩
      case fin =>
        intro L a' w' hall hI
        obtain ⟨nb, V, rfl, hG, hT0, hV0, hT1, hV1, hT2, hV2⟩ := hI
        have l7 := hall 7 (by decide)
        have l8 := hall 8 (by decide)
        have l11 := hall 11 (by decide)
        have l12 := hall 12 (by decide)
        have l20 := hall 20 (by decide)
        have l21 := hall 21 (by decide)
        have l22 := hall 22 (by decide)
        have l23 := hall 23 (by decide)
        have l24 := hall 24 (by decide)
        have l0 := hall 0 (by decide)
        have l1 := hall 1 (by decide)
        have l2 := hall 2 (by decide)
        have l3 := hall 3 (by decide)
        have l4 := hall 4 (by decide)
        have l5 := hall 5 (by decide)
        have l6 := hall 6 (by decide)
        have l9 := hall 9 (by decide)
        have l10 := hall 10 (by decide)
        have l13 := hall 13 (by decide)
        have l14 := hall 14 (by decide)
        have l15 := hall 15 (by decide)
        have l16 := hall 16 (by decide)
        have l17 := hall 17 (by decide)
        have l18 := hall 18 (by decide)
        have l19 := hall 19 (by decide)
        simp only [l0, l1, l2, l3, l4, l5, l6, l7, l8, l9, l10, l11, l12, l13, l14, l15, l16, l17, l18, l19, l20, l21, l22, l23, l24, cond_true] at hG ⊢
        clear l0 l1 l2 l3 l4 l5 l6 l7 l8 l9 l10 l11 l12 l13 l14 l15 l16 l17 l18 l19 l20 l21 l22 l23 l24 hall hT0 hV0 hT1 hV1 hT2 hV2
        have hG3 := hG.x3
        simp only [sel3, if_true, if_false, Nat.one_ne_zero, reduceIte, Nat.reduceEqDiff, Nat.succ_ne_self] at hG3
        clear hG
        generalize V 0 = v0 at *
        generalize V 1 = v1 at *
        generalize V 2 = v2 at *
        have HG3 : Hid (Grow w.heap.size w w' (sel3 v0 v1 v2) (sel3 (map3 f0 a b c (k + 1)) (map3 backF a b c (k + 1)) (map3 f2 a b c (k + 1))) 3) := Lib.hid (by
          rw [E1.out, E2.out, E3.out, hgf.out.1, hgf.out.2.1, hgf.out.2.2]; exact hG3)
        clear hG3
        go_wp2
        go_roundw
        case rel => exact ⟨k + 1, by omega, by go_num, HG3.out⟩
        case measure => simp [intOf]; omega
    · obtain rfl : k = n := by omega
      obtain ⟨A1, c1, e1, r1⟩ := rowI_own (show wr.ownsRow w.heap.size 3 1 u9 (map3 f0 a b c k).length ((map3 f0 a b c k).map (Value.int .i64)) from hT.own 0 (by omega))
      obtain ⟨A2, c2, e2, r2⟩ := rowI_own (show wr.ownsRow w.heap.size 3 1 u10 (map3 backF a b c k).length ((map3 backF a b c k).map (Value.int .i64)) from hT.own 1 (by omega))
      obtain ⟨A3, c3, e3, r3⟩ := rowI_own (show wr.ownsRow w.heap.size 3 1 u11 (map3 f2 a b c k).length ((map3 f2 a b c k).map (Value.int .i64)) from hT.own 2 (by omega))
      subst e1 e2 e3
      have hbel := hT.bel
      rw [map3_len] at r1 r2 r3
      rw [map3_len, map3_len, map3_len]
      have R := Lib.hid (And.intro r1 (And.intro r2 r3))
      clear hT r1 r2 r3
      go_wp2
      go_ret3
      exact ⟨A1, c1, A2, c2, A3, c3, rfl, R.out.1, R.out.2.1, R.out.2.2, hbel⟩
end Go.Proofs.Ytgplaikcahpiiaa
