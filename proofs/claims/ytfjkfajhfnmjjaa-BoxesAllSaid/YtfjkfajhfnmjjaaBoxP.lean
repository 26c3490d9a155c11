/- The reference's Put onto a row of the caller's own, nil too. -/
import Derived.Test.YtfjkfajhfnmjjaaBoxL
set_option linter.unusedVariables false
set_option linter.unusedSimpArgs false
namespace Go.Proofs.Ytfjkfajhfnmjjaa
open Go.RowKit Go.Shelf
attribute [local go_sem ↓] appSem_eq
set_option maxHeartbeats 2000000 in
theorem rp_any {lo : Nat} {w : World} {v : Value} {n : Nat} {X : List Int} {size m : Int} (h : w.ownsRow lo 5 1 v n (X.map (Value.int .u8))) (hlo : lo ≤ w.heap.size) (hn : n ≤ 100000) (hs : 1 ≤ size ∧ size ≤ 8) :
    Calls Try.prog 15 #[v, .int .i64 size, .int .i64 m] w fun e w' => ∃ v', e = .returned v' ∧ w'.ownsRow lo 5 1 v' (n + size.toNat) ((X ++ putL m size.toNat).map (Value.int .u8)) ∧ Below lo w w' := by
  have z1 : ¬ size < 1 := by omega
  have z2 : ¬ 8 < size := by omega
  have H := Lib.hid h
  clear h
  go_enter Try.func15, Try.ntmps15
  go_wp2
  go_loopw [0, 7] (fun l i wr => ∃ (k : Int) (acc : List Int), 0 ≤ k ∧ k ≤ size ∧ (acc.length : Int) + k = size ∧ i = .int .i64 (k - 1) ∧
      Hid (wr.ownsRow lo 5 1 l (n + acc.length) ((X ++ acc).map (Value.int .u8))) ∧
      Hid (acc ++ putL m k.toNat = putL m size.toNat) ∧ Hid (Below lo w wr)) (fun _ i _ => (1 + intOf i).toNat)
  case atStart => exact ⟨size, [], by omega, by omega, by simp, rfl, Lib.hid (by simpa using H.out), rfl, Lib.hid (Below.refl _ _)⟩
  case round =>
    obtain ⟨k, acc, k0, k1, k2, rfl, HO, HP, HB⟩ := hrel
    clear H
    by_cases c1 : 1 ≤ k
    · have k3 : acc.length ≤ 7 := by omega
      obtain ⟨kn, hkn⟩ : ∃ kn : Nat, k = (kn : Int) + 1 := ⟨(k - 1).toNat, by omega⟩
      subst hkn
      have K2 := Lib.hid k2
      have HUB : Hid (IntKind.u64.wrap m / 2 ^ (8 * kn) % 256 = m / 2 ^ (8 * kn) % 256) := Lib.hid (by
        have := u64_byte m kn (by omega); exact this)
      have wmul : IntKind.u64.wrap (8 * (kn : Int)) = 8 * (kn : Int) := by
        have : IntKind.u64.wrap (8 * (kn : Int)) = (8 * (kn : Int)) % 18446744073709551616 := rfl
        rw [this]; omega
      obtain ⟨bx, hbx⟩ : ∃ bx, IntKind.u64.wrap m / 2 ^ (8 * kn) % 256 = bx := ⟨_, rfl⟩
      have hz := World.alloc_heap_new wr (.cells #[.int .u8 bx] 5)
      have ho1 := HO.out.alloc (.cells #[.int .u8 bx] 5)
      have hb1 := HB.out.alloc (by have := HB.out.size; omega) (.cells #[.int .u8 bx] 5)
      have hoL : (wr.alloc (.cells #[.int .u8 bx] 5)).ownsRow lo 5 1 (.slice (some ⟨wr.heap.size, 0, none⟩) 1 1) 1 (([bx] : List Int).map (Value.int .u8)) :=
        ⟨rfl, .inr ⟨wr.heap.size, 1, _, rfl, by have := HB.out.size; omega, hz, Nat.le_refl _, by unfold maxLen; omega, rfl, rfl⟩⟩
      obtain ⟨v4, w4, r4, o4, g4⟩ := app_bytes ho1 hoL (by have := hb1.size; omega) (by omega)
      have hb4 := hb1.grown g4 (by have := hb1.size; omega) (fun k e => (own_lt ho1 e).1)
      have HN : Hid (w4.ownsRow lo 5 1 v4 (n + (acc ++ [bx]).length) ((X ++ (acc ++ [bx])).map (Value.int .u8)) ∧ Below lo w w4) := Lib.hid ⟨by
        rw [List.length_append, ← List.append_assoc]; exact o4, hb4⟩
      have HBX := Lib.hid hbx
      clear k2 hz ho1 hb1 hoL o4 g4 hb4 HO HB
      go_wp2
      go_roundw
      case rel =>
        have := K2.out
        refine ⟨kn, acc ++ [bx], by omega, by omega, by simp; omega, rfl, Lib.hid HN.out.1, ?_, Lib.hid HN.out.2⟩
        have h2 := HP.out
        rw [putL_step m ((kn : Int) + 1) c1, show (8 * ((kn : Int) + 1 - 1)).toNat = 8 * kn from by omega, show ((kn : Int) + 1 - 1).toNat = kn from by omega, ← HUB.out, HBX.out] at h2
        show _ = _
        rw [← h2]
        simp
      case measure => simp [intOf]; omega
    · obtain rfl : k = 0 := by omega
      have HP2 : Hid (acc = putL m size.toNat) := by
        have := HP.out
        show acc = _
        simpa [putL] using this
      have HK2 := Lib.hid k2
      clear HP k2
      go_wp2
      go_ret
      have e := HP2.out
      have e2 : acc.length = size.toNat := by have := HK2.out; omega
      rw [← e, ← e2]
      exact ⟨_, rfl, by rw [← List.map_append]; exact HO.out, HB.out⟩
end Go.Proofs.Ytfjkfajhfnmjjaa
