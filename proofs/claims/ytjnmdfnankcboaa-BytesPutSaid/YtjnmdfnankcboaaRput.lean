/- The reference's Put, by its contract. -/
import Derived.Test.YtjnmdfnankcboaaApp1
import Derived.Test.YtjnmdfnankcboaaBytesPut
set_option linter.unusedVariables false
namespace Go.Proofs.Ytjnmdfnankcboaa
open Go.RowKit

theorem wpList_app1 {w : World} {ops : Array Oper} {rest : List Oper} {o : Oper} {a : Act} {Q : Exit → Act → World → Prop} (hgd : o.guard = none) (s x : Operand)
    (ho : o.op = .call { callee := .builtin .append, args := #[s, x], argTypes := #[22, 22] }) (hty : o.type = 22) {lo : Nat} {v0 : Value} {n0 : Nat} {xs0 : List Value} {g n cap : Nat} {xs : List Value} {ad : Addr} {u : Value}
    (hs : a.eval s = .slice (some ⟨g, 0, none⟩) n cap) (hx : a.eval x = .slice (some ad) 1 1) (h : Ont lo w v0 n0 xs0 (.slice (some ⟨g, 0, none⟩) n cap) n xs) (h1 : u.oneCell' = true) (hn : n ≤ 100000) (hlo : lo ≤ w.heap.size) (hc : w.cell? ad = some u)
    (hK : ∀ g' cap' w', Ont lo w' v0 n0 xs0 (.slice (some ⟨g', 0, none⟩) (n + 1) cap') (n + 1) (xs ++ [u]) → Only (fun k => k = g ∨ w.heap.size ≤ k) w w' → (g' = g ∨ w.heap.size ≤ g') → wpList Try.prog ops Q rest (a.put o.dst (.slice (some ⟨g', 0, none⟩) (n + 1) cap')) w') :
    wpList Try.prog ops Q (o :: rest) a w := by
  refine wpList_plain hgd fun K hK2 => ?_
  obtain ⟨g', cap', w', hr, h2, h3, h4⟩ := app1 u h h1 hn hlo hc
  unfold Oper.wp execOp
  simp only [ho, hty, resolve, invoke, builtin, Sem.run_bind, Sem.run_pure, Result.andThen_ok, List.map_toArray, List.map_cons, List.map_nil, hs, hx, hr]
  exact hK2 _ _ (hK g' cap' w' h2 h3 h4)
theorem Ont.alloc {lo : Nat} {w : World} {v0 : Value} {n0 : Nat} {xs0 : List Value} {v : Value} {n : Nat} {xs : List Value} (h : Ont lo w v0 n0 xs0 v n xs) (o : Obj) : Ont lo (w.alloc o) v0 n0 xs0 v n xs :=
  ⟨h.old.alloc o, h.now.alloc o, h.le, h.pre, h.same⟩

set_option maxHeartbeats 2000000 in
theorem rput_yes {lo : Nat} {w : World} {g n cap : Nat} {xs : List Value} {size m : Int} (h : w.ownsRow lo 5 1 (.slice (some ⟨g, 0, none⟩) n cap) n xs) (hlo : lo ≤ w.heap.size) (hn : n ≤ 1000) (hs : 1 ≤ size ∧ size ≤ 8) :
    Calls Try.prog 13 #[.slice (some ⟨g, 0, none⟩) n cap, .int .i64 size, .int .i64 m] w fun e w' => ∃ A c, e = .returned (.slice A (n + size.toNat) c) ∧
      w'.ownsRow lo 5 1 (.slice A (n + size.toNat) c) (n + size.toNat) (xs ++ (putL m size.toNat).map (Value.int .u8)) ∧ w'.ownsRow lo 5 1 (.slice (some ⟨g, 0, none⟩) n cap) n xs ∧ Only (fun k => k = g ∨ w.heap.size ≤ k) w w' := by
  have H : Hid (Ont lo w (.slice (some ⟨g, 0, none⟩) n cap) n xs (.slice (some ⟨g, 0, none⟩) n cap) n xs) := ⟨h, h, Nat.le_refl _, by rw [List.take_of_length_le (by have := h.1; omega)], fun _ _ e _ => e⟩
  have z1 : ¬ size < 1 := by omega
  have z2 : ¬ 8 < size := by omega
  clear h
  go_enter Try.func13, Try.ntmps13
  go_wp2
  go_loopw [0, 7] (fun l i wr => ∃ (k : Int) (acc : List Int) (g' cap' : Nat), 0 ≤ k ∧ k ≤ size ∧ (acc.length : Int) + k = size ∧ i = .int .i64 (k - 1) ∧ l = .slice (some ⟨g', 0, none⟩) (n + acc.length) cap' ∧
      Ont lo wr (.slice (some ⟨g, 0, none⟩) n cap) n xs (.slice (some ⟨g', 0, none⟩) (n + acc.length) cap') (n + acc.length) (xs ++ acc.map (Value.int .u8)) ∧
      Hid (acc ++ putL m k.toNat = putL m size.toNat) ∧ Only (fun j => j = g ∨ w.heap.size ≤ j) w wr ∧ (g' = g ∨ w.heap.size ≤ g')) (fun _ i _ => (1 + intOf i).toNat)
  case atStart => exact ⟨size, [], g, cap, by omega, by omega, by simp, rfl, by simp, by simpa using H.out, rfl, Only.refl _ _, Or.inl rfl⟩
  case round =>
    obtain ⟨k, acc, g', cap', k0, k1, k2, rfl, rfl, hO, HP, ho, hg⟩ := hrel
    clear H
    have hs1 := ho.size
    by_cases c1 : 1 ≤ k
    · have k3 : acc.length ≤ 7 := by omega
      have hub := u64_byte m (k - 1).toNat (by omega)
      obtain ⟨kn, hkn⟩ : ∃ kn : Nat, k = (kn : Int) + 1 := ⟨(k - 1).toNat, by omega⟩
      subst hkn
      have K2 := Lib.hid k2
      have HUB : Hid (IntKind.u64.wrap m / 2 ^ (8 * kn) % 256 = m / 2 ^ (8 * kn) % 256) := Lib.hid (by
        have := u64_byte m kn (by omega); exact this)
      have HO := Lib.hid (hO.alloc (.cells #[.int .u8 (IntKind.u64.wrap m / 2 ^ (8 * kn) % 256)] 5))
      have wmul : IntKind.u64.wrap (8 * (kn : Int)) = 8 * (kn : Int) := by
        have : IntKind.u64.wrap (8 * (kn : Int)) = (8 * (kn : Int)) % 18446744073709551616 := rfl
        rw [this]; omega
      clear k2 hO hub
      go_wp2_with (at_builtin; refine wpList_app1 rfl _ _ rfl rfl rfl rfl HO.out rfl (by omega) (by simp; omega) (cell_one_new _ _ _ 0 _ rfl) ?_)
      intro g2 cap2 w2 hO2 ho2 hg2
      have HO2 := Lib.hid hO2
      have hs2 := ho2.size
      simp at hs2
      have ho3 : Only (fun j => j = g ∨ w.heap.size ≤ j) w w2 := (ho.alloc (Or.inr hs1) _).trans (ho2.mono (fun j hj => by
        rcases hj with rfl | hj
        · exact hg
        · (try simp at hj); exact Or.inr (by omega)))
      have hg3 : g2 = g ∨ w.heap.size ≤ g2 := by
        rcases hg2 with rfl | hj
        · exact hg
        · (try simp at hj); exact Or.inr (by omega)
      clear hO2 ho2 HO ho
      go_wp2
      go_roundw
      case rel =>
        have := K2.out
        refine ⟨kn, acc ++ [m / 2 ^ (8 * kn) % 256], g2, cap2, by omega, by omega, by simp; omega, rfl, ?_, ?_, ?_, ho3, hg3⟩
        · rw [List.length_append]; simp [Nat.add_assoc]
        · have h2 := HO2.out
          rw [HUB.out] at h2
          rw [List.length_append, List.map_append, ← List.append_assoc]
          simpa [Nat.add_assoc] using h2
        · have h2 := HP.out
          rw [putL_step m ((kn : Int) + 1) c1, show (8 * ((kn : Int) + 1 - 1)).toNat = 8 * kn from by omega, show ((kn : Int) + 1 - 1).toNat = kn from by omega] at h2
          show _ = _
          rw [← h2]
          simp
      case measure => simp [intOf]; omega
    · obtain rfl : k = 0 := by omega
      have HP2 : Hid (acc = putL m size.toNat) := by
        have := HP.out
        show acc = _
        simpa [putL] using this
      have HO := Lib.hid hO
      clear HP k2 hO
      go_wp2
      go_ret
      have e := HP2.out
      have e2 := putL_len m size.toNat
      rw [← e] at e2 ⊢
      rw [← e2]
      exact ⟨_, _, rfl, HO.out.now, HO.out.old, ho⟩
set_option maxHeartbeats 400000 in
theorem rput_no {w : World} {A : Option Addr} {n cap : Nat} {size m : Int} (hs : ¬ (1 ≤ size ∧ size ≤ 8)) :
    Calls Try.prog 13 #[.slice A n cap, .int .i64 size, .int .i64 m] w fun e w' => e = .returned (.slice A n cap) ∧ w = w' := by
  by_cases h1 : size < 1
  · go_enter Try.func13, Try.ntmps13
    go_wp2
    go_ret
    exact ⟨rfl, rfl⟩
  · have h2 : 8 < size := by omega
    go_enter Try.func13, Try.ntmps13
    go_wp2
    go_ret
    exact ⟨rfl, rfl⟩
set_option maxHeartbeats 1000000 in
theorem put_none (A : Option Addr) (n c : Nat) (xs : List Value) (w : World) (size m : Int) (hl : xs.length = n) (hA : A = none → n = 0 ∧ c = 0) (h : Lst w w.heap.size A xs) (h1 : ∀ u ∈ xs, u.oneCell' = true) (hn : n ≤ 1000000)
    (hs : ¬ (1 ≤ size ∧ size ≤ 8)) :
    Calls Try.prog 12 #[.slice A n c, .int .i64 size, .int .i64 m] w fun e w' => ∃ v, e = .returned v ∧ w'.ownsRow w.heap.size 5 1 v n xs ∧ Below w.heap.size w w' := by
  have HS := Lib.hid (fun u => isSize_no size u hs)
  clear hs
  go_enter Try.func12, Try.ntmps12
  go_wp2_with fail
  refine (clone_u8 A n c xs _ _ hl hA h h1 (by omega)).mono ?_
  rintro e w1 ⟨v, rfl, hown, hb⟩
  have HO := Lib.hid hown
  clear hl hA h h1 hown
  go_wp2_with fail
  refine (HS.out _).mono ?_
  rintro e w' ⟨rfl, rfl⟩
  go_wp2
  go_ret
  exact ⟨_, rfl, HO.out, hb⟩
end Go.Proofs.Ytjnmdfnankcboaa
