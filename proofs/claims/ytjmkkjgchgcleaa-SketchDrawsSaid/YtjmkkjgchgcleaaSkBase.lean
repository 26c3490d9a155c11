/- The closures of package sketch, by their contracts. -/
import Derived.Test.YtjmkkjgchgcleaaApps
import Derived.Laws.MakeOwn
import Derived.IntWalk
import Derived.Laws.EntriesVeiled
import Derived.Outline
set_option linter.unusedVariables false
namespace Go.Proofs.Ytjmkkjgchgcleaa
open Go.RowKit

set_option maxHeartbeats 400000 in
theorem within21 (a n : Int) (w : World) (hn : 1 ≤ n) (hm : n ≤ 4611686018427387904) :
    Calls Try.prog 14 #[.int .i64 a, .int .i64 n] w fun e w' => e = .returned (.int .i64 (a % n)) ∧ w = w' := by
  have hb := within_bd a n hn
  have hk := within_key a n hn
  have HK := Lib.hid hk
  clear hk
  have h0 : ¬ n = 0 := by omega
  by_cases hc : a.tmod n < 0
  · go_enter Try.func14, Try.ntmps14
    go_wp2
    go_ret
    refine ⟨ret_i64 ?_, rfl⟩
    rw [← HK.out, if_pos (by omega)]
  · go_enter Try.func14, Try.ntmps14
    go_wp2
    go_ret
    refine ⟨ret_i64 ?_, rfl⟩
    rw [← HK.out, if_neg (by omega)]
theorem some21 (a n : Int) (w : World) (hn : 1 ≤ n) (hm : n ≤ 4611686018427387904) :
    Calls Try.prog 14 #[.int .i64 a, .int .i64 n] w fun e w' => ∃ r, e = .returned (.int .i64 r) ∧ 0 ≤ r ∧ r < n ∧ w = w' :=
  (within21 a n w hn hm).mono fun e w' ⟨he, hw⟩ => ⟨a % n, he, (within_rng a n hn).1, (within_rng a n hn).2, hw⟩

/-- The number that a picture of a kind has in a column and a row, before it is brought within its depth (m: two to the depth). -/
def rawF (kind m c i j : Int) : Int :=
  if kind = 0 then 7 + c else if kind = 1 then i + 2 * j + 3 * c else if kind = 2 then (m - 1) * ((i + j + c) % 2)
  else bits .and .i64 ((1103515245 * (i + 64 * j + 4096 * c) + 12345) / 65536) 65535
def smpF (kind m c i j : Int) : Int := rawF kind m c i j % m
theorem and_u16 (x : Int) (h0 : 0 ≤ x) (h1 : x < 9223372036854775808) : 0 ≤ bits .and .i64 x 65535 ∧ bits .and .i64 x 65535 ≤ 65535 := by
  obtain ⟨n, rfl⟩ : ∃ n : Nat, x = (n : Int) := ⟨x.toNat, by omega⟩
  have h1' : (BitVec.ofInt 64 (n : Int)).toNat = n := by
    rw [BitVec.ofInt_natCast, BitVec.toNat_ofNat]; exact Nat.mod_eq_of_lt (by omega)
  have hb : n &&& 65535 ≤ 65535 := Nat.and_le_right
  have e : bits .and .i64 (n : Int) 65535 = ((n &&& 65535 : Nat) : Int) := by
    show IntKind.i64.wrap ((BitVec.ofInt 64 (n : Int) &&& BitVec.ofInt 64 65535).toNat : Int) = _
    rw [BitVec.toNat_and, h1', show (BitVec.ofInt 64 65535).toNat = 65535 from rfl]
    exact IntWalk.i64_in _ (by omega)
  rw [e]
  omega
theorem raw_bd {kind m c i j : Int} (hk : 0 ≤ kind) (hm : 2 ≤ m ∧ m ≤ 65536) (hc : 0 ≤ c ∧ c ≤ 3) (hi : 0 ≤ i ∧ i ≤ 64) (hj : 0 ≤ j ∧ j ≤ 64) : 0 ≤ rawF kind m c i j ∧ rawF kind m c i j ≤ 65535 := by
  unfold rawF
  split
  · omega
  · split
    · omega
    · split
      · have h2 : (i + j + c) % 2 = 0 ∨ (i + j + c) % 2 = 1 := by omega
        rcases h2 with h | h <;> rw [h] <;> omega
      · exact and_u16 _ (by omega) (by omega)
theorem smp_bd {kind m c i j : Int} (hm : 2 ≤ m ∧ m ≤ 65536) : 0 ≤ smpF kind m c i j ∧ smpF kind m c i j < m := ⟨Int.emod_nonneg _ (by omega), Int.emod_lt_of_pos _ (by omega)⟩

set_option maxHeartbeats 1000000 in
theorem num0 (i j c m : Int) (p : Addr) (w : World) (hc : w.cell? p = some (.int .i64 c)) (c0 : 0 ≤ c ∧ c ≤ 3) :
    Calls Try.prog 30 #[.int .i64 i, .int .i64 j, .pointer (some p)] w fun e w' => e = .returned (.int .i64 (rawF 0 m c i j)) ∧ w' = w := by
  have E := Lib.hid (show rawF 0 m c i j = 7 + c from rfl)
  go_enter Try.func30, Try.ntmps30
  go_wp2
  go_ret
  exact ⟨ret_i64 E.out.symm, rfl⟩
set_option maxHeartbeats 1000000 in
theorem num1 (i j c m : Int) (p : Addr) (w : World) (hc : w.cell? p = some (.int .i64 c)) (c0 : 0 ≤ c ∧ c ≤ 3) (hi : 0 ≤ i ∧ i ≤ 64) (hj : 0 ≤ j ∧ j ≤ 64) :
    Calls Try.prog 31 #[.int .i64 i, .int .i64 j, .pointer (some p)] w fun e w' => e = .returned (.int .i64 (rawF 1 m c i j)) ∧ w' = w := by
  have E := Lib.hid (show rawF 1 m c i j = i + 2 * j + 3 * c from rfl)
  go_enter Try.func31, Try.ntmps31
  go_wp2
  go_ret
  exact ⟨ret_i64 E.out.symm, rfl⟩
set_option maxHeartbeats 1000000 in
theorem num2 (i j c m : Int) (p q : Addr) (w : World) (hm : w.cell? p = some (.int .i64 m)) (hc : w.cell? q = some (.int .i64 c)) (m0 : 2 ≤ m ∧ m ≤ 65536) (c0 : 0 ≤ c ∧ c ≤ 3) (hi : 0 ≤ i ∧ i ≤ 64) (hj : 0 ≤ j ∧ j ≤ 64) :
    Calls Try.prog 32 #[.int .i64 i, .int .i64 j, .pointer (some p), .pointer (some q)] w fun e w' => e = .returned (.int .i64 (rawF 2 m c i j)) ∧ w' = w := by
  have E : Hid (rawF 2 m c i j = (m - 1) * ((i + j + c) % 2)) := Lib.hid rfl
  have h2 : 0 ≤ (i + j + c) % 2 ∧ (i + j + c) % 2 ≤ 1 := by omega
  have h3 : 0 ≤ (m - 1) * ((i + j + c) % 2) := Int.mul_nonneg (by omega) (by omega)
  have h4 : (m - 1) * ((i + j + c) % 2) ≤ 65536 * 1 := Int.mul_le_mul (by omega) (by omega) (by omega) (by omega)
  go_enter Try.func32, Try.ntmps32
  go_wp2
  go_ret
  exact ⟨ret_i64 E.out.symm, rfl⟩
set_option maxHeartbeats 1000000 in
theorem num3 (kind i j c m : Int) (p : Addr) (w : World) (hc : w.cell? p = some (.int .i64 c)) (hk : 3 ≤ kind) (c0 : 0 ≤ c ∧ c ≤ 3) (hi : 0 ≤ i ∧ i ≤ 64) (hj : 0 ≤ j ∧ j ≤ 64) :
    Calls Try.prog 33 #[.int .i64 i, .int .i64 j, .pointer (some p)] w fun e w' => e = .returned (.int .i64 (rawF kind m c i j)) ∧ w' = w := by
  have E : Hid (rawF kind m c i j = bits .and .i64 ((1103515245 * (i + 64 * j + 4096 * c) + 12345) / 65536) 65535) := Lib.hid (by
    unfold rawF; rw [if_neg (by omega), if_neg (by omega), if_neg (by omega)])
  go_enter Try.func33, Try.ntmps33
  go_wp2
  go_ret
  exact ⟨ret_i64 E.out.symm, rfl⟩

set_option maxHeartbeats 2000000 in
theorem smp5_0 (kind i j c m : Int) (bn bm bc : Nat) (w : World) (hn : w.cell? ⟨bn, 0, none⟩ = some (.func (.func 30) #[] #[.pointer (some ⟨bc, 0, none⟩)])) (hm : w.cell? ⟨bm, 0, none⟩ = some (.int .i64 m)) (hc : w.cell? ⟨bc, 0, none⟩ = some (.int .i64 c)) (hk : kind = 0) (m0 : 2 ≤ m ∧ m ≤ 65536) (c0 : 0 ≤ c ∧ c ≤ 3) (hi : 0 ≤ i ∧ i ≤ 64) (hj : 0 ≤ j ∧ j ≤ 64) :
    Calls Try.prog 34 #[.int .i64 i, .int .i64 j, .pointer (some ⟨bn, 0, none⟩), .pointer (some ⟨bm, 0, none⟩)] w fun e w' => e = .returned (.int .i64 (smpF kind m c i j)) ∧ Drew w w' := by
  have hr := raw_bd (kind := kind) (m := m) (c := c) (i := i) (j := j) (by omega) m0 c0 hi hj
  have NM : Hid (∀ u : World, u.cell? ⟨bm, 0, none⟩ = some (.int .i64 m) → u.cell? ⟨bc, 0, none⟩ = some (.int .i64 c) → Calls Try.prog 30 (#[.int .i64 i, .int .i64 j] ++ #[.pointer (some ⟨bc, 0, none⟩)]) u fun e w' => e = .returned (.int .i64 (rawF kind m c i j)) ∧ w' = u) := Lib.hid fun u h1 h2 => by
    subst hk; exact num0 i j c m _ u h2 c0
  have E : Hid (smpF kind m c i j = rawF kind m c i j % m) := Lib.hid rfl
  have hm0 : ¬ m = 0 := by omega
  have HK := Lib.hid hk
  clear hk
  generalize rawF kind m c i j = x at *
  have hx : x.tmod m = x % m := by rw [Int.tmod_eq_emod_of_nonneg hr.1]
  go_enter Try.func34, Try.ntmps34
  go_wp2
  go_quiet ((go_at_call 30; exact Calls.quiet_of_same (NM.out _ hm hc)))
  go_wp2
  go_ret
  exact ⟨ret_i64 E.out.symm, Drew.mk _ _⟩

set_option maxHeartbeats 2000000 in
theorem smp5_1 (kind i j c m : Int) (bn bm bc : Nat) (w : World) (hn : w.cell? ⟨bn, 0, none⟩ = some (.func (.func 31) #[] #[.pointer (some ⟨bc, 0, none⟩)])) (hm : w.cell? ⟨bm, 0, none⟩ = some (.int .i64 m)) (hc : w.cell? ⟨bc, 0, none⟩ = some (.int .i64 c)) (hk : kind = 1) (m0 : 2 ≤ m ∧ m ≤ 65536) (c0 : 0 ≤ c ∧ c ≤ 3) (hi : 0 ≤ i ∧ i ≤ 64) (hj : 0 ≤ j ∧ j ≤ 64) :
    Calls Try.prog 34 #[.int .i64 i, .int .i64 j, .pointer (some ⟨bn, 0, none⟩), .pointer (some ⟨bm, 0, none⟩)] w fun e w' => e = .returned (.int .i64 (smpF kind m c i j)) ∧ Drew w w' := by
  have hr := raw_bd (kind := kind) (m := m) (c := c) (i := i) (j := j) (by omega) m0 c0 hi hj
  have NM : Hid (∀ u : World, u.cell? ⟨bm, 0, none⟩ = some (.int .i64 m) → u.cell? ⟨bc, 0, none⟩ = some (.int .i64 c) → Calls Try.prog 31 (#[.int .i64 i, .int .i64 j] ++ #[.pointer (some ⟨bc, 0, none⟩)]) u fun e w' => e = .returned (.int .i64 (rawF kind m c i j)) ∧ w' = u) := Lib.hid fun u h1 h2 => by
    subst hk; exact num1 i j c m _ u h2 c0 hi hj
  have E : Hid (smpF kind m c i j = rawF kind m c i j % m) := Lib.hid rfl
  have hm0 : ¬ m = 0 := by omega
  have HK := Lib.hid hk
  clear hk
  generalize rawF kind m c i j = x at *
  have hx : x.tmod m = x % m := by rw [Int.tmod_eq_emod_of_nonneg hr.1]
  go_enter Try.func34, Try.ntmps34
  go_wp2
  go_quiet ((go_at_call 31; exact Calls.quiet_of_same (NM.out _ hm hc)))
  go_wp2
  go_ret
  exact ⟨ret_i64 E.out.symm, Drew.mk _ _⟩

set_option maxHeartbeats 2000000 in
theorem smp5_2 (kind i j c m : Int) (bn bm bc : Nat) (w : World) (hn : w.cell? ⟨bn, 0, none⟩ = some (.func (.func 32) #[] #[.pointer (some ⟨bm, 0, none⟩), .pointer (some ⟨bc, 0, none⟩)])) (hm : w.cell? ⟨bm, 0, none⟩ = some (.int .i64 m)) (hc : w.cell? ⟨bc, 0, none⟩ = some (.int .i64 c)) (hk : kind = 2) (m0 : 2 ≤ m ∧ m ≤ 65536) (c0 : 0 ≤ c ∧ c ≤ 3) (hi : 0 ≤ i ∧ i ≤ 64) (hj : 0 ≤ j ∧ j ≤ 64) :
    Calls Try.prog 34 #[.int .i64 i, .int .i64 j, .pointer (some ⟨bn, 0, none⟩), .pointer (some ⟨bm, 0, none⟩)] w fun e w' => e = .returned (.int .i64 (smpF kind m c i j)) ∧ Drew w w' := by
  have hr := raw_bd (kind := kind) (m := m) (c := c) (i := i) (j := j) (by omega) m0 c0 hi hj
  have NM : Hid (∀ u : World, u.cell? ⟨bm, 0, none⟩ = some (.int .i64 m) → u.cell? ⟨bc, 0, none⟩ = some (.int .i64 c) → Calls Try.prog 32 (#[.int .i64 i, .int .i64 j] ++ #[.pointer (some ⟨bm, 0, none⟩), .pointer (some ⟨bc, 0, none⟩)]) u fun e w' => e = .returned (.int .i64 (rawF kind m c i j)) ∧ w' = u) := Lib.hid fun u h1 h2 => by
    subst hk; exact num2 i j c m _ _ u h1 h2 m0 c0 hi hj
  have E : Hid (smpF kind m c i j = rawF kind m c i j % m) := Lib.hid rfl
  have hm0 : ¬ m = 0 := by omega
  have HK := Lib.hid hk
  clear hk
  generalize rawF kind m c i j = x at *
  have hx : x.tmod m = x % m := by rw [Int.tmod_eq_emod_of_nonneg hr.1]
  go_enter Try.func34, Try.ntmps34
  go_wp2
  go_quiet ((go_at_call 32; exact Calls.quiet_of_same (NM.out _ hm hc)))
  go_wp2
  go_ret
  exact ⟨ret_i64 E.out.symm, Drew.mk _ _⟩

set_option maxHeartbeats 2000000 in
theorem smp5_3 (kind i j c m : Int) (bn bm bc : Nat) (w : World) (hn : w.cell? ⟨bn, 0, none⟩ = some (.func (.func 33) #[] #[.pointer (some ⟨bc, 0, none⟩)])) (hm : w.cell? ⟨bm, 0, none⟩ = some (.int .i64 m)) (hc : w.cell? ⟨bc, 0, none⟩ = some (.int .i64 c)) (hk : 3 ≤ kind) (m0 : 2 ≤ m ∧ m ≤ 65536) (c0 : 0 ≤ c ∧ c ≤ 3) (hi : 0 ≤ i ∧ i ≤ 64) (hj : 0 ≤ j ∧ j ≤ 64) :
    Calls Try.prog 34 #[.int .i64 i, .int .i64 j, .pointer (some ⟨bn, 0, none⟩), .pointer (some ⟨bm, 0, none⟩)] w fun e w' => e = .returned (.int .i64 (smpF kind m c i j)) ∧ Drew w w' := by
  have hr := raw_bd (kind := kind) (m := m) (c := c) (i := i) (j := j) (by omega) m0 c0 hi hj
  have NM : Hid (∀ u : World, u.cell? ⟨bm, 0, none⟩ = some (.int .i64 m) → u.cell? ⟨bc, 0, none⟩ = some (.int .i64 c) → Calls Try.prog 33 (#[.int .i64 i, .int .i64 j] ++ #[.pointer (some ⟨bc, 0, none⟩)]) u fun e w' => e = .returned (.int .i64 (rawF kind m c i j)) ∧ w' = u) := Lib.hid fun u h1 h2 => by
    exact num3 kind i j c m _ u h2 hk c0 hi hj
  have E : Hid (smpF kind m c i j = rawF kind m c i j % m) := Lib.hid rfl
  have hm0 : ¬ m = 0 := by omega
  have HK := Lib.hid hk
  clear hk
  generalize rawF kind m c i j = x at *
  have hx : x.tmod m = x % m := by rw [Int.tmod_eq_emod_of_nonneg hr.1]
  go_enter Try.func34, Try.ntmps34
  go_wp2
  go_quiet ((go_at_call 33; exact Calls.quiet_of_same (NM.out _ hm hc)))
  go_wp2
  go_ret
  exact ⟨ret_i64 E.out.symm, Drew.mk _ _⟩

/-- A closure that tells the samples of a component. -/
def Smp (w : World) (bn bm : Nat) (kind m c : Int) : Prop :=
  ∀ (W : World) (i j : Int), Below w.heap.size w W → 0 ≤ i → i ≤ 64 → 0 ≤ j → j ≤ 64 → Calls Try.prog 34 #[.int .i64 i, .int .i64 j, .pointer (some ⟨bn, 0, none⟩), .pointer (some ⟨bm, 0, none⟩)] W fun e w' => e = .returned (.int .i64 (smpF kind m c i j)) ∧ Drew W w'
theorem Smp.later {w w' : World} {bn bm : Nat} {kind m c : Int} (h : Smp w bn bm kind m c) (hb : Below w.heap.size w w') : Smp w' bn bm kind m c := fun W i j hW => h W i j (hb.trans (hW.mono hb.size))
theorem cell_b {w : World} {b : Nat} {v : Value} {t : TypeId} (h : w.heap[b]? = some (.cells #[v] t (0, 0))) : w.cell? ⟨b, 0, none⟩ = some v := by simp [World.cell?, h]

theorem pow_bd (d : Int) (h0 : 1 ≤ d) (h1 : d ≤ 16) : 2 ≤ (2 : Int) ^ d.toNat ∧ (2 : Int) ^ d.toNat ≤ 65536 := by
  obtain ⟨n, rfl⟩ : ∃ n : Nat, d = (n : Int) := ⟨d.toNat, by omega⟩
  have hn : n ≤ 16 := by omega
  have hn0 : 1 ≤ n := by omega
  clear h0 h1
  simp only [Int.toNat_natCast]
  revert n
  decide
set_option maxHeartbeats 4000000 in
theorem samples_any (kind d c : Int) (w : World) (hk : 0 ≤ kind ∧ kind ≤ 4) (hd : 1 ≤ d ∧ d ≤ 16) (hc : 0 ≤ c ∧ c ≤ 3) :
    Calls Try.prog 17 #[.int .i64 kind, .int .i64 d, .int .i64 c] w fun e w' => ∃ bn bm : Nat, e = .returned (.func (.func 34) #[] #[.pointer (some ⟨bn, 0, none⟩), .pointer (some ⟨bm, 0, none⟩)]) ∧
      Smp w' bn bm kind ((2 : Int) ^ d.toNat) c ∧ Below w.heap.size w w' := by
  have hp := pow_bd d hd.1 hd.2
  have hsh : IntKind.i64.wrap ((2 : Int) ^ min (IntKind.u64.wrap d).toNat 64) = 2 ^ d.toNat := by
    rw [IntWalk.u64_in _ (by omega), show min d.toNat 64 = d.toNat from by omega]
    exact IntWalk.i64_in _ (by omega)
  have hd0 : ¬ d < 0 := by omega
  go_enter Try.func17, Try.ntmps17
  by_cases k0 : kind = 0
  · subst k0
    have HSH := Lib.hid hp
    go_wp2
    go_ret
    obtain ⟨W3, hW3⟩ : ∃ W3, ((w.alloc (Obj.cells #[.int .i64 c] 3)).alloc (Obj.cells #[.int .i64 ((2 : Int) ^ d.toNat)] 3)).alloc (Obj.cells #[.func (.func 30) #[] #[.pointer (some ⟨w.heap.size, 0, none⟩)]] 33) = W3 := ⟨_, rfl⟩
    have z1 : (w.alloc (Obj.cells #[.int .i64 c] 3)).heap.size = w.heap.size + 1 := by simp
    have z2 : ((w.alloc (Obj.cells #[.int .i64 c] 3)).alloc (Obj.cells #[.int .i64 ((2 : Int) ^ d.toNat)] 3)).heap.size = w.heap.size + 1 + 1 := by simp
    have g1 : W3.cell? ⟨w.heap.size, 0, none⟩ = some (.int .i64 c) := by
      rw [← hW3]; exact (((Boxed.new w _ _).alloc _).alloc _).cell
    have g2 : W3.cell? ⟨w.heap.size + 1, 0, none⟩ = some (.int .i64 ((2 : Int) ^ d.toNat)) := by
      have := (Boxed.new (w.alloc (Obj.cells #[.int .i64 c] 3)) 3 (.int .i64 ((2 : Int) ^ d.toNat))).alloc (Obj.cells #[.func (.func 30) #[] #[.pointer (some ⟨w.heap.size, 0, none⟩)]] 33)
      rw [z1] at this
      rw [← hW3]; exact this.cell
    have g3 : W3.cell? ⟨w.heap.size + 1 + 1, 0, none⟩ = some (.func (.func 30) #[] #[.pointer (some ⟨w.heap.size, 0, none⟩)]) := by
      have := Boxed.new ((w.alloc (Obj.cells #[.int .i64 c] 3)).alloc (Obj.cells #[.int .i64 ((2 : Int) ^ d.toNat)] 3)) 33 (.func (.func 30) #[] #[.pointer (some ⟨w.heap.size, 0, none⟩)])
      rw [z2] at this
      rw [← hW3]; exact this.cell
    have hsz : W3.heap.size = w.heap.size + 1 + 1 + 1 := by rw [← hW3]; simp
    have hB : Below w.heap.size w W3 := by rw [← hW3]; exact (((Below.refl _ w).alloc (Nat.le_refl _) _).alloc (by simp) _).alloc (by simp; omega) _
    rw [hW3]
    refine ⟨_, _, rfl, fun W i j hW i0 i1 j0 j1 => smp5_0 _ i j c _ _ _ w.heap.size W ((hW.cell (p := ⟨w.heap.size + 1 + 1, 0, none⟩) (by show w.heap.size + 1 + 1 < _; omega)).trans g3) ((hW.cell (p := ⟨w.heap.size + 1, 0, none⟩) (by show w.heap.size + 1 < _; omega)).trans g2) ((hW.cell (p := ⟨w.heap.size, 0, none⟩) (by show w.heap.size < _; omega)).trans g1) rfl HSH.out hc ⟨i0, i1⟩ ⟨j0, j1⟩, hB⟩
  by_cases k1 : kind = 1
  · subst k1
    have HSH := Lib.hid hp
    go_wp2
    go_ret
    obtain ⟨W3, hW3⟩ : ∃ W3, ((w.alloc (Obj.cells #[.int .i64 c] 3)).alloc (Obj.cells #[.int .i64 ((2 : Int) ^ d.toNat)] 3)).alloc (Obj.cells #[.func (.func 31) #[] #[.pointer (some ⟨w.heap.size, 0, none⟩)]] 33) = W3 := ⟨_, rfl⟩
    have z1 : (w.alloc (Obj.cells #[.int .i64 c] 3)).heap.size = w.heap.size + 1 := by simp
    have z2 : ((w.alloc (Obj.cells #[.int .i64 c] 3)).alloc (Obj.cells #[.int .i64 ((2 : Int) ^ d.toNat)] 3)).heap.size = w.heap.size + 1 + 1 := by simp
    have g1 : W3.cell? ⟨w.heap.size, 0, none⟩ = some (.int .i64 c) := by
      rw [← hW3]; exact (((Boxed.new w _ _).alloc _).alloc _).cell
    have g2 : W3.cell? ⟨w.heap.size + 1, 0, none⟩ = some (.int .i64 ((2 : Int) ^ d.toNat)) := by
      have := (Boxed.new (w.alloc (Obj.cells #[.int .i64 c] 3)) 3 (.int .i64 ((2 : Int) ^ d.toNat))).alloc (Obj.cells #[.func (.func 31) #[] #[.pointer (some ⟨w.heap.size, 0, none⟩)]] 33)
      rw [z1] at this
      rw [← hW3]; exact this.cell
    have g3 : W3.cell? ⟨w.heap.size + 1 + 1, 0, none⟩ = some (.func (.func 31) #[] #[.pointer (some ⟨w.heap.size, 0, none⟩)]) := by
      have := Boxed.new ((w.alloc (Obj.cells #[.int .i64 c] 3)).alloc (Obj.cells #[.int .i64 ((2 : Int) ^ d.toNat)] 3)) 33 (.func (.func 31) #[] #[.pointer (some ⟨w.heap.size, 0, none⟩)])
      rw [z2] at this
      rw [← hW3]; exact this.cell
    have hsz : W3.heap.size = w.heap.size + 1 + 1 + 1 := by rw [← hW3]; simp
    have hB : Below w.heap.size w W3 := by rw [← hW3]; exact (((Below.refl _ w).alloc (Nat.le_refl _) _).alloc (by simp) _).alloc (by simp; omega) _
    rw [hW3]
    refine ⟨_, _, rfl, fun W i j hW i0 i1 j0 j1 => smp5_1 _ i j c _ _ _ w.heap.size W ((hW.cell (p := ⟨w.heap.size + 1 + 1, 0, none⟩) (by show w.heap.size + 1 + 1 < _; omega)).trans g3) ((hW.cell (p := ⟨w.heap.size + 1, 0, none⟩) (by show w.heap.size + 1 < _; omega)).trans g2) ((hW.cell (p := ⟨w.heap.size, 0, none⟩) (by show w.heap.size < _; omega)).trans g1) rfl HSH.out hc ⟨i0, i1⟩ ⟨j0, j1⟩, hB⟩
  by_cases k2 : kind = 2
  · subst k2
    have HSH := Lib.hid hp
    go_wp2
    go_ret
    obtain ⟨W3, hW3⟩ : ∃ W3, ((w.alloc (Obj.cells #[.int .i64 c] 3)).alloc (Obj.cells #[.int .i64 ((2 : Int) ^ d.toNat)] 3)).alloc (Obj.cells #[.func (.func 32) #[] #[.pointer (some ⟨w.heap.size + 1, 0, none⟩), .pointer (some ⟨w.heap.size, 0, none⟩)]] 33) = W3 := ⟨_, rfl⟩
    have z1 : (w.alloc (Obj.cells #[.int .i64 c] 3)).heap.size = w.heap.size + 1 := by simp
    have z2 : ((w.alloc (Obj.cells #[.int .i64 c] 3)).alloc (Obj.cells #[.int .i64 ((2 : Int) ^ d.toNat)] 3)).heap.size = w.heap.size + 1 + 1 := by simp
    have g1 : W3.cell? ⟨w.heap.size, 0, none⟩ = some (.int .i64 c) := by
      rw [← hW3]; exact (((Boxed.new w _ _).alloc _).alloc _).cell
    have g2 : W3.cell? ⟨w.heap.size + 1, 0, none⟩ = some (.int .i64 ((2 : Int) ^ d.toNat)) := by
      have := (Boxed.new (w.alloc (Obj.cells #[.int .i64 c] 3)) 3 (.int .i64 ((2 : Int) ^ d.toNat))).alloc (Obj.cells #[.func (.func 32) #[] #[.pointer (some ⟨w.heap.size + 1, 0, none⟩), .pointer (some ⟨w.heap.size, 0, none⟩)]] 33)
      rw [z1] at this
      rw [← hW3]; exact this.cell
    have g3 : W3.cell? ⟨w.heap.size + 1 + 1, 0, none⟩ = some (.func (.func 32) #[] #[.pointer (some ⟨w.heap.size + 1, 0, none⟩), .pointer (some ⟨w.heap.size, 0, none⟩)]) := by
      have := Boxed.new ((w.alloc (Obj.cells #[.int .i64 c] 3)).alloc (Obj.cells #[.int .i64 ((2 : Int) ^ d.toNat)] 3)) 33 (.func (.func 32) #[] #[.pointer (some ⟨w.heap.size + 1, 0, none⟩), .pointer (some ⟨w.heap.size, 0, none⟩)])
      rw [z2] at this
      rw [← hW3]; exact this.cell
    have hsz : W3.heap.size = w.heap.size + 1 + 1 + 1 := by rw [← hW3]; simp
    have hB : Below w.heap.size w W3 := by rw [← hW3]; exact (((Below.refl _ w).alloc (Nat.le_refl _) _).alloc (by simp) _).alloc (by simp; omega) _
    rw [hW3]
    refine ⟨_, _, rfl, fun W i j hW i0 i1 j0 j1 => smp5_2 _ i j c _ _ _ w.heap.size W ((hW.cell (p := ⟨w.heap.size + 1 + 1, 0, none⟩) (by show w.heap.size + 1 + 1 < _; omega)).trans g3) ((hW.cell (p := ⟨w.heap.size + 1, 0, none⟩) (by show w.heap.size + 1 < _; omega)).trans g2) ((hW.cell (p := ⟨w.heap.size, 0, none⟩) (by show w.heap.size < _; omega)).trans g1) rfl HSH.out hc ⟨i0, i1⟩ ⟨j0, j1⟩, hB⟩
  have e0 : (kind == 0) = false := by simpa using k0
  have e1 : (kind == 1) = false := by simpa using k1
  have e2 : (kind == 2) = false := by simpa using k2
  have HSH := Lib.hid hp
  go_wp2
  go_ret
  obtain ⟨W3, hW3⟩ : ∃ W3, ((w.alloc (Obj.cells #[.int .i64 c] 3)).alloc (Obj.cells #[.int .i64 ((2 : Int) ^ d.toNat)] 3)).alloc (Obj.cells #[.func (.func 33) #[] #[.pointer (some ⟨w.heap.size, 0, none⟩)]] 33) = W3 := ⟨_, rfl⟩
  have z1 : (w.alloc (Obj.cells #[.int .i64 c] 3)).heap.size = w.heap.size + 1 := by simp
  have z2 : ((w.alloc (Obj.cells #[.int .i64 c] 3)).alloc (Obj.cells #[.int .i64 ((2 : Int) ^ d.toNat)] 3)).heap.size = w.heap.size + 1 + 1 := by simp
  have g1 : W3.cell? ⟨w.heap.size, 0, none⟩ = some (.int .i64 c) := by
    rw [← hW3]; exact (((Boxed.new w _ _).alloc _).alloc _).cell
  have g2 : W3.cell? ⟨w.heap.size + 1, 0, none⟩ = some (.int .i64 ((2 : Int) ^ d.toNat)) := by
    have := (Boxed.new (w.alloc (Obj.cells #[.int .i64 c] 3)) 3 (.int .i64 ((2 : Int) ^ d.toNat))).alloc (Obj.cells #[.func (.func 33) #[] #[.pointer (some ⟨w.heap.size, 0, none⟩)]] 33)
    rw [z1] at this
    rw [← hW3]; exact this.cell
  have g3 : W3.cell? ⟨w.heap.size + 1 + 1, 0, none⟩ = some (.func (.func 33) #[] #[.pointer (some ⟨w.heap.size, 0, none⟩)]) := by
    have := Boxed.new ((w.alloc (Obj.cells #[.int .i64 c] 3)).alloc (Obj.cells #[.int .i64 ((2 : Int) ^ d.toNat)] 3)) 33 (.func (.func 33) #[] #[.pointer (some ⟨w.heap.size, 0, none⟩)])
    rw [z2] at this
    rw [← hW3]; exact this.cell
  have hsz : W3.heap.size = w.heap.size + 1 + 1 + 1 := by rw [← hW3]; simp
  have hB : Below w.heap.size w W3 := by rw [← hW3]; exact (((Below.refl _ w).alloc (Nat.le_refl _) _).alloc (by simp) _).alloc (by simp; omega) _
  rw [hW3]
  refine ⟨_, _, rfl, fun W i j hW i0 i1 j0 j1 => smp5_3 _ i j c _ _ _ w.heap.size W ((hW.cell (p := ⟨w.heap.size + 1 + 1, 0, none⟩) (by show w.heap.size + 1 + 1 < _; omega)).trans g3) ((hW.cell (p := ⟨w.heap.size + 1, 0, none⟩) (by show w.heap.size + 1 < _; omega)).trans g2) ((hW.cell (p := ⟨w.heap.size, 0, none⟩) (by show w.heap.size < _; omega)).trans g1) (by omega) HSH.out hc ⟨i0, i1⟩ ⟨j0, j1⟩, hB⟩
end Go.Proofs.Ytjmkkjgchgcleaa
