/- second of package lift, and the four steps, by their contracts. -/
import Derived.Test.YtgadebfelomhpaaLiftBase
set_option linter.unusedVariables false
namespace Go.Proofs.Ytgadebfelomhpaa
open Go.RowKit

set_option maxHeartbeats 2000000 in
theorem second_any (k : Nat) (fr : Array Value) (hk : Enters Try.prog k) (g n c s : Nat) (w : World) (hs1 : s ≤ 1) (hn : n ≤ 1000) (I : Nat → World → Prop) (h0 : I 0 w)
    (hs : ∀ j m w1, m = s + 2 * j → m < n → I j w1 → ∃ x, w1.cell? ⟨g, m, none⟩ = some (.int .i64 x) ∧
      Calls Try.prog k (#[.int .i64 (m : Int), .int .i64 x] ++ fr) w1 fun e w2 => ∃ y u, e = .returned (.int .i64 y) ∧ w2.cell? ⟨g, m, none⟩ = some (.int .i64 u) ∧ w2.frozen? ⟨g, m, none⟩ = false ∧ I (j + 1) (w2.setCell ⟨g, m, none⟩ (.int .i64 y))) :
    Calls Try.prog 49 #[.slice (some ⟨g, 0, none⟩) n c, .int .i64 (s : Int), .func (.func k) #[] fr] w fun e w' => e = .returned (.tuple #[]) ∧ ∃ j, I j w' ∧ n ≤ s + 2 * j ∧ (j = 0 ∨ s + 2 * j < n + 2) := by
  have HS := Lib.hid hs
  clear hs
  go_enter Try.func49, Try.ntmps49
  go_wp2
  go_loopw [6] (fun i wr => ∃ j m : Nat, Hid (m = s + 2 * j) ∧ i = .int .i64 (m : Int) ∧ I j wr ∧ m ≤ n + 1 ∧ (j = 0 ∨ m < n + 2)) (fun i _ => n + 1 - (intOf i).toNat)
  case atStart =>
    by_cases h1 : s ≤ n + 1
    · exact ⟨0, s, by show _ = _; omega, rfl, h0, h1, Or.inl rfl⟩
    · exact absurd hs1 (by omega)
  case round =>
    obtain ⟨j, m, hm, rfl, hI, hm2, hj⟩ := hrel
    by_cases c1 : m < n
    · obtain ⟨x, f1, hc⟩ := HS.out j m wr hm.out c1 hI
      have HC := Lib.hid hc
      clear hc hI
      have c2 : (m : Int) < (n : Int) := by omega
      have c3 : (0 : Int) ≤ (m : Int) := by omega
      go_wp2_with fail
      rw [hk, Oper.upon_enter]
      refine HC.out.mono ?_
      rintro e w2 ⟨y, u, rfl, f2, f3, hI2⟩
      have HI := Lib.hid hI2
      clear HC hI2 f1
      go_wp2
      go_roundw
      case rel => exact ⟨j + 1, m + 2, by show _ = _; have := hm.out; omega, by go_num, HI.out, by omega, by omega⟩
      case measure => simp [intOf]; omega
    · go_wp2
      go_end0
      exact ⟨rfl, j, hI, by have := hm.out; omega, by have := hm.out; omega⟩

theorem enters50 : Enters Try.prog 50 := enters_of Try.func50 (by kernel_rfl) rfl
theorem enters51 : Enters Try.prog 51 := enters_of Try.func51 (by kernel_rfl) rfl
theorem enters52 : Enters Try.prog 52 := enters_of Try.func52 (by kernel_rfl) rfl
theorem enters54 : Enters Try.prog 54 := enters_of Try.func54 (by kernel_rfl) rfl
theorem enters55 : Enters Try.prog 55 := enters_of Try.func55 (by kernel_rfl) rfl
theorem enters56 : Enters Try.prog 56 := enters_of Try.func56 (by kernel_rfl) rfl

/-- What the captured variables hold. -/
def Env (w : World) (q pl pb g n c : Nat) : Prop :=
  w.cell? ⟨q, 0, none⟩ = some (.func (.func 57) #[] #[.pointer (some ⟨pl, 0, none⟩), .pointer (some ⟨pb, 0, none⟩)]) ∧
  w.cell? ⟨pl, 0, none⟩ = some (.int .i64 ((n : Int) - 1)) ∧ w.cell? ⟨pb, 0, none⟩ = some (.slice (some ⟨g, 0, none⟩) n c)
set_option maxHeartbeats 1000000 in
theorem predict_any (q pl pb g n c i : Nat) (x a b : Int) (w : World) (hn : 2 ≤ n) (hn2 : n ≤ 1000) (hi : i < n) (he : Env w q pl pb g n c)
    (ha : w.cell? ⟨g, loI i, none⟩ = some (.int .i64 a)) (hb : w.cell? ⟨g, hiI n i, none⟩ = some (.int .i64 b))
    (rx : -1099511627776 ≤ x ∧ x ≤ 1099511627776) (ra : -1099511627776 ≤ a ∧ a ≤ 1099511627776) (rb : -1099511627776 ≤ b ∧ b ≤ 1099511627776) :
    Calls Try.prog 50 #[.int .i64 (i : Int), .int .i64 x, .pointer (some ⟨q, 0, none⟩)] w fun e w' => e = .returned (.int .i64 (x - (a + b) / 2)) ∧ Drew w w' := by
  obtain ⟨h1, h2, h3⟩ := he
  have C := Lib.hid (around_any pl pb g n c i a b w hn hn2 hi h2 h3 ha hb ra rb)
  have s0 : -2199023255552 ≤ a + b ∧ a + b ≤ 2199023255552 := by omega
  obtain ⟨s, hs⟩ : ∃ s, a + b = s := ⟨_, rfl⟩
  rw [hs] at C s0 ⊢
  clear ha hb h2 h3 hs
  go_enter Try.func50, Try.ntmps50
  go_wp2_with fail
  refine C.out.mono ?_
  rintro e w' ⟨rfl, d⟩
  go_wp2
  go_ret
  exact ⟨ret_i64 (by first | rfl | omega), d⟩
set_option maxHeartbeats 1000000 in
theorem update_any (q pl pb g n c i : Nat) (x a b : Int) (w : World) (hn : 2 ≤ n) (hn2 : n ≤ 1000) (hi : i < n) (he : Env w q pl pb g n c)
    (ha : w.cell? ⟨g, loI i, none⟩ = some (.int .i64 a)) (hb : w.cell? ⟨g, hiI n i, none⟩ = some (.int .i64 b))
    (rx : -1099511627776 ≤ x ∧ x ≤ 1099511627776) (ra : -1099511627776 ≤ a ∧ a ≤ 1099511627776) (rb : -1099511627776 ≤ b ∧ b ≤ 1099511627776) :
    Calls Try.prog 51 #[.int .i64 (i : Int), .int .i64 x, .pointer (some ⟨q, 0, none⟩)] w fun e w' => e = .returned (.int .i64 (x + (a + b + 2) / 4)) ∧ Drew w w' := by
  obtain ⟨h1, h2, h3⟩ := he
  have C := Lib.hid (around_any pl pb g n c i a b w hn hn2 hi h2 h3 ha hb ra rb)
  have s0 : -2199023255552 ≤ a + b ∧ a + b ≤ 2199023255552 := by omega
  obtain ⟨s, hs⟩ : ∃ s, a + b = s := ⟨_, rfl⟩
  rw [hs] at C s0 ⊢
  clear ha hb h2 h3 hs
  go_enter Try.func51, Try.ntmps51
  go_wp2_with fail
  refine C.out.mono ?_
  rintro e w' ⟨rfl, d⟩
  go_wp2
  go_ret
  exact ⟨ret_i64 (by first | rfl | omega), d⟩
set_option maxHeartbeats 1000000 in
theorem unupdate_any (q pl pb g n c i : Nat) (x a b : Int) (w : World) (hn : 2 ≤ n) (hn2 : n ≤ 1000) (hi : i < n) (he : Env w q pl pb g n c)
    (ha : w.cell? ⟨g, loI i, none⟩ = some (.int .i64 a)) (hb : w.cell? ⟨g, hiI n i, none⟩ = some (.int .i64 b))
    (rx : -1099511627776 ≤ x ∧ x ≤ 1099511627776) (ra : -1099511627776 ≤ a ∧ a ≤ 1099511627776) (rb : -1099511627776 ≤ b ∧ b ≤ 1099511627776) :
    Calls Try.prog 55 #[.int .i64 (i : Int), .int .i64 x, .pointer (some ⟨q, 0, none⟩)] w fun e w' => e = .returned (.int .i64 (x - (a + b + 2) / 4)) ∧ Drew w w' := by
  obtain ⟨h1, h2, h3⟩ := he
  have C := Lib.hid (around_any pl pb g n c i a b w hn hn2 hi h2 h3 ha hb ra rb)
  have s0 : -2199023255552 ≤ a + b ∧ a + b ≤ 2199023255552 := by omega
  obtain ⟨s, hs⟩ : ∃ s, a + b = s := ⟨_, rfl⟩
  rw [hs] at C s0 ⊢
  clear ha hb h2 h3 hs
  go_enter Try.func55, Try.ntmps55
  go_wp2_with fail
  refine C.out.mono ?_
  rintro e w' ⟨rfl, d⟩
  go_wp2
  go_ret
  exact ⟨ret_i64 (by first | rfl | omega), d⟩
set_option maxHeartbeats 1000000 in
theorem unpredict_any (q pl pb g n c i : Nat) (x a b : Int) (w : World) (hn : 2 ≤ n) (hn2 : n ≤ 1000) (hi : i < n) (he : Env w q pl pb g n c)
    (ha : w.cell? ⟨g, loI i, none⟩ = some (.int .i64 a)) (hb : w.cell? ⟨g, hiI n i, none⟩ = some (.int .i64 b))
    (rx : -1099511627776 ≤ x ∧ x ≤ 1099511627776) (ra : -1099511627776 ≤ a ∧ a ≤ 1099511627776) (rb : -1099511627776 ≤ b ∧ b ≤ 1099511627776) :
    Calls Try.prog 56 #[.int .i64 (i : Int), .int .i64 x, .pointer (some ⟨q, 0, none⟩)] w fun e w' => e = .returned (.int .i64 (x + (a + b) / 2)) ∧ Drew w w' := by
  obtain ⟨h1, h2, h3⟩ := he
  have C := Lib.hid (around_any pl pb g n c i a b w hn hn2 hi h2 h3 ha hb ra rb)
  have s0 : -2199023255552 ≤ a + b ∧ a + b ≤ 2199023255552 := by omega
  obtain ⟨s, hs⟩ : ∃ s, a + b = s := ⟨_, rfl⟩
  rw [hs] at C s0 ⊢
  clear ha hb h2 h3 hs
  go_enter Try.func56, Try.ntmps56
  go_wp2_with fail
  refine C.out.mono ?_
  rintro e w' ⟨rfl, d⟩
  go_wp2
  go_ret
  exact ⟨ret_i64 (by first | rfl | omega), d⟩

/-- One parity's places turned by their neighbours. -/
def passF (h : Int → Int → Int) (s n : Nat) (r : Nat → Int) (i : Nat) : Int := if i % 2 = s then h (r i) (r (loI i) + r (hiI n i)) else r i
theorem lo_par {n s m : Nat} (hn : 2 ≤ n) (hm : m % 2 = s) (hmn : m < n) : loI m < n ∧ loI m % 2 ≠ s := by
  unfold loI; split <;> omega
theorem hi_par {n s m : Nat} (hn : 2 ≤ n) (hm : m % 2 = s) (hmn : m < n) : hiI n m < n ∧ hiI n m % 2 ≠ s := by
  unfold hiI; split <;> omega
theorem grown_drew {w w' : World} (d : Drew w w') (row : Option Nat) : w.grownBy w' row := by
  obtain ⟨n, rfl⟩ := d
  exact ⟨rfl, rfl, rfl, Nat.le_refl _, fun _ _ _ => rfl⟩

set_option maxHeartbeats 1000000 in
theorem pass_any (k : Nat) (hk : Enters Try.prog k) (h : Int → Int → Int) (q pl pb g n c s lo : Nat) (r : Nat → Int) (w : World) (hn : 2 ≤ n) (hn2 : n ≤ 1000) (hs1 : s ≤ 1)
    (hown : w.ownsRow lo 3 1 (.slice (some ⟨g, 0, none⟩) n c) n ((ranged r n).map (Value.int .i64))) (he : Env w q pl pb g n c) (hq : q ≠ g) (hpl : pl ≠ g) (hpb : pb ≠ g)
    (hr : ∀ i, i < n → -1099511627776 ≤ r i ∧ r i ≤ 1099511627776)
    (hc : ∀ i x a b w, i < n → Env w q pl pb g n c → w.cell? ⟨g, loI i, none⟩ = some (.int .i64 a) → w.cell? ⟨g, hiI n i, none⟩ = some (.int .i64 b) →
      -1099511627776 ≤ x ∧ x ≤ 1099511627776 → -1099511627776 ≤ a ∧ a ≤ 1099511627776 → -1099511627776 ≤ b ∧ b ≤ 1099511627776 →
      Calls Try.prog k #[.int .i64 (i : Int), .int .i64 x, .pointer (some ⟨q, 0, none⟩)] w fun e w' => e = .returned (.int .i64 (h x (a + b))) ∧ Drew w w') :
    Calls Try.prog 49 #[.slice (some ⟨g, 0, none⟩) n c, .int .i64 (s : Int), .func (.func k) #[] #[.pointer (some ⟨q, 0, none⟩)]] w fun e w' => e = .returned (.tuple #[]) ∧
      w'.ownsRow lo 3 1 (.slice (some ⟨g, 0, none⟩) n c) n ((ranged (passF h s n r) n).map (Value.int .i64)) ∧ w.grownBy w' (some g) := by
  refine (second_any k #[.pointer (some ⟨q, 0, none⟩)] hk g n c s w hs1 hn2 (fun j W => W.ownsRow lo 3 1 (.slice (some ⟨g, 0, none⟩) n c) n ((ranged (fun i => if i % 2 = s ∧ i < s + 2 * j then h (r i) (r (loI i) + r (hiI n i)) else r i) n).map (Value.int .i64)) ∧ w.grownBy W (some g)) ?_ ?_).mono ?_
  · refine ⟨?_, World.grownBy.refl w _⟩
    rw [ranged_congr (s := r) (fun i _ => if_neg (by omega))]
    exact hown
  · rintro j m w1 hm hmn ⟨ho, hg⟩
    have hp : m % 2 = s := by omega
    have hlo := lo_par hn hp hmn
    have hhi := hi_par hn hp hmn
    have cell : ∀ i, i < n → w1.cell? ⟨g, i, none⟩ = some (.int .i64 (if i % 2 = s ∧ i < s + 2 * j then h (r i) (r (loI i) + r (hiI n i)) else r i)) := fun i hi => by
      rw [ho.cellAt i (by omega), List.getElem?_map, ranged_get _ _ _ hi]; rfl
    have f0 := cell m hmn
    have f1 := cell _ hlo.1
    have f2 := cell _ hhi.1
    rw [if_neg (by omega)] at f0 f1 f2
    have he1 : Env w1 q pl pb g n c := ⟨hg.cell he.1 (by simpa using hq), hg.cell he.2.1 (by simpa using hpl), hg.cell he.2.2 (by simpa using hpb)⟩
    refine ⟨r m, f0, ?_⟩
    refine (hc m (r m) (r (loI m)) (r (hiI n m)) w1 hmn he1 f1 f2 (hr _ hmn) (hr _ hlo.1) (hr _ hhi.1)).mono ?_
    rintro e w2 ⟨rfl, d⟩
    have ho2 : w2.ownsRow lo 3 1 (.slice (some ⟨g, 0, none⟩) n c) n ((ranged (fun i => if i % 2 = s ∧ i < s + 2 * j then h (r i) (r (loI i) + r (hiI n i)) else r i) n).map (Value.int .i64)) := by
      obtain ⟨dn, rfl⟩ := d; exact ho
    have S := ho2.stored m (.int .i64 (h (r m) (r (loI m) + r (hiI n m))))
    refine ⟨_, r m, rfl, by obtain ⟨dn, rfl⟩ := d; exact f0, ho2.frozenAt m, ?_, (hg.trans (grown_drew d _)).trans S.2⟩
    have S1 := S.1
    rw [← List.map_set, ranged_set _ _ _ _ hmn] at S1
    rw [ranged_congr (fun i hi => ?_)]
    · exact S1
    · show (if i % 2 = s ∧ i < s + 2 * (j + 1) then h (r i) (r (loI i) + r (hiI n i)) else r i) = if i = m then h (r m) (r (loI m) + r (hiI n m)) else if i % 2 = s ∧ i < s + 2 * j then h (r i) (r (loI i) + r (hiI n i)) else r i
      by_cases e : i = m
      · subst e
        rw [if_pos ⟨hp, by omega⟩, if_pos rfl]
      · rw [if_neg e]
        by_cases c1 : i % 2 = s ∧ i < s + 2 * j
        · rw [if_pos c1, if_pos ⟨c1.1, by omega⟩]
        · rw [if_neg c1, if_neg (by omega)]
  · rintro e w' ⟨rfl, j, ⟨ho, hg⟩, hj, _⟩
    refine ⟨rfl, ?_, hg⟩
    rw [ranged_congr (s := passF h s n r) (fun i hi => ?_)] at ho
    · exact ho
    · unfold passF
      by_cases c1 : i % 2 = s
      · rw [if_pos ⟨c1, by omega⟩, if_pos c1]
      · rw [if_neg (by omega), if_neg c1]
end Go.Proofs.Ytgadebfelomhpaa
