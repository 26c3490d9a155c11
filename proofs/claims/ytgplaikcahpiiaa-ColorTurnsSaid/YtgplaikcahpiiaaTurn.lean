/- Turn, Back, Shift, Unshift of package color, by their contracts. -/
import Derived.Test.YtgplaikcahpiiaaColor
set_option linter.unusedVariables false
namespace Go.Proofs.Ytgplaikcahpiiaa
open Go.RowKit

def turnF (a b c : Int) : Int := (a + 2 * b + c) / 4
def backF (a b c : Int) : Int := a - (b + c) / 4
def subF (a b : Int) : Int := a - b
def addF (a b : Int) : Int := a + b

set_option maxHeartbeats 1000000 in
theorem turn_any {A B C : Option Addr} {n ca cb cc : Nat} {a b c : List Int} {w : World} (ha : RowI w A n ca a) (hb : RowI w B n cb b) (hc : RowI w C n cc c) (hn : n ≤ 1000)
    (ra : Rng 1099511627776 a) (rb : Rng 1099511627776 b) (rc : Rng 1099511627776 c) :
    Calls Try.prog 20 #[.slice A n ca, .slice B n cb, .slice C n cc] w fun e w' => ∃ A1 c1 A2 c2 A3 c3, e = .returned (.tuple #[.slice A1 n c1, .slice A2 n c2, .slice A3 n c3]) ∧
      RowI w' A1 n c1 (map3 turnF a b c n) ∧ RowI w' A2 n c2 (map2 subF c b n) ∧ RowI w' A3 n c3 (map2 subF a b n) ∧ Below w.heap.size w w' := by
  have HA := Lib.hid (And.intro ha ra)
  have HB := Lib.hid (And.intro hb rb)
  have HC := Lib.hid (And.intro hc rc)
  clear ha hb hc ra rb rc
  go_enter Try.func20, Try.ntmps20
  go_wp2_with fail
  refine (each_new 31 #[] (fun xs => turnF (xs.getD 0 0) (xs.getD 1 0) (xs.getD 2 0)) w _ [(A, ca, a), (B, cb, b), (C, cc, c)] n 3 rfl (by omega) (by omega) hn enters31 (by rfl) ?_ ?_).mono ?_
  · intro p hp
    simp only [List.mem_cons, List.not_mem_nil, or_false] at hp
    rcases hp with rfl | rfl | rfl
    · exact HA.out.1
    · exact HB.out.1
    · exact HC.out.1
  · intro i x w1 hi hb hx
    exact turn1_any x (a.getD i 0) (b.getD i 0) (c.getD i 0) w1 (HA.out.2 i) (HB.out.2 i) (HC.out.2 i) (hx 0 _ rfl) (hx 1 _ rfl) (hx 2 _ rfl)
  rintro e w1 ⟨A1, c1, rfl, h1, d1⟩
  go_wp2_with fail
  refine (each_new 32 #[] (fun xs => subF (xs.getD 0 0) (xs.getD 1 0)) w1 _ [(C, cc, c), (B, cb, b)] n 2 rfl (by omega) (by omega) hn enters32 (by rfl) ?_ ?_).mono ?_
  · intro p hp
    simp only [List.mem_cons, List.not_mem_nil, or_false] at hp
    rcases hp with rfl | rfl
    · exact HC.out.1.keep d1 (Nat.le_refl _)
    · exact HB.out.1.keep d1 (Nat.le_refl _)
  · intro i x w1 hi hb hx
    exact minus_any x (c.getD i 0) (b.getD i 0) w1 (HC.out.2 i) (HB.out.2 i) (hx 0 _ rfl) (hx 1 _ rfl)
  rintro e w2 ⟨A2, c2, rfl, h2, d2⟩
  have d12 := d1.trans (d2.mono d1.size)
  go_wp2_with fail
  refine (each_new 32 #[] (fun xs => subF (xs.getD 0 0) (xs.getD 1 0)) w2 _ [(A, ca, a), (B, cb, b)] n 2 rfl (by omega) (by omega) hn enters32 (by rfl) ?_ ?_).mono ?_
  · intro p hp
    simp only [List.mem_cons, List.not_mem_nil, or_false] at hp
    rcases hp with rfl | rfl
    · exact HA.out.1.keep d12 (Nat.le_refl _)
    · exact HB.out.1.keep d12 (Nat.le_refl _)
  · intro i x w1 hi hb hx
    exact minus_any x (a.getD i 0) (b.getD i 0) w1 (HA.out.2 i) (HB.out.2 i) (hx 0 _ rfl) (hx 1 _ rfl)
  rintro e w3 ⟨A3, c3, rfl, h3, d3⟩
  go_wp2
  go_ret3
  exact ⟨A1, c1, A2, c2, A3, c3, rfl, (h1.keep d2 (Nat.le_refl _)).keep d3 (Nat.le_refl _), h2.keep d3 (Nat.le_refl _), h3, d12.trans (d3.mono d12.size)⟩

set_option maxHeartbeats 1000000 in
theorem back_any {A B C : Option Addr} {n ca cb cc : Nat} {a b c : List Int} {w : World} (ha : RowI w A n ca a) (hb : RowI w B n cb b) (hc : RowI w C n cc c) (hn : n ≤ 1000)
    (ra : Rng 268435456 a) (rb : Rng 268435456 b) (rc : Rng 268435456 c) :
    Calls Try.prog 22 #[.slice A n ca, .slice B n cb, .slice C n cc] w fun e w' => ∃ A1 c1 A2 c2 A3 c3, e = .returned (.tuple #[.slice A1 n c1, .slice A2 n c2, .slice A3 n c3]) ∧
      RowI w' A1 n c1 (map2 addF c (map3 backF a b c n) n) ∧ RowI w' A2 n c2 (map3 backF a b c n) ∧ RowI w' A3 n c3 (map2 addF b (map3 backF a b c n) n) ∧ Below w.heap.size w w' := by
  have HA := Lib.hid (And.intro ha ra)
  have HB := Lib.hid (And.intro hb rb)
  have HC := Lib.hid (And.intro hc rc)
  have rg : Rng 1099511627776 (map3 backF a b c n) := by
    intro i
    have h1 := ra i; have h2 := rb i; have h3 := rc i
    unfold map3
    rw [List.getD_eq_getElem?_getD, List.getElem?_map]
    rcases Nat.lt_or_ge i n with h | h
    · rw [List.getElem?_range h]
      show _ ≤ backF _ _ _ ∧ backF _ _ _ ≤ _
      unfold backF
      omega
    · rw [List.getElem?_eq_none (by simpa using h)]
      simp
  obtain ⟨g, hg⟩ : ∃ g, map3 backF a b c n = g := ⟨_, rfl⟩
  rw [hg] at rg ⊢
  have HG := Lib.hid rg
  have HGe := Lib.hid hg
  clear ha hb hc ra rb rc rg hg
  go_enter Try.func22, Try.ntmps22
  go_wp2_with fail
  refine (each_new 33 #[] (fun xs => backF (xs.getD 0 0) (xs.getD 1 0) (xs.getD 2 0)) w _ [(A, ca, a), (B, cb, b), (C, cc, c)] n 3 rfl (by omega) (by omega) hn enters33 (by rfl) ?_ ?_).mono ?_
  · intro p hp
    simp only [List.mem_cons, List.not_mem_nil, or_false] at hp
    rcases hp with rfl | rfl | rfl
    · exact HA.out.1
    · exact HB.out.1
    · exact HC.out.1
  · intro i x w1 hi hb hx
    exact back1_any x (a.getD i 0) (b.getD i 0) (c.getD i 0) w1 (by have := HA.out.2 i; omega) (by have := HB.out.2 i; omega) (by have := HC.out.2 i; omega) (hx 0 _ rfl) (hx 1 _ rfl) (hx 2 _ rfl)
  rintro e w1 ⟨A1, c1, rfl, h1, d1⟩
  change RowI w1 A1 n c1 (map3 backF a b c n) at h1
  rw [HGe.out] at h1
  go_wp2_with fail
  refine (each_new 34 #[] (fun xs => addF (xs.getD 0 0) (xs.getD 1 0)) w1 _ [(C, cc, c), (A1, c1, g)] n 2 rfl (by omega) (by omega) hn enters34 (by rfl) ?_ ?_).mono ?_
  · intro p hp
    simp only [List.mem_cons, List.not_mem_nil, or_false] at hp
    rcases hp with rfl | rfl
    · exact HC.out.1.keep d1 (Nat.le_refl _)
    · exact h1
  · intro i x w1 hi hb hx
    exact plus_any x (c.getD i 0) (g.getD i 0) w1 (by have := HC.out.2 i; omega) (HG.out i) (hx 0 _ rfl) (hx 1 _ rfl)
  rintro e w2 ⟨A2, c2, rfl, h2, d2⟩
  have d12 := d1.trans (d2.mono d1.size)
  have h12 := h1.keep d2 (Nat.le_refl _)
  go_wp2_with fail
  refine (each_new 34 #[] (fun xs => addF (xs.getD 0 0) (xs.getD 1 0)) w2 _ [(B, cb, b), (A1, c1, g)] n 2 rfl (by omega) (by omega) hn enters34 (by rfl) ?_ ?_).mono ?_
  · intro p hp
    simp only [List.mem_cons, List.not_mem_nil, or_false] at hp
    rcases hp with rfl | rfl
    · exact HB.out.1.keep d12 (Nat.le_refl _)
    · exact h12
  · intro i x w1 hi hb hx
    exact plus_any x (b.getD i 0) (g.getD i 0) w1 (by have := HB.out.2 i; omega) (HG.out i) (hx 0 _ rfl) (hx 1 _ rfl)
  rintro e w3 ⟨A3, c3, rfl, h3, d3⟩
  go_wp2
  go_ret3
  exact ⟨A2, c2, A1, c1, A3, c3, rfl, h2.keep d3 (Nat.le_refl _), h12.keep d3 (Nat.le_refl _), h3, d12.trans (d3.mono d12.size)⟩

theorem allowed_yes (d : Int) (w : World) (h : 1 ≤ d ∧ d ≤ 16) : Calls Try.prog 26 #[.int .i64 d] w fun e w' => e = .returned (.bool true) ∧ w = w' := by
  obtain ⟨h1, h2⟩ := h
  go_enter Try.func26, Try.ntmps26
  go_wp2
  go_ret
  exact ⟨rfl, rfl⟩

def levelF (d : Nat) (s : Bool) : Int := if s then 0 else 2 ^ (d - 1)
theorem pow_in (d : Nat) (h : 1 ≤ d) (h2 : d ≤ 16) : (1 : Int) ≤ 2 ^ (d - 1) ∧ (2 : Int) ^ (d - 1) ≤ 32768 ∧ (2 : Int) ^ d = 2 * 2 ^ (d - 1) := by
  obtain ⟨k, rfl⟩ : ∃ k, d = k + 1 := ⟨d - 1, by omega⟩
  have e : (2 : Int) ^ k = ((2 ^ k : Nat) : Int) := by simp
  have h3 : (2 : Nat) ^ k ≤ 2 ^ 15 := Nat.pow_le_pow_right (by decide) (by omega)
  have h4 : 1 ≤ (2 : Nat) ^ k := Nat.one_le_two_pow
  rw [show k + 1 - 1 = k from by omega, Int.pow_succ]
  omega
theorem level_rng (d : Nat) (s : Bool) (h : 1 ≤ d) (h2 : d ≤ 16) : 0 ≤ levelF d s ∧ levelF d s ≤ 32768 := by
  have := pow_in d h h2
  cases s
  · show 0 ≤ (2 : Int) ^ (d - 1) ∧ (2 : Int) ^ (d - 1) ≤ 32768; omega
  · show (0 : Int) ≤ 0 ∧ (0 : Int) ≤ 32768; omega
set_option maxHeartbeats 1000000 in
theorem level_any (d : Nat) (s : Bool) (w : World) (h : 1 ≤ d) (h2 : d ≤ 16) : Calls Try.prog 27 #[.int .i64 d, .bool s] w fun e w' => e = .returned (.int .i64 (levelF d s)) ∧ w = w' := by
  have hp := pow_in d h h2
  have hw : wrap64 (2 ^ (d - 1)) = 2 ^ (d - 1) := IntWalk.wrap64_in _ (by omega)
  have HW := Lib.hid hw
  clear hw hp
  cases s
  · go_enter Try.func27, Try.ntmps27
    go_wp2
    go_ret
    exact ⟨ret_i64 HW.out, rfl⟩
  · go_enter Try.func27, Try.ntmps27
    go_wp2
    go_ret
    exact ⟨rfl, rfl⟩

set_option maxHeartbeats 1000000 in
theorem shift_any {A : Option Addr} {n c : Nat} {l : List Int} {w : World} (d : Nat) (s : Bool) (hd : 1 ≤ d) (hd2 : d ≤ 16) (h : RowI w A n c l) (hn : n ≤ 1000) (hr : Rng 1073741824 l) :
    Calls Try.prog 15 #[.int .i64 d, .bool s, .slice A n c] w fun e w' => ∃ A' c', e = .returned (.slice A' n c') ∧ RowI w' A' n c' (map1 (· - levelF d s) l n) ∧ Below w.heap.size w w' := by
  have H := Lib.hid (And.intro h hr)
  have hl := level_rng d s hd hd2
  obtain ⟨p, hp⟩ : ∃ p, levelF d s = p := ⟨_, rfl⟩
  rw [hp] at hl ⊢
  have HP := Lib.hid hp
  clear h hr hp
  go_enter Try.func15, Try.ntmps15
  go_wp2_with fail
  refine (allowed_yes _ _ (by omega)).mono ?_
  rintro e w' ⟨rfl, rfl⟩
  go_wp2_with fail
  refine (level_any d s _ hd hd2).mono ?_
  rintro e w' ⟨he, rfl⟩
  rw [HP.out] at he
  subst he
  have hc0 : (w.alloc (Obj.cells #[.int .i64 p] 3)).cell? ⟨w.heap.size, 0, none⟩ = some (.int .i64 p) := by rw [World.cell?_alloc_new]; rfl
  have HC0 := Lib.hid hc0
  clear hc0
  go_wp2_with fail
  have hb0 : Below w.heap.size w (w.alloc (Obj.cells #[.int .i64 p] 3)) := (Below.refl _ _).alloc (Nat.le_refl _) _
  refine (each_new 29 #[.pointer (some ⟨w.heap.size, 0, none⟩)] (fun xs => xs.getD 0 0 - p) (w.alloc (Obj.cells #[.int .i64 p] 3)) _ [(A, c, l)] n 1 rfl (by omega) (by omega) hn enters29 (by simp) ?_ ?_).mono ?_
  · intro q hq
    simp only [List.mem_cons, List.not_mem_nil, or_false] at hq
    subst hq
    exact H.out.1.keep hb0 (Nat.le_refl _)
  · intro i x w1 hi hb hx
    exact shift1_any x _ (l.getD i 0) p w1 (by have := H.out.2 i; omega) (by omega) (hx 0 _ rfl) ((hb.cell (by simp)).trans HC0.out)
  rintro e w2 ⟨A2, c2, rfl, h2, d2⟩
  go_wp2
  go_ret
  exact ⟨A2, c2, rfl, h2, hb0.trans (d2.mono hb0.size)⟩

def unF (d : Nat) (s : Bool) (x : Int) : Int := max (levelF d s - 2 ^ (d - 1)) (min (levelF d s - 2 ^ (d - 1) + 2 ^ d - 1) (x + levelF d s))
theorem lo_is (d : Nat) (p : Int) (hd : 1 ≤ d) (hd2 : d ≤ 16) (hp : 0 ≤ p ∧ p ≤ 32768) : wrap64 (p - wrap64 (2 ^ (d - 1))) = p - 2 ^ (d - 1) := by
  have h := pow_in d hd hd2
  rw [IntWalk.wrap64_in (2 ^ (d - 1)) (by omega), IntWalk.wrap64_in _ (by omega)]
theorem hi_is (d : Nat) (p : Int) (hd : 1 ≤ d) (hd2 : d ≤ 16) (hp : 0 ≤ p ∧ p ≤ 32768) : wrap64 (wrap64 (wrap64 (p - wrap64 (2 ^ (d - 1))) + wrap64 (2 ^ d)) - 1) = p - 2 ^ (d - 1) + 2 ^ d - 1 := by
  have h := pow_in d hd hd2
  rw [lo_is d p hd hd2 hp, IntWalk.wrap64_in (2 ^ d) (by omega), IntWalk.wrap64_in (p - 2 ^ (d - 1) + 2 ^ d) (by omega), IntWalk.wrap64_in _ (by omega)]
set_option maxHeartbeats 1000000 in
theorem unshift_any {A : Option Addr} {n c : Nat} {l : List Int} {w : World} (d : Nat) (s : Bool) (hd : 1 ≤ d) (hd2 : d ≤ 16) (h : RowI w A n c l) (hn : n ≤ 1000) (hr : Rng 1073741824 l) :
    Calls Try.prog 17 #[.int .i64 d, .bool s, .slice A n c] w fun e w' => ∃ A' c', e = .returned (.slice A' n c') ∧ RowI w' A' n c' (map1 (unF d s) l n) ∧ Below w.heap.size w w' := by
  have H := Lib.hid (And.intro h hr)
  have hl := level_rng d s hd hd2
  have HLO := Lib.hid (lo_is d (levelF d s) hd hd2 hl)
  have HHI := Lib.hid (hi_is d (levelF d s) hd hd2 hl)
  have hu : unF d s = fun x => max (levelF d s - 2 ^ (d - 1)) (min (levelF d s - 2 ^ (d - 1) + 2 ^ d - 1) (x + levelF d s)) := rfl
  rw [hu]
  obtain ⟨p, hpp⟩ : ∃ p, levelF d s = p := ⟨_, rfl⟩
  rw [hpp] at hl HLO HHI ⊢
  obtain ⟨lo, hlo⟩ : ∃ lo, p - 2 ^ (d - 1) = lo := ⟨_, rfl⟩
  rw [hlo] at HLO HHI ⊢
  obtain ⟨hi, hhi⟩ : ∃ hi, lo + 2 ^ d - 1 = hi := ⟨_, rfl⟩
  rw [hhi, HLO.out] at HHI
  rw [hhi]
  have HP := Lib.hid hpp
  clear h hr hu hpp hlo hhi
  go_enter Try.func17, Try.ntmps17
  go_wp2_with fail
  refine (allowed_yes _ _ (by omega)).mono ?_
  rintro e w' ⟨rfl, rfl⟩
  go_wp2_with fail
  refine (level_any d s _ hd hd2).mono ?_
  rintro e w' ⟨he, rfl⟩
  rw [HP.out] at he
  subst he
  go_wp2
  go_region
  rw [HLO.out]
  go_wp2
  go_region
  go_wp2_with fail
  rw [HHI.out]
  obtain ⟨W, hW⟩ : ∃ W, (((w.alloc (Obj.cells #[.int .i64 p] 3)).alloc (Obj.cells #[.int .i64 lo] 3)).alloc (Obj.cells #[.int .i64 hi] 3)).drew.drew = W := ⟨_, rfl⟩
  have hb0 : Below w.heap.size w W := by
    rw [← hW]; exact below_drewN (((((Below.refl _ _).alloc (Nat.le_refl _) _).alloc (by simp) _).alloc (by simp; omega) _)) 2
  have hs : W.heap.size = w.heap.size + 1 + 1 + 1 := by rw [← hW]; show Array.size (Array.push (Array.push (Array.push w.heap _) _) _) = _; rw [Array.size_push, Array.size_push, Array.size_push]
  have g1 : W.cell? ⟨w.heap.size, 0, none⟩ = some (.int .i64 p) := by
    rw [← hW]
    show (((w.alloc (Obj.cells #[.int .i64 p] 3)).alloc (Obj.cells #[.int .i64 lo] 3)).alloc (Obj.cells #[.int .i64 hi] 3)).cell? _ = _
    rw [World.cell?_alloc_past _ _ _ (by simp; omega), World.cell?_alloc_past _ _ _ (by simp), World.cell?_alloc_new]; rfl
  have g2 : W.cell? ⟨w.heap.size + 1, 0, none⟩ = some (.int .i64 lo) := by
    rw [← hW]
    show (((w.alloc (Obj.cells #[.int .i64 p] 3)).alloc (Obj.cells #[.int .i64 lo] 3)).alloc (Obj.cells #[.int .i64 hi] 3)).cell? _ = _
    rw [World.cell?_alloc_past _ _ _ (by simp), World.cell?_alloc_at _ _ _ _ (by simp)]; rfl
  have g3 : W.cell? ⟨w.heap.size + 1 + 1, 0, none⟩ = some (.int .i64 hi) := by
    rw [← hW]
    show (((w.alloc (Obj.cells #[.int .i64 p] 3)).alloc (Obj.cells #[.int .i64 lo] 3)).alloc (Obj.cells #[.int .i64 hi] 3)).cell? _ = _
    rw [World.cell?_alloc_at _ _ _ _ (by simp)]; rfl
  have E := each_new 30 #[.pointer (some ⟨w.heap.size + 1, 0, none⟩), .pointer (some ⟨w.heap.size + 1 + 1, 0, none⟩), .pointer (some ⟨w.heap.size, 0, none⟩)] (fun xs => max lo (min hi (xs.getD 0 0 + p))) W (w.heap.size + 1 + 1 + 1) [(A, c, l)] n 1 rfl (by omega) (by omega) hn enters30 hs.symm
    (by
      intro q hq
      simp only [List.mem_cons, List.not_mem_nil, or_false] at hq
      subst hq
      exact H.out.1.keep hb0 (Nat.le_refl _))
    (by
      intro i x w1 hi' hb hx
      exact unshift1_any x _ _ _ (l.getD i 0) p lo hi w1 (by have := H.out.2 i; omega) (by omega) (hx 0 _ rfl) ((hb.cell (show w.heap.size + 1 < W.heap.size by omega)).trans g2) ((hb.cell (show w.heap.size + 1 + 1 < W.heap.size by omega)).trans g3) ((hb.cell (show w.heap.size < W.heap.size by omega)).trans g1))
  rw [← hW] at E
  refine E.mono ?_
  rw [hW]
  rintro e w2 ⟨A2, c2, rfl, h2, d2⟩
  go_wp2
  go_ret
  exact ⟨A2, c2, rfl, h2, hb0.trans (d2.mono hb0.size)⟩
end Go.Proofs.Ytgplaikcahpiiaa
