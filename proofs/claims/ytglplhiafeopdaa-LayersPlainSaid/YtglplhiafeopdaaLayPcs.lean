/- The iterator pieces: what it yields, and its contract. -/
import Derived.Test.YtglplhiafeopdaaLayEnds
import Derived.Test.YtglplhiafeopdaaMem
import Derived.RangeFuncBox
import Derived.RangeFuncLeaves
import Derived.Shelf.Abstract
import Derived.OwnWalkIn
import Derived.TacticsInMore
import Derived.LoopNIn
import Derived.LoopIn
set_option linter.unusedVariables false
namespace Go.Proofs.Ytglplhiafeopdaa
open Go.RowKit Go.Shelf

attribute [local go_sem] Oper.semAt_some

/-- The pieces after m passes from f on, and where the next one begins. -/
def pcs (s f t : Int) : Nat → List (Int × Int) × Int
  | 0 => ([], f)
  | m + 1 => if f + m < t - 1 ∧ endsF s (f + m) = false then pcs s f t m else ((pcs s f t m).1 ++ [((pcs s f t m).2, f + m + 1)], f + m + 1)
theorem pcs_on {s f t : Int} {m : Nat} (h : f + m < t - 1) (h' : endsF s (f + m) = false) : pcs s f t (m + 1) = pcs s f t m := by
  rw [pcs, if_pos ⟨h, h'⟩]
theorem pcs_cut {s f t : Int} {m : Nat} (h : ¬ (f + m < t - 1 ∧ endsF s (f + m) = false)) : pcs s f t (m + 1) = ((pcs s f t m).1 ++ [((pcs s f t m).2, f + m + 1)], f + m + 1) := by
  rw [pcs, if_neg h]
theorem pcs_len (s f t : Int) (m : Nat) : (pcs s f t m).1.length ≤ m := by
  induction m with
  | zero => simp [pcs]
  | succ m ih =>
    rw [pcs]
    split
    · omega
    · simp; omega
theorem pcs_bd (s f t : Int) (m : Nat) : f ≤ (pcs s f t m).2 ∧ (pcs s f t m).2 ≤ f + m := by
  induction m with
  | zero => simp [pcs]
  | succ m ih =>
    rw [pcs]
    split
    · omega
    · show f ≤ f + m + 1 ∧ f + m + 1 ≤ f + ((m + 1 : Nat) : Int); omega
/-- Each piece lies within. -/
theorem pcs_in (s f t : Int) (m : Nat) : ∀ p ∈ (pcs s f t m).1, f ≤ p.1 ∧ p.1 < p.2 ∧ p.2 ≤ f + m := by
  induction m with
  | zero => simp [pcs]
  | succ m ih =>
    rw [pcs]
    have hb := pcs_bd s f t m
    intro p hp
    split at hp
    · have := ih p hp; omega
    · rcases List.mem_append.1 hp with hp | hp
      · have := ih p hp; omega
      · simp only [List.mem_singleton] at hp; subst hp; show f ≤ (pcs s f t m).2 ∧ (pcs s f t m).2 < f + m + 1 ∧ f + m + 1 ≤ f + ((m + 1 : Nat) : Int); omega

/-- The three boxes that the iterator reads are as they were. -/
def Keep3 (b : Nat) (W W' : World) : Prop := ∀ k, k ≤ 2 → W'.cell? ⟨b + k, 0, none⟩ = W.cell? ⟨b + k, 0, none⟩
theorem Keep3.refl (b : Nat) (W : World) : Keep3 b W W := fun _ _ => rfl
theorem Keep3.trans {b : Nat} {A B C : World} (h : Keep3 b A B) (k : Keep3 b B C) : Keep3 b A C := fun i hi => (k i hi).trans (h i hi)
abbrev encP (p : Int × Int) : Array Value := #[.int .i64 p.1, .int .i64 p.2]

set_option maxRecDepth 100000 in
set_option maxHeartbeats 2000000 in
theorem pieces1_in (n : Nat) (hn : 3 ≤ n) (l b : Nat) (s f t : Int) (hf : 0 ≤ f) (hft : f ≤ t) (ht : t ≤ 1000) (hs : -9223372036854775808 ≤ s ∧ s ≤ 9223372036854775807)
    (J Jx : List (Int × Int) → World → Prop)
    (hY : ∀ pre x W, J pre W → (0 ≤ x.1 ∧ x.1 < x.2 ∧ x.2 ≤ t) → pre.length < (t - f).toNat → YieldAt Fence.wide (n - 1) Try.prog l (encP x) W fun e W' =>
      (e = .returned (.bool true) ∧ J (pre ++ [x]) W' ∧ Keep3 b W W') ∨ (e = .returned (.bool false) ∧ Jx (pre ++ [x]) W'))
    (W : World) (cf : W.cell? ⟨b + 1, 0, none⟩ = some (.int .i64 f)) (ct : W.cell? ⟨b + 2, 0, none⟩ = some (.int .i64 t)) (cs : W.cell? ⟨b, 0, none⟩ = some (.int .i64 s)) (h0 : J [] W) :
    CallsIn Fence.wide n Try.prog 22 #[.func (.yield l) #[] #[], .pointer (some ⟨b + 1, 0, none⟩), .pointer (some ⟨b + 2, 0, none⟩), .pointer (some ⟨b, 0, none⟩)] W fun e W' => (∃ v, e = .returned v) ∧
      ((∃ ys, ys = (pcs s f t (t - f).toNat).1 ∧ J ys W') ∨ (∃ pre, True ∧ Jx pre W')) := by
  have hF : Fence.wide.fn 15 := trivial
  have h1 : 1 ≤ n := by omega
  have CF := Lib.hid cf
  have CT := Lib.hid ct
  have CS := Lib.hid cs
  clear ct cs
  refine callsIn_of_wp Try.func22 rfl trivial ?_ rfl
  simp only [Try.ntmps22, List.size_toArray, List.length_cons, List.length_nil, Nat.reduceAdd, Nat.reduceSub, Array.replicate_succ, Array.replicate_zero, List.push_toArray, List.append_toArray, List.nil_append, List.cons_append]
  gi_wp2
  clear cf
  gi_loopw [5, 6] (fun fi k wr => ∃ (m : Nat) (q : Int), f + m ≤ t ∧ k = .int .i64 (f + m) ∧ fi = .int .i64 q ∧ q = (pcs s f t m).2 ∧ J (pcs s f t m).1 wr ∧ Keep3 b W wr)
    (fun _ k _ => (t - intOf k).toNat)
  case atStart => exact ⟨0, f, by omega, by simp, rfl, rfl, h0, Keep3.refl _ _⟩
  case round =>
    obtain ⟨m, q, hm, rfl, rfl, hq, hJs, hnx⟩ := hrel
    have ct := (hnx 2 (by omega)).trans CT.out
    have cs : wr.cell? ⟨b, 0, none⟩ = some (.int .i64 s) := (hnx 0 (by omega)).trans CS.out
    have hqb := pcs_bd s f t m
    rw [← hq] at hqb
    have HQ := Lib.hid hq
    have hlen := pcs_len s f t m
    have HN := Lib.hid hnx
    clear hq hnx
    by_cases hlt : f + m < t
    · by_cases c : f + m < t - 1 ∧ endsF s (f + m) = false
      · have HS := Lib.hid (pcs_on c.1 c.2)
        obtain ⟨c1, c2⟩ := c
        gi_wp2_with (gi_at_call 15; refine (callsIn_wide.2 (lends_same _ _ _ (by omega))).mono ?_; rintro e w' ⟨rfl, rfl⟩)
        go_roundw
        case rel => exact ⟨m + 1, q, by push_cast; omega, by push_cast; go_num, rfl, by rw [HS.out]; exact HQ.out, by rw [HS.out]; exact hJs, HN.out⟩
        case measure => simp [intOf]; omega
      · have HS := Lib.hid (pcs_cut c)
        obtain ⟨fn, tmps, assign, body, hy, hR⟩ := hY _ (q, f + m + 1) wr hJs ⟨show 0 ≤ q by omega, show q < f + m + 1 by omega, show f + m + 1 ≤ t by omega⟩ (by omega)
        dsimp only [encP] at hy
        have HJ := Lib.hid hJs
        clear hJs
        by_cases c1 : f + m < t - 1
        · have c2 : endsF s (f + m) = true := by
            cases h : endsF s (f + m)
            · exact absurd ⟨c1, h⟩ c
            · rfl
          have C := Lib.hid c
          clear c
          gi_wp2_with (gi_at_call 15; refine (callsIn_wide.2 (lends_same _ _ _ (by omega))).mono ?_; rintro e w' ⟨rfl, rfl⟩)
          refine hR.mono ?_
          rintro e W3 (⟨rfl, hJ3, hk3⟩ | ⟨rfl, hJx3⟩)
          · have HK3 := Lib.hid hk3
            clear hk3
            gi_wp2
            go_roundw
            case rel => exact ⟨m + 1, _, by push_cast; omega, by push_cast; go_num, rfl, by rw [HS.out], by rw [HS.out, ← HQ.out]; exact hJ3, HN.out.trans HK3.out⟩
            case measure => simp [intOf]; omega
          · gi_wp2
            refine bodyPost_ret (results_none rfl _ _ _) rfl ?_
            exact ⟨⟨_, rfl⟩, .inr ⟨_, trivial, hJx3⟩⟩
        · have C := Lib.hid c
          clear c
          gi_wp2
          refine hR.mono ?_
          rintro e W3 (⟨rfl, hJ3, hk3⟩ | ⟨rfl, hJx3⟩)
          · have HK3 := Lib.hid hk3
            clear hk3
            gi_wp2
            go_roundw
            case rel => exact ⟨m + 1, _, by push_cast; omega, by push_cast; go_num, rfl, by rw [HS.out], by rw [HS.out, ← HQ.out]; exact hJ3, HN.out.trans HK3.out⟩
            case measure => simp [intOf]; omega
          · gi_wp2
            refine bodyPost_ret (results_none rfl _ _ _) rfl ?_
            exact ⟨⟨_, rfl⟩, .inr ⟨_, trivial, hJx3⟩⟩
    · obtain rfl : f + m = t := by omega
      gi_wp2
      go_end0
      exact ⟨⟨_, rfl⟩, .inl (by rw [show (f + (m : Int) - f).toNat = m by omega]; exact hJs)⟩

theorem pieces_any (s f t : Int) (w : World) :
    Calls Try.prog 18 #[.int .i64 s, .int .i64 f, .int .i64 t] w fun e w' => e = .returned (.func (.func 22) #[] #[.pointer (some ⟨w.heap.size + 1, 0, none⟩), .pointer (some ⟨w.heap.size + 2, 0, none⟩), .pointer (some ⟨w.heap.size, 0, none⟩)]) ∧
      w' = ((w.alloc (.cells #[.int .i64 s] 3)).alloc (.cells #[.int .i64 f] 3)).alloc (.cells #[.int .i64 t] 3) := by
  go_enter Try.func18, Try.ntmps18
  go_wp2
  go_ret
  exact ⟨rfl, rfl⟩

end Go.Proofs.Ytglplhiafeopdaa
