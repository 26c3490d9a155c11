/- The statement BytesFails of chapter 1, walked. -/
import Derived.Test.YtcpgfekldkbcbaaBytesLaws
set_option linter.unusedVariables false
namespace Go.Proofs.Ytcpgfekldkbcbaa
open Go.RowKit

set_option maxHeartbeats 2000000 in
theorem walk_bytesFails (a0 : Option Addr) (len0 cap0 : Nat) (z0 : List Int) (a1 : Int) (a2 : Int) (w : World) (w0 : IsRow .u8 w a0 len0 cap0 z0) (w1 : (Lit.int .i64 a1).wf = true) (w2 : (Lit.int .i64 a2).wf = true) (r0 : cap0 * 1 ≤ 140737488351232) :
    Calls Try.prog 9 #[.slice a0 len0 cap0, .int .i64 a1, .int .i64 a2] w fun e w' => e = .returned (.bool true) ∧ Below w.heap.size w w' := by
  have hl := lst_of_row w0
  obtain ⟨hlen, hlc, hcm, hnil⟩ := row_len w0
  clear w0 w1 w2
  generalize hz : z0.take len0 = l at *
  clear hz
  unfold maxLen at hcm
  have HL := Lib.hid hl
  have HLen := Lib.hid hlen
  have HNil := Lib.hid hnil
  have LL : Hid (l.length ≤ 140737488351232) := by show _ ≤ _; omega
  clear hl hlen hnil
  go_enter Try.func9, Try.ntmps9
  go_wp2_with fail
  refine (known1 _).mono ?_
  rintro e w1 ⟨rfl, h1⟩
  have s1 := h1.size
  go_wp2_with fail
  refine (some1 _ _ _ (by omega) (by omega)).mono ?_
  rintro e w' ⟨u, rfl, u0, u1, rfl⟩
  go_wp2_with fail
  refine (some1 _ _ _ (by omega) (by omega)).mono ?_
  rintro e w' ⟨v, rfl, v0, v1, rfl⟩
  go_wp2_with fail
  refine (new_any a0 len0 cap0 l _ HLen.out HNil.out ((HL.out.below h1).more s1) (by omega)).mono ?_
  rintro e w2 ⟨p, rfl, hp, hb2⟩
  have h2 : Below w.heap.size w w2 := h1.trans (hb2.mono s1)
  have s2 := h2.size
  have P1 := Lib.hid hp.1
  clear hb2 h1
  go_wp2_with fail
  refine (fail_any 0 hp).mono ?_
  rintro e w3 ⟨rfl, hp3, hg3⟩
  rw [show failE 0 0 = 0 from rfl] at hp3
  have h3 := h2.grown hg3 s2 (by intro k hk; injection hk with hk; have := P1.out; omega)
  have s3 := h3.size
  clear hp hg3 h2
  go_wp2_with fail
  refine (left_any hp3 LL.out).mono ?_
  rintro e w' ⟨he, rfl⟩
  rw [if_pos rfl, HLen.out] at he
  subst he
  go_wp2_with fail
  refine (fail_any (1 + u) hp3).mono ?_
  rintro e w4 ⟨rfl, hp4, hg4⟩
  rw [show failE 0 (1 + u) = 1 + u from rfl] at hp4
  have h4 := h3.grown hg4 s3 (by intro k hk; injection hk with hk; have := P1.out; omega)
  have s4 := h4.size
  clear hp3 hg4 h3
  go_wp2_with fail
  refine (fail_any (1 + v) hp4).mono ?_
  rintro e w5 ⟨rfl, hp5, hg5⟩
  rw [show failE (1 + u) (1 + v) = 1 + u from if_neg (by omega)] at hp5
  have h5 := h4.grown hg5 s4 (by intro k hk; injection hk with hk; have := P1.out; omega)
  have s5 := h5.size
  clear hp4 hg5 h4
  go_wp2_with fail
  refine (end_any hp5 LL.out).mono ?_
  rintro e w6 ⟨he, d6⟩
  rw [end_is (by omega)] at he
  subst he
  have hp6 := hp5.drew d6
  have h6 := Drew.to h5 d6
  have s6 := h6.size
  clear hp5 h5 d6
  go_wp2_with fail
  refine (left_any hp6 LL.out).mono ?_
  rintro e w' ⟨he, rfl⟩
  rw [if_neg (by omega)] at he
  subst he
  go_wp2_with fail
  refine (get_no 1 hp6 (Or.inr (Or.inr (by omega))) LL.out).mono ?_
  rintro e w7 ⟨rfl, hp7, hne, hg7⟩
  have HE := Lib.hid hne
  have h7 := h6.grown hg7 s6 (by intro k hk; injection hk with hk; have := P1.out; omega)
  have s7 := h7.size
  clear hp6 hg7 h6 hne
  go_wp2_with fail
  refine (take_no 0 hp7 (Or.inr (Or.inr HE.out)) LL.out).mono ?_
  rintro e w8 ⟨rfl, _, _, hg8⟩
  have h8 := h7.grown hg8 s7 (by intro k hk; injection hk with hk; have := P1.out; omega)
  clear hp7 hg8 h7
  go_wp2
  go_ret
  exact ⟨rfl, h8⟩
end Go.Proofs.Ytcpgfekldkbcbaa
