/- Package boxes: the iterator. -/
import Derived.Test.YtfjkfajhfnmjjaaBoxN
import Derived.Test.YtfjkfajhfnmjjaaAnyInv
import Derived.Test.YtfjkfajhfnmjjaaApps
import Derived.RangeFuncNested
import Derived.RangeFuncBound
import Derived.RangeFuncCalls
import Derived.Shelf.RegionOpen
import Derived.Maps.OwnIn
import Derived.IntWalk
import Derived.RangeFuncBox
import Derived.RangeFuncLeaves
import Derived.Shelf.Abstract
import Derived.OwnWalkIn
import Derived.TacticsInMore
import Derived.LoopNIn
import Derived.LoopIn
set_option linter.unusedVariables false
set_option linter.unusedSimpArgs false
namespace Go.Proofs.Ytfjkfajhfnmjjaa
open Go.RowKit Go.Shelf
attribute [local go_sem] Oper.semAt_some
/-- What Read says. -/
inductive Res where
  | bad (e : Int)
  | good (l : List (List Int × List Int))
def Res.app (pre : List (List Int × List Int)) : Res → Res
  | .bad e => .bad e
  | .good l => .good (pre ++ l)
theorem Res.app_app (a b : List (List Int × List Int)) : ∀ r, Res.app a (Res.app b r) = Res.app (a ++ b) r
  | .bad e => rfl
  | .good l => by simp [Res.app]
theorem Res.app_nil : ∀ r, Res.app [] r = r
  | .bad e => rfl
  | .good l => rfl
def rdF : Nat → Nat → List Int → Res
  | 0, _, _ => .good []
  | f + 1, c, r => if r = [] then .good [] else match nxt r with
    | .err e => .bad e
    | .box k d r' => if c = 100 then .bad 4 else Res.app [(k, d)] (rdF f (c + 1) r')
theorem nxtB_err {n : Int} {hd : Nat} {k r : List Int} {c : Int} (h : nxtB n hd k r = .err c) : c = 8 ∨ c = 15 := by
  unfold nxtB at h
  split at h
  · cases h; exact .inl rfl
  · split at h
    · cases h; exact .inr rfl
    · split at h
      · cases h; exact .inl rfl
      · cases h
theorem nxt_err {l : List Int} {c : Int} (h : nxt l = .err c) : c = 8 ∨ c = 15 := by
  unfold nxt at h
  split at h
  · cases h; exact .inl rfl
  · split at h
    · exact nxtB_err h
    · split at h
      · split at h
        · cases h; exact .inl rfl
        · exact nxtB_err h
      · exact nxtB_err h
theorem nxtB_box {n : Int} {hd : Nat} {k r : List Int} {a b c : List Int} (h : nxtB n hd k r = .box a b c) : ∃ m, b = r.take m ∧ c = r.drop m := by
  unfold nxtB at h
  split at h
  · cases h
  · split at h
    · cases h
    · split at h
      · cases h
      · cases h; exact ⟨_, rfl, rfl⟩
theorem nxt_box {l a b c : List Int} (h : nxt l = .box a b c) : c.length + 8 ≤ l.length ∧ (∀ x ∈ c, x ∈ l) ∧ ∀ x ∈ b, x ∈ l := by
  unfold nxt at h
  split at h
  · cases h
  · split at h
    · obtain ⟨m, rfl, rfl⟩ := nxtB_box h
      exact ⟨by simp only [List.length_drop]; omega, fun x hx => List.mem_of_mem_drop (List.mem_of_mem_drop hx), fun x hx => List.mem_of_mem_drop (List.mem_of_mem_take hx)⟩
    · split at h
      · split at h
        · cases h
        · obtain ⟨m, rfl, rfl⟩ := nxtB_box h
          exact ⟨by simp only [List.length_drop]; omega, fun x hx => List.mem_of_mem_drop (List.mem_of_mem_drop hx), fun x hx => List.mem_of_mem_drop (List.mem_of_mem_take hx)⟩
      · obtain ⟨m, rfl, rfl⟩ := nxtB_box h
        exact ⟨by simp only [List.length_drop]; omega, fun x hx => List.mem_of_mem_drop (List.mem_of_mem_drop hx), fun x hx => List.mem_of_mem_drop (List.mem_of_mem_take hx)⟩
def lenOf (p : Nat) (w : World) : Nat := match w.cell? ⟨p, 0, none⟩ with
  | some (.slice _ n _) => n
  | _ => 0
theorem Rd.lenOf {w : World} {lo p : Nat} {l : List Int} {err : Int} (h : Rd w lo p l err) : lenOf p w = l.length := by
  obtain ⟨_, A, cap, hb, _⟩ := h
  unfold Go.Proofs.Ytfjkfajhfnmjjaa.lenOf
  rw [blk_cell hb 0]
  rfl
/-- Between two rounds of the iterator. -/
structure AllI (J : Nat → List (List Int × List Int) → World → Prop) (R : Res) (B q lo p : Nat) (pre : List (List Int × List Int)) (r : List Int) (w : World) : Prop where
  rd : Rd w lo p r 0
  j : J q pre w
  b : B ≤ lo
  q : p < q ∧ q ≤ w.heap.size
  len : r.length ≤ 100000 ∧ pre.length ≤ 100
  by_ : ∀ x ∈ r, 0 ≤ x ∧ x ≤ 255
  res : ∃ f, r.length < f ∧ R = Res.app pre (rdF f pre.length r)
section
variable {J : Nat → List (List Int × List Int) → World → Prop} {R : Res} {B q lo p : Nat} {pre : List (List Int × List Int)} {r : List Int} {w : World}
theorem AllI.done (h : AllI J R B q lo p pre [] w) : R = .good pre := by
  obtain ⟨f, hf, hr⟩ := h.res
  obtain ⟨g, rfl⟩ : ∃ g, f = g + 1 := ⟨f - 1, by simp at hf; omega⟩
  rw [hr, rdF, if_pos rfl]
  simp [Res.app]
theorem AllI.err (h : AllI J R B q lo p pre r w) (h0 : r ≠ []) {c : Int} (hn : nxt r = .err c) : R = .bad c := by
  obtain ⟨f, hf, hr⟩ := h.res
  obtain ⟨g, rfl⟩ : ∃ g, f = g + 1 := ⟨f - 1, by omega⟩
  rw [hr, rdF, if_neg h0, hn]
  rfl
theorem AllI.many (h : AllI J R B q lo p pre r w) (h0 : r ≠ []) {k d r' : List Int} (hn : nxt r = .box k d r') (h100 : pre.length = 100) : R = .bad 4 := by
  obtain ⟨f, hf, hr⟩ := h.res
  obtain ⟨g, rfl⟩ : ∃ g, f = g + 1 := ⟨f - 1, by omega⟩
  rw [hr, rdF, if_neg h0, hn]
  simp only
  rw [if_pos h100]
  rfl
theorem AllI.next (h : AllI J R B q lo p pre r w) (h0 : r ≠ []) {k d r' : List Int} (hn : nxt r = .box k d r') (h100 : pre.length < 100) {w' : World} (hr' : Rd w' lo p r' 0) (hj : J q (pre ++ [(k, d)]) w') (hs : w.heap.size ≤ w'.heap.size) :
    AllI J R B q lo p (pre ++ [(k, d)]) r' w' := by
  have hb := nxt_box hn
  refine ⟨hr', hj, h.b, ⟨h.q.1, Nat.le_trans h.q.2 hs⟩, ⟨by have := h.len.1; omega, by simp; omega⟩, fun x hx => h.by_ x (hb.2.1 x hx), ?_⟩
  obtain ⟨f, hf, hr⟩ := h.res
  obtain ⟨g, rfl⟩ : ∃ g, f = g + 1 := ⟨f - 1, by omega⟩
  refine ⟨g, by omega, ?_⟩
  rw [hr, rdF, if_neg h0, hn]
  simp only
  rw [if_neg (by omega), Res.app_app, List.length_append]
  rfl
end
set_option maxRecDepth 100000 in
set_option maxHeartbeats 2000000 in
set_option pp.deepTerms true in
set_option pp.maxSteps 10000000 in
theorem all1_in (n : Nat) (hn : 4 ≤ n) (l c : Nat) (A0 : Option Addr) (len cap : Nat) (bs : List Int) (R : Res) (J : Nat → List (List Int × List Int) → World → Prop) (Jx : World → Prop) (W : World)
    (hc : W.heap[c]? = some (.cells #[.slice A0 len cap] 24 (0, 0))) (hbl : bs.length = len) (hA : A0 = none → len = 0 ∧ cap = 0) (hL : Lst W W.heap.size A0 (bs.map (Value.int .u8))) (hlen : len ≤ 100000) (hby : ∀ x ∈ bs, 0 ≤ x ∧ x ≤ 255)
    (hR : R = rdF (bs.length + 1) 0 bs)
    (hst : ∀ q A, W.heap.size < q → Below W.heap.size W A → q ≤ A.heap.size → J q [] A)
    (hk : ∀ q p pre A A', W.heap.size ≤ p → p < q → q ≤ A.heap.size → J q pre A → A.grownBy A' (some p) → J q pre A')
    (hY : ∀ q pre kd d V A, J q pre A → W.heap.size < q → q ≤ A.heap.size → A.ownsRow q 5 1 V d.length (d.map (Value.int .u8)) → (pre.length = 100 → R = .bad 4) → pre.length ≤ 100 →
      YieldAt Fence.wide (n - 1) Try.prog l #[.agg #[.string (strOf kd), V], .int .i64 0] A fun e A' =>
        ((e = .returned (.bool true) ∧ J q (pre ++ [(kd, d)]) A' ∧ pre.length < 100) ∨ (e = .returned (.bool false) ∧ Jx A')) ∧ A.heap.size ≤ A'.heap.size ∧ ∀ k, W.heap.size ≤ k → k < q → A'.heap[k]? = A.heap[k]?)
    (hE : ∀ q pre c A, J q pre A → W.heap.size < q → q ≤ A.heap.size → (c = 8 ∨ c = 15) → R = .bad c →
      YieldAt Fence.wide (n - 1) Try.prog l #[.agg #[.string ⟨#[]⟩, .slice none 0 0], .int .i64 c] A fun e A' => e = .returned (.bool false) ∧ Jx A') :
    CallsIn Fence.wide n Try.prog 22 #[.func (.yield l) #[] #[], .pointer (some ⟨c, 0, none⟩)] W fun e W' => (∃ v, e = .returned v) ∧ ((∃ q pre, R = .good pre ∧ J q pre W' ∧ W.heap.size < q ∧ q ≤ W'.heap.size) ∨ Jx W') := by
  have h1 : 1 ≤ n := by omega
  have g0 := blk_cell hc 0
  simp at g0
  have CN := Lib.hid (new_any A0 len cap bs W hbl hA hL (by omega))
  have HK := Lib.hid hk
  have HST := Lib.hid hst
  have HBY := Lib.hid hby
  have HR := Lib.hid hR
  clear hk hst hby hR hL hA hc
  have hF1 : Fence.wide.fn 23 := trivial
  have hF2 : Fence.wide.fn 25 := trivial
  have hF3 : Fence.wide.fn 24 := trivial
  refine callsIn_of_wp Try.func22 rfl trivial ?_ rfl
  simp only [Try.ntmps22, List.size_toArray, List.length_cons, List.length_nil, Nat.reduceAdd, Nat.reduceSub, Array.replicate_succ, Array.replicate_zero, List.push_toArray, List.append_toArray, List.nil_append, List.cons_append]
  gi_wp2_with (gi_at_call 23; refine (callsIn_wide.2 CN.out).mono ?_; rintro e w1 ⟨p, rfl, hrd, hb1⟩)
  have hlp := hrd.lt
  have hlo : W.heap.size ≤ p := hrd.1
  obtain ⟨q, hq⟩ : ∃ q, w1.heap.size = q := ⟨_, rfl⟩
  have hWq : W.heap.size < q := by omega
  have HA0 : Hid (AllI J R W.heap.size q W.heap.size p [] bs w1) := Lib.hid ⟨hrd, HST.out q w1 hWq hb1 (by omega), Nat.le_refl _, ⟨by omega, by omega⟩, ⟨by omega, by simp⟩, HBY.out, bs.length + 1, by omega, by rw [Res.app_nil]; exact HR.out⟩
  clear hrd hb1 CN g0 hlp hq HR HBY HST
  have HYY := Lib.hid hY
  have HEE := Lib.hid hE
  clear hY hE
  gi_loopw [] (fun wr => ∃ (pre : List (List Int × List Int)) (r : List Int), Hid (AllI J R W.heap.size q W.heap.size p pre r wr)) (fun wr => lenOf p wr)
  case atStart => exact ⟨[], bs, HA0⟩
  case round =>
    obtain ⟨pre, r, HI⟩ := hrel
    clear HA0
    have CL := left_any HI.out.rd (by have := HI.out.len.1; omega)
    rw [if_pos rfl] at CL
    have hrl := HI.out.len.1
    by_cases h0 : r = []
    · subst h0
      have CL := Lib.hid CL
      gi_wp2_with (gi_at_call 24; refine (callsIn_wide.2 CL.out).mono ?_; rintro e w2 ⟨rfl, rfl⟩)
      go_end0
      exact ⟨⟨_, rfl⟩, .inl ⟨_, _, HI.out.done, HI.out.j, hWq, HI.out.q.2⟩⟩
    · obtain ⟨m, hm⟩ : ∃ m, r.length = m := ⟨_, rfl⟩
      have hm0 : 0 < m := by rw [← hm]; exact List.length_pos_iff.2 h0
      rw [hm] at CL hrl
      have hmi : (0 : Int) < (m : Int) := by omega
      have CL := Lib.hid CL
      have CX := boxnext_any HI.out.rd HI.out.len.1 HI.out.by_
      have HM := Lib.hid hm
      have H0 := Lib.hid h0
      have HLEN : Hid (lenOf p wr = m) := Lib.hid (by rw [HI.out.rd.lenOf, hm])
      clear hm h0
      cases hnx : nxt r with
      | err ce =>
        rw [hnx] at CX
        have CX := Lib.hid CX
        have HNX := Lib.hid hnx
        clear hnx
        gi_wp2_with (first
          | (gi_at_call 24; refine (callsIn_wide.2 CL.out).mono ?_; rintro e w2 ⟨rfl, rfl⟩)
          | (gi_at_call 25; refine (callsIn_wide.2 CX.out).mono ?_; rintro e w3 ⟨rfl, hg3, _⟩))
        obtain ⟨W4, hW4⟩ : ∃ W4, w3.alloc (Obj.cells #[.string ⟨#[]⟩, .slice none 0 0] 42) = W4 := ⟨_, rfl⟩
        have hg4 : wr.grownBy W4 (some p) := by rw [← hW4]; exact grown_trans hg3 (World.grownBy_alloc w3 _ (some p))
        rw [hW4]
        clear hW4
        obtain ⟨fn, tmps, assign, body, hy2, hR⟩ := HEE.out q pre ce W4 (HK.out q p pre wr W4 hlo HI.out.q.1 HI.out.q.2 HI.out.j hg4) hWq (Nat.le_trans HI.out.q.2 hg4.size) (nxt_err HNX.out) (HI.out.err H0.out HNX.out)
        clear hg4 hg3
        rw [hy2]
        gi_wp2
        refine hR.mono ?_
        rintro e W5 ⟨rfl, hJx⟩
        gi_wp2
        refine bodyPost_ret (results_none rfl _ _ _) rfl ?_
        exact ⟨⟨_, rfl⟩, .inr hJx⟩
      | box k d r' =>
        rw [hnx] at CX
        have CX := Lib.hid CX
        have HNX := Lib.hid hnx
        clear hnx
        gi_wp2_with (first
          | (gi_at_call 24; refine (callsIn_wide.2 CL.out).mono ?_; rintro e w2 ⟨rfl, rfl⟩)
          | (gi_at_call 25; refine (callsIn_wide.2 CX.out).mono ?_; rintro e w3 ⟨V, rfl, ho3, hrd3, hg3⟩; obtain ⟨va, vcap, rfl, _⟩ := own_any ho3))
        obtain ⟨W4, hW4⟩ : ∃ W4, w3.alloc (Obj.cells #[.string (strOf k), .slice va d.length vcap] 42) = W4 := ⟨_, rfl⟩
        have hg4 : wr.grownBy W4 (some p) := by rw [← hW4]; exact grown_trans hg3 (World.grownBy_alloc w3 _ (some p))
        have hb4 : Below w3.heap.size w3 W4 := by rw [← hW4]; exact (Below.refl _ w3).alloc (Nat.le_refl _) _
        rw [hW4]
        clear hW4
        have hO4 := ownsRow_keep ho3 hb4.size (fun j hj => hb4.block j (own_lt ho3 hj).2)
        have HRD := Lib.hid (hrd3.below hb4 hrd3.lt)
        have hq4 := Nat.le_trans HI.out.q.2 hg4.size
        obtain ⟨fn, tmps, assign, body, hy2, hR⟩ := HYY.out q pre k d _ W4 (HK.out q p pre wr W4 hlo HI.out.q.1 HI.out.q.2 HI.out.j hg4) hWq hq4 (own_mono hO4 HI.out.q.2) (fun h => HI.out.many H0.out HNX.out h) HI.out.len.2
        have hs4 := hg4.size
        clear hg4 hg3 hO4 hrd3 ho3 hb4
        rw [hy2]
        gi_wp2
        refine hR.mono ?_
        rintro e W5 ⟨(⟨rfl, hJ5, h100⟩ | ⟨rfl, hJx5⟩), hs5, hk5⟩
        · have hrd5 : Rd W5 W.heap.size p r' 0 := HRD.out.keep fun j h1 h2 => hk5 j h1 (by have := HI.out.q.1; omega)
          have HI5 := Lib.hid (HI.out.next H0.out HNX.out h100 hrd5 hJ5 (Nat.le_trans hs4 hs5))
          have hl5 : lenOf p W5 < lenOf p wr := by
            have := (nxt_box HNX.out).1
            rw [hrd5.lenOf, HI.out.rd.lenOf]
            omega
          have HL5 := Lib.hid hl5
          clear hrd5 hJ5 hk5 hl5 hs5 hs4 hq4
          gi_wp2
          go_roundw
          case rel => exact ⟨_, _, HI5⟩
          case measure => exact HL5.out
        · clear hk5 hs5
          gi_wp2
          refine bodyPost_ret (results_none rfl _ _ _) rfl ?_
          exact ⟨⟨_, rfl⟩, .inr hJx5⟩
end Go.Proofs.Ytfjkfajhfnmjjaa
