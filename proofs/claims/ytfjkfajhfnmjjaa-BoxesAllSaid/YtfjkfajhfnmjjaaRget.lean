/- The reference's Reader of chapter 1, by its contracts. -/
import Derived.Test.YtfjkfajhfnmjjaaBytesGet
import Derived.Test.YtfjkfajhfnmjjaaOnly
import Derived.Test.YtfjkfajhfnmjjaaClone8
import Derived.Test.YtfjkfajhfnmjjaaStr
import Derived.Laws.AppendOwnNone
import Derived.RegionTactic
import Derived.Deep.AppendLies
import Derived.Deep.RegionLaw
set_option linter.unusedVariables false
namespace Go.Proofs.Ytfjkfajhfnmjjaa
open Go.RowKit

/-- Block q is such a Reader of the bytes F, of which P are read. -/
def Qr (w : World) (q : Nat) (a0 : Option Addr) (c0 n P : Nat) (err : Int) : Prop :=
  w.heap[q]? = some (.cells #[.slice a0 n c0, .int .i64 (P : Int), .int .i64 err] 63 (0, 0))
def newer (q : Nat) (w : World) (k : Nat) : Prop := k = q ∨ w.heap.size ≤ k

theorem step_own8 {ops : Array Oper} {o : Oper} {a : Act} {w : World} {K : Act → World → Prop} {Q : Exit → Act → World → Prop} {E : Prop} (hgd : o.guard = none) (s x : Operand)
    (ho : o.op = .call { callee := .builtin .append, args := #[s, x], argTypes := #[24, 24] }) (hty : o.type = 24) {base g m cx B : Nat} {A : Option Addr} {news : List Int}
    (hs : a.eval s = .slice (some ⟨g, 0, none⟩) 0 0) (hown : w.ownsRow base 5 1 (.slice (some ⟨g, 0, none⟩) 0 0) 0 []) (hx : a.eval x = .slice A m cx) (hA : A = none → m = 0 ∧ cx = 0) (hl : news.length = m) (hnews : Lst w B A (news.map (Value.int .u8)))
    (hm : m ≤ 1000) (hbase : base ≤ w.heap.size)
    (h : ∀ v w', w'.ownsRow base 5 1 v m (news.map (Value.int .u8)) → w.grownBy w' (some g) → K (a.put o.dst v) w') :
    if Region.wanted o (yielded ops a.tmps) = true then Oper.wp Try.prog o a w K Q else E := by
  obtain ⟨i0, hi, hz0, hz1, hz2⟩ := info_parts Try.info5
  have hw : Region.wanted o (yielded ops a.tmps) = true := by simp [Region.wanted, hgd]
  rw [if_pos hw]
  rcases A with _ | ad
  · obtain ⟨rfl, rfl⟩ := hA rfl
    obtain rfl : news = [] := List.eq_nil_of_length_eq_zero hl
    have hrun := run_append_owned_none (P := Try.prog) (w := w) base 24 24 5 i0 1 Try.underlying24 hi _ 0 [] hown
    unfold Oper.wp
    simp [execOp, ho, hty, resolve, invoke, builtin, hs, hx, hrun, Result.andThen]
    exact h _ _ hown (World.grownBy.refl w _)
  · obtain ⟨v', w', hr, h2, h3, _, _⟩ := run_append_own_at (P := Try.prog) w base 24 24 5 i0 (.int .u8 0) 1 1 Try.underlying24 hi hz0 hz1 hz2 rfl (by decide) _ 0 [] hown ad m cx (news.map (Value.int .u8)) (by simp [hl]) (hnews.add rfl) (ints_oneCell .u8 news) (by unfold maxLen; omega) (by omega) hbase
    unfold Oper.wp execOp
    simp only [ho, hty, resolve, invoke, builtin, Sem.run_bind, Sem.run_pure, Result.andThen_ok, List.map_toArray, List.map_cons, List.map_nil, hs, hx, hr]
    rw [Nat.zero_add, List.nil_append] at h2
    exact h _ _ h2 h3

set_option maxHeartbeats 4000000 in
theorem qtake_yes {w : World} {q c0 n P : Nat} {a0 : Option Addr} {F : List Int} {m : Nat} (hA : a0 = none → n = 0 ∧ c0 = 0) (h : Qr w q a0 c0 n P 0) (hn : F.length = n) (hL : Lst w q a0 (F.map (Value.int .u8))) (hc : n ≤ c0) (hc2 : c0 ≤ maxLen) (hn2 : n ≤ 1000) (hP : P + m ≤ n) :
    Calls Try.prog 26 #[.pointer (some ⟨q, 0, none⟩), .int .i64 (m : Int)] w fun e w' => ∃ v, e = .returned v ∧ w'.ownsRow w.heap.size 5 1 v m (((F.drop P).take m).map (Value.int .u8)) ∧ Qr w' q a0 c0 n (P + m) 0 ∧ Only (newer q w) w w' := by
  unfold Qr at h
  have hqlt := blk_lt h
  have H := Lib.hid h
  have HL := Lib.hid hL
  have HN := Lib.hid hn
  have HA := Lib.hid hA
  have d0 := blk_cell h 0
  have d1 := blk_cell h 1
  have d2 := blk_cell h 2
  simp at d0 d1 d2
  have i1 : ¬ (m : Int) < 0 := by omega
  have i2 : ¬ (n : Int) - (P : Int) < (m : Int) := by omega
  have i2d : decide ((n : Int) - (P : Int) < (m : Int)) = false := decide_eq_false i2
  unfold maxLen at hc2
  clear h hL hn hA
  go_enter Try.func26, Try.ntmps26
  go_wp2
  go_quiet (fail)
  obtain ⟨W0, hW0⟩ : ∃ W0, w.drewN nq = W0 := ⟨_, rfl⟩
  have HB0 : Hid (W0.heap[q]? = some (.cells #[.slice a0 n c0, .int .i64 (P : Int), .int .i64 0] 63 (0, 0))) := by rw [← hW0]; exact H.out
  have B0 : Only (newer q w) w W0 := by rw [← hW0]; exact only_drewN (Only.refl _ _) nq
  have HL0 : Hid (Lst W0 q a0 (F.map (Value.int .u8))) := by rw [← hW0]; exact HL.out
  have hsz : W0.heap.size = w.heap.size := by rw [← hW0]; rfl
  have HSZ := Lib.hid hsz
  rw [hW0]
  clear hW0 H HL d0 d1 d2 hsz
  have e1 := blk_cell HB0.out 1
  have e2 := blk_cell HB0.out 2
  have z1 := blk_frozen HB0.out 1
  simp at e1 e2
  have hb1 := blk_set HB0.out 1 (.int .i64 ((P : Int) + (m : Int)))
  have B1 := B0.setCell (p := ⟨q, 1, none⟩) (Or.inl rfl) (.int .i64 ((P : Int) + (m : Int)))
  have hL1 := HL0.out.keep (w' := W0.setCell ⟨q, 1, none⟩ (.int .i64 ((P : Int) + (m : Int)))) fun p hp => World.cell?_of_block (Below.heap_setCell _ _ _ _ (by show p.block ≠ q; omega))
  have hs1 : (W0.setCell ⟨q, 1, none⟩ (.int .i64 ((P : Int) + (m : Int)))).heap.size = w.heap.size := by simp [World.setCell]; exact HSZ.out
  generalize hW1 : W0.setCell ⟨q, 1, none⟩ (.int .i64 ((P : Int) + (m : Int))) = W1 at *
  have HB1 : Hid (W1.heap[q]? = some (.cells #[.slice a0 n c0, .int .i64 ((P : Int) + (m : Int)), .int .i64 0] 63 (0, 0))) := hb1
  have HL1 := Lib.hid hL1
  have HS1 := Lib.hid hs1
  clear hb1 hL1 hs1 HB0 HL0 B0 HSZ
  have hblk2 : ∀ ob : Obj, ((W1.alloc ob).drew).heap[q]? = some (.cells #[.slice a0 n c0, .int .i64 ((P : Int) + (m : Int)), .int .i64 0] 63 (0, 0)) := fun ob => (Below.heap_alloc W1 ob q (by rw [HS1.out]; omega)).trans HB1.out
  have x0 := fun ob => blk_cell (hblk2 ob) 0
  have x1 := fun ob => blk_cell (hblk2 ob) 1
  simp at x0 x1
  have y0 := blk_cell HB1.out 0
  have y1 := blk_cell HB1.out 1
  simp at y0 y1
  have iw1 : IntKind.i64.wrap ((P : Int) + (m : Int)) = (P : Int) + (m : Int) := IntWalk.i64_in _ (by omega)
  have iw2 : IntKind.i64.wrap ((P : Int) + (m : Int) - (m : Int)) = (P : Int) := by rw [show (P : Int) + (m : Int) - (m : Int) = (P : Int) from by omega]; exact IntWalk.i64_in _ (by omega)
  obtain ⟨A2, hA2⟩ : ∃ A2, (if c0 = P then a0 else a0.map (·.add P)) = A2 := ⟨_, rfl⟩
  have iwP : IntKind.i64.wrap (P : Int) = (P : Int) := IntWalk.i64_in _ (by omega)
  have jm : max ((P : Int) + (m : Int)) 0 = (P : Int) + (m : Int) := by omega
  have j5 : (P : Int) ≤ (P : Int) + (m : Int) := by omega
  have j1 : (0 : Int) ≤ (P : Int) + (m : Int) := by omega
  have j2 : (P : Int) + (m : Int) ≤ (c0 : Int) := by omega
  have j3 : P ≤ ((P : Int) + (m : Int)).toNat := by omega
  have j4 : ((P : Int) + (m : Int)).toNat - P = m := by omega
  have hA2n : A2 = none → m = 0 ∧ c0 - P = 0 := by
    intro e
    rw [← hA2] at e
    have : a0 = none := by
      split at e
      · exact e
      · simpa using e
    have := HA.out this
    omega
  have HA2N := Lib.hid hA2n
  have hlst : Lst W1 q A2 (((F.drop P).take m).map (Value.int .u8)) := by
    have h1 := lst_cut HL1.out P m c0 (by omega) (by rw [List.length_map, HN.out]; omega) (by rw [List.length_map, HN.out]; omega)
    rw [hA2] at h1
    rwa [← List.map_drop, ← List.map_take] at h1
  have HLST : Hid (∀ ob : Obj, Lst ((W1.alloc ob).drew) q A2 (((F.drop P).take m).map (Value.int .u8))) := Lib.hid (fun ob => hlst.keep fun p hp => World.cell?_alloc_lt W1 ob p (by rw [HS1.out]; omega))
  have HLL : Hid (((F.drop P).take m).length = m) := Lib.hid (by rw [List.length_take, List.length_drop, HN.out]; omega)
  have OWN0 : Hid ((W1.alloc (Obj.cells #[] 5)).drew.ownsRow w.heap.size 5 1 (.slice (some ⟨W1.heap.size, 0, none⟩) 0 0) 0 []) := Lib.hid (World.ownsRow_made W1 #[] 0 (by rw [HS1.out]; exact Nat.le_refl _) (by unfold maxLen; omega) rfl)
  clear hlst hA2n HL1 HA
  go_wp2
  go_region_law
    ((refine step_own8 (by rfl) _ _ (by rfl) (by rfl) (by rfl) OWN0.out (by rfl) HA2N.out HLL.out (HLST.out _) (by omega) (by simp; rw [HS1.out]; omega) ?_; intro v8 w8 hown8 hg8))
  all_goals
    have hb8 : w8.heap[q]? = some (.cells #[.slice a0 n c0, .int .i64 ((P : Int) + (m : Int)), .int .i64 0] 63 (0, 0)) := (hg8.block q (by simp; rw [HS1.out]; omega) (by rw [HS1.out]; intro e; injection e with e; omega)).trans (hblk2 _)
    have B8 : Only (newer q w) w w8 := ((B1.alloc (Or.inr (by rw [HS1.out]; exact Nat.le_refl _)) (Obj.cells #[] 5)).trans (only_drewN (Only.refl _ _) 1)).grown hg8 (fun k hk => Or.inr (by simp at hk; rw [HS1.out] at hk; omega)) (fun k hk => Or.inr (by injection hk with hk; rw [HS1.out] at hk; omega))
    have HB8 := Lib.hid hb8
    have HO8 := Lib.hid hown8
    clear hb8 hown8 hg8 hblk2 x0 x1
    go_wp2
    go_ret
    exact ⟨_, rfl, HO8.out, by unfold Qr; rw [HB8.out]; simp, B8⟩
end Go.Proofs.Ytfjkfajhfnmjjaa
