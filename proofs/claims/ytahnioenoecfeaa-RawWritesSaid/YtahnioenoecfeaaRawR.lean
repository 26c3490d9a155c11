/- The rest of the Writer, and the Reader, of package raw, by their contracts. -/
import Derived.Test.YtahnioenoecfeaaRawNew
import Derived.Deep.Onto
set_option linter.unusedVariables false
namespace Go.Proofs.Ytahnioenoecfeaa
open Go.RowKit

theorem bit_any {w : World} {lo p : Nat} {s : List Int × Nat} {b : Int} (h : Wr w lo p s.1 s.2) (ok : WOk s) (hl : s.1.length ≤ 100000) (hlo : lo ≤ w.heap.size) :
    Calls Try.prog 13 #[.pointer (some ⟨p, 0, none⟩), .int .i64 b] w fun e w' => e = .returned (.tuple #[]) ∧ Wr w' lo p (wstep s b).1 (wstep s b).2 ∧ Below lo w w' := by
  obtain ⟨it, fr⟩ := s
  unfold wstep
  by_cases h0 : fr = 0
  · subst h0
    rw [if_pos rfl]
    exact bit_new h hl hlo
  · rw [if_neg h0]
    have hne : it ≠ [] := fun e => h0 (ok.none e)
    obtain ⟨f, rfl⟩ : ∃ f, fr = f + 1 := ⟨fr - 1, by omega⟩
    have hlast := last_of hne
    have hr := ok.rng (it.getLastD 0) (by rw [List.getLastD_eq_getLast?, List.getLast?_eq_some_getLast hne]; exact List.getLast_mem hne)
    have hf := ok.free
    have hlow := ok.low
    have hlen : it.dropLast.length ≤ 100000 := by rw [List.length_dropLast]; simp at hl; omega
    have h' : Wr w lo p (it.dropLast ++ [it.getLastD 0]) (f + 1) := by rw [← hlast]; exact h
    exact bit_old h' (by simp at hf; omega) hr hlow hlen hlo

set_option maxHeartbeats 1000000 in
theorem clone_u8 (A : Option Addr) (n c : Nat) (xs : List Value) (B : Nat) (w : World) (hl : xs.length = n) (hA : A = none → n = 0 ∧ c = 0) (h : Lst w B A xs) (h1 : ∀ u ∈ xs, u.oneCell' = true) (hn : n ≤ 140737488355328) :
    Calls Try.prog 24 #[.slice A n c] w fun e w' => ∃ v, e = .returned v ∧ w'.ownsRow w.heap.size 5 1 v n xs ∧ Below w.heap.size w w' := by
  have qT : ∀ (w : World) (a : Option Addr) (n c n' c' : Nat), (binOp .eql 30 (.slice a n c) (.slice none n' c')).run Try.prog w = .ok (.bool a.isNone) w := fun w a n c n' c' => Lib.run_eql_slice_nil w _ _ a n c n' c' Try.underlying30
  obtain ⟨i0, hi, hz0, hz1, hz2⟩ := info_parts Try.info5
  rcases A with _ | a
  · obtain ⟨rfl, rfl⟩ := hA rfl
    obtain rfl : xs = [] := List.eq_nil_of_length_eq_zero hl
    go_enter Try.func24, Try.ntmps24
    go_wp2
    go_ret
    exact ⟨_, rfl, World.ownsRow_nil _ _ _ _, Below.refl _ _⟩
  · have hcells := h.add rfl
    have HC := Lib.hid hcells
    clear hcells hA
    go_enter Try.func24, Try.ntmps24
    have hwl := Lib.hid hl
    clear hl
    go_wp2_with (at_builtin; refine wpList_append_own _ rfl (.tmp 5) (.tmp 6) 30 rfl w.heap.size 5 i0 (.int .u8 0) 1 1 Try.underlying30 hi hz0 hz1 hz2 rfl (by decide) (.slice (some ⟨w.heap.size, 0, none⟩) 0 0) 0 [] rfl (World.ownsRow_made w #[] 0 (Nat.le_refl _) (by unfold maxLen; omega) rfl) a n c xs rfl ?k1 ?k2 h1 ?k3 ?k4 ?k5 ?_)
    case k1 => rw [hwl.out]; simp
    case k2 =>
      intro j u hu
      exact (World.cell?_alloc_lt w _ _ (World.block_lt_of_cell? w _ (HC.out j u hu))).trans (HC.out j u hu)
    case k3 => unfold maxLen; omega
    case k4 => omega
    case k5 => simp
    intro v1 w1 hown hg _
    go_wp2
    go_ret
    refine ⟨v1, rfl, by simpa using hown, ?_⟩
    exact ((Below.refl _ _).alloc (Nat.le_refl _) _).grown hg (by simp) (by simp [Value.ownBlock])

/-- What Flush tells. -/
def flushF (it : List Int) : List Int := if it.getLastD 0 = 255 then it.dropLast else it

/-- Block p is a Reader of the bytes F, at a byte, of which some bits are left. -/
def Rr (w : World) (lo p : Nat) (F : List Int) (r : Nat × Nat) : Prop :=
  lo ≤ p ∧ ∃ V, w.heap[p]? = some (.cells #[V, .int .u8 255, .int .i64 (r.1 : Int), .int .i64 (r.2 : Int)] 50 (0, 0)) ∧ w.ownsRow lo 5 1 V F.length (F.map (Value.int .u8))

set_option maxHeartbeats 1000000 in
theorem rnew_any {A : Option Addr} {n c : Nat} {F : List Int} {w : World} (hl : F.length = n) (hA : A = none → n = 0 ∧ c = 0) (h : Lst w w.heap.size A (F.map (Value.int .u8))) (hn : n ≤ 100000) :
    Calls Try.prog 19 #[.slice A n c] w fun e w' => ∃ p, e = .returned (.pointer (some ⟨p, 0, none⟩)) ∧ Rr w' w.heap.size p F (0, 8) ∧ Below w.heap.size w w' := by
  go_enter Try.func19, Try.ntmps19
  go_wp2_with fail
  refine (clone_u8 A n c _ _ _ (by simpa using hl) hA h (ints_oneCell .u8 F) (by omega)).mono ?_
  rintro e w1 ⟨v, rfl, hown, hb⟩
  obtain ⟨A', cap', rfl, hA', hc1, hc2⟩ := own_any hown
  have HO := Lib.hid hown
  have HL := Lib.hid hl
  clear hown hl hA hA' h
  go_wp2
  go_ret
  refine ⟨_, rfl, ⟨hb.size, _, heap_alloc_new w1 _, ?_⟩, hb.alloc hb.size _⟩
  rw [HL.out]
  exact HO.out.alloc _

set_option maxHeartbeats 1000000 in
theorem now_any {w : World} {lo p : Nat} {F : List Int} {r : Nat × Nat} (h : Rr w lo p F r) (i : Nat) (hl : F.length ≤ 100000) :
    Calls Try.prog 25 #[.pointer (some ⟨p, 0, none⟩), .int .i64 (i : Int)] w fun e w' => e = .returned (.int .u8 (byteAt F i)) ∧ Drew w w' := by
  obtain ⟨hlo, V, hb, hv⟩ := h
  by_cases c1 : i < F.length
  · obtain ⟨g, c, rfl, hg, hgl, hcm, _⟩ := own_form hv (by omega)
    have c0 := blk_cell hb 0
    simp at c0
    have f1 := hv.cellAt i (by omega)
    have e1 : (F.map (Value.int .u8))[i]? = some (.int .u8 (byteAt F i)) := by
      unfold byteAt
      rw [List.getElem?_map, List.getD_eq_getElem?_getD, List.getElem?_eq_getElem c1]; rfl
    rw [e1] at f1
    have c2 : (i : Int) < (F.length : Int) := by omega
    clear hb hv e1
    generalize byteAt F i = x at *
    go_enter Try.func25, Try.ntmps25
    go_wp2
    go_ret
    exact ⟨rfl, Drew.refl _⟩
  · obtain ⟨A, c, rfl, _, _, _⟩ := own_any hv
    have c0 := blk_cell hb 0
    have c1' := blk_cell hb 1
    simp at c0 c1'
    have e1 : byteAt F i = 255 := by
      unfold byteAt
      rw [List.getD_eq_getElem?_getD, List.getElem?_eq_none (by omega)]; rfl
    rw [e1]
    have c2 : ¬ (i : Int) < (F.length : Int) := by omega
    clear hb hv e1
    go_enter Try.func25, Try.ntmps25
    go_wp2
    go_ret
    exact ⟨rfl, Drew.refl _⟩

set_option maxHeartbeats 2000000 in
theorem flush_any {w : World} {lo p : Nat} {it : List Int} {fr : Nat} (h : Wr w lo p it fr) (hl : it.length ≤ 100000) (hlo : lo ≤ w.heap.size) :
    Calls Try.prog 17 #[.pointer (some ⟨p, 0, none⟩)] w fun e w' => ∃ v, e = .returned v ∧ w'.ownsRow lo 5 1 v (flushF it).length ((flushF it).map (Value.int .u8)) ∧ Below lo w w' := by
  have FC := Lib.hid (full_any h hl)
  obtain ⟨hp, V, hb, hown⟩ := h
  by_cases hf : it.getLastD 0 = 255
  · have hne : it ≠ [] := by intro e; rw [e] at hf; simp at hf
    obtain ⟨m, hm⟩ : ∃ m, it.length = m + 1 := ⟨it.length - 1, by have := List.length_pos_iff.2 hne; omega⟩
    have hff : flushF it = it.dropLast := if_pos hf
    have hdl : it.dropLast.length = m := by rw [List.length_dropLast, hm]; rfl
    rw [hff, hdl]
    rw [hm] at hown
    obtain ⟨g, c, rfl, hg, hgl, hcm, hcx⟩ := own_form hown (by omega)
    have HB := Lib.hid hb
    have HO := Lib.hid hown
    clear hb hown hff
    go_enter Try.func17, Try.ntmps17
    go_wp2_with fail
    refine FC.out.mono ?_
    rintro e w2 ⟨rfl, dn, hd⟩
    rw [decide_eq_true hf]
    have hb2 : w2.heap[p]? = some (.cells #[.slice (some ⟨g, 0, none⟩) (m + 1) c, .int .u8 0, .int .i64 (fr : Int)] 45 (0, 0)) := by rw [hd]; exact HB.out
    have HO2 : Hid (w2.ownsRow lo 5 1 (.slice (some ⟨g, 0, none⟩) (m + 1) c) (m + 1) (it.map (Value.int .u8))) := by rw [hd]; exact HO.out
    have B2 : Below lo w w2 := by rw [hd]; exact below_drewN (Below.refl _ _) dn
    have s2 : w.heap.size ≤ w2.heap.size := by rw [hd]; exact Nat.le_refl _
    have c0 := blk_cell hb2 0
    simp at c0
    have wm : IntKind.i64.wrap (m : Int) = (m : Int) := IntWalk.i64_in _ (by omega)
    have im0 : (0 : Int) ≤ (m : Int) := by omega
    have im1 : (m : Int) ≤ (c : Int) := by omega
    have hL : Lst w2 w2.heap.size (some ⟨g, 0, none⟩) ((it.dropLast).map (Value.int .u8)) := by
      have := Lst.own HO2.out
      have h2 := this.take m
      rw [← List.map_take, show it.take m = it.dropLast from by rw [List.dropLast_eq_take, hm]; rfl] at h2
      exact h2
    have HL := Lib.hid hL
    clear hd hb2 hL HB HO FC
    go_wp2
    refine wp_region_still_tail 13 (by kernel_rfl) (by kernel_rfl) ?_
    simp only [List.take_succ_cons, List.take_zero, List.drop_succ_cons, List.drop_zero]
    repeat still_step
    refine wpStill_nil ?_
    change wpList _ _ _ _ _ w2.drew
    have HL2 : Hid (Lst w2.drew w2.drew.heap.size (some ⟨g, 0, none⟩) ((it.dropLast).map (Value.int .u8))) := HL.out
    have B3 : Below lo w w2.drew := below_drewN B2 1
    have s3 : w.heap.size ≤ w2.drew.heap.size := s2
    clear HL HO2 B2 c0
    generalize w2.drew = w3 at *
    go_wp2_with fail
    refine (clone_u8 _ m c _ _ _ (by rw [List.length_map, hdl]) (by simp) HL2.out (ints_oneCell .u8 _) (by omega)).mono ?_
    rintro e w4 ⟨v, rfl, hown4, b4⟩
    go_wp2
    go_ret
    refine ⟨v, rfl, ?_, B3.trans (b4.mono (Nat.le_trans hlo s3))⟩
    exact hown4.mono (Nat.le_trans hlo s3)
  · have hff : flushF it = it := if_neg hf
    rw [hff]
    obtain ⟨A, c, rfl, hA, hcc, hcm⟩ := own_any hown
    have HB := Lib.hid hb
    have HO := Lib.hid hown
    clear hb hown hff
    go_enter Try.func17, Try.ntmps17
    go_wp2_with fail
    refine FC.out.mono ?_
    rintro e w2 ⟨rfl, dn, hd⟩
    rw [decide_eq_false hf]
    have hb2 : w2.heap[p]? = some (.cells #[.slice A it.length c, .int .u8 0, .int .i64 (fr : Int)] 45 (0, 0)) := by rw [hd]; exact HB.out
    have HO2 : Hid (w2.ownsRow lo 5 1 (.slice A it.length c) it.length (it.map (Value.int .u8))) := by rw [hd]; exact HO.out
    have B2 : Below lo w w2 := by rw [hd]; exact below_drewN (Below.refl _ _) dn
    have s2 : w.heap.size ≤ w2.heap.size := by rw [hd]; exact Nat.le_refl _
    have c0 := blk_cell hb2 0
    simp at c0
    have HA := Lib.hid hA
    clear hd hb2 HB HO FC hA
    go_wp2_with fail
    refine (clone_u8 _ it.length c _ _ _ (by rw [List.length_map]) HA.out (Lst.own HO2.out) (ints_oneCell .u8 _) (by omega)).mono ?_
    rintro e w4 ⟨v, rfl, hown4, b4⟩
    go_wp2
    go_ret
    refine ⟨v, rfl, ?_, B2.trans (b4.mono (Nat.le_trans hlo s2))⟩
    exact hown4.mono (Nat.le_trans hlo s2)
end Go.Proofs.Ytahnioenoecfeaa
