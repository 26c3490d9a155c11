/- marks: the chapter's example. -/
import Derived.Test.YtlbfjaifemnkpaaCvQ0
import Derived.Test.YtlbfjaifemnkpaaBytesGet
set_option linter.unusedVariables false
set_option linter.unusedSimpArgs false
namespace Go.Proofs.Ytlbfjaifemnkpaa
open Go.RowKit
theorem res3 {P : Program} {fn : Func} {p a b : Tmp} {ty : TypeId} {tmps : Array Value} {w : World} {g : Nat} {cs : Array Value} {x y : Value} (h : fn.results = #[.cell p ty, .tmp a, .tmp b])
    (hp : tmps.getD p undef = .pointer (some ⟨g, 0, none⟩)) (ha : tmps.getD a undef = x) (hb : tmps.getD b undef = y) (hl : (loadVar ty ⟨g, 0, none⟩).run P w = .ok (.agg cs) w) :
    (results fn tmps).run P w = .ok (.tuple #[.agg cs, x, y]) w := by
  have hp' : tmps[p]?.getD undef = .pointer (some ⟨g, 0, none⟩) := by simpa using hp
  have ha' : tmps[a]?.getD undef = x := by simpa using ha
  have hb' : tmps[b]?.getD undef = y := by simpa using hb
  simp [results, h, hp', ha', hb', asAddr, hl]
set_option maxRecDepth 100000
set_option maxHeartbeats 8000000 in
theorem parse0 (g : Nat) (u : World) (hu : u.heap[g]? = some (.cells #[.int .u8 255, .int .u8 217] 5 (0, 0))) :
    Calls Try.prog 16 #[.slice (some ⟨g, 0, none⟩) 2 2] u fun e w' => ∃ cs : Array Value, e = .returned (.tuple #[.agg cs, .int .i64 0, .int .i64 10]) ∧ cs.size = 18 ∧ cs.all (·.oneCell') = true ∧ Below u.heap.size u w' := by
  obtain ⟨Z0, hZ0⟩ : ∃ Z0 : Array Value, #[.int .i64 0, .int .i64 0, .int .i64 0, .int .i64 0, .slice none 0 0, .int .i64 0, .int .i64 0, .int .i64 0, .int .i64 0, .int .i64 0, .int .i64 0, .int .i64 0, .int .i64 0, .int .i64 0, .bool false, .bool false, .bool false, .slice none 0 0] = Z0 := ⟨_, rfl⟩
  have hZ := Lib.hid hZ0
  clear hZ0
  have hL : Lst u u.heap.size (some ⟨g, 0, none⟩) (([255, 217] : List Int).map (Value.int .u8)) := by
    intro i v hv
    refine ⟨g, 0, rfl, (Array.getElem?_eq_some_iff.1 hu).1, ?_⟩
    rcases i with _ | _ | i
    · simp at hv; subst hv; simp [World.cell?, hu]
    · simp at hv; subst hv; simp [World.cell?, hu]
    · simp at hv
  have hmm := @run_makeMap Try.prog
  go_enter Try.func16, Try.ntmps16
  go_wp2_with fail
  have hA : Below u.heap.size u (u.alloc (Obj.cells #[.int .i64 0, .int .i64 0, .int .i64 0, .int .i64 0, .slice none 0 0, .int .i64 0, .int .i64 0, .int .i64 0, .int .i64 0, .int .i64 0, .int .i64 0, .int .i64 0, .int .i64 0, .int .i64 0, .bool false, .bool false, .bool false, .slice none 0 0] 33)) := (Below.refl _ _).alloc (Nat.le_refl _) _
  obtain ⟨U1, hU1⟩ : ∃ U1, u.alloc (Obj.cells #[.int .i64 0, .int .i64 0, .int .i64 0, .int .i64 0, .slice none 0 0, .int .i64 0, .int .i64 0, .int .i64 0, .int .i64 0, .int .i64 0, .int .i64 0, .int .i64 0, .int .i64 0, .int .i64 0, .bool false, .bool false, .bool false, .slice none 0 0] 33) = U1 := ⟨_, rfl⟩
  have hH : U1.heap[u.heap.size]? = some (.cells #[.int .i64 0, .int .i64 0, .int .i64 0, .int .i64 0, .slice none 0 0, .int .i64 0, .int .i64 0, .int .i64 0, .int .i64 0, .int .i64 0, .int .i64 0, .int .i64 0, .int .i64 0, .int .i64 0, .bool false, .bool false, .bool false, .slice none 0 0] 33 (0, 0)) := by rw [← hU1]; exact World.alloc_heap_new u _
  rw [hU1] at hA ⊢
  have HA := Lib.hid hA
  have HH := Lib.hid hH
  have hL1 := (hL.below hA).more hA.size
  clear hU1 hA hH hL
  refine (new_any (some ⟨g, 0, none⟩) 2 2 [255, 217] U1 rfl (by simp) hL1 (by decide)).mono ?_
  rintro e w2 ⟨p, rfl, hR, hb⟩
  have HR := Lib.hid hR
  have HB := Lib.hid hb
  have HP : Hid (U1.heap.size ≤ p ∧ p < w2.heap.size) := Lib.hid ⟨hR.1, hR.lt⟩
  have HH2 : Hid (w2.heap[u.heap.size]? = some (.cells #[.int .i64 0, .int .i64 0, .int .i64 0, .int .i64 0, .slice none 0 0, .int .i64 0, .int .i64 0, .int .i64 0, .int .i64 0, .int .i64 0, .int .i64 0, .int .i64 0, .int .i64 0, .int .i64 0, .bool false, .bool false, .bool false, .slice none 0 0] 33 (0, 0))) := Lib.hid ((hb.block _ (blk_lt HH.out)).trans HH.out)
  clear hR hb hL1
  go_upto_region 2 with fail
  have hB3 : Below w2.heap.size w2 ((w2.alloc (Obj.map #[] 0)).alloc (Obj.cells #[.pointer (some ⟨p, 0, none⟩), .int .i64 0, .int .i64 0, .int .i64 0, .int .i64 0, .slice none 0 0, .int .i64 0, .int .i64 0, .int .i64 0, .int .i64 0, .int .i64 0, .int .i64 0, .int .i64 0, .int .i64 0, .int .i64 0, .bool false, .bool false, .bool false, .slice none 0 0, .map (some w2.heap.size)] 69)) := ((Below.refl _ _).alloc (Nat.le_refl _) _).alloc (by unfold World.alloc; simp) _
  have hC3 : ((w2.alloc (Obj.map #[] 0)).alloc (Obj.cells #[.pointer (some ⟨p, 0, none⟩), .int .i64 0, .int .i64 0, .int .i64 0, .int .i64 0, .slice none 0 0, .int .i64 0, .int .i64 0, .int .i64 0, .int .i64 0, .int .i64 0, .int .i64 0, .int .i64 0, .int .i64 0, .int .i64 0, .bool false, .bool false, .bool false, .slice none 0 0, .map (some w2.heap.size)] 69)).heap[w2.heap.size + 1]? = some (.cells #[.pointer (some ⟨p, 0, none⟩), .int .i64 0, .int .i64 0, .int .i64 0, .int .i64 0, .slice none 0 0, .int .i64 0, .int .i64 0, .int .i64 0, .int .i64 0, .int .i64 0, .int .i64 0, .int .i64 0, .int .i64 0, .int .i64 0, .bool false, .bool false, .bool false, .slice none 0 0, .map (some w2.heap.size)] 69 (0, 0)) := by
    have := World.alloc_heap_new (w2.alloc (Obj.map #[] 0)) (Obj.cells #[.pointer (some ⟨p, 0, none⟩), .int .i64 0, .int .i64 0, .int .i64 0, .int .i64 0, .slice none 0 0, .int .i64 0, .int .i64 0, .int .i64 0, .int .i64 0, .int .i64 0, .int .i64 0, .int .i64 0, .int .i64 0, .int .i64 0, .bool false, .bool false, .bool false, .slice none 0 0, .map (some w2.heap.size)] 69)
    rwa [show (w2.alloc (Obj.map #[] 0)).heap.size = w2.heap.size + 1 from by unfold World.alloc; simp] at this
  obtain ⟨w3, hw3⟩ : ∃ w3, (w2.alloc (Obj.map #[] 0)).alloc (Obj.cells #[.pointer (some ⟨p, 0, none⟩), .int .i64 0, .int .i64 0, .int .i64 0, .int .i64 0, .slice none 0 0, .int .i64 0, .int .i64 0, .int .i64 0, .int .i64 0, .int .i64 0, .int .i64 0, .int .i64 0, .int .i64 0, .int .i64 0, .bool false, .bool false, .bool false, .slice none 0 0, .map (some w2.heap.size)] 69) = w3 := ⟨_, rfl⟩
  rw [hw3] at hB3 hC3 ⊢
  clear hw3
  have HC3 := Lib.hid hC3
  have HB3 := Lib.hid hB3
  have HR3 := Lib.hid (HR.out.below hB3 HP.out.2)
  have HH3 := Lib.hid ((hB3.block _ (blk_lt HH2.out)).trans HH2.out)
  clear hB3 hC3
  have hc0 : w3.cell? ⟨w2.heap.size + 1, 0, none⟩ = some (.pointer (some ⟨p, 0, none⟩)) := by rw [rb_cell HC3.out]; rfl
  go_wp2_with fail
  clear hc0
  refine (get_yes 2 HR3.out (by decide) (by decide) (by decide) (by decide)).mono ?_
  rintro e w4 ⟨he, hR4, hg4⟩
  have he2 : e = .returned (.int .i64 65497) := he.trans (by rw [show wrap64 (numL 0 ([255, 217].take 2)) = 65497 from by simp only [List.take, numL, List.foldl]; simp [wrap64, IntKind.wrap]])
  subst he2
  clear he
  have HH4 := Lib.hid ((hg4.block _ (blk_lt HH3.out) (by have := HP.out.1; have := blk_lt HH.out; intro e; injection e with e; omega)).trans HH3.out)
  go_wp2_with (refine wpList_store_row rfl 33 _ _ rfl u.heap.size #[.int .i64 0, .int .i64 0, .int .i64 0, .int .i64 0, .slice none 0 0, .int .i64 0, .int .i64 0, .int .i64 0, .int .i64 0, .int .i64 0, .int .i64 0, .int .i64 0, .int .i64 0, .int .i64 0, .bool false, .bool false, .bool false, .slice none 0 0] rfl rfl 33 #[.int .i64 0, .int .i64 0, .int .i64 0, .int .i64 0, .slice none 0 0, .int .i64 0, .int .i64 0, .int .i64 0, .int .i64 0, .int .i64 0, .int .i64 0, .int .i64 0, .int .i64 0, .int .i64 0, .bool false, .bool false, .bool false, .slice none 0 0] HH4.out (by kernel_rfl) rfl (by kernel_rfl) ?_)
  go_wp2_with fail
  have HZ5 : Hid ((w4.setRow u.heap.size #[.int .i64 0, .int .i64 0, .int .i64 0, .int .i64 0, .slice none 0 0, .int .i64 0, .int .i64 0, .int .i64 0, .int .i64 0, .int .i64 0, .int .i64 0, .int .i64 0, .int .i64 0, .int .i64 0, .bool false, .bool false, .bool false, .slice none 0 0]).heap[u.heap.size]? = some (.cells Z0 33 (0, 0))) := Lib.hid (by rw [← hZ.out]; exact setRow_heap w4 u.heap.size _ #[.int .i64 0, .int .i64 0, .int .i64 0, .int .i64 0, .slice none 0 0, .int .i64 0, .int .i64 0, .int .i64 0, .int .i64 0, .int .i64 0, .int .i64 0, .int .i64 0, .int .i64 0, .int .i64 0, .bool false, .bool false, .bool false, .slice none 0 0] _ _ HH4.out)
  have HG4 := Lib.hid hg4
  clear hg4 hR4
  refine bodyPost_ret (v := .tuple #[.agg Z0, .int .i64 0, .int .i64 10]) ?_ rfl ?_
  · have := run_loadVar_row (P := Try.prog) _ u.heap.size 33 33 Z0 (0, 0) _ HZ5.out Try.underlying33 rfl (by rw [← hZ.out]; kernel_rfl)
    exact res3 (p := 2) (a := 3) (b := 4) rfl rfl rfl rfl this
  refine ⟨Z0, rfl, by rw [← hZ.out]; rfl, by rw [← hZ.out]; kernel_rfl, ?_⟩
  have b2 : Below u.heap.size u w2 := HA.out.trans (HB.out.mono HA.out.size) 
  have b3 : Below u.heap.size u w3 := b2.trans (HB3.out.mono (by have := HB.out.size; have := HA.out.size; omega))
  have b4 : Below u.heap.size u w4 := b3.grown HG4.out b3.size (fun k ek => by injection ek with ek; have := HP.out.1; have := HA.out.size; omega)
  exact below_setRow b4 (Nat.le_refl _) _
set_option maxRecDepth 100000 in
set_option maxHeartbeats 8000000 in
theorem known17 (w : World) : Calls Try.prog 11 #[] w fun e w' => e = .returned (.bool true) ∧ Below w.heap.size w w' := by
  go_enter Try.func11, Try.ntmps11
  go_wp2_with fail
  refine (parse0 _ _ (World.alloc_heap_new w _)).mono ?_
  rintro e w1 ⟨cs, rfl, hs, h1, hb1⟩
  have HB1 := Lib.hid (((Below.refl _ w).alloc (Nat.le_refl _) (Obj.cells #[.int .u8 255, .int .u8 217] 5)).trans (hb1.mono (by unfold World.alloc; simp)))
  clear hb1
  have HS := Lib.hid hs
  have H1 := Lib.hid h1
  clear hs h1
  go_wp2_with (refine wpList_store_row rfl 33 _ _ rfl w1.heap.size cs rfl rfl 33 #[.int .i64 0, .int .i64 0, .int .i64 0, .int .i64 0, .slice none 0 0, .int .i64 0, .int .i64 0, .int .i64 0, .int .i64 0, .int .i64 0, .int .i64 0, .int .i64 0, .int .i64 0, .int .i64 0, .bool false, .bool false, .bool false, .slice none 0 0] (World.alloc_heap_new w1 _) (by rw [HS.out]; kernel_rfl) (by rw [HS.out]; rfl) H1.out ?_)
  go_wp2_with fail
  go_ret
  exact ⟨rfl, below_setRow (HB1.out.alloc HB1.out.size _) HB1.out.size _⟩
end Go.Proofs.Ytlbfjaifemnkpaa
