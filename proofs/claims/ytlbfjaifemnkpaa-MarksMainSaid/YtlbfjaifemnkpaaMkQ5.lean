/- marks: what keep takes over. -/
import Derived.Test.YtlbfjaifemnkpaaMkW7
import Derived.Deep.CutBlock
import Derived.MapKept
import Derived.Test.YtlbfjaifemnkpaaMkQ4
set_option linter.unusedVariables false
set_option linter.unusedSimpArgs false
namespace Go.Proofs.Ytlbfjaifemnkpaa
section
section
section
section
open Go.RowKit
set_option maxRecDepth 100000
set_option maxHeartbeats 4000000 in
theorem other_no (mk : Int) (V : Value) (w : World) (h : mk ≠ 65363 ∧ mk ≠ 65373 ∧ mk ≠ 65374 ∧ mk ≠ 65375 ∧ mk ≠ 65376 ∧ mk ≠ 65377 ∧ mk ≠ 65362 ∧ mk ≠ 65372) :
    Calls Try.prog 65 #[.int .i64 mk, V] w fun e w' => e = .returned (.bool false) ∧ w = w' := by
  obtain ⟨h1, h2, h3, h4, h5, h6, h7, h8⟩ := h
  go_enter Try.func65, Try.ntmps65
  go_wp2
  go_ret
  first | done | exact ⟨rfl, rfl⟩ | rfl
set_option maxHeartbeats 4000000 in
theorem other_cod (A : Option Addr) (n c : Nat) (L : List Int) (w : World) (hl : L.length = n) (hL : Lst w w.heap.size A (L.map (Value.int .u8))) :
    Calls Try.prog 65 #[.int .i64 65362, .slice A n c] w fun e w' => e = .returned (.bool (decide (10 ≤ n) && decide (L.getD 9 0 = 0))) ∧ w = w' := by
  by_cases h10 : 10 ≤ n
  · obtain ⟨b, o, rfl, _, hc⟩ := hL 9 (Value.int .u8 (L.getD 9 0)) (by rw [List.getElem?_map, List.getElem?_eq_getElem (by omega)]; simp [List.getD, List.getElem?_eq_getElem (show 9 < L.length by omega)])
    obtain ⟨x, hx⟩ : ∃ x, L.getD 9 0 = x := ⟨_, rfl⟩
    rw [hx] at hc ⊢
    rw [decide_eq_true h10, Bool.true_and]
    clear hx hL hl
    have hI : (10 : Int) ≤ (n : Int) ∧ (9 : Int) < (n : Int) := by omega
    by_cases hx0 : x = 0
    · subst hx0
      go_enter Try.func65, Try.ntmps65
      go_wp2
      go_ret
      first | done | exact ⟨rfl, rfl⟩ | rfl
    · rw [decide_eq_false hx0]
      have hxb : (x == 0) = false := by simp [hx0]
      go_enter Try.func65, Try.ntmps65
      go_wp2
      go_ret
      first | done | exact ⟨rfl, rfl⟩ | rfl
  · rw [decide_eq_false h10, Bool.false_and]
    clear hL hl
    have hI : ¬ (10 : Int) ≤ (n : Int) := by omega
    go_enter Try.func65, Try.ntmps65
    go_wp2
    go_ret
    first | done | exact ⟨rfl, rfl⟩ | rfl
end
section
open Go.RowKit
set_option maxRecDepth 100000
set_option maxHeartbeats 4000000 in
theorem other_qcd (A : Option Addr) (n c : Nat) (x : Nat) (L : List Int) (w : World) (hl : (((x : Int) :: L).length) = n) (hx : x < 256) (hL : Lst w w.heap.size A ((((x : Int) :: L)).map (Value.int .u8))) :
    Calls Try.prog 65 #[.int .i64 65372, .slice A n c] w fun e w' => e = .returned (.bool ((x : Int) % 32 != 0)) ∧ w = w' := by
  obtain ⟨b, o, rfl, _, hc⟩ := hL 0 (Value.int .u8 (x : Int)) rfl
  have hn : 1 ≤ n := by rw [← hl]; simp
  clear hL hl
  have hI : (1 : Int) ≤ (n : Int) ∧ (0 : Int) < (n : Int) := by omega
  rw [Nat.add_zero] at hc
  go_enter Try.func65, Try.ntmps65
  go_wp2
  refine bodyPost_ret (v := .bool ((x : Int) % 32 != 0)) (by simp [results, Try.results65, go_sem]) rfl ?_
  exact ⟨rfl, rfl⟩
set_option maxHeartbeats 4000000 in
theorem other_qnil (A : Option Addr) (c : Nat) (w : World) :
    Calls Try.prog 65 #[.int .i64 65372, .slice A 0 c] w fun e w' => e = .returned (.bool false) ∧ w = w' := by
  go_enter Try.func65, Try.ntmps65
  go_wp2
  go_ret
  first | done | exact ⟨rfl, rfl⟩ | rfl
end
end
section
open Go.RowKit
set_option maxRecDepth 100000
set_option maxHeartbeats 4000000 in
theorem allows_yes (p : Nat) (mk : Int) (w : World) (h : mk ≠ 65359 ∧ mk ≠ 65425 ∧ mk ≠ 65426 ∧ mk ≠ 65427 ∧ mk ≠ 65497 ∧ mk ≠ 65361 ∧ mk ≠ 65362 ∧ mk ≠ 65372) :
    Calls Try.prog 62 #[.pointer (some ⟨p, 0, none⟩), .int .i64 mk] w fun e w' => e = .returned (.bool true) ∧ w = w' := by
  obtain ⟨h1, h2, h3, h4, h5, h6, h7, h8⟩ := h
  go_enter Try.func62, Try.ntmps62
  go_wp2
  go_ret
  first | done | exact ⟨rfl, rfl⟩ | rfl
/-- A map of whole numbers to rows, read: what findNow says is what comes. -/
theorem look_none {w : World} {m clock : Nat} {es : Array MapEntry} (k : Int) (hm : w.heap[m]? = some (.map es clock)) (hf : Instr.findNow (.int .i64) (.int .i64 k) es.toList 0 = some none) :
    (Instr.lookup 67 (.map (some m)) (.int .i64 k) true).run Try.prog w = .ok (.tuple #[.slice none 0 0, .bool false]) w := by
  have hu : Try.prog.underlying 67 = some (.map 3 25) := by kernel_rfl
  have hi : Try.prog.underlying 3 = some (.int .i64) := by kernel_rfl
  have hz : (zeroValue 25).run Try.prog w = .ok (.slice none 0 0) w := by
    have h2 : (Try.prog.info? 25).map (·.zero) = some (some (.slice none 0 0)) := by kernel_rfl
    obtain ⟨i, h3, h4⟩ := Option.map_eq_some_iff.1 h2
    simp [zeroValue, typeInfo, h3, h4]
  simp [Instr.lookup, run_underlying hu, MapKept.run_getObj_map hm, MapKept.run_checkKey (k := .int .i64 k) hi (rfl : IntKind.i64 = IntKind.i64), MapKept.run_findKey hi hf, hz, Result.andThen]
theorem look_some {w : World} {m clock j : Nat} {es : Array MapEntry} {v : Value} (k : Int) (hm : w.heap[m]? = some (.map es clock)) (hf : Instr.findNow (.int .i64) (.int .i64 k) es.toList 0 = some (some (j, v))) :
    (Instr.lookup 67 (.map (some m)) (.int .i64 k) true).run Try.prog w = .ok (.tuple #[v, .bool true]) w := by
  have hu : Try.prog.underlying 67 = some (.map 3 25) := by kernel_rfl
  have hi : Try.prog.underlying 3 = some (.int .i64) := by kernel_rfl
  simp [Instr.lookup, run_underlying hu, MapKept.run_getObj_map hm, MapKept.run_checkKey (k := .int .i64 k) hi (rfl : IntKind.i64 = IntKind.i64), MapKept.run_findKey hi hf, Result.andThen]
set_option maxHeartbeats 4000000 in
theorem allows_new (p m clock : Nat) (es : Array MapEntry) (mk : Int) (w : World) (h : mk = 65361 ∨ mk = 65362 ∨ mk = 65372) (hp : w.cell? ⟨p, 19, none⟩ = some (.map (some m))) (hm : w.heap[m]? = some (.map es clock)) (hf : Instr.findNow (.int .i64) (.int .i64 mk) es.toList 0 = some none) :
    Calls Try.prog 62 #[.pointer (some ⟨p, 0, none⟩), .int .i64 mk] w fun e w' => e = .returned (.bool true) ∧ w = w' := by
  have hl := look_none mk hm hf
  clear hf hm
  rcases h with rfl | rfl | rfl <;> (go_enter Try.func62, Try.ntmps62; go_wp2; go_ret; first | done | exact ⟨rfl, rfl⟩ | rfl)
set_option maxHeartbeats 4000000 in
theorem allows_again (p m clock j : Nat) (es : Array MapEntry) (v : Value) (mk : Int) (w : World) (h : mk = 65361 ∨ mk = 65362 ∨ mk = 65372) (hp : w.cell? ⟨p, 19, none⟩ = some (.map (some m))) (hm : w.heap[m]? = some (.map es clock)) (hf : Instr.findNow (.int .i64) (.int .i64 mk) es.toList 0 = some (some (j, v))) :
    Calls Try.prog 62 #[.pointer (some ⟨p, 0, none⟩), .int .i64 mk] w fun e w' => e = .returned (.bool false) ∧ w = w' := by
  have hl := look_some mk hm hf
  clear hf hm
  rcases h with rfl | rfl | rfl <;> (go_enter Try.func62, Try.ntmps62; go_wp2; go_ret; first | done | exact ⟨rfl, rfl⟩ | rfl)
end
end
section
open Go.RowKit
set_option maxRecDepth 100000
theorem put_new {w : World} {m clock : Nat} {es : Array MapEntry} (k : Int) (v : Value) (hm : w.heap[m]? = some (.map es clock)) (hf : Instr.findNow (.int .i64) (.int .i64 k) es.toList 0 = some none) :
    (Instr.mapUpdate 67 (.map (some m)) (.int .i64 k) v).run Try.prog w = .ok () { w with heap := w.heap.setIfInBounds m (.map (es.push ⟨.int .i64 k, v, clock⟩) (clock + 1)) } := by
  have hu : Try.prog.underlying 67 = some (.map 3 25) := by kernel_rfl
  have hi : Try.prog.underlying 3 = some (.int .i64) := by kernel_rfl
  simp [Instr.mapUpdate, run_underlying hu, MapKept.run_getObj_map hm, MapKept.run_checkKey (k := .int .i64 k) hi (rfl : IntKind.i64 = IntKind.i64), MapKept.run_findKey hi hf, MapKept.run_setObj_map _ hm, Result.andThen]
/-- The entries that Parse lays down: what findNow says of them. -/
theorem find_nil (k : Int) : Instr.findNow (.int .i64) (.int .i64 k) (#[] : Array MapEntry).toList 0 = some none := rfl
end
end
section
open Go.RowKit
set_option maxRecDepth 100000
/-- A map's entries, laid one behind another. -/
def mkE (x : Int × Value × Nat) : MapEntry := ⟨.int .i64 x.1, x.2.1, x.2.2⟩
def lookE : List (Int × Value × Nat) → Int → Nat → Option (Nat × Value)
  | [], _, _ => none
  | x :: l, k, i => if k = x.1 then some (i, x.2.1) else lookE l k (i + 1)
theorem find_map (k : Int) : ∀ (L : List (Int × Value × Nat)) (i : Nat), Instr.findNow (.int .i64) (.int .i64 k) (L.map mkE) i = some (lookE L k i)
  | [], _ => rfl
  | x :: l, i => by
    have ih := find_map k l (i + 1)
    have hs : Instr.sameNow (.int .i64) (.int .i64 k) (.int .i64 x.1) = some (decide (k = x.1)) := by
      by_cases h : k = x.1 <;> simp [Instr.sameNow, h]
    rw [List.map_cons, Instr.findNow, show (mkE x).key = .int .i64 x.1 from rfl, hs, lookE]
    by_cases h : k = x.1
    · simp [h, mkE]
    · simp [h, ih]
/-- All blocks but these stay. -/
structure Eff (bs : List Nat) (w w' : World) : Prop where
  os : w'.os = w.os
  tape : w'.tape = w.tape
  output : w'.output = w.output
  size : w.heap.size ≤ w'.heap.size
  block : ∀ k, k < w.heap.size → k ∉ bs → w'.heap[k]? = w.heap[k]?
theorem Eff.refl (bs : List Nat) (w : World) : Eff bs w w := ⟨rfl, rfl, rfl, Nat.le_refl _, fun _ _ _ => rfl⟩
theorem Eff.trans {bs : List Nat} {a b c : World} (h : Eff bs a b) (k : Eff bs b c) : Eff bs a c := ⟨k.os.trans h.os, k.tape.trans h.tape, k.output.trans h.output, Nat.le_trans h.size k.size, fun i h1 h2 => (k.block i (Nat.lt_of_lt_of_le h1 h.size) h2).trans (h.block i h1 h2)⟩
theorem Eff.more {bs cs : List Nat} {a b : World} (h : Eff bs a b) (hs : ∀ k ∈ bs, k ∈ cs) : Eff cs a b := ⟨h.os, h.tape, h.output, h.size, fun i h1 h2 => h.block i h1 (fun h3 => h2 (hs i h3))⟩
theorem Eff.of_grown {a b : World} {q : Nat} (h : a.grownBy b (some q)) : Eff [q] a b := ⟨h.os, h.tape, h.output, h.size, fun k h1 h2 => h.block k h1 (fun e => h2 (by injection e with e; simp [e]))⟩
theorem Eff.of_below {bs : List Nat} {a b : World} (h : Below a.heap.size a b) : Eff bs a b := ⟨h.os, h.tape, h.output, h.size, fun k h1 _ => h.block k h1⟩
/-- A map put back. -/
def putM (w : World) (m : Nat) (o : Obj) : World := { w with heap := w.heap.setIfInBounds m o }
theorem putM_at {w : World} {m : Nat} {o o' : Obj} (h : w.heap[m]? = some o') : (putM w m o).heap[m]? = some o := by
  have := (Array.getElem?_eq_some_iff.1 h).1
  simp [putM, this]
theorem putM_ne {w : World} {m k : Nat} {o : Obj} (h : k ≠ m) : (putM w m o).heap[k]? = w.heap[k]? := by
  unfold putM
  exact Array.getElem?_setIfInBounds_ne (fun e => h e.symm)
theorem putM_size (w : World) (m : Nat) (o : Obj) : (putM w m o).heap.size = w.heap.size := by simp [putM]
theorem Eff.put (w : World) (m : Nat) (o : Obj) : Eff [m] w (putM w m o) := ⟨rfl, rfl, rfl, Nat.le_of_eq (putM_size w m o).symm, fun k _ h2 => putM_ne (fun e => h2 (by simp [e]))⟩
set_option maxHeartbeats 8000000 in
theorem keep_qcd (P m clock n c : Nat) (es : Array MapEntry) (A : Option Addr) (v0 v1 v2 v3 v4 v5 v6 v7 v8 v9 v10 v11 v12 v13 v14 v15 v16 v17 v18 : Value) (w : World) (hP : w.heap[P]? = some (.cells #[v0, v1, v2, v3, v4, v5, v6, v7, v8, v9, v10, v11, v12, v13, v14, v15, v16, v17, v18, .map (some m)] 69 (0, 0))) (hm : w.heap[m]? = some (.map es clock)) (hPm : m < P) (hf : Instr.findNow (.int .i64) (.int .i64 65372) es.toList 0 = some none) :
    Calls Try.prog 66 #[.pointer (some ⟨P, 0, none⟩), .int .i64 65372, .slice A n c] w fun e w' => e = .returned (.bool true) ∧ w'.heap[P]? = some (.cells #[v0, v1, v2, v3, v4, v5, v6, v7, v8, v9, v10, v11, v12, v13, v14, v15, v16, v17, v18, .map (some m)] 69 (0, 0)) ∧ w'.heap[m]? = some (.map (es.push ⟨.int .i64 65372, (.slice A n c), clock⟩) (clock + 1)) ∧ Eff [m] w w' := by
  obtain ⟨W, hW⟩ : ∃ X_, putM w m (.map (es.push ⟨.int .i64 65372, (.slice A n c), clock⟩) (clock + 1)) = X_ := ⟨_, rfl⟩
  have hpn : (Instr.mapUpdate 67 (.map (some m)) (.int .i64 65372) (.slice A n c)).run Try.prog w = .ok () W := by rw [← hW]; exact put_new 65372 (.slice A n c) hm hf
  have HW : Hid (W.heap[P]? = some (.cells #[v0, v1, v2, v3, v4, v5, v6, v7, v8, v9, v10, v11, v12, v13, v14, v15, v16, v17, v18, .map (some m)] 69 (0, 0)) ∧ W.heap[m]? = some (.map (es.push ⟨.int .i64 65372, (.slice A n c), clock⟩) (clock + 1)) ∧ Eff [m] w W ∧ W.heap.size = w.heap.size) := Lib.hid (by
    rw [← hW]
    exact ⟨(putM_ne (by omega)).trans hP, putM_at hm, Eff.put _ _ _, putM_size _ _ _⟩)
  have c19 := rb_cell hP 19
  simp only [List.getElem?_toArray, List.getElem?_cons_succ, List.getElem?_cons_zero] at c19
  have hmP : m < P := hPm
  clear hW hm hP hf
  go_enter Try.func66, Try.ntmps66
  go_wp2
  go_ret
  exact ⟨rfl, HW.out.1, HW.out.2.1, HW.out.2.2.1⟩
set_option maxHeartbeats 8000000 in
theorem keep_other (P : Nat) (mk : Int) (V : Value) (w : World) (h : mk ≠ 65361 ∧ mk ≠ 65362 ∧ mk ≠ 65372 ∧ mk ≠ 65380) :
    Calls Try.prog 66 #[.pointer (some ⟨P, 0, none⟩), .int .i64 mk, V] w fun e w' => e = .returned (.bool true) ∧ w = w' := by
  obtain ⟨h1, h2, h3, h4⟩ := h
  go_enter Try.func66, Try.ntmps66
  go_wp2
  go_ret
  first | done | exact ⟨rfl, rfl⟩ | rfl
set_option maxHeartbeats 8000000 in
theorem keep_cshort (P n c : Nat) (A : Option Addr) (w : World) (h : n < 2) :
    Calls Try.prog 66 #[.pointer (some ⟨P, 0, none⟩), .int .i64 65380, .slice A n c] w fun e w' => e = .returned (.bool false) ∧ w = w' := by
  have hI : (n : Int) < 2 := by omega
  go_enter Try.func66, Try.ntmps66
  go_wp2
  go_ret
  first | done | exact ⟨rfl, rfl⟩ | rfl
set_option maxHeartbeats 8000000 in
theorem keep_com (P g n c : Nat) (v0 v1 v2 v3 v4 v5 v6 v7 v8 v9 v10 v11 v12 v13 v14 v15 v16 v17 v18 v19 : Value) (w : World) (hP : w.heap[P]? = some (.cells #[v0, v1, v2, v3, v4, v5, v6, v7, v8, v9, v10, v11, v12, v13, v14, v15, v16, v17, v18, v19] 69 (0, 0))) (hn : 2 ≤ n ∧ n ≤ c) :
    Calls Try.prog 66 #[.pointer (some ⟨P, 0, none⟩), .int .i64 65380, .slice (some ⟨g, 0, none⟩) n c] w fun e w' => ∃ q, e = .returned (.bool true) ∧ w'.heap[P]? = some (.cells #[v0, v1, v2, v3, v4, v5, v6, v7, v8, v9, v10, v11, v12, v13, v14, v15, v16, v17, .slice (some ⟨g, q, none⟩) (n - 2) (c - 2), v19] 69 (0, 0)) ∧ (n = 2 ∨ q = 2) ∧ Eff [P] w w' := by
  have c18 := rb_cell hP 18
  simp only [List.getElem?_toArray, List.getElem?_cons_succ, List.getElem?_cons_zero] at c18
  have z18 := blk_frozen hP 18
  by_cases hc2 : c = 2
  · subst hc2
    obtain rfl : n = 2 := by omega
    obtain ⟨W, hW⟩ : ∃ X_, World.setCell w { block := P, off := 18 } (.slice (some ⟨g, 0, none⟩) 0 0) = X_ := ⟨_, rfl⟩
    have HW : Hid (W.heap[P]? = some (.cells #[v0, v1, v2, v3, v4, v5, v6, v7, v8, v9, v10, v11, v12, v13, v14, v15, v16, v17, .slice (some ⟨g, 0, none⟩) 0 0, v19] 69 (0, 0)) ∧ Eff [P] w W) := Lib.hid (by
      rw [← hW]
      exact ⟨blk_set hP 18 _, Eff.of_grown (grown_set _ _ _ _)⟩)
    clear hP
    go_enter Try.func66, Try.ntmps66
    go_wp2
    go_ret
    exact ⟨0, rfl, HW.out.1, .inl trivial, HW.out.2⟩
  · have hI : ¬ (n : Int) < 2 ∧ (2 : Int) ≤ (n : Int) ∧ (n : Int) ≤ (c : Int) := by omega
    have hN : 2 ≤ n ∧ n ≤ c ∧ 2 ≤ c := by omega
    obtain ⟨W, hW⟩ : ∃ X_, World.setCell w { block := P, off := 18 } (.slice (some ⟨g, 2, none⟩) (n - 2) (c - 2)) = X_ := ⟨_, rfl⟩
    have HW : Hid (W.heap[P]? = some (.cells #[v0, v1, v2, v3, v4, v5, v6, v7, v8, v9, v10, v11, v12, v13, v14, v15, v16, v17, .slice (some ⟨g, 2, none⟩) (n - 2) (c - 2), v19] 69 (0, 0)) ∧ Eff [P] w W) := Lib.hid (by
      rw [← hW]
      exact ⟨blk_set hP 18 _, Eff.of_grown (grown_set _ _ _ _)⟩)
    clear hP
    go_enter Try.func66, Try.ntmps66
    go_wp2
    go_ret
    exact ⟨rfl, 2, HW.out.1, .inr rfl, HW.out.2⟩
set_option maxHeartbeats 8000000 in
theorem keep_cod (P m clock n c : Nat) (es : Array MapEntry) (A : Option Addr) (LV PR : Nat) (mk od la lb tn lv cw ch st : Int) (SO EP RC : Bool) (v0 v1 v2 v3 v4 v5 v6 v7 v8 v9 v10 v11 v12 v13 v14 v15 v16 v17 v18 : Value) (w : World) (hP : w.heap[P]? = some (.cells #[v0, v1, v2, v3, v4, v5, v6, v7, v8, v9, v10, v11, v12, v13, v14, v15, v16, v17, v18, .map (some m)] 69 (0, 0))) (hm : w.heap[m]? = some (.map es clock)) (hPm : m < P) (hf : Instr.findNow (.int .i64) (.int .i64 65362) es.toList 0 = some none) (hc : w.ownsRow (P + 1) 5 1 (.slice A n c) n (([mk, od, la, lb, tn, lv, cw, ch, st, 1] ++ List.replicate (LV + 1) (17 * (PR : Int))).map (Value.int .u8))) (hn : LV + 11 = n) (hmk : mk = 1 + (if SO then 2 else 0) + (if EP then 4 else 0)) (htn : tn = if RC then 1 else 0) (hlv : lv = (LV : Int)) (hLV : LV ≤ 40) (hPR : 1 ≤ PR ∧ PR ≤ 15) (hod : 0 ≤ od ∧ od ≤ 255) (hla : 0 ≤ la ∧ la ≤ 255) (hlb : 0 ≤ lb ∧ lb ≤ 255) (hly : 1 ≤ la * 256 + lb ∧ la * 256 + lb ≤ 8) (hcw : 0 ≤ cw ∧ cw ≤ 255) (hch : 0 ≤ ch ∧ ch ≤ 255) (hst : 0 ≤ st ∧ st ≤ 63) :
    Calls Try.prog 66 #[.pointer (some ⟨P, 0, none⟩), .int .i64 65362, .slice A n c] w fun e w' => e = .returned (.bool true) ∧ w'.heap[P]? = some (.cells #[v0, v1, v2, v3, v4, v5, v6, v7, .int .i64 lv, .int .i64 (cw + 2), .int .i64 (ch + 2), .int .i64 (PR : Int), .int .i64 st, .int .i64 od, .int .i64 (la * 256 + lb), .bool RC, .bool SO, .bool EP, v18, .map (some m)] 69 (0, 0)) ∧ w'.heap[m]? = some (.map (es.push ⟨.int .i64 65362, (.slice A n c), clock⟩) (clock + 1)) ∧ Eff [P, m] w w' := by
  obtain ⟨W, hW⟩ : ∃ X_, putM w m (.map (es.push ⟨.int .i64 65362, (.slice A n c), clock⟩) (clock + 1)) = X_ := ⟨_, rfl⟩
  have hpn : (Instr.mapUpdate 67 (.map (some m)) (.int .i64 65362) (.slice A n c)).run Try.prog w = .ok () W := by rw [← hW]; exact put_new 65362 (.slice A n c) hm hf
  have HW : Hid (W.heap[P]? = some (.cells #[v0, v1, v2, v3, v4, v5, v6, v7, v8, v9, v10, v11, v12, v13, v14, v15, v16, v17, v18, .map (some m)] 69 (0, 0)) ∧ W.heap[m]? = some (.map (es.push ⟨.int .i64 65362, (.slice A n c), clock⟩) (clock + 1)) ∧ Eff [m] w W ∧ W.heap.size = w.heap.size) := Lib.hid (by
    rw [← hW]
    exact ⟨(putM_ne (by omega)).trans hP, putM_at hm, Eff.put _ _ _, putM_size _ _ _⟩)
  have c19 := rb_cell hP 19
  simp only [List.getElem?_toArray, List.getElem?_cons_succ, List.getElem?_cons_zero] at c19
  have hmP : m < P := hPm
  clear hW hm hP hf
  have CD := Lib.hid (coding_yes P n c LV PR A mk od la lb tn lv cw ch st SO EP RC (v0) (v1) (v2) (v3) (v4) (v5) (v6) (v7) (v8) (v9) (v10) (v11) (v12) (v13) (v14) (v15) (v16) (v17) (v18) (.map (some m)) W HW.out.1 (by
    have h1 : W.ownsRow (P + 1) 5 1 (.slice A n c) n (([mk, od, la, lb, tn, lv, cw, ch, st, 1] ++ List.replicate (LV + 1) (17 * (PR : Int))).map (Value.int .u8)) := ownsRow_keep hc HW.out.2.2.1.size (fun k hk => HW.out.2.2.1.block k (own_lt hc hk).2 (by have := (own_lt hc hk).1; simp; omega))
    exact Lst.own h1) hn hmk htn hlv hLV hPR hod hla hlb hly hcw hch hst)
  clear hc hn hmk htn hlv hLV hPR hod hla hlb hly hcw hch hst
  go_enter Try.func66, Try.ntmps66
  go_wp2_with fail
  refine CD.out.mono ?_
  rintro e w2 ⟨rfl, h1, h2⟩
  have HF : Hid (w2.heap[P]? = some (.cells #[v0, v1, v2, v3, v4, v5, v6, v7, .int .i64 lv, .int .i64 (cw + 2), .int .i64 (ch + 2), .int .i64 (PR : Int), .int .i64 st, .int .i64 od, .int .i64 (la * 256 + lb), .bool RC, .bool SO, .bool EP, v18, .map (some m)] 69 (0, 0)) ∧ w2.heap[m]? = some (.map (es.push ⟨.int .i64 65362, (.slice A n c), clock⟩) (clock + 1)) ∧ Eff [P, m] w w2) := Lib.hid ⟨h1, (h2.block m (blk_lt HW.out.2.1) (fun e => by injection e with e; omega)).trans HW.out.2.1, (HW.out.2.2.1.more (by simp)).trans ((Eff.of_grown h2).more (by simp))⟩
  clear h1 h2 CD
  go_wp2
  go_ret
  exact ⟨rfl, HF.out.1, HF.out.2.1, HF.out.2.2⟩
set_option maxHeartbeats 8000000 in
theorem keep_siz (P m clock n c : Nat) (es : Array MapEntry) (A : Option Addr) (x0 x1 x2 x3 y0 y1 y2 y3 p0 p1 p2 p3 r0 r1 r2 r3 s0 s1 s2 s3 t0 t1 t2 t3 n0 n1 : Int) (X Y OX OY TX TY : Int) (zs : List (Int × Int × Int)) (v0 v1 v2 v3 v4 v5 v6 v7 v8 v9 v10 v11 v12 v13 v14 v15 v16 v17 v18 : Value) (w : World) (hP : w.heap[P]? = some (.cells #[v0, v1, v2, v3, v4, v5, v6, v7, v8, v9, v10, v11, v12, v13, v14, v15, v16, v17, v18, .map (some m)] 69 (0, 0))) (hm : w.heap[m]? = some (.map es clock)) (hPm : m < P) (hf : Instr.findNow (.int .i64) (.int .i64 65361) es.toList 0 = some none) (hc : w.ownsRow (P + 1) 5 1 (.slice A n c) n (([0, 0, x0, x1, x2, x3, y0, y1, y2, y3, p0, p1, p2, p3, r0, r1, r2, r3, s0, s1, s2, s3, t0, t1, t2, t3, 0, 0, 0, 0, 0, 0, 0, 0, n0, n1] ++ zs.flatMap trip).map (Value.int .u8))) (hn : 36 + zs.length * 3 = n) (hX : (((x0 * 256 + x1) * 256 + x2) * 256 + x3) = X) (hY : (((y0 * 256 + y1) * 256 + y2) * 256 + y3) = Y) (hOX : (((p0 * 256 + p1) * 256 + p2) * 256 + p3) = OX) (hOY : (((r0 * 256 + r1) * 256 + r2) * 256 + r3) = OY) (hTX : (((s0 * 256 + s1) * 256 + s2) * 256 + s3) = TX) (hTY : (((t0 * 256 + t1) * 256 + t2) * 256 + t3) = TY) (hnn : n0 * 256 + n1 = (zs.length : Int)) (hzl : zs.length ≤ 1000) (hOc : Oct ([0, 0, x0, x1, x2, x3, y0, y1, y2, y3, p0, p1, p2, p3, r0, r1, r2, r3, s0, s1, s2, s3, t0, t1, t2, t3, 0, 0, 0, 0, 0, 0, 0, 0, n0, n1])) (hOz : ∀ z ∈ zs, (0 ≤ z.1 ∧ z.1 ≤ 255) ∧ (0 ≤ z.2.1 ∧ z.2.1 ≤ 255) ∧ (0 ≤ z.2.2 ∧ z.2.2 ≤ 255)) :
    Calls Try.prog 66 #[.pointer (some ⟨P, 0, none⟩), .int .i64 65361, .slice A n c] w fun e w' => ∃ (CA : Option Addr) (cc : Nat), e = .returned (.bool true) ∧ w'.heap[P]? = some (.cells #[v0, .int .i64 X, .int .i64 Y, .int .i64 OX, .int .i64 OY, .slice CA zs.length cc, .int .i64 TX, .int .i64 TY, v8, v9, v10, v11, v12, v13, v14, v15, v16, v17, v18, .map (some m)] 69 (0, 0)) ∧ w'.heap[m]? = some (.map (es.push ⟨.int .i64 65361, (.slice A n c), clock⟩) (clock + 1)) ∧ CRow w.heap.size w' (.slice CA zs.length cc) (zs.map cpOf) ∧ Eff [P, m] w w' := by
  obtain ⟨W, hW⟩ : ∃ X_, putM w m (.map (es.push ⟨.int .i64 65361, (.slice A n c), clock⟩) (clock + 1)) = X_ := ⟨_, rfl⟩
  have hpn : (Instr.mapUpdate 67 (.map (some m)) (.int .i64 65361) (.slice A n c)).run Try.prog w = .ok () W := by rw [← hW]; exact put_new 65361 (.slice A n c) hm hf
  have HW : Hid (W.heap[P]? = some (.cells #[v0, v1, v2, v3, v4, v5, v6, v7, v8, v9, v10, v11, v12, v13, v14, v15, v16, v17, v18, .map (some m)] 69 (0, 0)) ∧ W.heap[m]? = some (.map (es.push ⟨.int .i64 65361, (.slice A n c), clock⟩) (clock + 1)) ∧ Eff [m] w W ∧ W.heap.size = w.heap.size) := Lib.hid (by
    rw [← hW]
    exact ⟨(putM_ne (by omega)).trans hP, putM_at hm, Eff.put _ _ _, putM_size _ _ _⟩)
  have c19 := rb_cell hP 19
  simp only [List.getElem?_toArray, List.getElem?_cons_succ, List.getElem?_cons_zero] at c19
  have hmP : m < P := hPm
  clear hW hm hP hf
  have SY := Lib.hid (size_yes P n c A x0 x1 x2 x3 y0 y1 y2 y3 p0 p1 p2 p3 r0 r1 r2 r3 s0 s1 s2 s3 t0 t1 t2 t3 n0 n1 X Y OX OY TX TY zs (v0) (v1) (v2) (v3) (v4) (v5) (v6) (v7) (v8) (v9) (v10) (v11) (v12) (v13) (v14) (v15) (v16) (v17) (v18) (.map (some m)) W HW.out.1 (by
    have h1 : W.ownsRow (P + 1) 5 1 (.slice A n c) n (([0, 0, x0, x1, x2, x3, y0, y1, y2, y3, p0, p1, p2, p3, r0, r1, r2, r3, s0, s1, s2, s3, t0, t1, t2, t3, 0, 0, 0, 0, 0, 0, 0, 0, n0, n1] ++ zs.flatMap trip).map (Value.int .u8)) := ownsRow_keep hc HW.out.2.2.1.size (fun k hk => HW.out.2.2.1.block k (own_lt hc hk).2 (by have := (own_lt hc hk).1; simp; omega))
    exact Lst.own h1) hn hX hY hOX hOY hTX hTY hnn hzl hOc hOz)
  clear hc hn hX hY hOX hOY hTX hTY hnn hzl hOc hOz
  go_enter Try.func66, Try.ntmps66
  go_wp2_with fail
  refine SY.out.mono ?_
  rintro e w2 ⟨CA, cc, rfl, h1, h3, h2⟩
  rw [HW.out.2.2.2] at h3
  have HF : Hid (w2.heap[P]? = some (.cells #[v0, .int .i64 X, .int .i64 Y, .int .i64 OX, .int .i64 OY, .slice CA zs.length cc, .int .i64 TX, .int .i64 TY, v8, v9, v10, v11, v12, v13, v14, v15, v16, v17, v18, .map (some m)] 69 (0, 0)) ∧ w2.heap[m]? = some (.map (es.push ⟨.int .i64 65361, (.slice A n c), clock⟩) (clock + 1)) ∧ CRow w.heap.size w2 (.slice CA zs.length cc) (zs.map cpOf) ∧ Eff [P, m] w w2) := Lib.hid ⟨h1, (h2.block m (blk_lt HW.out.2.1) (fun e => by injection e with e; omega)).trans HW.out.2.1, h3, (HW.out.2.2.1.more (by simp)).trans ((Eff.of_grown h2).more (by simp))⟩
  clear h1 h2 h3 SY
  go_wp2
  go_ret
  exact ⟨CA, cc, rfl, HF.out.1, HF.out.2.1, HF.out.2.2.1, HF.out.2.2.2⟩
end
end Go.Proofs.Ytlbfjaifemnkpaa
