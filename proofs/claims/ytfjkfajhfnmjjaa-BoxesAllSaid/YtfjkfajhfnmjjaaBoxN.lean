/- Package boxes: next by its contract. -/
import Derived.Test.YtfjkfajhfnmjjaaBoxM
import Derived.Test.YtfjkfajhfnmjjaaOnly
import Derived.Laws.ResultCell
set_option linter.unusedVariables false
set_option linter.unusedSimpArgs false
namespace Go.Proofs.Ytfjkfajhfnmjjaa
open Go.RowKit
def NxtR (w w' : World) (lo p : Nat) (e : Ending) : Nxt → Prop
  | .err c => e = .returned (.tuple #[.agg #[.string ⟨#[]⟩, .slice none 0 0], .int .i64 c]) ∧ w.grownBy w' (some p) ∧ (∃ l' e', Rd w' lo p l' e')
  | .box k d r => ∃ V, e = .returned (.tuple #[.agg #[.string (strOf k), V], .int .i64 0]) ∧ w'.ownsRow w.heap.size 5 1 V d.length (d.map (Value.int .u8)) ∧ Rd w' lo p r 0 ∧ w.grownBy w' (some p)
theorem box_res {w : World} {B : Nat} {kd V e : Value} {tmps : Array Value} (hb : w.heap[B]? = some (.cells #[kd, V] 42 (0, 0))) (h2 : tmps.getD 2 undef = .pointer (some ⟨B, 0, none⟩)) (h3 : tmps.getD 3 undef = e) :
    (results Try.f25 tmps).run Try.prog w = .ok (.tuple #[.agg #[kd, V], e]) w := by
  have hr := run_loadVar_row (P := Try.prog) w B 42 42 #[kd, V] (0, 0) _ hb Try.underlying42 rfl (by
    show (Try.prog.info? 42).map (·.size) = some 2
    kernel_rfl)
  rw [results_cell_tmp (p := 2) (u := 3) (ty := 42) rfl, h2, h3]
  simp only [asAddr, Sem.run_pure, Result.andThen_ok, hr]
theorem NxtR.box_of {w w' : World} {lo p : Nat} {k d r : List Int} {m : Nat} {V V2 : Value} (h : Nx w w' lo p r 0 (.string (strOf k)) V2) (hd : d.length = m) (hV : w'.ownsRow w.heap.size 5 1 V m (d.map (Value.int .u8))) : NxtR w w' lo p (.returned (.tuple #[.agg #[.string (strOf k), V], .int .i64 0])) (.box k d r) := ⟨V, rfl, by rw [hd]; exact hV, h.rd, h.g⟩
theorem NxtR.err_of {w w' : World} {lo p : Nat} {l : List Int} {err c : Int} {kd V : Value} (h : Nx w w' lo p l err kd V) : NxtR w w' lo p (.returned (.tuple #[.agg #[.string ⟨#[]⟩, .slice none 0 0], .int .i64 c])) (.err c) := ⟨rfl, h.g, l, err, h.rd⟩
theorem Nx.own {w w7 wk : World} {lo p m : Nat} {l : List Int} {err : Int} {kd V v : Value} {xs : List Value} (h : Nx w wk lo p l err kd V) (hO : ∃ base, w.heap.size < base ∧ w7.ownsRow base 5 1 v m xs) (hd : Drew w7 wk) (k2 V2 : Value) : ((wk.setCell ⟨w.heap.size, 0, none⟩ k2).setCell ⟨w.heap.size, 1, none⟩ V2).ownsRow w.heap.size 5 1 v m xs := by
  obtain ⟨base, hb, hO⟩ := hO
  obtain ⟨n, rfl⟩ := hd
  refine own_mono (ownsRow_keep hO (by simp [World.setCell]) (fun k hk => ?_)) (Nat.le_of_lt hb)
  have := (own_lt hO hk).1
  rw [Below.heap_setCell _ _ _ _ (by simp; omega), Below.heap_setCell _ _ _ _ (by simp; omega)]
  rfl
theorem Nx.set {w wk : World} {lo p : Nat} {l : List Int} {err : Int} {kd V : Value} (h : Nx w wk lo p l err kd V) (k2 V2 : Value) : Nx w ((wk.setCell ⟨w.heap.size, 0, none⟩ k2).setCell ⟨w.heap.size, 1, none⟩ V2) lo p l err k2 V2 := by
  have hb := blk_set (blk_set h.b 0 k2) 1 V2
  have hk : ∀ k, k < w.heap.size → (((wk.setCell ⟨w.heap.size, 0, none⟩ k2).setCell ⟨w.heap.size, 1, none⟩ V2).heap[k]? = wk.heap[k]?) := fun k hk => by
    rw [Below.heap_setCell _ _ _ _ (by simp; omega), Below.heap_setCell _ _ _ _ (by simp; omega)]
  refine ⟨h.rd.keep fun k _ hk2 => hk k (by have := h.pl; omega), ?_, hb, h.pl⟩
  exact ⟨h.g.os, h.g.tape, h.g.output, by simp [World.setCell]; exact h.g.size, fun k h1 h2 => (hk k h1).trans (h.g.block k h1 h2)⟩
set_option maxRecDepth 100000 in
set_option maxHeartbeats 4000000 in
theorem next_lt4 {w : World} {lo p : Nat} {l : List Int} (h : Rd w lo p l 0) (hl : l.length ≤ 100000) (hb : ∀ x ∈ l, 0 ≤ x ∧ x ≤ 255) (h4 : l.length < 4) :
    Calls Try.prog 25 #[.pointer (some ⟨p, 0, none⟩)] w fun e w' => NxtR w w' lo p e (.err 8) := by
  have hp := h.lt
  obtain ⟨W1, hW1⟩ : ∃ W1, w.alloc (Obj.cells #[.string ⟨#[]⟩, .slice none 0 0] 42) = W1 := ⟨_, rfl⟩
  have HN1 : Hid (Nx w W1 lo p l 0 (.string ⟨#[]⟩) (.slice none 0 0)) := Lib.hid (by
    have hbl : Below w.heap.size w W1 := by rw [← hW1]; exact (Below.refl _ w).alloc (Nat.le_refl _) _
    exact ⟨h.below hbl hp, grown_below hbl (Nat.le_refl _), by rw [← hW1]; exact heap_alloc_new w _, hp⟩)
  have HBY := Lib.hid hb
  obtain ⟨n, hn⟩ : ∃ n, l.length = n := ⟨_, rfl⟩
  have CL := HN1.out.left (by omega)
  rw [if_pos rfl, hn] at CL
  replace CL := Lib.hid CL
  have HLN := Lib.hid hn
  rw [hn] at hl
  clear h hp hb hn
  go_enter Try.func25, Try.ntmps25
  go_wp2_with fail
  clear hW1
  refine CL.out.mono ?_
  rintro e w2 ⟨rfl, rfl⟩
  clear CL
  have HL1 : Hid (l.length = n) := HLN
  have HB1 : Hid (∀ x ∈ l, 0 ≤ x ∧ x ≤ 255) := HBY
  have hcv : ∀ u, (convert 24 9 (.slice none 0 0)).run Try.prog u = .ok (.string ⟨#[]⟩) u := fun u => conv_str (w := u) (B := 0) (A := none) (n := 0) (c := 0) (ns := []) rfl Lst.nil
  have C3 := Lib.hid (HN1.out.get_no 4 (by omega) (by have := HL1.out; have := HL1.out; first | (left; omega) | (right; decide)) (by have := HL1.out; have := HL1.out; omega))
  go_wp2_with fail
  refine C3.out.mono ?_
  rintro e w3 ⟨rfl, h3⟩
  have HN3 := Lib.hid (h3 (by simp))
  clear h3 C3 HN1
  have HL3 := HL1
  have C4 := Lib.hid (HN3.out.take_no 4 (by omega) (by have := HL3.out; have := HL1.out; first | (left; omega) | (right; decide)) (by have := HL3.out; have := HL1.out; omega))
  go_wp2_with fail
  refine C4.out.mono ?_
  rintro e w4 ⟨rfl, h4⟩
  have HN4 := Lib.hid (h4 (by simp))
  clear h4 C4 HN3
  have HL4 := HL3
  have CE := HN4.out.fin (by have := HL4.out; have := HL1.out; omega)
  rw [show ∀ m, endE m 8 = 8 from fun m => by unfold endE; rw [if_neg (by omega)]] at CE
  replace CE := Lib.hid CE
  go_wp2_with fail
  refine CE.out.mono ?_
  rintro e w5 ⟨rfl, h5, hd5⟩
  have HN5 := Lib.hid h5
  have HD5 := Lib.hid hd5
  clear h5 hd5 CE HN4
  have HL5 := HL4
  have HS := Lib.hid (HN5.out.set (.string ⟨#[]⟩) (.slice none 0 0))
  have k0 := blk_cell HN5.out.b 0
  have k1 := blk_cell HN5.out.b 1
  have f0 := blk_frozen HN5.out.b 0
  have f1 := blk_frozen HN5.out.b 1
  simp at k0 k1
  go_wp2_with fail
  refine bodyPost_ret (by exact box_res HS.out.b rfl rfl) rfl ?_
  exact NxtR.err_of HS.out
set_option maxRecDepth 100000 in
set_option maxHeartbeats 4000000 in
theorem next_mid0 {w : World} {lo p : Nat} {l : List Int} (h : Rd w lo p l 0) (hl : l.length ≤ 100000) (hb : ∀ x ∈ l, 0 ≤ x ∧ x ≤ 255) (h4 : 4 ≤ l.length) (h8 : l.length < 8) (hL : num (l.take 4) = 0) :
    Calls Try.prog 25 #[.pointer (some ⟨p, 0, none⟩)] w fun e w' => NxtR w w' lo p e (.err 8) := by
  have hp := h.lt
  obtain ⟨W1, hW1⟩ : ∃ W1, w.alloc (Obj.cells #[.string ⟨#[]⟩, .slice none 0 0] 42) = W1 := ⟨_, rfl⟩
  have HN1 : Hid (Nx w W1 lo p l 0 (.string ⟨#[]⟩) (.slice none 0 0)) := Lib.hid (by
    have hbl : Below w.heap.size w W1 := by rw [← hW1]; exact (Below.refl _ w).alloc (Nat.le_refl _) _
    exact ⟨h.below hbl hp, grown_below hbl (Nat.le_refl _), by rw [← hW1]; exact heap_alloc_new w _, hp⟩)
  have HBY := Lib.hid hb
  obtain ⟨n, hn⟩ : ∃ n, l.length = n := ⟨_, rfl⟩
  have CL := HN1.out.left (by omega)
  rw [if_pos rfl, hn] at CL
  replace CL := Lib.hid CL
  have HLN := Lib.hid hn
  rw [hn] at hl
  clear h hp hb hn
  go_enter Try.func25, Try.ntmps25
  go_wp2_with fail
  clear hW1
  refine CL.out.mono ?_
  rintro e w2 ⟨rfl, rfl⟩
  clear CL
  have HL1 : Hid (l.length = n) := HLN
  have HB1 : Hid (∀ x ∈ l, 0 ≤ x ∧ x ≤ 255) := HBY
  have hcv : ∀ u, (convert 24 9 (.slice none 0 0)).run Try.prog u = .ok (.string ⟨#[]⟩) u := fun u => conv_str (w := u) (B := 0) (A := none) (n := 0) (c := 0) (ns := []) rfl Lst.nil
  have C3 := HN1.out.get_yes 4 (by omega) (by have := HL1.out; have := HL1.out; omega) (by have := HL1.out; have := HL1.out; omega) HB1.out
  obtain ⟨L, hL⟩ : ∃ L, num (List.take 4 l) = L := ⟨_, rfl⟩
  rw [hL] at C3
  replace C3 := Lib.hid C3
  obtain ⟨l3, hl3⟩ : ∃ l3, List.drop 4 l = l3 := ⟨_, rfl⟩
  rw [hl3] at C3
  have HL3 : Hid (l3.length = n - 4) := Lib.hid (by rw [← hl3, List.length_drop]; have := HL1.out; have := HL1.out; omega)
  have HB3 : Hid (∀ x ∈ l3, 0 ≤ x ∧ x ≤ 255) := Lib.hid (fun x hx => HB1.out x (by rw [← hl3] at hx; exact List.mem_of_mem_drop hx))
  have HEL := Lib.hid hL
  have HEl3 := Lib.hid hl3
  clear hL hl3
  go_wp2_with fail
  refine C3.out.mono ?_
  rintro e w3 ⟨rfl, h3⟩
  have HN3 := Lib.hid h3
  clear h3 C3 HN1
  rw [HEL.out] at hL
  subst hL
  have C4 := Lib.hid (HN3.out.take_no 4 (by omega) (by have := HL3.out; have := HL1.out; first | (left; omega) | (right; decide)) (by have := HL3.out; have := HL1.out; omega))
  go_wp2_with fail
  refine C4.out.mono ?_
  rintro e w4 ⟨rfl, h4⟩
  have HN4 := Lib.hid (h4 (by simp))
  clear h4 C4 HN3
  have HL4 := HL3
  have CE := HN4.out.fin (by have := HL4.out; have := HL1.out; omega)
  rw [show ∀ m, endE m 8 = 8 from fun m => by unfold endE; rw [if_neg (by omega)]] at CE
  replace CE := Lib.hid CE
  go_wp2_with fail
  refine CE.out.mono ?_
  rintro e w5 ⟨rfl, h5, hd5⟩
  have HN5 := Lib.hid h5
  have HD5 := Lib.hid hd5
  clear h5 hd5 CE HN4
  have HL5 := HL4
  have HS := Lib.hid (HN5.out.set (.string ⟨#[]⟩) (.slice none 0 0))
  have k0 := blk_cell HN5.out.b 0
  have k1 := blk_cell HN5.out.b 1
  have f0 := blk_frozen HN5.out.b 0
  have f1 := blk_frozen HN5.out.b 1
  simp at k0 k1
  go_wp2_with fail
  refine bodyPost_ret (by exact box_res HS.out.b rfl rfl) rfl ?_
  exact NxtR.err_of HS.out
set_option maxRecDepth 100000 in
set_option maxHeartbeats 4000000 in
theorem next_mid1 {w : World} {lo p : Nat} {l : List Int} (h : Rd w lo p l 0) (hl : l.length ≤ 100000) (hb : ∀ x ∈ l, 0 ≤ x ∧ x ≤ 255) (h4 : 4 ≤ l.length) (h8 : l.length < 8) (hL : num (l.take 4) = 1) :
    Calls Try.prog 25 #[.pointer (some ⟨p, 0, none⟩)] w fun e w' => NxtR w w' lo p e (.err 8) := by
  have hp := h.lt
  obtain ⟨W1, hW1⟩ : ∃ W1, w.alloc (Obj.cells #[.string ⟨#[]⟩, .slice none 0 0] 42) = W1 := ⟨_, rfl⟩
  have HN1 : Hid (Nx w W1 lo p l 0 (.string ⟨#[]⟩) (.slice none 0 0)) := Lib.hid (by
    have hbl : Below w.heap.size w W1 := by rw [← hW1]; exact (Below.refl _ w).alloc (Nat.le_refl _) _
    exact ⟨h.below hbl hp, grown_below hbl (Nat.le_refl _), by rw [← hW1]; exact heap_alloc_new w _, hp⟩)
  have HBY := Lib.hid hb
  obtain ⟨n, hn⟩ : ∃ n, l.length = n := ⟨_, rfl⟩
  have CL := HN1.out.left (by omega)
  rw [if_pos rfl, hn] at CL
  replace CL := Lib.hid CL
  have HLN := Lib.hid hn
  rw [hn] at hl
  clear h hp hb hn
  go_enter Try.func25, Try.ntmps25
  go_wp2_with fail
  clear hW1
  refine CL.out.mono ?_
  rintro e w2 ⟨rfl, rfl⟩
  clear CL
  have HL1 : Hid (l.length = n) := HLN
  have HB1 : Hid (∀ x ∈ l, 0 ≤ x ∧ x ≤ 255) := HBY
  have hcv : ∀ u, (convert 24 9 (.slice none 0 0)).run Try.prog u = .ok (.string ⟨#[]⟩) u := fun u => conv_str (w := u) (B := 0) (A := none) (n := 0) (c := 0) (ns := []) rfl Lst.nil
  have C3 := HN1.out.get_yes 4 (by omega) (by have := HL1.out; have := HL1.out; omega) (by have := HL1.out; have := HL1.out; omega) HB1.out
  obtain ⟨L, hL⟩ : ∃ L, num (List.take 4 l) = L := ⟨_, rfl⟩
  rw [hL] at C3
  replace C3 := Lib.hid C3
  obtain ⟨l3, hl3⟩ : ∃ l3, List.drop 4 l = l3 := ⟨_, rfl⟩
  rw [hl3] at C3
  have HL3 : Hid (l3.length = n - 4) := Lib.hid (by rw [← hl3, List.length_drop]; have := HL1.out; have := HL1.out; omega)
  have HB3 : Hid (∀ x ∈ l3, 0 ≤ x ∧ x ≤ 255) := Lib.hid (fun x hx => HB1.out x (by rw [← hl3] at hx; exact List.mem_of_mem_drop hx))
  have HEL := Lib.hid hL
  have HEl3 := Lib.hid hl3
  clear hL hl3
  go_wp2_with fail
  refine C3.out.mono ?_
  rintro e w3 ⟨rfl, h3⟩
  have HN3 := Lib.hid h3
  clear h3 C3 HN1
  rw [HEL.out] at hL
  subst hL
  have C4 := Lib.hid (HN3.out.take_no 4 (by omega) (by have := HL3.out; have := HL1.out; first | (left; omega) | (right; decide)) (by have := HL3.out; have := HL1.out; omega))
  go_wp2_with fail
  refine C4.out.mono ?_
  rintro e w4 ⟨rfl, h4⟩
  have HN4 := Lib.hid (h4 (by simp))
  clear h4 C4 HN3
  have HL4 := HL3
  have C6 := Lib.hid (HN4.out.get_no 8 (by omega) (by have := HL4.out; have := HL1.out; first | (left; omega) | (right; decide)) (by have := HL4.out; have := HL1.out; omega))
  go_wp2_with fail
  refine C6.out.mono ?_
  rintro e w6 ⟨rfl, h6⟩
  have HN6 := Lib.hid (h6 (by simp))
  clear h6 C6 HN4
  have HL6 := HL4
  have CE := HN6.out.fin (by have := HL6.out; have := HL1.out; omega)
  rw [show ∀ m, endE m 8 = 8 from fun m => by unfold endE; rw [if_neg (by omega)]] at CE
  replace CE := Lib.hid CE
  go_wp2_with fail
  refine CE.out.mono ?_
  rintro e w5 ⟨rfl, h5, hd5⟩
  have HN5 := Lib.hid h5
  have HD5 := Lib.hid hd5
  clear h5 hd5 CE HN6
  have HL5 := HL6
  have HS := Lib.hid (HN5.out.set (.string ⟨#[]⟩) (.slice none 0 0))
  have k0 := blk_cell HN5.out.b 0
  have k1 := blk_cell HN5.out.b 1
  have f0 := blk_frozen HN5.out.b 0
  have f1 := blk_frozen HN5.out.b 1
  simp at k0 k1
  go_wp2_with fail
  refine bodyPost_ret (by exact box_res HS.out.b rfl rfl) rfl ?_
  exact NxtR.err_of HS.out
set_option maxRecDepth 100000 in
set_option maxHeartbeats 4000000 in
theorem next_mid2 {w : World} {lo p : Nat} {l : List Int} (h : Rd w lo p l 0) (hl : l.length ≤ 100000) (hb : ∀ x ∈ l, 0 ≤ x ∧ x ≤ 255) (h4 : 4 ≤ l.length) (h8 : l.length < 8) (hL : ¬ num (l.take 4) = 0 ∧ ¬ num (l.take 4) = 1) :
    Calls Try.prog 25 #[.pointer (some ⟨p, 0, none⟩)] w fun e w' => NxtR w w' lo p e (.err 8) := by
  have hp := h.lt
  obtain ⟨W1, hW1⟩ : ∃ W1, w.alloc (Obj.cells #[.string ⟨#[]⟩, .slice none 0 0] 42) = W1 := ⟨_, rfl⟩
  have HN1 : Hid (Nx w W1 lo p l 0 (.string ⟨#[]⟩) (.slice none 0 0)) := Lib.hid (by
    have hbl : Below w.heap.size w W1 := by rw [← hW1]; exact (Below.refl _ w).alloc (Nat.le_refl _) _
    exact ⟨h.below hbl hp, grown_below hbl (Nat.le_refl _), by rw [← hW1]; exact heap_alloc_new w _, hp⟩)
  have HBY := Lib.hid hb
  obtain ⟨n, hn⟩ : ∃ n, l.length = n := ⟨_, rfl⟩
  have CL := HN1.out.left (by omega)
  rw [if_pos rfl, hn] at CL
  replace CL := Lib.hid CL
  have HLN := Lib.hid hn
  rw [hn] at hl
  clear h hp hb hn
  go_enter Try.func25, Try.ntmps25
  go_wp2_with fail
  clear hW1
  refine CL.out.mono ?_
  rintro e w2 ⟨rfl, rfl⟩
  clear CL
  have HL1 : Hid (l.length = n) := HLN
  have HB1 : Hid (∀ x ∈ l, 0 ≤ x ∧ x ≤ 255) := HBY
  have hcv : ∀ u, (convert 24 9 (.slice none 0 0)).run Try.prog u = .ok (.string ⟨#[]⟩) u := fun u => conv_str (w := u) (B := 0) (A := none) (n := 0) (c := 0) (ns := []) rfl Lst.nil
  have C3 := HN1.out.get_yes 4 (by omega) (by have := HL1.out; have := HL1.out; omega) (by have := HL1.out; have := HL1.out; omega) HB1.out
  obtain ⟨L, hL⟩ : ∃ L, num (List.take 4 l) = L := ⟨_, rfl⟩
  rw [hL] at C3
  replace C3 := Lib.hid C3
  obtain ⟨l3, hl3⟩ : ∃ l3, List.drop 4 l = l3 := ⟨_, rfl⟩
  rw [hl3] at C3
  have HL3 : Hid (l3.length = n - 4) := Lib.hid (by rw [← hl3, List.length_drop]; have := HL1.out; have := HL1.out; omega)
  have HB3 : Hid (∀ x ∈ l3, 0 ≤ x ∧ x ≤ 255) := Lib.hid (fun x hx => HB1.out x (by rw [← hl3] at hx; exact List.mem_of_mem_drop hx))
  have HEL := Lib.hid hL
  have HEl3 := Lib.hid hl3
  clear hL hl3
  go_wp2_with fail
  refine C3.out.mono ?_
  rintro e w3 ⟨rfl, h3⟩
  have HN3 := Lib.hid h3
  clear h3 C3 HN1
  rw [HEL.out] at hL
  have hq0 : (L == 0) = false := by simpa using hL.1
  have hq1 : (L == 1) = false := by simpa using hL.2
  have C4 := Lib.hid (HN3.out.take_no 4 (by omega) (by have := HL3.out; have := HL1.out; first | (left; omega) | (right; decide)) (by have := HL3.out; have := HL1.out; omega))
  go_wp2_with fail
  refine C4.out.mono ?_
  rintro e w4 ⟨rfl, h4⟩
  have HN4 := Lib.hid (h4 (by simp))
  clear h4 C4 HN3
  have HL4 := HL3
  have CE := HN4.out.fin (by have := HL4.out; have := HL1.out; omega)
  rw [show ∀ m, endE m 8 = 8 from fun m => by unfold endE; rw [if_neg (by omega)]] at CE
  replace CE := Lib.hid CE
  go_wp2_with fail
  refine CE.out.mono ?_
  rintro e w5 ⟨rfl, h5, hd5⟩
  have HN5 := Lib.hid h5
  have HD5 := Lib.hid hd5
  clear h5 hd5 CE HN4
  have HL5 := HL4
  have HS := Lib.hid (HN5.out.set (.string ⟨#[]⟩) (.slice none 0 0))
  have k0 := blk_cell HN5.out.b 0
  have k1 := blk_cell HN5.out.b 1
  have f0 := blk_frozen HN5.out.b 0
  have f1 := blk_frozen HN5.out.b 1
  simp at k0 k1
  go_wp2_with fail
  refine bodyPost_ret (by exact box_res HS.out.b rfl rfl) rfl ?_
  exact NxtR.err_of HS.out
set_option maxRecDepth 100000 in
set_option maxHeartbeats 4000000 in
theorem next_z {w : World} {lo p : Nat} {l : List Int} (h : Rd w lo p l 0) (hl : l.length ≤ 100000) (hb : ∀ x ∈ l, 0 ≤ x ∧ x ≤ 255) (h8 : 8 ≤ l.length) (hL : num (l.take 4) = 0)  :
    Calls Try.prog 25 #[.pointer (some ⟨p, 0, none⟩)] w fun e w' => NxtR w w' lo p e (.box ((l.drop 4).take 4) ((l.drop 8).take (l.length - 8)) ((l.drop 8).drop (l.length - 8))) := by
  have hp := h.lt
  obtain ⟨W1, hW1⟩ : ∃ W1, w.alloc (Obj.cells #[.string ⟨#[]⟩, .slice none 0 0] 42) = W1 := ⟨_, rfl⟩
  have HN1 : Hid (Nx w W1 lo p l 0 (.string ⟨#[]⟩) (.slice none 0 0)) := Lib.hid (by
    have hbl : Below w.heap.size w W1 := by rw [← hW1]; exact (Below.refl _ w).alloc (Nat.le_refl _) _
    exact ⟨h.below hbl hp, grown_below hbl (Nat.le_refl _), by rw [← hW1]; exact heap_alloc_new w _, hp⟩)
  have HBY := Lib.hid hb
  obtain ⟨n, hn⟩ : ∃ n, l.length = n := ⟨_, rfl⟩
  have CL := HN1.out.left (by omega)
  rw [if_pos rfl, hn] at CL
  replace CL := Lib.hid CL
  have HLN := Lib.hid hn
  rw [hn] at hl
  clear h hp hb hn
  go_enter Try.func25, Try.ntmps25
  go_wp2_with fail
  clear hW1
  refine CL.out.mono ?_
  rintro e w2 ⟨rfl, rfl⟩
  clear CL
  have HL1 : Hid (l.length = n) := HLN
  have HB1 : Hid (∀ x ∈ l, 0 ≤ x ∧ x ≤ 255) := HBY
  have C3 := HN1.out.get_yes 4 (by omega) (by have := HL1.out; have := HL1.out; omega) (by have := HL1.out; have := HL1.out; omega) HB1.out
  obtain ⟨L, hL⟩ : ∃ L, num (List.take 4 l) = L := ⟨_, rfl⟩
  rw [hL] at C3
  replace C3 := Lib.hid C3
  obtain ⟨l3, hl3⟩ : ∃ l3, List.drop 4 l = l3 := ⟨_, rfl⟩
  rw [hl3] at C3
  have HL3 : Hid (l3.length = n - 4) := Lib.hid (by rw [← hl3, List.length_drop]; have := HL1.out; have := HL1.out; omega)
  have HB3 : Hid (∀ x ∈ l3, 0 ≤ x ∧ x ≤ 255) := Lib.hid (fun x hx => HB1.out x (by rw [← hl3] at hx; exact List.mem_of_mem_drop hx))
  have HEL := Lib.hid hL
  have HEl3 := Lib.hid hl3
  clear hL hl3
  go_wp2_with fail
  refine C3.out.mono ?_
  rintro e w3 ⟨rfl, h3⟩
  have HN3 := Lib.hid h3
  clear h3 C3 HN1
  rw [HEL.out] at hL
  subst hL
  have C4 := HN3.out.take_yes 4 (by have := HL3.out; have := HL1.out; omega) (by have := HL3.out; have := HL1.out; omega)
  obtain ⟨kd, hkd⟩ : ∃ kd, List.take 4 l3 = kd := ⟨_, rfl⟩
  rw [hkd] at C4
  obtain ⟨l4, hl4⟩ : ∃ l4, List.drop 4 l3 = l4 := ⟨_, rfl⟩
  rw [hl4] at C4
  replace C4 := Lib.hid C4
  have HL4 : Hid (l4.length = n - 8) := Lib.hid (by rw [← hl4, List.length_drop]; have := HL3.out; have := HL1.out; omega)
  have hk4 : kd.length = 4 := by rw [← hkd, List.length_take]; have := HL3.out; have := HL1.out; omega
  have HB4 : Hid (∀ x ∈ l4, 0 ≤ x ∧ x ≤ 255) := Lib.hid (fun x hx => HB3.out x (by rw [← hl4] at hx; exact List.mem_of_mem_drop hx))
  have HEkd := Lib.hid hkd
  have HEl4 := Lib.hid hl4
  clear hkd hl4
  go_wp2_with fail
  refine C4.out.mono ?_
  rintro e w4 ⟨vk, rfl, ⟨bs4, hbs4, ho4⟩, h4⟩
  have HN4 := Lib.hid h4
  obtain ⟨ka, kcap, rfl, _⟩ := own_any ho4
  have hcv := conv_str (w := w4) (c := kcap) hk4 (Lst.own ho4)
  clear h4 C4 HN3 ho4 hbs4
  have hns : ¬ ((n : Int) < 0) := by omega
  have hnh : ¬ ((n : Int) < 8) := by have := HL1.out; omega
  have hsub : (n : Int) - 8 = ((n - 8 : Nat) : Int) := by have := HL1.out; omega
  have CE5 := HN4.out.fin (by have := HL4.out; have := HL1.out; omega)
  obtain ⟨E1, hE1⟩ : ∃ E1, endE l4.length 0 = E1 := ⟨_, rfl⟩
  rw [hE1] at CE5
  have qE1 : (E1 == 8) = false := by
    rw [← hE1]; unfold endE; split <;> decide
  replace CE5 := Lib.hid CE5
  clear hE1
  go_wp2_with fail
  refine CE5.out.mono ?_
  rintro e w5 ⟨rfl, h5, hd5⟩
  have HN5 := Lib.hid h5
  have HD5 := Lib.hid hd5
  have HL5 := HL4
  have HB5 := HB4
  clear h5 hd5 CE5 HN4
  have CT := HN5.out.take_yes (n - 8) (by have := HL5.out; have := HL1.out; omega) (by have := HL5.out; have := HL1.out; omega)
  obtain ⟨dd, hdd⟩ : ∃ dd, List.take (n - 8) l4 = dd := ⟨_, rfl⟩
  obtain ⟨rr, hrr⟩ : ∃ rr, List.drop (n - 8) l4 = rr := ⟨_, rfl⟩
  rw [hdd, hrr] at CT
  have hdl : dd.length = (n - 8) := by rw [← hdd, List.length_take]; have := HL5.out; have := HL1.out; omega
  have HL7 : Hid (rr.length ≤ n) := Lib.hid (by rw [← hrr, List.length_drop]; have := HL5.out; have := HL1.out; omega)
  have HB7 := HB5
  have HEd := Lib.hid hdd
  have HEr := Lib.hid hrr
  have HDL := Lib.hid hdl
  replace CT := Lib.hid CT
  clear hdd hrr hdl
  go_wp2_with fail
  refine CT.out.mono ?_
  rintro e w7 ⟨vd, rfl, ho7, h7⟩
  obtain ⟨da, dcap, rfl⟩ : ∃ da dcap, vd = .slice da (n - 8) dcap := by
    obtain ⟨_, _, ho⟩ := ho7
    obtain ⟨da, dcap, e, _⟩ := own_any ho
    exact ⟨da, dcap, e⟩
  have HN7 := Lib.hid h7
  have HO := Lib.hid ho7
  clear h7 CT HN5 ho7
  have CE8 := HN7.out.fin (by have := HL7.out; have := HL1.out; omega)
  obtain ⟨E2, hE2⟩ : ∃ E2, endE rr.length 0 = E2 := ⟨_, rfl⟩
  rw [hE2] at CE8
  have qE2 : (E2 == 8) = false := by
    rw [← hE2]; unfold endE; split <;> decide
  replace CE8 := Lib.hid CE8
  clear hE2
  go_wp2_with fail
  refine CE8.out.mono ?_
  rintro e w8 ⟨rfl, h8, hd8⟩
  have HN8 := Lib.hid h8
  have HD8 := Lib.hid hd8
  have HL8 := HL7
  have HB8 := HB7
  clear h8 hd8 CE8 HN7
  have HS := Lib.hid (HN8.out.set (.string (strOf kd)) (.slice da (n - 8) dcap))
  have HO2 := Lib.hid (HN8.out.own HO.out HD8.out (.string (strOf kd)) (.slice da (n - 8) dcap))
  have k0 := blk_cell HN8.out.b 0
  have k1 := blk_cell HN8.out.b 1
  have f0 := blk_frozen HN8.out.b 0
  have f1 := blk_frozen HN8.out.b 1
  simp at k0 k1
  go_wp2_with fail
  refine bodyPost_ret (by exact box_res HS.out.b rfl rfl) rfl ?_
  have e4 : List.drop 8 l = l4 := by rw [← HEl4.out, ← HEl3.out, List.drop_drop]
  rw [e4]
  rw [HEl3.out, HEkd.out]
  try rw [HLN.out]
  rw [HEd.out, HEr.out]
  exact NxtR.box_of HS.out HDL.out HO2.out
set_option maxRecDepth 100000 in
set_option maxHeartbeats 4000000 in
theorem next_1s {w : World} {lo p : Nat} {l : List Int} (h : Rd w lo p l 0) (hl : l.length ≤ 100000) (hb : ∀ x ∈ l, 0 ≤ x ∧ x ≤ 255) (h8 : 8 ≤ l.length) (hL : num (l.take 4) = 1) (h16 : l.length < 16) :
    Calls Try.prog 25 #[.pointer (some ⟨p, 0, none⟩)] w fun e w' => NxtR w w' lo p e (.err 8) := by
  have hp := h.lt
  obtain ⟨W1, hW1⟩ : ∃ W1, w.alloc (Obj.cells #[.string ⟨#[]⟩, .slice none 0 0] 42) = W1 := ⟨_, rfl⟩
  have HN1 : Hid (Nx w W1 lo p l 0 (.string ⟨#[]⟩) (.slice none 0 0)) := Lib.hid (by
    have hbl : Below w.heap.size w W1 := by rw [← hW1]; exact (Below.refl _ w).alloc (Nat.le_refl _) _
    exact ⟨h.below hbl hp, grown_below hbl (Nat.le_refl _), by rw [← hW1]; exact heap_alloc_new w _, hp⟩)
  have HBY := Lib.hid hb
  obtain ⟨n, hn⟩ : ∃ n, l.length = n := ⟨_, rfl⟩
  have CL := HN1.out.left (by omega)
  rw [if_pos rfl, hn] at CL
  replace CL := Lib.hid CL
  have HLN := Lib.hid hn
  rw [hn] at hl
  clear h hp hb hn
  go_enter Try.func25, Try.ntmps25
  go_wp2_with fail
  clear hW1
  refine CL.out.mono ?_
  rintro e w2 ⟨rfl, rfl⟩
  clear CL
  have HL1 : Hid (l.length = n) := HLN
  have HB1 : Hid (∀ x ∈ l, 0 ≤ x ∧ x ≤ 255) := HBY
  have C3 := HN1.out.get_yes 4 (by omega) (by have := HL1.out; have := HL1.out; omega) (by have := HL1.out; have := HL1.out; omega) HB1.out
  obtain ⟨L, hL⟩ : ∃ L, num (List.take 4 l) = L := ⟨_, rfl⟩
  rw [hL] at C3
  replace C3 := Lib.hid C3
  obtain ⟨l3, hl3⟩ : ∃ l3, List.drop 4 l = l3 := ⟨_, rfl⟩
  rw [hl3] at C3
  have HL3 : Hid (l3.length = n - 4) := Lib.hid (by rw [← hl3, List.length_drop]; have := HL1.out; have := HL1.out; omega)
  have HB3 : Hid (∀ x ∈ l3, 0 ≤ x ∧ x ≤ 255) := Lib.hid (fun x hx => HB1.out x (by rw [← hl3] at hx; exact List.mem_of_mem_drop hx))
  have HEL := Lib.hid hL
  have HEl3 := Lib.hid hl3
  clear hL hl3
  go_wp2_with fail
  refine C3.out.mono ?_
  rintro e w3 ⟨rfl, h3⟩
  have HN3 := Lib.hid h3
  clear h3 C3 HN1
  rw [HEL.out] at hL
  subst hL
  have C4 := HN3.out.take_yes 4 (by have := HL3.out; have := HL1.out; omega) (by have := HL3.out; have := HL1.out; omega)
  obtain ⟨kd, hkd⟩ : ∃ kd, List.take 4 l3 = kd := ⟨_, rfl⟩
  rw [hkd] at C4
  obtain ⟨l4, hl4⟩ : ∃ l4, List.drop 4 l3 = l4 := ⟨_, rfl⟩
  rw [hl4] at C4
  replace C4 := Lib.hid C4
  have HL4 : Hid (l4.length = n - 8) := Lib.hid (by rw [← hl4, List.length_drop]; have := HL3.out; have := HL1.out; omega)
  have hk4 : kd.length = 4 := by rw [← hkd, List.length_take]; have := HL3.out; have := HL1.out; omega
  have HB4 : Hid (∀ x ∈ l4, 0 ≤ x ∧ x ≤ 255) := Lib.hid (fun x hx => HB3.out x (by rw [← hl4] at hx; exact List.mem_of_mem_drop hx))
  have HEkd := Lib.hid hkd
  have HEl4 := Lib.hid hl4
  clear hkd hl4
  go_wp2_with fail
  refine C4.out.mono ?_
  rintro e w4 ⟨vk, rfl, ⟨bs4, hbs4, ho4⟩, h4⟩
  have HN4 := Lib.hid h4
  obtain ⟨ka, kcap, rfl, _⟩ := own_any ho4
  have hcv := conv_str (w := w4) (c := kcap) hk4 (Lst.own ho4)
  clear h4 C4 HN3 ho4 hbs4
  have C5 := Lib.hid (HN4.out.get_no 8 (by omega) (by have := HL4.out; have := HL1.out; first | (left; omega) | (right; decide)) (by have := HL4.out; have := HL1.out; omega))
  go_wp2_with fail
  refine C5.out.mono ?_
  rintro e w5 ⟨rfl, h5⟩
  have HN5 := Lib.hid (h5 (by simp))
  clear h5 C5 HN4
  have HL5 := HL4
  have CE := HN5.out.fin (by have := HL5.out; have := HL1.out; omega)
  rw [show ∀ m, endE m 8 = 8 from fun m => by unfold endE; rw [if_neg (by omega)]] at CE
  replace CE := Lib.hid CE
  go_wp2_with fail
  refine CE.out.mono ?_
  rintro e w6 ⟨rfl, h6, hd6⟩
  have HN6 := Lib.hid h6
  have HD6 := Lib.hid hd6
  clear h6 hd6 CE HN5
  have HL6 := HL5
  have HS := Lib.hid (HN6.out.set (.string ⟨#[]⟩) (.slice none 0 0))
  have k0 := blk_cell HN6.out.b 0
  have k1 := blk_cell HN6.out.b 1
  have f0 := blk_frozen HN6.out.b 0
  have f1 := blk_frozen HN6.out.b 1
  simp at k0 k1
  go_wp2_with fail
  refine bodyPost_ret (by exact box_res HS.out.b rfl rfl) rfl ?_
  exact NxtR.err_of HS.out
set_option maxRecDepth 100000 in
set_option maxHeartbeats 4000000 in
theorem next_1n {w : World} {lo p : Nat} {l : List Int} (h : Rd w lo p l 0) (hl : l.length ≤ 100000) (hb : ∀ x ∈ l, 0 ≤ x ∧ x ≤ 255) (h8 : 8 ≤ l.length) (hL : num (l.take 4) = 1) (h16 : 16 ≤ l.length) (hM : num ((l.drop 8).take 8) < 0) (hMx : num ((l.drop 8).take 8) ≤ 9223372036854775807) :
    Calls Try.prog 25 #[.pointer (some ⟨p, 0, none⟩)] w fun e w' => NxtR w w' lo p e (.err 8) := by
  have hp := h.lt
  obtain ⟨W1, hW1⟩ : ∃ W1, w.alloc (Obj.cells #[.string ⟨#[]⟩, .slice none 0 0] 42) = W1 := ⟨_, rfl⟩
  have HN1 : Hid (Nx w W1 lo p l 0 (.string ⟨#[]⟩) (.slice none 0 0)) := Lib.hid (by
    have hbl : Below w.heap.size w W1 := by rw [← hW1]; exact (Below.refl _ w).alloc (Nat.le_refl _) _
    exact ⟨h.below hbl hp, grown_below hbl (Nat.le_refl _), by rw [← hW1]; exact heap_alloc_new w _, hp⟩)
  have HBY := Lib.hid hb
  obtain ⟨n, hn⟩ : ∃ n, l.length = n := ⟨_, rfl⟩
  have CL := HN1.out.left (by omega)
  rw [if_pos rfl, hn] at CL
  replace CL := Lib.hid CL
  have HLN := Lib.hid hn
  rw [hn] at hl
  clear h hp hb hn
  go_enter Try.func25, Try.ntmps25
  go_wp2_with fail
  clear hW1
  refine CL.out.mono ?_
  rintro e w2 ⟨rfl, rfl⟩
  clear CL
  have HL1 : Hid (l.length = n) := HLN
  have HB1 : Hid (∀ x ∈ l, 0 ≤ x ∧ x ≤ 255) := HBY
  have C3 := HN1.out.get_yes 4 (by omega) (by have := HL1.out; have := HL1.out; omega) (by have := HL1.out; have := HL1.out; omega) HB1.out
  obtain ⟨L, hL⟩ : ∃ L, num (List.take 4 l) = L := ⟨_, rfl⟩
  rw [hL] at C3
  replace C3 := Lib.hid C3
  obtain ⟨l3, hl3⟩ : ∃ l3, List.drop 4 l = l3 := ⟨_, rfl⟩
  rw [hl3] at C3
  have HL3 : Hid (l3.length = n - 4) := Lib.hid (by rw [← hl3, List.length_drop]; have := HL1.out; have := HL1.out; omega)
  have HB3 : Hid (∀ x ∈ l3, 0 ≤ x ∧ x ≤ 255) := Lib.hid (fun x hx => HB1.out x (by rw [← hl3] at hx; exact List.mem_of_mem_drop hx))
  have HEL := Lib.hid hL
  have HEl3 := Lib.hid hl3
  clear hL hl3
  go_wp2_with fail
  refine C3.out.mono ?_
  rintro e w3 ⟨rfl, h3⟩
  have HN3 := Lib.hid h3
  clear h3 C3 HN1
  rw [HEL.out] at hL
  subst hL
  have C4 := HN3.out.take_yes 4 (by have := HL3.out; have := HL1.out; omega) (by have := HL3.out; have := HL1.out; omega)
  obtain ⟨kd, hkd⟩ : ∃ kd, List.take 4 l3 = kd := ⟨_, rfl⟩
  rw [hkd] at C4
  obtain ⟨l4, hl4⟩ : ∃ l4, List.drop 4 l3 = l4 := ⟨_, rfl⟩
  rw [hl4] at C4
  replace C4 := Lib.hid C4
  have HL4 : Hid (l4.length = n - 8) := Lib.hid (by rw [← hl4, List.length_drop]; have := HL3.out; have := HL1.out; omega)
  have hk4 : kd.length = 4 := by rw [← hkd, List.length_take]; have := HL3.out; have := HL1.out; omega
  have HB4 : Hid (∀ x ∈ l4, 0 ≤ x ∧ x ≤ 255) := Lib.hid (fun x hx => HB3.out x (by rw [← hl4] at hx; exact List.mem_of_mem_drop hx))
  have HEkd := Lib.hid hkd
  have HEl4 := Lib.hid hl4
  clear hkd hl4
  go_wp2_with fail
  refine C4.out.mono ?_
  rintro e w4 ⟨vk, rfl, ⟨bs4, hbs4, ho4⟩, h4⟩
  have HN4 := Lib.hid h4
  obtain ⟨ka, kcap, rfl, _⟩ := own_any ho4
  have hcv := conv_str (w := w4) (c := kcap) hk4 (Lst.own ho4)
  clear h4 C4 HN3 ho4 hbs4
  have C5 := HN4.out.get_yes 8 (by omega) (by have := HL4.out; have := HL1.out; omega) (by have := HL4.out; have := HL1.out; omega) HB4.out
  obtain ⟨M, hM⟩ : ∃ M, num (List.take 8 l4) = M := ⟨_, rfl⟩
  rw [hM] at C5
  replace C5 := Lib.hid C5
  obtain ⟨l5, hl5⟩ : ∃ l5, List.drop 8 l4 = l5 := ⟨_, rfl⟩
  rw [hl5] at C5
  have HL5 : Hid (l5.length = n - 16) := Lib.hid (by rw [← hl5, List.length_drop]; have := HL4.out; have := HL1.out; omega)
  have HB5 : Hid (∀ x ∈ l5, 0 ≤ x ∧ x ≤ 255) := Lib.hid (fun x hx => HB4.out x (by rw [← hl5] at hx; exact List.mem_of_mem_drop hx))
  have HEM := Lib.hid hM
  have HEl5 := Lib.hid hl5
  clear hM hl5
  go_wp2_with fail
  refine C5.out.mono ?_
  rintro e w5 ⟨rfl, h5⟩
  have HN5 := Lib.hid h5
  clear h5 C5 HN4
  have e4 : List.drop 8 l = l4 := by rw [← HEl4.out, ← HEl3.out, List.drop_drop]
  rw [e4, HEM.out] at hM hMx
  have CE6 := HN5.out.fin (by have := HL5.out; have := HL1.out; omega)
  obtain ⟨E1, hE1⟩ : ∃ E1, endE l5.length 0 = E1 := ⟨_, rfl⟩
  rw [hE1] at CE6
  have qE1 : (E1 == 8) = false := by
    rw [← hE1]; unfold endE; split <;> decide
  replace CE6 := Lib.hid CE6
  clear hE1
  go_wp2_with fail
  refine CE6.out.mono ?_
  rintro e w6 ⟨rfl, h6, hd6⟩
  have HN6 := Lib.hid h6
  have HD6 := Lib.hid hd6
  have HL6 := HL5
  have HB6 := HB5
  clear h6 hd6 CE6 HN5
  have HS := Lib.hid (HN6.out.set (.string ⟨#[]⟩) (.slice none 0 0))
  have k0 := blk_cell HN6.out.b 0
  have k1 := blk_cell HN6.out.b 1
  have f0 := blk_frozen HN6.out.b 0
  have f1 := blk_frozen HN6.out.b 1
  simp at k0 k1
  go_wp2_with fail
  refine bodyPost_ret (by exact box_res HS.out.b rfl rfl) rfl ?_
  exact NxtR.err_of HS.out
set_option maxRecDepth 100000 in
set_option maxHeartbeats 4000000 in
theorem next_1m {w : World} {lo p : Nat} {l : List Int} (h : Rd w lo p l 0) (hl : l.length ≤ 100000) (hb : ∀ x ∈ l, 0 ≤ x ∧ x ≤ 255) (h8 : 8 ≤ l.length) (hL : num (l.take 4) = 1) (h16 : 16 ≤ l.length) (hM : 0 ≤ num ((l.drop 8).take 8) ∧ num ((l.drop 8).take 8) < 16) (hMx : num ((l.drop 8).take 8) ≤ 9223372036854775807) :
    Calls Try.prog 25 #[.pointer (some ⟨p, 0, none⟩)] w fun e w' => NxtR w w' lo p e (.err 15) := by
  have hp := h.lt
  obtain ⟨W1, hW1⟩ : ∃ W1, w.alloc (Obj.cells #[.string ⟨#[]⟩, .slice none 0 0] 42) = W1 := ⟨_, rfl⟩
  have HN1 : Hid (Nx w W1 lo p l 0 (.string ⟨#[]⟩) (.slice none 0 0)) := Lib.hid (by
    have hbl : Below w.heap.size w W1 := by rw [← hW1]; exact (Below.refl _ w).alloc (Nat.le_refl _) _
    exact ⟨h.below hbl hp, grown_below hbl (Nat.le_refl _), by rw [← hW1]; exact heap_alloc_new w _, hp⟩)
  have HBY := Lib.hid hb
  obtain ⟨n, hn⟩ : ∃ n, l.length = n := ⟨_, rfl⟩
  have CL := HN1.out.left (by omega)
  rw [if_pos rfl, hn] at CL
  replace CL := Lib.hid CL
  have HLN := Lib.hid hn
  rw [hn] at hl
  clear h hp hb hn
  go_enter Try.func25, Try.ntmps25
  go_wp2_with fail
  clear hW1
  refine CL.out.mono ?_
  rintro e w2 ⟨rfl, rfl⟩
  clear CL
  have HL1 : Hid (l.length = n) := HLN
  have HB1 : Hid (∀ x ∈ l, 0 ≤ x ∧ x ≤ 255) := HBY
  have C3 := HN1.out.get_yes 4 (by omega) (by have := HL1.out; have := HL1.out; omega) (by have := HL1.out; have := HL1.out; omega) HB1.out
  obtain ⟨L, hL⟩ : ∃ L, num (List.take 4 l) = L := ⟨_, rfl⟩
  rw [hL] at C3
  replace C3 := Lib.hid C3
  obtain ⟨l3, hl3⟩ : ∃ l3, List.drop 4 l = l3 := ⟨_, rfl⟩
  rw [hl3] at C3
  have HL3 : Hid (l3.length = n - 4) := Lib.hid (by rw [← hl3, List.length_drop]; have := HL1.out; have := HL1.out; omega)
  have HB3 : Hid (∀ x ∈ l3, 0 ≤ x ∧ x ≤ 255) := Lib.hid (fun x hx => HB1.out x (by rw [← hl3] at hx; exact List.mem_of_mem_drop hx))
  have HEL := Lib.hid hL
  have HEl3 := Lib.hid hl3
  clear hL hl3
  go_wp2_with fail
  refine C3.out.mono ?_
  rintro e w3 ⟨rfl, h3⟩
  have HN3 := Lib.hid h3
  clear h3 C3 HN1
  rw [HEL.out] at hL
  subst hL
  have C4 := HN3.out.take_yes 4 (by have := HL3.out; have := HL1.out; omega) (by have := HL3.out; have := HL1.out; omega)
  obtain ⟨kd, hkd⟩ : ∃ kd, List.take 4 l3 = kd := ⟨_, rfl⟩
  rw [hkd] at C4
  obtain ⟨l4, hl4⟩ : ∃ l4, List.drop 4 l3 = l4 := ⟨_, rfl⟩
  rw [hl4] at C4
  replace C4 := Lib.hid C4
  have HL4 : Hid (l4.length = n - 8) := Lib.hid (by rw [← hl4, List.length_drop]; have := HL3.out; have := HL1.out; omega)
  have hk4 : kd.length = 4 := by rw [← hkd, List.length_take]; have := HL3.out; have := HL1.out; omega
  have HB4 : Hid (∀ x ∈ l4, 0 ≤ x ∧ x ≤ 255) := Lib.hid (fun x hx => HB3.out x (by rw [← hl4] at hx; exact List.mem_of_mem_drop hx))
  have HEkd := Lib.hid hkd
  have HEl4 := Lib.hid hl4
  clear hkd hl4
  go_wp2_with fail
  refine C4.out.mono ?_
  rintro e w4 ⟨vk, rfl, ⟨bs4, hbs4, ho4⟩, h4⟩
  have HN4 := Lib.hid h4
  obtain ⟨ka, kcap, rfl, _⟩ := own_any ho4
  have hcv := conv_str (w := w4) (c := kcap) hk4 (Lst.own ho4)
  clear h4 C4 HN3 ho4 hbs4
  have C5 := HN4.out.get_yes 8 (by omega) (by have := HL4.out; have := HL1.out; omega) (by have := HL4.out; have := HL1.out; omega) HB4.out
  obtain ⟨M, hM⟩ : ∃ M, num (List.take 8 l4) = M := ⟨_, rfl⟩
  rw [hM] at C5
  replace C5 := Lib.hid C5
  obtain ⟨l5, hl5⟩ : ∃ l5, List.drop 8 l4 = l5 := ⟨_, rfl⟩
  rw [hl5] at C5
  have HL5 : Hid (l5.length = n - 16) := Lib.hid (by rw [← hl5, List.length_drop]; have := HL4.out; have := HL1.out; omega)
  have HB5 : Hid (∀ x ∈ l5, 0 ≤ x ∧ x ≤ 255) := Lib.hid (fun x hx => HB4.out x (by rw [← hl5] at hx; exact List.mem_of_mem_drop hx))
  have HEM := Lib.hid hM
  have HEl5 := Lib.hid hl5
  clear hM hl5
  go_wp2_with fail
  refine C5.out.mono ?_
  rintro e w5 ⟨rfl, h5⟩
  have HN5 := Lib.hid h5
  clear h5 C5 HN4
  have e4 : List.drop 8 l = l4 := by rw [← HEl4.out, ← HEl3.out, List.drop_drop]
  rw [e4, HEM.out] at hM hMx
  obtain ⟨hM0, hM1⟩ := hM
  have hns : ¬ (M < 0) := by omega
  have CE6 := HN5.out.fin (by have := HL5.out; have := HL1.out; omega)
  obtain ⟨E1, hE1⟩ : ∃ E1, endE l5.length 0 = E1 := ⟨_, rfl⟩
  rw [hE1] at CE6
  have qE1 : (E1 == 8) = false := by
    rw [← hE1]; unfold endE; split <;> decide
  replace CE6 := Lib.hid CE6
  clear hE1
  go_wp2_with fail
  refine CE6.out.mono ?_
  rintro e w6 ⟨rfl, h6, hd6⟩
  have HN6 := Lib.hid h6
  have HD6 := Lib.hid hd6
  have HL6 := HL5
  have HB6 := HB5
  clear h6 hd6 CE6 HN5
  have HS := Lib.hid (HN6.out.set (.string ⟨#[]⟩) (.slice none 0 0))
  have k0 := blk_cell HN6.out.b 0
  have k1 := blk_cell HN6.out.b 1
  have f0 := blk_frozen HN6.out.b 0
  have f1 := blk_frozen HN6.out.b 1
  simp at k0 k1
  go_wp2_with fail
  refine bodyPost_ret (by exact box_res HS.out.b rfl rfl) rfl ?_
  exact NxtR.err_of HS.out
set_option maxRecDepth 100000 in
set_option maxHeartbeats 4000000 in
theorem next_1l {w : World} {lo p : Nat} {l : List Int} (h : Rd w lo p l 0) (hl : l.length ≤ 100000) (hb : ∀ x ∈ l, 0 ≤ x ∧ x ≤ 255) (h8 : 8 ≤ l.length) (hL : num (l.take 4) = 1) (h16 : 16 ≤ l.length) (hM : 16 ≤ num ((l.drop 8).take 8) ∧ (l.length : Int) - 16 < num ((l.drop 8).take 8) - 16) (hMx : num ((l.drop 8).take 8) ≤ 9223372036854775807) :
    Calls Try.prog 25 #[.pointer (some ⟨p, 0, none⟩)] w fun e w' => NxtR w w' lo p e (.err 8) := by
  have hp := h.lt
  obtain ⟨W1, hW1⟩ : ∃ W1, w.alloc (Obj.cells #[.string ⟨#[]⟩, .slice none 0 0] 42) = W1 := ⟨_, rfl⟩
  have HN1 : Hid (Nx w W1 lo p l 0 (.string ⟨#[]⟩) (.slice none 0 0)) := Lib.hid (by
    have hbl : Below w.heap.size w W1 := by rw [← hW1]; exact (Below.refl _ w).alloc (Nat.le_refl _) _
    exact ⟨h.below hbl hp, grown_below hbl (Nat.le_refl _), by rw [← hW1]; exact heap_alloc_new w _, hp⟩)
  have HBY := Lib.hid hb
  obtain ⟨n, hn⟩ : ∃ n, l.length = n := ⟨_, rfl⟩
  have CL := HN1.out.left (by omega)
  rw [if_pos rfl, hn] at CL
  replace CL := Lib.hid CL
  have HLN := Lib.hid hn
  rw [hn] at hl
  clear h hp hb hn
  go_enter Try.func25, Try.ntmps25
  go_wp2_with fail
  clear hW1
  refine CL.out.mono ?_
  rintro e w2 ⟨rfl, rfl⟩
  clear CL
  have HL1 : Hid (l.length = n) := HLN
  have HB1 : Hid (∀ x ∈ l, 0 ≤ x ∧ x ≤ 255) := HBY
  have C3 := HN1.out.get_yes 4 (by omega) (by have := HL1.out; have := HL1.out; omega) (by have := HL1.out; have := HL1.out; omega) HB1.out
  obtain ⟨L, hL⟩ : ∃ L, num (List.take 4 l) = L := ⟨_, rfl⟩
  rw [hL] at C3
  replace C3 := Lib.hid C3
  obtain ⟨l3, hl3⟩ : ∃ l3, List.drop 4 l = l3 := ⟨_, rfl⟩
  rw [hl3] at C3
  have HL3 : Hid (l3.length = n - 4) := Lib.hid (by rw [← hl3, List.length_drop]; have := HL1.out; have := HL1.out; omega)
  have HB3 : Hid (∀ x ∈ l3, 0 ≤ x ∧ x ≤ 255) := Lib.hid (fun x hx => HB1.out x (by rw [← hl3] at hx; exact List.mem_of_mem_drop hx))
  have HEL := Lib.hid hL
  have HEl3 := Lib.hid hl3
  clear hL hl3
  go_wp2_with fail
  refine C3.out.mono ?_
  rintro e w3 ⟨rfl, h3⟩
  have HN3 := Lib.hid h3
  clear h3 C3 HN1
  rw [HEL.out] at hL
  subst hL
  have C4 := HN3.out.take_yes 4 (by have := HL3.out; have := HL1.out; omega) (by have := HL3.out; have := HL1.out; omega)
  obtain ⟨kd, hkd⟩ : ∃ kd, List.take 4 l3 = kd := ⟨_, rfl⟩
  rw [hkd] at C4
  obtain ⟨l4, hl4⟩ : ∃ l4, List.drop 4 l3 = l4 := ⟨_, rfl⟩
  rw [hl4] at C4
  replace C4 := Lib.hid C4
  have HL4 : Hid (l4.length = n - 8) := Lib.hid (by rw [← hl4, List.length_drop]; have := HL3.out; have := HL1.out; omega)
  have hk4 : kd.length = 4 := by rw [← hkd, List.length_take]; have := HL3.out; have := HL1.out; omega
  have HB4 : Hid (∀ x ∈ l4, 0 ≤ x ∧ x ≤ 255) := Lib.hid (fun x hx => HB3.out x (by rw [← hl4] at hx; exact List.mem_of_mem_drop hx))
  have HEkd := Lib.hid hkd
  have HEl4 := Lib.hid hl4
  clear hkd hl4
  go_wp2_with fail
  refine C4.out.mono ?_
  rintro e w4 ⟨vk, rfl, ⟨bs4, hbs4, ho4⟩, h4⟩
  have HN4 := Lib.hid h4
  obtain ⟨ka, kcap, rfl, _⟩ := own_any ho4
  have hcv := conv_str (w := w4) (c := kcap) hk4 (Lst.own ho4)
  clear h4 C4 HN3 ho4 hbs4
  have C5 := HN4.out.get_yes 8 (by omega) (by have := HL4.out; have := HL1.out; omega) (by have := HL4.out; have := HL1.out; omega) HB4.out
  obtain ⟨M, hM⟩ : ∃ M, num (List.take 8 l4) = M := ⟨_, rfl⟩
  rw [hM] at C5
  replace C5 := Lib.hid C5
  obtain ⟨l5, hl5⟩ : ∃ l5, List.drop 8 l4 = l5 := ⟨_, rfl⟩
  rw [hl5] at C5
  have HL5 : Hid (l5.length = n - 16) := Lib.hid (by rw [← hl5, List.length_drop]; have := HL4.out; have := HL1.out; omega)
  have HB5 : Hid (∀ x ∈ l5, 0 ≤ x ∧ x ≤ 255) := Lib.hid (fun x hx => HB4.out x (by rw [← hl5] at hx; exact List.mem_of_mem_drop hx))
  have HEM := Lib.hid hM
  have HEl5 := Lib.hid hl5
  clear hM hl5
  go_wp2_with fail
  refine C5.out.mono ?_
  rintro e w5 ⟨rfl, h5⟩
  have HN5 := Lib.hid h5
  clear h5 C5 HN4
  have e4 : List.drop 8 l = l4 := by rw [← HEl4.out, ← HEl3.out, List.drop_drop]
  rw [e4, HEM.out] at hM hMx
  obtain ⟨hM0, hM1⟩ := hM
  have hns : ¬ (M < 0) := by omega
  have hnh : ¬ (M < 16) := by omega
  have CE6 := HN5.out.fin (by have := HL5.out; have := HL1.out; omega)
  obtain ⟨E1, hE1⟩ : ∃ E1, endE l5.length 0 = E1 := ⟨_, rfl⟩
  rw [hE1] at CE6
  have qE1 : (E1 == 8) = false := by
    rw [← hE1]; unfold endE; split <;> decide
  replace CE6 := Lib.hid CE6
  clear hE1
  go_wp2_with fail
  refine CE6.out.mono ?_
  rintro e w6 ⟨rfl, h6, hd6⟩
  have HN6 := Lib.hid h6
  have HD6 := Lib.hid hd6
  have HL6 := HL5
  have HB6 := HB5
  clear h6 hd6 CE6 HN5
  have C7 := Lib.hid (HN6.out.take_no (M - 16) (by omega) (by have := HL6.out; have := HL1.out; first | (left; omega) | (right; decide)) (by have := HL6.out; have := HL1.out; omega))
  go_wp2_with fail
  refine C7.out.mono ?_
  rintro e w7 ⟨rfl, h7⟩
  have HN7 := Lib.hid (h7 (by simp))
  clear h7 C7 HN6
  have HL7 := HL6
  have CE := HN7.out.fin (by have := HL7.out; have := HL1.out; omega)
  rw [show ∀ m, endE m 8 = 8 from fun m => by unfold endE; rw [if_neg (by omega)]] at CE
  replace CE := Lib.hid CE
  go_wp2_with fail
  refine CE.out.mono ?_
  rintro e w8 ⟨rfl, h8, hd8⟩
  have HN8 := Lib.hid h8
  have HD8 := Lib.hid hd8
  clear h8 hd8 CE HN7
  have HL8 := HL7
  have HS := Lib.hid (HN8.out.set (.string ⟨#[]⟩) (.slice none 0 0))
  have k0 := blk_cell HN8.out.b 0
  have k1 := blk_cell HN8.out.b 1
  have f0 := blk_frozen HN8.out.b 0
  have f1 := blk_frozen HN8.out.b 1
  simp at k0 k1
  go_wp2_with fail
  refine bodyPost_ret (by exact box_res HS.out.b rfl rfl) rfl ?_
  exact NxtR.err_of HS.out
set_option maxRecDepth 100000 in
set_option maxHeartbeats 4000000 in
theorem next_1k {w : World} {lo p : Nat} {l : List Int} (h : Rd w lo p l 0) (hl : l.length ≤ 100000) (hb : ∀ x ∈ l, 0 ≤ x ∧ x ≤ 255) (h8 : 8 ≤ l.length) (hL : num (l.take 4) = 1) (h16 : 16 ≤ l.length) (hM : 16 ≤ num ((l.drop 8).take 8) ∧ num ((l.drop 8).take 8) - 16 ≤ (l.length : Int) - 16) (hMx : num ((l.drop 8).take 8) ≤ 9223372036854775807) :
    Calls Try.prog 25 #[.pointer (some ⟨p, 0, none⟩)] w fun e w' => NxtR w w' lo p e (.box ((l.drop 4).take 4) ((l.drop 16).take (num ((l.drop 8).take 8) - 16).toNat) ((l.drop 16).drop (num ((l.drop 8).take 8) - 16).toNat)) := by
  have hp := h.lt
  obtain ⟨W1, hW1⟩ : ∃ W1, w.alloc (Obj.cells #[.string ⟨#[]⟩, .slice none 0 0] 42) = W1 := ⟨_, rfl⟩
  have HN1 : Hid (Nx w W1 lo p l 0 (.string ⟨#[]⟩) (.slice none 0 0)) := Lib.hid (by
    have hbl : Below w.heap.size w W1 := by rw [← hW1]; exact (Below.refl _ w).alloc (Nat.le_refl _) _
    exact ⟨h.below hbl hp, grown_below hbl (Nat.le_refl _), by rw [← hW1]; exact heap_alloc_new w _, hp⟩)
  have HBY := Lib.hid hb
  obtain ⟨n, hn⟩ : ∃ n, l.length = n := ⟨_, rfl⟩
  have CL := HN1.out.left (by omega)
  rw [if_pos rfl, hn] at CL
  replace CL := Lib.hid CL
  have HLN := Lib.hid hn
  rw [hn] at hl
  clear h hp hb hn
  go_enter Try.func25, Try.ntmps25
  go_wp2_with fail
  clear hW1
  refine CL.out.mono ?_
  rintro e w2 ⟨rfl, rfl⟩
  clear CL
  have HL1 : Hid (l.length = n) := HLN
  have HB1 : Hid (∀ x ∈ l, 0 ≤ x ∧ x ≤ 255) := HBY
  have C3 := HN1.out.get_yes 4 (by omega) (by have := HL1.out; have := HL1.out; omega) (by have := HL1.out; have := HL1.out; omega) HB1.out
  obtain ⟨L, hL⟩ : ∃ L, num (List.take 4 l) = L := ⟨_, rfl⟩
  rw [hL] at C3
  replace C3 := Lib.hid C3
  obtain ⟨l3, hl3⟩ : ∃ l3, List.drop 4 l = l3 := ⟨_, rfl⟩
  rw [hl3] at C3
  have HL3 : Hid (l3.length = n - 4) := Lib.hid (by rw [← hl3, List.length_drop]; have := HL1.out; have := HL1.out; omega)
  have HB3 : Hid (∀ x ∈ l3, 0 ≤ x ∧ x ≤ 255) := Lib.hid (fun x hx => HB1.out x (by rw [← hl3] at hx; exact List.mem_of_mem_drop hx))
  have HEL := Lib.hid hL
  have HEl3 := Lib.hid hl3
  clear hL hl3
  go_wp2_with fail
  refine C3.out.mono ?_
  rintro e w3 ⟨rfl, h3⟩
  have HN3 := Lib.hid h3
  clear h3 C3 HN1
  rw [HEL.out] at hL
  subst hL
  have C4 := HN3.out.take_yes 4 (by have := HL3.out; have := HL1.out; omega) (by have := HL3.out; have := HL1.out; omega)
  obtain ⟨kd, hkd⟩ : ∃ kd, List.take 4 l3 = kd := ⟨_, rfl⟩
  rw [hkd] at C4
  obtain ⟨l4, hl4⟩ : ∃ l4, List.drop 4 l3 = l4 := ⟨_, rfl⟩
  rw [hl4] at C4
  replace C4 := Lib.hid C4
  have HL4 : Hid (l4.length = n - 8) := Lib.hid (by rw [← hl4, List.length_drop]; have := HL3.out; have := HL1.out; omega)
  have hk4 : kd.length = 4 := by rw [← hkd, List.length_take]; have := HL3.out; have := HL1.out; omega
  have HB4 : Hid (∀ x ∈ l4, 0 ≤ x ∧ x ≤ 255) := Lib.hid (fun x hx => HB3.out x (by rw [← hl4] at hx; exact List.mem_of_mem_drop hx))
  have HEkd := Lib.hid hkd
  have HEl4 := Lib.hid hl4
  clear hkd hl4
  go_wp2_with fail
  refine C4.out.mono ?_
  rintro e w4 ⟨vk, rfl, ⟨bs4, hbs4, ho4⟩, h4⟩
  have HN4 := Lib.hid h4
  obtain ⟨ka, kcap, rfl, _⟩ := own_any ho4
  have hcv := conv_str (w := w4) (c := kcap) hk4 (Lst.own ho4)
  clear h4 C4 HN3 ho4 hbs4
  have C5 := HN4.out.get_yes 8 (by omega) (by have := HL4.out; have := HL1.out; omega) (by have := HL4.out; have := HL1.out; omega) HB4.out
  obtain ⟨M, hM⟩ : ∃ M, num (List.take 8 l4) = M := ⟨_, rfl⟩
  rw [hM] at C5
  replace C5 := Lib.hid C5
  obtain ⟨l5, hl5⟩ : ∃ l5, List.drop 8 l4 = l5 := ⟨_, rfl⟩
  rw [hl5] at C5
  have HL5 : Hid (l5.length = n - 16) := Lib.hid (by rw [← hl5, List.length_drop]; have := HL4.out; have := HL1.out; omega)
  have HB5 : Hid (∀ x ∈ l5, 0 ≤ x ∧ x ≤ 255) := Lib.hid (fun x hx => HB4.out x (by rw [← hl5] at hx; exact List.mem_of_mem_drop hx))
  have HEM := Lib.hid hM
  have HEl5 := Lib.hid hl5
  clear hM hl5
  go_wp2_with fail
  refine C5.out.mono ?_
  rintro e w5 ⟨rfl, h5⟩
  have HN5 := Lib.hid h5
  clear h5 C5 HN4
  have e4 : List.drop 8 l = l4 := by rw [← HEl4.out, ← HEl3.out, List.drop_drop]
  rw [e4, HEM.out] at hM hMx
  obtain ⟨hM0, hM1⟩ := hM
  have hns : ¬ (M < 0) := by omega
  have hnh : ¬ (M < 16) := by omega
  obtain ⟨m, hm⟩ : ∃ m : Nat, M - 16 = (m : Int) := ⟨(M - 16).toNat, by omega⟩
  have hmt : (M - 16).toNat = m := by omega
  have hml : m ≤ n - 16 := by have := HL1.out; omega
  have HMT := Lib.hid hmt
  clear hM1 hmt
  have CE6 := HN5.out.fin (by have := HL5.out; have := HL1.out; omega)
  obtain ⟨E1, hE1⟩ : ∃ E1, endE l5.length 0 = E1 := ⟨_, rfl⟩
  rw [hE1] at CE6
  have qE1 : (E1 == 8) = false := by
    rw [← hE1]; unfold endE; split <;> decide
  replace CE6 := Lib.hid CE6
  clear hE1
  go_wp2_with fail
  refine CE6.out.mono ?_
  rintro e w6 ⟨rfl, h6, hd6⟩
  have HN6 := Lib.hid h6
  have HD6 := Lib.hid hd6
  have HL6 := HL5
  have HB6 := HB5
  clear h6 hd6 CE6 HN5
  have CT := HN6.out.take_yes m (by have := HL6.out; have := HL1.out; omega) (by have := HL6.out; have := HL1.out; omega)
  obtain ⟨dd, hdd⟩ : ∃ dd, List.take m l5 = dd := ⟨_, rfl⟩
  obtain ⟨rr, hrr⟩ : ∃ rr, List.drop m l5 = rr := ⟨_, rfl⟩
  rw [hdd, hrr] at CT
  have hdl : dd.length = m := by rw [← hdd, List.length_take]; have := HL6.out; have := HL1.out; omega
  have HL7 : Hid (rr.length ≤ n) := Lib.hid (by rw [← hrr, List.length_drop]; have := HL6.out; have := HL1.out; omega)
  have HB7 := HB6
  have HEd := Lib.hid hdd
  have HEr := Lib.hid hrr
  have HDL := Lib.hid hdl
  replace CT := Lib.hid CT
  clear hdd hrr hdl
  go_wp2_with fail
  refine CT.out.mono ?_
  rintro e w7 ⟨vd, rfl, ho7, h7⟩
  obtain ⟨da, dcap, rfl⟩ : ∃ da dcap, vd = .slice da m dcap := by
    obtain ⟨_, _, ho⟩ := ho7
    obtain ⟨da, dcap, e, _⟩ := own_any ho
    exact ⟨da, dcap, e⟩
  have HN7 := Lib.hid h7
  have HO := Lib.hid ho7
  clear h7 CT HN6 ho7
  have CE8 := HN7.out.fin (by have := HL7.out; have := HL1.out; omega)
  obtain ⟨E2, hE2⟩ : ∃ E2, endE rr.length 0 = E2 := ⟨_, rfl⟩
  rw [hE2] at CE8
  have qE2 : (E2 == 8) = false := by
    rw [← hE2]; unfold endE; split <;> decide
  replace CE8 := Lib.hid CE8
  clear hE2
  go_wp2_with fail
  refine CE8.out.mono ?_
  rintro e w8 ⟨rfl, h8, hd8⟩
  have HN8 := Lib.hid h8
  have HD8 := Lib.hid hd8
  have HL8 := HL7
  have HB8 := HB7
  clear h8 hd8 CE8 HN7
  have HS := Lib.hid (HN8.out.set (.string (strOf kd)) (.slice da m dcap))
  have HO2 := Lib.hid (HN8.out.own HO.out HD8.out (.string (strOf kd)) (.slice da m dcap))
  have k0 := blk_cell HN8.out.b 0
  have k1 := blk_cell HN8.out.b 1
  have f0 := blk_frozen HN8.out.b 0
  have f1 := blk_frozen HN8.out.b 1
  simp at k0 k1
  go_wp2_with fail
  refine bodyPost_ret (by exact box_res HS.out.b rfl rfl) rfl ?_
  have e4 : List.drop 8 l = l4 := by rw [← HEl4.out, ← HEl3.out, List.drop_drop]
  rw [e4, HEM.out, HMT.out]
  have e5 : List.drop 16 l = l5 := by rw [← HEl5.out, ← HEl4.out, ← HEl3.out, List.drop_drop, List.drop_drop]
  rw [e5]
  rw [HEl3.out, HEkd.out]
  try rw [HLN.out]
  rw [HEd.out, HEr.out]
  exact NxtR.box_of HS.out HDL.out HO2.out
set_option maxRecDepth 100000 in
set_option maxHeartbeats 4000000 in
theorem next_m {w : World} {lo p : Nat} {l : List Int} (h : Rd w lo p l 0) (hl : l.length ≤ 100000) (hb : ∀ x ∈ l, 0 ≤ x ∧ x ≤ 255) (h8 : 8 ≤ l.length) (hL : 2 ≤ num (l.take 4) ∧ num (l.take 4) < 8)  :
    Calls Try.prog 25 #[.pointer (some ⟨p, 0, none⟩)] w fun e w' => NxtR w w' lo p e (.err 15) := by
  have hp := h.lt
  obtain ⟨W1, hW1⟩ : ∃ W1, w.alloc (Obj.cells #[.string ⟨#[]⟩, .slice none 0 0] 42) = W1 := ⟨_, rfl⟩
  have HN1 : Hid (Nx w W1 lo p l 0 (.string ⟨#[]⟩) (.slice none 0 0)) := Lib.hid (by
    have hbl : Below w.heap.size w W1 := by rw [← hW1]; exact (Below.refl _ w).alloc (Nat.le_refl _) _
    exact ⟨h.below hbl hp, grown_below hbl (Nat.le_refl _), by rw [← hW1]; exact heap_alloc_new w _, hp⟩)
  have HBY := Lib.hid hb
  obtain ⟨n, hn⟩ : ∃ n, l.length = n := ⟨_, rfl⟩
  have CL := HN1.out.left (by omega)
  rw [if_pos rfl, hn] at CL
  replace CL := Lib.hid CL
  have HLN := Lib.hid hn
  rw [hn] at hl
  clear h hp hb hn
  go_enter Try.func25, Try.ntmps25
  go_wp2_with fail
  clear hW1
  refine CL.out.mono ?_
  rintro e w2 ⟨rfl, rfl⟩
  clear CL
  have HL1 : Hid (l.length = n) := HLN
  have HB1 : Hid (∀ x ∈ l, 0 ≤ x ∧ x ≤ 255) := HBY
  have C3 := HN1.out.get_yes 4 (by omega) (by have := HL1.out; have := HL1.out; omega) (by have := HL1.out; have := HL1.out; omega) HB1.out
  obtain ⟨L, hL⟩ : ∃ L, num (List.take 4 l) = L := ⟨_, rfl⟩
  rw [hL] at C3
  replace C3 := Lib.hid C3
  obtain ⟨l3, hl3⟩ : ∃ l3, List.drop 4 l = l3 := ⟨_, rfl⟩
  rw [hl3] at C3
  have HL3 : Hid (l3.length = n - 4) := Lib.hid (by rw [← hl3, List.length_drop]; have := HL1.out; have := HL1.out; omega)
  have HB3 : Hid (∀ x ∈ l3, 0 ≤ x ∧ x ≤ 255) := Lib.hid (fun x hx => HB1.out x (by rw [← hl3] at hx; exact List.mem_of_mem_drop hx))
  have HEL := Lib.hid hL
  have HEl3 := Lib.hid hl3
  clear hL hl3
  go_wp2_with fail
  refine C3.out.mono ?_
  rintro e w3 ⟨rfl, h3⟩
  have HN3 := Lib.hid h3
  clear h3 C3 HN1
  rw [HEL.out] at hL
  obtain ⟨hL0, hL1⟩ := hL
  have hq0 : (L == 0) = false := by simp; omega
  have hq1 : (L == 1) = false := by simp; omega
  have hns : ¬ (L < 0) := by omega
  have C4 := HN3.out.take_yes 4 (by have := HL3.out; have := HL1.out; omega) (by have := HL3.out; have := HL1.out; omega)
  obtain ⟨kd, hkd⟩ : ∃ kd, List.take 4 l3 = kd := ⟨_, rfl⟩
  rw [hkd] at C4
  obtain ⟨l4, hl4⟩ : ∃ l4, List.drop 4 l3 = l4 := ⟨_, rfl⟩
  rw [hl4] at C4
  replace C4 := Lib.hid C4
  have HL4 : Hid (l4.length = n - 8) := Lib.hid (by rw [← hl4, List.length_drop]; have := HL3.out; have := HL1.out; omega)
  have hk4 : kd.length = 4 := by rw [← hkd, List.length_take]; have := HL3.out; have := HL1.out; omega
  have HB4 : Hid (∀ x ∈ l4, 0 ≤ x ∧ x ≤ 255) := Lib.hid (fun x hx => HB3.out x (by rw [← hl4] at hx; exact List.mem_of_mem_drop hx))
  have HEkd := Lib.hid hkd
  have HEl4 := Lib.hid hl4
  clear hkd hl4
  go_wp2_with fail
  refine C4.out.mono ?_
  rintro e w4 ⟨vk, rfl, ⟨bs4, hbs4, ho4⟩, h4⟩
  have HN4 := Lib.hid h4
  obtain ⟨ka, kcap, rfl, _⟩ := own_any ho4
  have hcv := conv_str (w := w4) (c := kcap) hk4 (Lst.own ho4)
  clear h4 C4 HN3 ho4 hbs4
  have CE5 := HN4.out.fin (by have := HL4.out; have := HL1.out; omega)
  obtain ⟨E1, hE1⟩ : ∃ E1, endE l4.length 0 = E1 := ⟨_, rfl⟩
  rw [hE1] at CE5
  have qE1 : (E1 == 8) = false := by
    rw [← hE1]; unfold endE; split <;> decide
  replace CE5 := Lib.hid CE5
  clear hE1
  go_wp2_with fail
  refine CE5.out.mono ?_
  rintro e w5 ⟨rfl, h5, hd5⟩
  have HN5 := Lib.hid h5
  have HD5 := Lib.hid hd5
  have HL5 := HL4
  have HB5 := HB4
  clear h5 hd5 CE5 HN4
  have HS := Lib.hid (HN5.out.set (.string ⟨#[]⟩) (.slice none 0 0))
  have k0 := blk_cell HN5.out.b 0
  have k1 := blk_cell HN5.out.b 1
  have f0 := blk_frozen HN5.out.b 0
  have f1 := blk_frozen HN5.out.b 1
  simp at k0 k1
  go_wp2_with fail
  refine bodyPost_ret (by exact box_res HS.out.b rfl rfl) rfl ?_
  exact NxtR.err_of HS.out
set_option maxRecDepth 100000 in
set_option maxHeartbeats 4000000 in
theorem next_l {w : World} {lo p : Nat} {l : List Int} (h : Rd w lo p l 0) (hl : l.length ≤ 100000) (hb : ∀ x ∈ l, 0 ≤ x ∧ x ≤ 255) (h8 : 8 ≤ l.length) (hL : 8 ≤ num (l.take 4) ∧ (l.length : Int) - 8 < num (l.take 4) - 8) (hLx : num (l.take 4) < 4294967296) :
    Calls Try.prog 25 #[.pointer (some ⟨p, 0, none⟩)] w fun e w' => NxtR w w' lo p e (.err 8) := by
  have hp := h.lt
  obtain ⟨W1, hW1⟩ : ∃ W1, w.alloc (Obj.cells #[.string ⟨#[]⟩, .slice none 0 0] 42) = W1 := ⟨_, rfl⟩
  have HN1 : Hid (Nx w W1 lo p l 0 (.string ⟨#[]⟩) (.slice none 0 0)) := Lib.hid (by
    have hbl : Below w.heap.size w W1 := by rw [← hW1]; exact (Below.refl _ w).alloc (Nat.le_refl _) _
    exact ⟨h.below hbl hp, grown_below hbl (Nat.le_refl _), by rw [← hW1]; exact heap_alloc_new w _, hp⟩)
  have HBY := Lib.hid hb
  obtain ⟨n, hn⟩ : ∃ n, l.length = n := ⟨_, rfl⟩
  have CL := HN1.out.left (by omega)
  rw [if_pos rfl, hn] at CL
  replace CL := Lib.hid CL
  have HLN := Lib.hid hn
  rw [hn] at hl
  clear h hp hb hn
  go_enter Try.func25, Try.ntmps25
  go_wp2_with fail
  clear hW1
  refine CL.out.mono ?_
  rintro e w2 ⟨rfl, rfl⟩
  clear CL
  have HL1 : Hid (l.length = n) := HLN
  have HB1 : Hid (∀ x ∈ l, 0 ≤ x ∧ x ≤ 255) := HBY
  have C3 := HN1.out.get_yes 4 (by omega) (by have := HL1.out; have := HL1.out; omega) (by have := HL1.out; have := HL1.out; omega) HB1.out
  obtain ⟨L, hL⟩ : ∃ L, num (List.take 4 l) = L := ⟨_, rfl⟩
  rw [hL] at C3
  replace C3 := Lib.hid C3
  obtain ⟨l3, hl3⟩ : ∃ l3, List.drop 4 l = l3 := ⟨_, rfl⟩
  rw [hl3] at C3
  have HL3 : Hid (l3.length = n - 4) := Lib.hid (by rw [← hl3, List.length_drop]; have := HL1.out; have := HL1.out; omega)
  have HB3 : Hid (∀ x ∈ l3, 0 ≤ x ∧ x ≤ 255) := Lib.hid (fun x hx => HB1.out x (by rw [← hl3] at hx; exact List.mem_of_mem_drop hx))
  have HEL := Lib.hid hL
  have HEl3 := Lib.hid hl3
  clear hL hl3
  go_wp2_with fail
  refine C3.out.mono ?_
  rintro e w3 ⟨rfl, h3⟩
  have HN3 := Lib.hid h3
  clear h3 C3 HN1
  rw [HEL.out] at hL
  rw [HEL.out] at hLx
  obtain ⟨hL0, hL1⟩ := hL
  have hq0 : (L == 0) = false := by simp; omega
  have hq1 : (L == 1) = false := by simp; omega
  have hns : ¬ (L < 0) := by omega
  have hnh : ¬ (L < 8) := by omega
  have C4 := HN3.out.take_yes 4 (by have := HL3.out; have := HL1.out; omega) (by have := HL3.out; have := HL1.out; omega)
  obtain ⟨kd, hkd⟩ : ∃ kd, List.take 4 l3 = kd := ⟨_, rfl⟩
  rw [hkd] at C4
  obtain ⟨l4, hl4⟩ : ∃ l4, List.drop 4 l3 = l4 := ⟨_, rfl⟩
  rw [hl4] at C4
  replace C4 := Lib.hid C4
  have HL4 : Hid (l4.length = n - 8) := Lib.hid (by rw [← hl4, List.length_drop]; have := HL3.out; have := HL1.out; omega)
  have hk4 : kd.length = 4 := by rw [← hkd, List.length_take]; have := HL3.out; have := HL1.out; omega
  have HB4 : Hid (∀ x ∈ l4, 0 ≤ x ∧ x ≤ 255) := Lib.hid (fun x hx => HB3.out x (by rw [← hl4] at hx; exact List.mem_of_mem_drop hx))
  have HEkd := Lib.hid hkd
  have HEl4 := Lib.hid hl4
  clear hkd hl4
  go_wp2_with fail
  refine C4.out.mono ?_
  rintro e w4 ⟨vk, rfl, ⟨bs4, hbs4, ho4⟩, h4⟩
  have HN4 := Lib.hid h4
  obtain ⟨ka, kcap, rfl, _⟩ := own_any ho4
  have hcv := conv_str (w := w4) (c := kcap) hk4 (Lst.own ho4)
  clear h4 C4 HN3 ho4 hbs4
  have CE5 := HN4.out.fin (by have := HL4.out; have := HL1.out; omega)
  obtain ⟨E1, hE1⟩ : ∃ E1, endE l4.length 0 = E1 := ⟨_, rfl⟩
  rw [hE1] at CE5
  have qE1 : (E1 == 8) = false := by
    rw [← hE1]; unfold endE; split <;> decide
  replace CE5 := Lib.hid CE5
  clear hE1
  go_wp2_with fail
  refine CE5.out.mono ?_
  rintro e w5 ⟨rfl, h5, hd5⟩
  have HN5 := Lib.hid h5
  have HD5 := Lib.hid hd5
  have HL5 := HL4
  have HB5 := HB4
  clear h5 hd5 CE5 HN4
  have C7 := Lib.hid (HN5.out.take_no (L - 8) (by omega) (by have := HL5.out; have := HL1.out; first | (left; omega) | (right; decide)) (by have := HL5.out; have := HL1.out; omega))
  go_wp2_with fail
  refine C7.out.mono ?_
  rintro e w7 ⟨rfl, h7⟩
  have HN7 := Lib.hid (h7 (by simp))
  clear h7 C7 HN5
  have HL7 := HL5
  have CE := HN7.out.fin (by have := HL7.out; have := HL1.out; omega)
  rw [show ∀ m, endE m 8 = 8 from fun m => by unfold endE; rw [if_neg (by omega)]] at CE
  replace CE := Lib.hid CE
  go_wp2_with fail
  refine CE.out.mono ?_
  rintro e w8 ⟨rfl, h8, hd8⟩
  have HN8 := Lib.hid h8
  have HD8 := Lib.hid hd8
  clear h8 hd8 CE HN7
  have HL8 := HL7
  have HS := Lib.hid (HN8.out.set (.string ⟨#[]⟩) (.slice none 0 0))
  have k0 := blk_cell HN8.out.b 0
  have k1 := blk_cell HN8.out.b 1
  have f0 := blk_frozen HN8.out.b 0
  have f1 := blk_frozen HN8.out.b 1
  simp at k0 k1
  go_wp2_with fail
  refine bodyPost_ret (by exact box_res HS.out.b rfl rfl) rfl ?_
  exact NxtR.err_of HS.out
set_option maxRecDepth 100000 in
set_option maxHeartbeats 4000000 in
theorem next_k {w : World} {lo p : Nat} {l : List Int} (h : Rd w lo p l 0) (hl : l.length ≤ 100000) (hb : ∀ x ∈ l, 0 ≤ x ∧ x ≤ 255) (h8 : 8 ≤ l.length) (hL : 8 ≤ num (l.take 4) ∧ num (l.take 4) - 8 ≤ (l.length : Int) - 8) (hLx : num (l.take 4) < 4294967296) :
    Calls Try.prog 25 #[.pointer (some ⟨p, 0, none⟩)] w fun e w' => NxtR w w' lo p e (.box ((l.drop 4).take 4) ((l.drop 8).take (num (l.take 4) - 8).toNat) ((l.drop 8).drop (num (l.take 4) - 8).toNat)) := by
  have hp := h.lt
  obtain ⟨W1, hW1⟩ : ∃ W1, w.alloc (Obj.cells #[.string ⟨#[]⟩, .slice none 0 0] 42) = W1 := ⟨_, rfl⟩
  have HN1 : Hid (Nx w W1 lo p l 0 (.string ⟨#[]⟩) (.slice none 0 0)) := Lib.hid (by
    have hbl : Below w.heap.size w W1 := by rw [← hW1]; exact (Below.refl _ w).alloc (Nat.le_refl _) _
    exact ⟨h.below hbl hp, grown_below hbl (Nat.le_refl _), by rw [← hW1]; exact heap_alloc_new w _, hp⟩)
  have HBY := Lib.hid hb
  obtain ⟨n, hn⟩ : ∃ n, l.length = n := ⟨_, rfl⟩
  have CL := HN1.out.left (by omega)
  rw [if_pos rfl, hn] at CL
  replace CL := Lib.hid CL
  have HLN := Lib.hid hn
  rw [hn] at hl
  clear h hp hb hn
  go_enter Try.func25, Try.ntmps25
  go_wp2_with fail
  clear hW1
  refine CL.out.mono ?_
  rintro e w2 ⟨rfl, rfl⟩
  clear CL
  have HL1 : Hid (l.length = n) := HLN
  have HB1 : Hid (∀ x ∈ l, 0 ≤ x ∧ x ≤ 255) := HBY
  have C3 := HN1.out.get_yes 4 (by omega) (by have := HL1.out; have := HL1.out; omega) (by have := HL1.out; have := HL1.out; omega) HB1.out
  obtain ⟨L, hL⟩ : ∃ L, num (List.take 4 l) = L := ⟨_, rfl⟩
  rw [hL] at C3
  replace C3 := Lib.hid C3
  obtain ⟨l3, hl3⟩ : ∃ l3, List.drop 4 l = l3 := ⟨_, rfl⟩
  rw [hl3] at C3
  have HL3 : Hid (l3.length = n - 4) := Lib.hid (by rw [← hl3, List.length_drop]; have := HL1.out; have := HL1.out; omega)
  have HB3 : Hid (∀ x ∈ l3, 0 ≤ x ∧ x ≤ 255) := Lib.hid (fun x hx => HB1.out x (by rw [← hl3] at hx; exact List.mem_of_mem_drop hx))
  have HEL := Lib.hid hL
  have HEl3 := Lib.hid hl3
  clear hL hl3
  go_wp2_with fail
  refine C3.out.mono ?_
  rintro e w3 ⟨rfl, h3⟩
  have HN3 := Lib.hid h3
  clear h3 C3 HN1
  rw [HEL.out] at hL
  rw [HEL.out] at hLx
  obtain ⟨hL0, hL1⟩ := hL
  have hq0 : (L == 0) = false := by simp; omega
  have hq1 : (L == 1) = false := by simp; omega
  have hns : ¬ (L < 0) := by omega
  have hnh : ¬ (L < 8) := by omega
  obtain ⟨m, hm⟩ : ∃ m : Nat, L - 8 = (m : Int) := ⟨(L - 8).toNat, by omega⟩
  have hmt : (L - 8).toNat = m := by omega
  have hml : m ≤ n - 8 := by have := HL1.out; omega
  have HMT := Lib.hid hmt
  clear hmt hL1
  have C4 := HN3.out.take_yes 4 (by have := HL3.out; have := HL1.out; omega) (by have := HL3.out; have := HL1.out; omega)
  obtain ⟨kd, hkd⟩ : ∃ kd, List.take 4 l3 = kd := ⟨_, rfl⟩
  rw [hkd] at C4
  obtain ⟨l4, hl4⟩ : ∃ l4, List.drop 4 l3 = l4 := ⟨_, rfl⟩
  rw [hl4] at C4
  replace C4 := Lib.hid C4
  have HL4 : Hid (l4.length = n - 8) := Lib.hid (by rw [← hl4, List.length_drop]; have := HL3.out; have := HL1.out; omega)
  have hk4 : kd.length = 4 := by rw [← hkd, List.length_take]; have := HL3.out; have := HL1.out; omega
  have HB4 : Hid (∀ x ∈ l4, 0 ≤ x ∧ x ≤ 255) := Lib.hid (fun x hx => HB3.out x (by rw [← hl4] at hx; exact List.mem_of_mem_drop hx))
  have HEkd := Lib.hid hkd
  have HEl4 := Lib.hid hl4
  clear hkd hl4
  go_wp2_with fail
  refine C4.out.mono ?_
  rintro e w4 ⟨vk, rfl, ⟨bs4, hbs4, ho4⟩, h4⟩
  have HN4 := Lib.hid h4
  obtain ⟨ka, kcap, rfl, _⟩ := own_any ho4
  have hcv := conv_str (w := w4) (c := kcap) hk4 (Lst.own ho4)
  clear h4 C4 HN3 ho4 hbs4
  have CE5 := HN4.out.fin (by have := HL4.out; have := HL1.out; omega)
  obtain ⟨E1, hE1⟩ : ∃ E1, endE l4.length 0 = E1 := ⟨_, rfl⟩
  rw [hE1] at CE5
  have qE1 : (E1 == 8) = false := by
    rw [← hE1]; unfold endE; split <;> decide
  replace CE5 := Lib.hid CE5
  clear hE1
  go_wp2_with fail
  refine CE5.out.mono ?_
  rintro e w5 ⟨rfl, h5, hd5⟩
  have HN5 := Lib.hid h5
  have HD5 := Lib.hid hd5
  have HL5 := HL4
  have HB5 := HB4
  clear h5 hd5 CE5 HN4
  have CT := HN5.out.take_yes m (by have := HL5.out; have := HL1.out; omega) (by have := HL5.out; have := HL1.out; omega)
  obtain ⟨dd, hdd⟩ : ∃ dd, List.take m l4 = dd := ⟨_, rfl⟩
  obtain ⟨rr, hrr⟩ : ∃ rr, List.drop m l4 = rr := ⟨_, rfl⟩
  rw [hdd, hrr] at CT
  have hdl : dd.length = m := by rw [← hdd, List.length_take]; have := HL5.out; have := HL1.out; omega
  have HL7 : Hid (rr.length ≤ n) := Lib.hid (by rw [← hrr, List.length_drop]; have := HL5.out; have := HL1.out; omega)
  have HB7 := HB5
  have HEd := Lib.hid hdd
  have HEr := Lib.hid hrr
  have HDL := Lib.hid hdl
  replace CT := Lib.hid CT
  clear hdd hrr hdl
  go_wp2_with fail
  refine CT.out.mono ?_
  rintro e w7 ⟨vd, rfl, ho7, h7⟩
  obtain ⟨da, dcap, rfl⟩ : ∃ da dcap, vd = .slice da m dcap := by
    obtain ⟨_, _, ho⟩ := ho7
    obtain ⟨da, dcap, e, _⟩ := own_any ho
    exact ⟨da, dcap, e⟩
  have HN7 := Lib.hid h7
  have HO := Lib.hid ho7
  clear h7 CT HN5 ho7
  have CE8 := HN7.out.fin (by have := HL7.out; have := HL1.out; omega)
  obtain ⟨E2, hE2⟩ : ∃ E2, endE rr.length 0 = E2 := ⟨_, rfl⟩
  rw [hE2] at CE8
  have qE2 : (E2 == 8) = false := by
    rw [← hE2]; unfold endE; split <;> decide
  replace CE8 := Lib.hid CE8
  clear hE2
  go_wp2_with fail
  refine CE8.out.mono ?_
  rintro e w8 ⟨rfl, h8, hd8⟩
  have HN8 := Lib.hid h8
  have HD8 := Lib.hid hd8
  have HL8 := HL7
  have HB8 := HB7
  clear h8 hd8 CE8 HN7
  have HS := Lib.hid (HN8.out.set (.string (strOf kd)) (.slice da m dcap))
  have HO2 := Lib.hid (HN8.out.own HO.out HD8.out (.string (strOf kd)) (.slice da m dcap))
  have k0 := blk_cell HN8.out.b 0
  have k1 := blk_cell HN8.out.b 1
  have f0 := blk_frozen HN8.out.b 0
  have f1 := blk_frozen HN8.out.b 1
  simp at k0 k1
  go_wp2_with fail
  refine bodyPost_ret (by exact box_res HS.out.b rfl rfl) rfl ?_
  have e4 : List.drop 8 l = l4 := by rw [← HEl4.out, ← HEl3.out, List.drop_drop]
  rw [HEL.out, HMT.out, e4]
  rw [HEl3.out, HEkd.out]
  try rw [HLN.out]
  rw [HEd.out, HEr.out]
  exact NxtR.box_of HS.out HDL.out HO2.out
theorem boxnext_any {w : World} {lo p : Nat} {l : List Int} (h : Rd w lo p l 0) (hl : l.length ≤ 100000) (hb : ∀ x ∈ l, 0 ≤ x ∧ x ≤ 255) :
    Calls Try.prog 25 #[.pointer (some ⟨p, 0, none⟩)] w fun e w' => NxtR w w' lo p e (nxt l) := by
  have hmx : ∀ l, num l ≤ 9223372036854775807 := fun l => by unfold num wrap64; omega
  unfold nxt
  by_cases h8 : l.length < 8
  · rw [if_pos h8]
    by_cases h4 : l.length < 4
    · exact next_lt4 h hl hb h4
    · by_cases e0 : num (l.take 4) = 0
      · exact next_mid0 h hl hb (by omega) h8 e0
      · by_cases e1 : num (l.take 4) = 1
        · exact next_mid1 h hl hb (by omega) h8 e1
        · exact next_mid2 h hl hb (by omega) h8 ⟨e0, e1⟩
  · rw [if_neg h8]
    have h8' : 8 ≤ l.length := by omega
    have hr := num4 (l.take 4) (fun x hx => hb x (List.mem_of_mem_take hx)) (by rw [List.length_take]; omega)
    by_cases e0 : num (l.take 4) = 0
    · rw [if_pos e0]
      unfold nxtB
      rw [if_neg (by omega), if_neg (by omega), if_neg (by rw [List.length_drop]; omega), show ((l.length : Int) - (8 : Nat)).toNat = l.length - 8 by omega]
      exact next_z h hl hb h8' e0
    · rw [if_neg e0]
      by_cases e1 : num (l.take 4) = 1
      · rw [if_pos e1]
        by_cases h16 : l.length < 16
        · rw [if_pos h16]
          exact next_1s h hl hb h8' e1 h16
        · rw [if_neg h16]
          unfold nxtB
          have hx := hmx ((l.drop 8).take 8)
          by_cases m0 : num ((l.drop 8).take 8) < 0
          · rw [if_pos m0]; exact next_1n h hl hb h8' e1 (by omega) m0 hx
          · rw [if_neg m0]
            by_cases m1 : num ((l.drop 8).take 8) < (16 : Nat)
            · rw [if_pos m1]; exact next_1m h hl hb h8' e1 (by omega) ⟨by omega, by omega⟩ hx
            · rw [if_neg m1]
              by_cases m2 : ((l.drop 16).length : Int) < num ((l.drop 8).take 8) - (16 : Nat)
              · rw [if_pos m2]; exact next_1l h hl hb h8' e1 (by omega) ⟨by omega, by rw [List.length_drop] at m2; omega⟩ hx
              · rw [if_neg m2]; exact next_1k h hl hb h8' e1 (by omega) ⟨by omega, by rw [List.length_drop] at m2; omega⟩ hx
      · rw [if_neg e1]
        unfold nxtB
        rw [if_neg (by omega)]
        by_cases m1 : num (l.take 4) < (8 : Nat)
        · rw [if_pos m1]; exact next_m h hl hb h8' ⟨by omega, by omega⟩
        · rw [if_neg m1]
          by_cases m2 : ((l.drop 8).length : Int) < num (l.take 4) - (8 : Nat)
          · rw [if_pos m2]; exact next_l h hl hb h8' ⟨by omega, by rw [List.length_drop] at m2; omega⟩ hr.2
          · rw [if_neg m2]; exact next_k h hl hb h8' ⟨by omega, by rw [List.length_drop] at m2; omega⟩ hr.2
end Go.Proofs.Ytfjkfajhfnmjjaa
