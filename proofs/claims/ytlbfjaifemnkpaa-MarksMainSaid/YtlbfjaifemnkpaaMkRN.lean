/- marks: MarksMain walked. -/
import Derived.Test.YtlbfjaifemnkpaaMem
import Derived.Laws.BytesString
import Derived.Laws.Cells
import Derived.Test.YtlbfjaifemnkpaaMkW6
import Derived.Laws.Rows
import Derived.Deep.LoopGhost
import Derived.Maps.AppendAt
import Derived.Deep.CutRange
import Derived.Deep.CutBlock
import Derived.Deep.MidRow
import Derived.Test.YtlbfjaifemnkpaaMkSe
import Derived.Test.YtlbfjaifemnkpaaMkSd
import Derived.Test.YtlbfjaifemnkpaaMkRA
import Derived.Test.YtlbfjaifemnkpaaMkW7
set_option linter.unusedVariables false
set_option linter.unusedSimpArgs false
namespace Go.Proofs.Ytlbfjaifemnkpaa
section
open Go.RowKit

/-- The bytes of a string, of numbers. -/
def strOf (ns : List Int) : ByteArray := ns.foldl (fun r n => r.push (UInt8.ofNat n.toNat)) ByteArray.empty
theorem conv_str {w : World} {B : Nat} {A : Option Addr} {n c : Nat} {ns : List Int} (hn : ns.length = n) (h : Lst w B A (ns.map (Value.int .u8))) :
    (convert 25 9 (.slice A n c)).run Try.prog w = .ok (.string (strOf ns)) w := by
  rw [run_convert_bytes_string w 25 9 5 A n c Try.underlying25 Try.underlying5 Try.underlying9]
  rcases A with _ | a
  · have : ns = [] := by
      rcases ns with _ | ⟨x, l⟩
      · rfl
      · obtain ⟨b, o, e, _⟩ := h 0 _ rfl
        cases e
    subst this
    rfl
  · have hl := run_loadCells_list (P := Try.prog) w a (ns.map (Value.int .u8)) (h.add rfl)
    rw [List.length_map, hn] at hl
    exact run_bytesToString w a n c ns hl
theorem lst_drewN {w : World} {B : Nat} {A : Option Addr} {xs : List Value} (h : Lst w B A xs) (k : Nat) : Lst (w.drewN k) B A xs := h
theorem lst_cut {w : World} {B : Nat} {A : Option Addr} {xs : List Value} (h : Lst w B A xs) (k n cap : Nat) (hk : k + n ≤ cap) (hl : k ≤ xs.length) (hn : n ≤ xs.length - k) :
    Lst w B (if cap = k then A else A.map (·.add k)) ((xs.drop k).take n) := by
  intro i u hu
  have hi : i < n := by
    rcases Nat.lt_or_ge i n with h | h
    · exact h
    · rw [List.getElem?_eq_none (by rw [List.length_take]; omega)] at hu; cases hu
  rw [if_neg (by omega)]
  rw [List.getElem?_take, if_pos hi, List.getElem?_drop] at hu
  obtain ⟨b, o, rfl, hb, hc⟩ := h _ u hu
  refine ⟨b, o + k, ?_, hb, by rw [Nat.add_assoc]; exact hc⟩
  simp only [Option.map_some, Addr.add]
  split
  · subst_vars; rfl
  · rfl
theorem lst_int {w : World} {B : Nat} {A : Option Addr} {l : List Int} (h : Lst w B A (l.map (Value.int .i64))) {k : Nat} (hk : k < l.length) :
    ∃ b o, A = some ⟨b, o, none⟩ ∧ b < B ∧ w.cell? ⟨b, o + k, none⟩ = some (.int .i64 (l.getD k 0)) := by
  have := h k (.int .i64 (l.getD k 0)) (by rw [List.getElem?_map, List.getElem?_eq_getElem hk, List.getD_eq_getElem?_getD, List.getElem?_eq_getElem hk]; rfl)
  exact this

end
section
section
section
section
section
section
open Go.RowKit
set_option maxRecDepth 100000
attribute [local go_sem ↓] appSem_eq
/-- A row that grows: what else was there stays. -/
structure Gro (v : Value) (w : World) (v' : Value) (w' : World) : Prop where
  g : w.grownBy w' v.ownBlock
  o : v'.ownBlock = v.ownBlock ∨ ∀ k, v'.ownBlock = some k → w.heap.size ≤ k
theorem Gro.refl (v : Value) (w : World) : Gro v w v w := ⟨World.grownBy.refl _ _, .inl rfl⟩
theorem Gro.trans {v v1 v2 : Value} {w w1 w2 : World} (h : Gro v w v1 w1) (h2 : Gro v1 w1 v2 w2) : Gro v w v2 w2 := by
  refine ⟨⟨h2.g.os.trans h.g.os, h2.g.tape.trans h.g.tape, h2.g.output.trans h.g.output, Nat.le_trans h.g.size h2.g.size, fun k hk hne => ?_⟩, ?_⟩
  · rw [h2.g.block k (Nat.lt_of_lt_of_le hk h.g.size) (fun e => ?_)]
    · exact h.g.block k hk hne
    · rcases h.o with ho | ho
      · exact hne (e.trans ho)
      · have := ho k e.symm
        omega
  · rcases h2.o with ho | ho
    · rcases h.o with hp | hp
      · exact .inl (ho.trans hp)
      · exact .inr fun k hk => hp k (ho.symm.trans hk)
    · exact .inr fun k hk => Nat.le_trans h.g.size (ho k hk)
theorem Gro.alloc {v v1 : Value} {w w1 : World} (h : Gro v w v1 w1) (o : Obj) : Gro v w v1 (w1.alloc o) :=
  h.trans ⟨World.grownBy_alloc w1 o _, .inl rfl⟩
theorem Gro.bel {base : Nat} {w0 w w' : World} {v v' : Value} {X : List Int} (h : By base w v X) (hb : Below base w0 w) (hs : base ≤ w.heap.size) (hg : Gro v w v' w') : Below base w0 w' := h.bel hb hs hg.g
theorem app_gro {w : World} {base m c : Nat} {v : Value} {A : Option Addr} {X L : List Int} (h : By base w v X) (hA : A = none → m = 0) (hL : Lst w w.heap.size A (L.map (Value.int .u8))) (hl : L.length = m) (hb : base ≤ w.heap.size) (hlen : X.length + m ≤ 1000000) :
    ∃ A' m' c' w', (appSem #[25, 25] 25 #[v, .slice A m c]).run Try.prog w = .ok (.slice A' m' c') w' ∧ By base w' (.slice A' m' c') (X ++ L) ∧ Gro v w (.slice A' m' c') w' := by
  obtain ⟨i0, hi, hz0, hz1, hz2⟩ := info_parts Try.info5
  cases A with
  | none =>
    have hm := hA rfl
    subst hm
    obtain rfl : L = [] := List.eq_nil_of_length_eq_zero hl
    have hcc : ∀ c : Nat, (appSem #[25, 25] 25 #[v, .slice none 0 c]).run Try.prog w = .ok v w := fun c => run_append_owned_none (P := Try.prog) (w := w) base 25 25 5 i0 1 Try.underlying25 hi v _ _ h
    obtain ⟨A', c', rfl, _⟩ := By.form h
    exact ⟨A', _, c', w, hcc c, by rw [List.append_nil]; exact h, Gro.refl _ _⟩
  | some a =>
    obtain ⟨v', w', hr, hown', hg, _, hat⟩ := run_append_own_at (P := Try.prog) w base 25 25 5 i0 (.int .u8 0) 1 1 Try.underlying25 hi hz0 hz1 hz2 rfl (by decide) v X.length _ h a m c (L.map (Value.int .u8)) (by rw [List.length_map, hl]; simp)
      (fun j u hu => by
        obtain ⟨b, o, e, _, hc⟩ := hL j u hu
        cases e
        show w.cell? (if j = 0 then _ else _) = _
        split
        · rename_i h0; rw [h0] at hc; simpa using hc
        · exact hc) (ints_oneCell .u8 L) (by unfold maxLen; omega) (by omega) hb
    have hown2 : By base w' v' (X ++ L) := by
      unfold By
      rw [List.map_append, List.length_append, hl]
      exact hown'
    obtain ⟨A', c', rfl, _⟩ := By.form hown2
    refine ⟨A', _, c', w', hr, hown2, hg, ?_⟩
    rcases hat with e | e
    · exact .inl e
    · exact .inr fun k hk => by rw [e] at hk; injection hk with hk; omega
/-- New bytes behind a row. -/
theorem app_new {w : World} {base : Nat} {v : Value} {X : List Int} (L : List Int) (h : By base w v X) (hb : base ≤ w.heap.size) (hlen : X.length + L.length ≤ 1000000) :
    ∃ A' m' c' w', (appSem #[25, 25] 25 #[v, .slice (some ⟨w.heap.size, 0, none⟩) L.length L.length]).run Try.prog (w.alloc (.cells (L.map (Value.int .u8)).toArray 5)) = .ok (.slice A' m' c') w' ∧ By base w' (.slice A' m' c') (X ++ L) ∧ Gro v w (.slice A' m' c') w' := by
  have hbk : Below w.heap.size w (w.alloc (.cells (L.map (Value.int .u8)).toArray 5)) := (Below.refl _ _).alloc (Nat.le_refl _) _
  obtain ⟨A', m', c', w', hr, hy, hg⟩ := app_gro (m := L.length) (c := L.length) (h.below hbk) (A := some ⟨w.heap.size, 0, none⟩) (by simp) (L := L) (by
    intro i u hu
    refine ⟨w.heap.size, 0, rfl, by unfold World.alloc; simp, ?_⟩
    rw [rb_cell (World.alloc_heap_new w _) (0 + i)]
    simpa using hu) rfl (Nat.le_trans hb hbk.size) hlen
  exact ⟨A', m', c', w', hr, hy, (Gro.refl v w).alloc _ |>.trans hg⟩
set_option maxHeartbeats 8000000 in
theorem rput_gro {base n c : Nat} {A : Option Addr} {w : World} {X : List Int} (size : Nat) (m : Int) (h : By base w (.slice A n c) X) (hb : base ≤ w.heap.size) (hs : 1 ≤ size ∧ size ≤ 8) (hl : X.length ≤ 100000) :
    Calls Try.prog 28 #[.slice A n c, .int .i64 (size : Int), .int .i64 m] w fun e w' => ∃ A' n' c', e = .returned (.slice A' n' c') ∧ By base w' (.slice A' n' c') (X ++ putL m size) ∧ Gro (.slice A n c) w (.slice A' n' c') w' := by
  have H := Lib.hid h
  have HB := Lib.hid hb
  have hsI : ¬ (size : Int) < 1 ∧ ¬ (8 : Int) < (size : Int) := by omega
  have hs8 : size ≤ 8 := hs.2
  clear h hb hs
  go_enter Try.func28, Try.ntmps28
  go_wp2
  go_loopg [0, 7] size (fun g a v wr => ∃ (A' : Option Addr) (n' c' : Nat) (Y : List Int), a = .slice A' n' c' ∧ v = .int .i64 ((g : Int) - 1) ∧ g ≤ size ∧ Hid (By base wr (.slice A' n' c') Y ∧ Y ++ putL m g = X ++ putL m size ∧ Y.length + g = X.length + size ∧ Gro (.slice A n c) w (.slice A' n' c') wr))
  case atStart => exact ⟨A, n, c, X, rfl, rfl, Nat.le_refl _, Lib.hid ⟨H.out, rfl, rfl, Gro.refl _ _⟩⟩
  case round =>
    obtain ⟨A6, n6, c6, Y, rfl, rfl, hgs, HI⟩ := hrel
    obtain ⟨wa, hwa⟩ : ∃ wa, wa = wr := ⟨wr, rfl⟩
    subst hwa
    by_cases hg0 : gk = 0
    · subst hg0
      have hf := HI.out.2.1
      rw [show putL m 0 = [] from rfl, List.append_nil] at hf
      have HF : Hid (By base wa (.slice A6 n6 c6) (X ++ putL m size)) := Lib.hid (by rw [← hf]; exact HI.out.1)
      clear hf
      go_wp2
      go_ret
      exact ⟨_, _, _, rfl, HF.out, HI.out.2.2.2⟩
    · obtain ⟨g1, rfl⟩ : ∃ g1, gk = g1 + 1 := ⟨gk - 1, by omega⟩
      have e1 : ((g1 + 1 : Nat) : Int) - 1 = (g1 : Int) := by omega
      have hgI : (0 : Int) ≤ (g1 : Int) ∧ (g1 : Int) ≤ 7 := by omega
      have HUB : Hid (IntKind.u64.wrap m / 2 ^ (8 * g1) % 256 = m / 2 ^ (8 * g1) % 256) := Lib.hid (u64_byte m g1 (by omega))
      have wmul : IntKind.u64.wrap (8 * (g1 : Int)) = 8 * (g1 : Int) := by
        have : IntKind.u64.wrap (8 * (g1 : Int)) = (8 * (g1 : Int)) % 18446744073709551616 := rfl
        rw [this]; omega
      have hg1 := HI.out.2.2.2.g.size
      have hb1 : base ≤ wa.heap.size := by have := HB.out; omega
      have hYl := HI.out.2.2.1
      obtain ⟨A9, n9, c9, w9, hr, hy9, hg9⟩ := app_new [m / 2 ^ (8 * g1) % 256] HI.out.1 hb1 (by simp only [List.length_cons, List.length_nil]; omega)
      rw [← HUB.out] at hr
      have hr2 : (appSem #[25, 25] 25 #[.slice A6 n6 c6, .slice (some ⟨wa.heap.size, 0, none⟩) 1 1]).run Try.prog (wa.alloc (.cells #[.int .u8 (IntKind.u64.wrap m / 2 ^ (8 * g1) % 256)] 5)) = .ok (.slice A9 n9 c9) w9 := hr
      have HN : Hid (By base w9 (.slice A9 n9 c9) (Y ++ [m / 2 ^ (8 * g1) % 256]) ∧ (Y ++ [m / 2 ^ (8 * g1) % 256]) ++ putL m g1 = X ++ putL m size ∧ (Y ++ [m / 2 ^ (8 * g1) % 256]).length + g1 = X.length + size ∧ Gro (.slice A n c) w (.slice A9 n9 c9) w9) := Lib.hid (by
        have h2 := HI.out.2.1
        rw [show putL m (g1 + 1) = m / 2 ^ (8 * g1) % 256 :: putL m g1 from rfl] at h2
        refine ⟨hy9, by rw [← h2]; simp, by simp only [List.length_append, List.length_cons, List.length_nil]; omega, HI.out.2.2.2.trans hg9⟩)
      rw [e1]
      clear hr hy9 hg9 HI hg1 hb1 hYl e1
      go_wp2
      go_roundg g1
      case measure => omega
      case rel => exact ⟨A9, n9, c9, _, rfl, rfl, by omega, HN⟩
set_option maxHeartbeats 4000000 in
theorem bit_any (b : Bool) (w : World) : Calls Try.prog 54 #[.bool b] w fun e w' => e = .returned (.int .i64 (if b then 1 else 0)) ∧ w = w' := by
  cases b <;> (go_enter Try.func54, Try.ntmps54; go_wp2; go_ret; first | done | exact ⟨rfl, rfl⟩ | rfl)
theorem fldL_one (s : Nat) (m : Int) : fldL s [m] = putL m s := by unfold fldL; simp
set_option maxHeartbeats 8000000 in
/-- A segment behind a row. -/
theorem rseg_gro {base n c nx cx : Nat} {A Ax : Option Addr} {w : World} {X L : List Int} (mk : Int) (h : By base w (.slice A n c) X) (hb : base ≤ w.heap.size) (hl : X.length ≤ 50000) (hx : L.length = nx) (hn : nx ≤ 5000) (hA : Ax = none → nx = 0)
    (hk : ∀ w', w.grownBy w' (Value.slice A n c).ownBlock → Lst w' w'.heap.size Ax (L.map (Value.int .u8))) :
    Calls Try.prog 27 #[.slice A n c, .int .i64 mk, .slice Ax nx cx] w fun e w' => ∃ A' n' c', e = .returned (.slice A' n' c') ∧ By base w' (.slice A' n' c') (X ++ segL mk L) ∧ Gro (.slice A n c) w (.slice A' n' c') w' := by
  have C1 := Lib.hid (rput_gro 2 mk h hb (by omega) (by omega))
  have HB := Lib.hid hb
  have HK := Lib.hid hk
  have HLX := Lib.hid hx
  clear h hb hk hx
  go_enter Try.func27, Try.ntmps27
  go_wp2_with fail
  refine C1.out.mono ?_
  rintro e w1 ⟨A1, n1, c1, rfl, hy1, hg1⟩
  have hb1 : base ≤ w1.heap.size := Nat.le_trans HB.out hg1.g.size
  have C2 := Lib.hid (rput_gro 2 ((nx : Int) + 2) hy1 hb1 (by omega) (by rw [List.length_append, putL_len]; omega))
  have HG1 := Lib.hid hg1
  have HB1 := Lib.hid hb1
  clear hy1 hg1 hb1 C1
  go_wp2_with fail
  refine C2.out.mono ?_
  rintro e w2 ⟨A2, n2, c2, rfl, hy2, hg2⟩
  have hg3 := HG1.out.trans hg2
  obtain ⟨A9, n9, c9, w9, hr, hy9, hg9⟩ := app_gro (m := nx) (c := cx) hy2 hA (HK.out w2 hg3.g) HLX.out (Nat.le_trans HB1.out hg2.g.size) (by rw [List.length_append, List.length_append, putL_len, putL_len]; omega)
  have HN : Hid (By base w9 (.slice A9 n9 c9) (X ++ segL mk L) ∧ Gro (.slice A n c) w (.slice A9 n9 c9) w9) := Lib.hid ⟨by
    have e : X ++ segL mk L = X ++ putL mk 2 ++ putL ((nx : Int) + 2) 2 ++ L := by
      unfold segL
      rw [show fldL 2 [mk, 2 + (L.length : Int)] = putL mk 2 ++ putL (2 + (L.length : Int)) 2 by unfold fldL; simp]
      rw [HLX.out, Int.add_comm 2]
      simp
    rw [e]
    exact hy9, hg3.trans hg9⟩
  clear hy2 hg2 hg3 hy9 hg9 C2
  go_wp2
  go_ret
  exact ⟨_, _, _, rfl, HN.out⟩
end
section
open Go.RowKit Go.Shelf
attribute [local go_sem ↓] appSem_eq
set_option maxRecDepth 100000
theorem Gro.keepL {v v' : Value} {w w' : World} (hg : Gro v w v' w') {p : Nat} (hp : p < w.heap.size) (hne : v.ownBlock ≠ some p) : w'.heap[p]? = w.heap[p]? ∧ v'.ownBlock ≠ some p ∧ p < w'.heap.size := by
  refine ⟨hg.g.block p hp (fun e => hne e.symm), fun e => ?_, Nat.lt_of_lt_of_le hp hg.g.size⟩
  rcases hg.o with h | h
  · exact hne (h.symm.trans e)
  · have := h p e
    omega
theorem fld3 (a b c : Int) : fldL 1 [a, b, c] = [a % 256, b % 256, c % 256] := by
  show [a / 2 ^ (8 * 0) % 256, b / 2 ^ (8 * 0) % 256, c / 2 ^ (8 * 0) % 256] = _
  simp
theorem fldL_len3 (l : List Cp) : (l.flatMap fun c => fldL 1 [depthF c, c.dx, c.dy]).length = 3 * l.length := by
  induction l with
  | nil => rfl
  | cons c l ih => rw [List.flatMap_cons, List.length_append, ih, fldL_len, List.length_cons]; simp; omega
theorem lst_new8 (w : World) (L : List Int) : Lst (w.alloc (.cells (L.map (Value.int .u8)).toArray 5)) (w.alloc (.cells (L.map (Value.int .u8)).toArray 5)).heap.size (some ⟨w.heap.size, 0, none⟩) (L.map (Value.int .u8)) := by
  intro i u hu
  refine ⟨w.heap.size, 0, rfl, by unfold World.alloc; simp, ?_⟩
  rw [rb_cell (World.alloc_heap_new w _) (0 + i)]
  simpa using hu
theorem rg5 {w : World} {B : Nat} {h : HV} {t : TypeId} (hb : w.heap[B]? = some (.cells h.arr t (0, 0))) : w.rangeAt B 0 [.int .i64 h.X, .int .i64 h.Y, .int .i64 h.OX, .int .i64 h.OY, .slice h.A h.N h.C] := by
  intro j v hv
  rw [rb_cell hb (0 + j), Nat.zero_add]
  match j, hv with
  | 0, hv => exact hv
  | 1, hv => exact hv
  | 2, hv => exact hv
  | 3, hv => exact hv
  | 4, hv => exact hv
set_option maxHeartbeats 8000000 in
theorem rsizes_any {w : World} {h : HV} {cs : List Cp} (hrow : CpL w (.slice h.A h.N h.C) cs) (hlen : cs.length = h.N) (hN5 : h.N ≤ 5) (hd : ∀ c ∈ cs, 0 ≤ c.d ∧ c.d ≤ 100) :
    Calls Try.prog 29 #[.agg h.arr] w fun e w' => ∃ A' n' c', e = .returned (.slice A' n' c') ∧ By w.heap.size w' (.slice A' n' c') (sizeL h cs) ∧ Below w.heap.size w w' := by
  have HROW := Lib.hid hrow
  have HD := Lib.hid hd
  obtain ⟨B, hB⟩ : ∃ B, w.heap.size = B := ⟨_, rfl⟩
  obtain ⟨w1, hw1⟩ : ∃ w1, w.alloc (.cells h.arr 37) = w1 := ⟨_, rfl⟩
  have H1 : Hid (Below B w w1 ∧ w1.heap[B]? = some (.cells h.arr 37 (0, 0)) ∧ w1.heap.size = B + 1) := Lib.hid ⟨by rw [← hw1, ← hB]; exact (Below.refl _ _).alloc (Nat.le_refl _) _, by rw [← hw1, ← hB]; exact World.alloc_heap_new w _, by rw [← hw1, ← hB]; simp⟩
  have HE := Lib.hid (And.intro hw1 hB)
  have RG := Lib.hid (rg5 H1.out.2.1)
  obtain ⟨X, Y, OX, OY, A, N, C, TX, TY, LV, BW, BH, PR, ST, OD, LY, RC, SO, EP, SA, sn, sc⟩ := h
  have HLN : Hid (cs.length = N ∧ N ≤ 5) := Lib.hid ⟨hlen, hN5⟩
  have hN4 : N ≤ 5 := hN5
  clear hw1 hB hrow hd hlen hN5
  have K : ∀ k, w1.cell? ⟨B, k, none⟩ = _ := fun k => rb_cell H1.out.2.1 k
  have k5 : w1.cell? ⟨B, 5, none⟩ = some (.int .i64 TX) := K 5
  have k6 : w1.cell? ⟨B, 6, none⟩ = some (.int .i64 TY) := K 6
  have HK := Lib.hid (And.intro k5 k6)
  clear K k5 k6
  obtain ⟨w2, hw2⟩ : ∃ w2, (w1.alloc (.cells #[.int .i64 0, .int .i64 0, .int .i64 0, .int .i64 0, .slice none 0 0] 29)).setRow w1.heap.size #[.int .i64 X, .int .i64 Y, .int .i64 OX, .int .i64 OY, .slice A N C] = w2 := ⟨_, rfl⟩
  obtain ⟨m, hm⟩ : ∃ m, w1.heap.size = m := ⟨_, rfl⟩
  have H2 : Hid (Below w1.heap.size w1 w2 ∧ w2.heap[m]? = some (.cells #[.int .i64 X, .int .i64 Y, .int .i64 OX, .int .i64 OY, .slice A N C] 29 (0, 0)) ∧ w2.heap.size = m + 1 ∧ m = B + 1) := Lib.hid ⟨by rw [← hw2]; exact below_setRow ((Below.refl _ _).alloc (Nat.le_refl _) _) (Nat.le_refl _) _, by rw [← hw2, ← hm]; exact setRow_heap _ _ _ _ _ _ (World.alloc_heap_new w1 _), by rw [← hw2, ← hm]; simp, by rw [← hm]; exact H1.out.2.2⟩
  have HE2 := Lib.hid (And.intro hw2 hm)
  clear hw2 hm
  go_enter Try.func29, Try.ntmps29
  go_upto_region 1 with fail
  rw [show w.alloc _ = w1 from HE.out.1, HE.out.2]
  go_upto_region 2 with (first | refine wpList_load_mid rfl 29 _ rfl B 0 rfl [.int .i64 X, .int .i64 Y, .int .i64 OX, .int .i64 OY, .slice A N C] _ RG.out Try.underlying29 rfl (by kernel_rfl) ?_ | refine wpList_store_row rfl 29 _ _ rfl w1.heap.size #[.int .i64 X, .int .i64 Y, .int .i64 OX, .int .i64 OY, .slice A N C] rfl rfl 29 #[.int .i64 0, .int .i64 0, .int .i64 0, .int .i64 0, .slice none 0 0] (World.alloc_heap_new w1 _) (by kernel_rfl) (by rfl) (by kernel_rfl) ?_)
  rw [show (w1.alloc (.cells #[.int .i64 0, .int .i64 0, .int .i64 0, .int .i64 0, .slice none 0 0] 29)).setRow w1.heap.size #[.int .i64 X, .int .i64 Y, .int .i64 OX, .int .i64 OY, .slice A N C] = w2 from HE2.out.1, HE2.out.2]
  have C1 := Lib.hid (rput_gro 2 0 (By.nil w2.heap.size w2) (Nat.le_refl _) (by omega) (by simp))
  go_wp2_with fail
  refine C1.out.mono ?_
  rintro e w3 ⟨A1, n1, c1, rfl, hy1, hg1⟩
  have hb3 : Below w2.heap.size w2 w3 := (By.nil w2.heap.size w2).bel (Below.refl _ _) (Nat.le_refl _) hg1.g
  have HY1 := Lib.hid (And.intro hy1 hb3)
  have b3 : w3.heap[B]? = w2.heap[B]? := hb3.block B (by have := H2.out.2.2; omega)
  have b2 : w2.heap[B]? = w1.heap[B]? := H2.out.1.block B (by have := H1.out.2.2; omega)
  have b3' := (b3.trans b2).trans H1.out.2.1
  have k5 : w3.cell? ⟨B, 5, none⟩ = some (.int .i64 TX) := rb_cell b3' 5
  have k6 : w3.cell? ⟨B, 6, none⟩ = some (.int .i64 TY) := rb_cell b3' 6
  have m3 := (hb3.block m (by have := H2.out.2.2; omega)).trans H2.out.2.1
  have j0 : w3.cell? ⟨m, 0, none⟩ = some (.int .i64 X) := rb_cell m3 0
  have j1 : w3.cell? ⟨m, 1, none⟩ = some (.int .i64 Y) := rb_cell m3 1
  have j2 : w3.cell? ⟨m, 2, none⟩ = some (.int .i64 OX) := rb_cell m3 2
  have j3 : w3.cell? ⟨m, 3, none⟩ = some (.int .i64 OY) := rb_cell m3 3
  clear b3 b2 b3' m3 hy1 hg1 hb3 C1
  go_upto_region 4 with fail
  clear k5 k6 j0 j1 j2 j3
  obtain ⟨p, hp⟩ : ∃ p, w3.heap.size = p := ⟨_, rfl⟩
  obtain ⟨nums, hnums⟩ : ∃ l : List Int, [X, Y, OX, OY, TX, TY, 0, 0] = l := ⟨_, rfl⟩
  obtain ⟨w4, hw4⟩ : ∃ w4, w3.alloc (.cells (nums.map (Value.int .i64)).toArray 3) = w4 := ⟨_, rfl⟩
  have HP4 : Hid (w4.heap[p]? = some (.cells (nums.map (Value.int .i64)).toArray 3 (0, 0)) ∧ By w2.heap.size w4 (.slice A1 n1 c1) (putL 0 2) ∧ Below w2.heap.size w2 w4 ∧ (Value.slice A1 n1 c1).ownBlock ≠ some p) := Lib.hid (by
    have hb : Below w3.heap.size w3 w4 := by rw [← hw4]; exact (Below.refl _ _).alloc (Nat.le_refl _) _
    refine ⟨by rw [← hw4, ← hp]; exact World.alloc_heap_new w3 _, HY1.out.1.below hb, HY1.out.2.trans (hb.mono HY1.out.2.size), fun e => ?_⟩
    have := (own_lt HY1.out.1 e).2
    omega)
  rw [← hnums] at hw4
  rw [show w3.alloc (.cells #[.int .i64 X, .int .i64 Y, .int .i64 OX, .int .i64 OY, .int .i64 TX, .int .i64 TY, .int .i64 0, .int .i64 0] 3) = w4 from hw4, hp]
  have hnl : nums.length = 8 := by rw [← hnums]; rfl
  have HNU := Lib.hid hnums
  clear hw4 hp hnums HY1
  go_wp2_with fail
  go_loopg [4, 6] 8 (fun g a v wr => ∃ (j : Nat) (A' : Option Addr) (n' c' : Nat), j + g = 8 ∧ a = .slice A' n' c' ∧ v = .int .i64 (j : Int) ∧ Hid (By w2.heap.size wr (.slice A' n' c') (putL 0 2 ++ fldL 4 (nums.take j)) ∧ Below w2.heap.size w2 wr ∧ wr.heap[p]? = some (.cells (nums.map (Value.int .i64)).toArray 3 (0, 0)) ∧ (Value.slice A' n' c').ownBlock ≠ some p))
  case atStart => exact ⟨0, A1, n1, c1, by omega, rfl, rfl, Lib.hid ⟨by simpa [fldL] using HP4.out.2.1, HP4.out.2.2.1, HP4.out.1, HP4.out.2.2.2⟩⟩
  case round =>
    obtain ⟨j, A6, n6, c6, hjg, rfl, rfl, HI⟩ := hrel
    obtain ⟨wa, hwa⟩ : ∃ wa, wa = wr := ⟨wr, rfl⟩
    subst hwa
    by_cases hj : j < 8
    · obtain ⟨g1, rfl⟩ : ∃ g1, gk = g1 + 1 := ⟨gk - 1, by omega⟩
      have hjI : (j : Int) < 8 ∧ (0 : Int) ≤ (j : Int) := by omega
      obtain ⟨x, hx⟩ : ∃ x, nums[j]? = some x := ⟨_, List.getElem?_eq_getElem (by rw [hnl]; exact hj)⟩
      have cj : wa.cell? ⟨p, j, none⟩ = some (.int .i64 x) := by
        rw [rb_cell HI.out.2.2.1 j, List.getElem?_toArray, List.getElem?_map, hx]
        rfl
      have hln : (putL 0 2 ++ fldL 4 (nums.take j)).length ≤ 100 := by rw [List.length_append, putL_len, fldL_len, List.length_take]; omega
      have CP := Lib.hid (rput_gro 4 x HI.out.1 HI.out.2.1.size (by omega) (by omega))
      have HX : Hid (putL 0 2 ++ fldL 4 (nums.take (j + 1)) = (putL 0 2 ++ fldL 4 (nums.take j)) ++ putL x 4) := Lib.hid (by rw [List.take_add_one, hx]; unfold fldL; simp)
      clear hx hln
      go_wp2_with fail
      refine CP.out.mono ?_
      rintro e w5 ⟨A9, n9, c9, rfl, hy9, hg9⟩
      have HN : Hid (By w2.heap.size w5 (.slice A9 n9 c9) (putL 0 2 ++ fldL 4 (nums.take (j + 1))) ∧ Below w2.heap.size w2 w5 ∧ w5.heap[p]? = some (.cells (nums.map (Value.int .i64)).toArray 3 (0, 0)) ∧ (Value.slice A9 n9 c9).ownBlock ≠ some p) := Lib.hid (by
        have hk := hg9.keepL (blk_lt HI.out.2.2.1) HI.out.2.2.2
        exact ⟨by rw [HX.out]; exact hy9, Gro.bel HI.out.1 HI.out.2.1 HI.out.2.1.size hg9, hk.1.trans HI.out.2.2.1, hk.2.1⟩)
      clear hy9 hg9 CP HX HI cj
      go_wp2
      go_roundg g1
      case measure => omega
      case rel => exact ⟨j + 1, A9, n9, c9, by omega, rfl, by simp, HN⟩
    · obtain rfl : j = 8 := by omega
      have hlc : ¬ (8 : Int) < 8 := by omega
      have hf := HI.out.1
      rw [List.take_of_length_le (by rw [hnl]; exact Nat.le_refl _)] at hf
      have km := (HI.out.2.1.block m (by have := H2.out.2.2; omega)).trans H2.out.2.1
      have j4 : wa.cell? ⟨m, 4, none⟩ = some (.slice A N C) := rb_cell km 4
      have CP := Lib.hid (rput_gro 2 (N : Int) hf HI.out.2.1.size (by omega) (by rw [List.length_append, putL_len, fldL_len]; omega))
      have HF := Lib.hid (And.intro hf HI.out.2.1)
      clear hf km HI HP4
      go_wp2_with fail
      refine CP.out.mono ?_
      rintro e w5 ⟨A5, n5, c5, rfl, hy5, hg5⟩
      obtain ⟨PRE, hPRE⟩ : ∃ P, (putL 0 2 ++ fldL 4 nums) ++ putL (N : Int) 2 = P := ⟨_, rfl⟩
      rw [hPRE] at hy5
      have HPRE : Hid (fldL 2 [0] ++ fldL 4 nums ++ fldL 2 [(N : Int)] = PRE ∧ PRE.length = 36) := Lib.hid ⟨by rw [fldL_one, fldL_one]; exact hPRE, by rw [← hPRE, List.length_append, List.length_append, putL_len, fldL_len, putL_len, hnl]⟩
      have H5 : Hid (By w2.heap.size w5 (.slice A5 n5 c5) PRE ∧ Below w2.heap.size w2 w5) := Lib.hid ⟨hy5, Gro.bel HF.out.1 HF.out.2 HF.out.2.size hg5⟩
      clear hPRE hy5 hg5 CP HF j4 hlc
      go_wp2_with fail
      go_loopg [4, 7] N (fun g a v wr => ∃ (j : Nat) (A' : Option Addr) (n' c' : Nat), j + g = N ∧ a = .slice A' n' c' ∧ v = .int .i64 (j : Int) ∧ Hid (By w2.heap.size wr (.slice A' n' c') (PRE ++ ((cs.take j).flatMap fun c => fldL 1 [depthF c, c.dx, c.dy])) ∧ Below w2.heap.size w2 wr))
      case atStart => exact ⟨0, A5, n5, c5, by omega, rfl, rfl, Lib.hid ⟨by simpa using H5.out.1, H5.out.2⟩⟩
      case round =>
        obtain ⟨j, A6, n6, c6, hjg, rfl, rfl, HI⟩ := hrel
        obtain ⟨wa, hwa⟩ : ∃ wa, wa = wr := ⟨wr, rfl⟩
        subst hwa
        have km := (HI.out.2.block m (by have := H2.out.2.2; omega)).trans H2.out.2.1
        have j4 : wa.cell? ⟨m, 4, none⟩ = some (.slice A N C) := rb_cell km 4
        clear km
        by_cases hj : j < N
        · obtain ⟨g1, rfl⟩ : ∃ g1, gk = g1 + 1 := ⟨gk - 1, by omega⟩
          have hjI : (j : Int) < (N : Int) ∧ (0 : Int) ≤ (j : Int) := by omega
          obtain ⟨c, hc⟩ : ∃ c, cs[j]? = some c := ⟨_, List.getElem?_eq_getElem (by rw [HLN.out.1]; exact hj)⟩
          obtain ⟨g, cap, hv, hgl, _, _, q0, q1, q2, q3, q4⟩ := HROW.out j c hc
          have hdb := HD.out c (List.mem_of_getElem? hc)
          injection hv with hv1 hv2 hv3
          try simp only at hv1
          subst hv1
          have hgB : g < B := by rw [← HE.out.2]; exact hgl
          have hbb : Below B w wa := by
            have h1 : Below B w w2 := H1.out.1.trans (H2.out.1.mono (by have := H1.out.2.2; omega))
            exact h1.trans (HI.out.2.mono (by have := H2.out.2.2; omega))
          have e0 := (hbb.cell (p := ⟨g, j * 5, none⟩) hgB).trans q0
          have e1 := (hbb.cell (p := ⟨g, j * 5 + 1, none⟩) hgB).trans q1
          have e2 := (hbb.cell (p := ⟨g, j * 5 + 2, none⟩) hgB).trans q2
          have e3 := (hbb.cell (p := ⟨g, j * 5 + 3, none⟩) hgB).trans q3
          have e4 := (hbb.cell (p := ⟨g, j * 5 + 4, none⟩) hgB).trans q4
          obtain ⟨sv, hsv⟩ : ∃ sv : Int, (if c.sg = true then (1 : Int) else 0) = sv := ⟨_, rfl⟩
          have hsb : 0 ≤ sv ∧ sv ≤ 1 := by rw [← hsv]; split <;> omega
          have hdf : c.d - 1 + 128 * sv = depthF c := by unfold depthF; rw [← hsv]; split <;> omega
          have BA : Hid (∀ u, Calls Try.prog 54 #[.bool c.sg] u fun e w' => e = .returned (.int .i64 sv) ∧ u = w') := Lib.hid fun u => by
            have := bit_any c.sg u
            rw [hsv] at this
            exact this
          have HW : Hid (IntKind.i64.wrap (c.d - 1) = c.d - 1 ∧ IntKind.i64.wrap (128 * sv) = 128 * sv ∧ IntKind.i64.wrap (c.d - 1 + 128 * sv) = depthF c) := Lib.hid ⟨IntWalk.i64_in _ (by omega), IntWalk.i64_in _ (by omega), by rw [IntWalk.i64_in _ (by omega), hdf]⟩
          have HX : Hid (PRE ++ ((cs.take (j + 1)).flatMap fun c => fldL 1 [depthF c, c.dx, c.dy]) = (PRE ++ ((cs.take j).flatMap fun c => fldL 1 [depthF c, c.dx, c.dy])) ++ [depthF c % 256, c.dx % 256, c.dy % 256]) := Lib.hid (by rw [← fld3, List.take_add_one, hc]; simp)
          have HLE : Hid ((PRE ++ ((cs.take j).flatMap fun c => fldL 1 [depthF c, c.dx, c.dy])).length ≤ 100) := Lib.hid (by
            rw [List.length_append, fldL_len3, HPRE.out.2, List.length_take]
            omega)
          clear hc q0 q1 q2 q3 q4 hdb hv2 hv3 hgB hgl hbb hsv hsb hdf
          go_upto_region 13 with fail
          clear e0 e1 e2 e3 e4 j4
          obtain ⟨q, hq⟩ : ∃ q, wa.heap.size = q := ⟨_, rfl⟩
          obtain ⟨wq, hwq⟩ : ∃ wq, wa.alloc (Obj.cells #[.int .i64 c.d, .bool c.sg, .int .i64 c.dx, .int .i64 c.dy, .slice c.A c.n c.cap] 45) = wq := ⟨_, rfl⟩
          rw [hq]
          rw [hwq]
          have HQB : Hid (wq.heap[q]? = some (.cells #[.int .i64 c.d, .bool c.sg, .int .i64 c.dx, .int .i64 c.dy, .slice c.A c.n c.cap] 45 (0, 0)) ∧ By w2.heap.size wq (.slice A6 n6 c6) (PRE ++ ((cs.take j).flatMap fun c => fldL 1 [depthF c, c.dx, c.dy])) ∧ Below w2.heap.size w2 wq) := Lib.hid (by
            have hb : Below wa.heap.size wa wq := by rw [← hwq]; exact (Below.refl _ _).alloc (Nat.le_refl _) _
            exact ⟨by rw [← hwq, ← hq]; exact World.alloc_heap_new wa _, HI.out.1.below hb, HI.out.2.trans (hb.mono HI.out.2.size)⟩)
          clear hq hwq HI
          obtain ⟨VL, hVL⟩ : ∃ VL : Nat × (Option Addr × Nat × Nat) → List (Nat × Nat × Value), VL = fun z => [(0, 56, .slice A6 n6 c6), (1, 57, .pointer (some ⟨q, 0, none⟩)), (2, 58, .int .i64 c.d), (3, 59, .int .i64 (c.d - 1)), (4, 60, .pointer (some ⟨q, 1, none⟩)), (5, 61, .bool c.sg), (6, 62, .int .i64 sv), (7, 63, .int .i64 (128 * sv)), (8, 64, .int .i64 (depthF c)), (9, 65, .int .u8 (depthF c % 256)), (10, 66, .pointer (some ⟨q, 2, none⟩)), (11, 67, .int .i64 c.dx), (12, 68, .int .u8 (c.dx % 256)), (13, 69, .pointer (some ⟨q, 3, none⟩)), (14, 70, .int .i64 c.dy), (15, 71, .int .u8 (c.dy % 256)), (16, 72, .slice (some ⟨z.1, 0, none⟩) 3 3), (17, 73, .slice z.2.1 z.2.2.1 z.2.2.2), (18, 4, .slice z.2.1 z.2.2.1 z.2.2.2)] := ⟨_, rfl⟩
          have hok : ∀ z, manyOk 75 (VL z) := fun z => by rw [hVL]; exact okB_ok rfl
          have HVL := Lib.hid hVL
          have hvi : ∀ z, ∀ x ∈ VL z, x.1 < 19 := fun z => by rw [hVL]; exact ltB_ok rfl
          have HOK := Lib.hid hok
          have HVI := Lib.hid hvi
          clear hVL hok hvi
          refine (wpIn_wide (n := 9)).1 (regionIn_many (N := 75) (w := _) VL (fun L z w' => ((L 17 = false → Below wq.heap.size wq w') ∧ (L 17 = false → L 16 = true → Lst w' w'.heap.size (some ⟨z.1, 0, none⟩) (([depthF c % 256, c.dx % 256, c.dy % 256] : List Int).map (Value.int .u8))) ∧ (L 17 = true → By w2.heap.size w' (.slice z.2.1 z.2.2.1 z.2.2.2) (PRE ++ ((cs.take (j + 1)).flatMap fun c => fldL 1 [depthF c, c.dx, c.dy])) ∧ Below w2.heap.size w2 w')) ∧ True) [(4, .slice A6 n6 c6), (8, .pointer (some ⟨q, 0, none⟩))] (by kernel_rfl) (by kernel_rfl) rfl (by simp only [List.forall_mem_cons, List.not_mem_nil, false_imp_iff, implies_true, and_true]; exact ⟨rfl, rfl⟩) HVI.out (0, (none, 0, 0)) ?start ?step ?fin)
          case start => exact ⟨⟨fun _ => (Below.refl _ _).drew, fun _ h => (by cases h), fun h => (by cases h)⟩, trivial⟩
          case step =>
            intro gg_ hgN hgF ii_ hii_ L z w' hph hs hu
            obtain ⟨hcm, hph⟩ := hph
            have hF4 := hgF (4, .slice A6 n6 c6) (by simp)
            have hF8 := hgF (8, .pointer (some ⟨q, 0, none⟩)) (by simp)
            have hL := hu.1
            have hii_ : ii_ < 19 := hii_
            clear hgF
            obtain rfl | rfl | rfl | rfl | rfl | rfl | rfl | rfl | rfl | rfl | rfl | rfl | rfl | rfl | rfl | rfl | rfl | rfl | rfl := (by omega : ii_ = 0 ∨ ii_ = 1 ∨ ii_ = 2 ∨ ii_ = 3 ∨ ii_ = 4 ∨ ii_ = 5 ∨ ii_ = 6 ∨ ii_ = 7 ∨ ii_ = 8 ∨ ii_ = 9 ∨ ii_ = 10 ∨ ii_ = 11 ∨ ii_ = 12 ∨ ii_ = 13 ∨ ii_ = 14 ∨ ii_ = 15 ∨ ii_ = 16 ∨ ii_ = 17 ∨ ii_ = 18)
            · skip
              have n17 : L 17 = false := not_yet hL fun h => shut_at hs 17 0 (by kernel_rfl) (h)
              have n18 : L 18 = false := not_yet hL fun h => shut_at hs 18 0 (by kernel_rfl) (h)
              have e4 : (many gg_ L (VL z))[4]?.getD undef = .slice A6 n6 c6 := many_out3' hgN (HOK.out z) (by rw [HVL.out]; rfl) (by assumption) hF4
              refine opIn_run (v := .slice A6 n6 c6) (w' := w') rfl rfl (fun c h => by cases h) (fun _ => trivial) ?_ ⟨z, by exact many_put3 (HOK.out _) (by rw [HVL.out]; rfl) hL, hcm, hph⟩
              go_simp
            · skip
              have n16 : L 16 = false := not_yet hL fun h => shut_at hs 2 1 (by kernel_rfl) (shut_at hs 3 2 (by kernel_rfl) (shut_at hs 8 3 (by kernel_rfl) (shut_at hs 9 8 (by kernel_rfl) (shut_at hs 16 9 (by kernel_rfl) (h)))))
              have n17 : L 17 = false := not_yet hL fun h => shut_at hs 2 1 (by kernel_rfl) (shut_at hs 3 2 (by kernel_rfl) (shut_at hs 8 3 (by kernel_rfl) (shut_at hs 9 8 (by kernel_rfl) (shut_at hs 16 9 (by kernel_rfl) (shut_at hs 17 16 (by kernel_rfl) (h))))))
              have n18 : L 18 = false := not_yet hL fun h => shut_at hs 18 1 (by kernel_rfl) (h)
              have e8 : (many gg_ L (VL z))[8]?.getD undef = .pointer (some ⟨q, 0, none⟩) := many_out3 hgN (HOK.out z) (by rw [HVL.out]; rfl) hF8
              refine opIn_run (v := .pointer (some ⟨q, 0, none⟩)) (w' := w') rfl rfl (fun c h => by cases h) (fun _ => trivial) ?_ ⟨z, by exact many_put3 (HOK.out _) (by rw [HVL.out]; rfl) hL, hcm, hph⟩
              go_simp
            · skip
              have y1 : L 1 = true := up_at hu 1 (by kernel_rfl)
              have n16 : L 16 = false := not_yet hL fun h => shut_at hs 3 2 (by kernel_rfl) (shut_at hs 8 3 (by kernel_rfl) (shut_at hs 9 8 (by kernel_rfl) (shut_at hs 16 9 (by kernel_rfl) (h))))
              have n17 : L 17 = false := not_yet hL fun h => shut_at hs 3 2 (by kernel_rfl) (shut_at hs 8 3 (by kernel_rfl) (shut_at hs 9 8 (by kernel_rfl) (shut_at hs 16 9 (by kernel_rfl) (shut_at hs 17 16 (by kernel_rfl) (h)))))
              have n18 : L 18 = false := not_yet hL fun h => shut_at hs 18 2 (by kernel_rfl) (h)
              have hcell : w'.cell? ⟨q, 0, none⟩ = some (.int .i64 c.d) := rb_cell (((hcm.1 n17).block q (blk_lt HQB.out.1)).trans HQB.out.1) 0
              have e57 : (many gg_ L (VL z))[57]?.getD undef = .pointer (some ⟨q, 0, none⟩) := many_eval3 hgN (HOK.out z) (by rw [HVL.out]; rfl) y1
              refine opIn_run (v := .int .i64 c.d) (w' := w') rfl rfl (fun c h => by cases h) (fun _ => trivial) ?_ ⟨z, by exact many_put3 (HOK.out _) (by rw [HVL.out]; rfl) hL, hcm, hph⟩
              go_simp
            · skip
              have y2 : L 2 = true := up_at hu 2 (by kernel_rfl)
              have n16 : L 16 = false := not_yet hL fun h => shut_at hs 8 3 (by kernel_rfl) (shut_at hs 9 8 (by kernel_rfl) (shut_at hs 16 9 (by kernel_rfl) (h)))
              have n17 : L 17 = false := not_yet hL fun h => shut_at hs 8 3 (by kernel_rfl) (shut_at hs 9 8 (by kernel_rfl) (shut_at hs 16 9 (by kernel_rfl) (shut_at hs 17 16 (by kernel_rfl) (h))))
              have n18 : L 18 = false := not_yet hL fun h => shut_at hs 18 3 (by kernel_rfl) (h)
              have q1 := HW.out.1
              have e58 : (many gg_ L (VL z))[58]?.getD undef = .int .i64 c.d := many_eval3 hgN (HOK.out z) (by rw [HVL.out]; rfl) y2
              refine opIn_run (v := .int .i64 (c.d - 1)) (w' := w') rfl rfl (fun c h => by cases h) (fun _ => trivial) ?_ ⟨z, by exact many_put3 (HOK.out _) (by rw [HVL.out]; rfl) hL, hcm, hph⟩
              go_simp
            · skip
              have n16 : L 16 = false := not_yet hL fun h => shut_at hs 5 4 (by kernel_rfl) (shut_at hs 6 5 (by kernel_rfl) (shut_at hs 7 6 (by kernel_rfl) (shut_at hs 8 7 (by kernel_rfl) (shut_at hs 9 8 (by kernel_rfl) (shut_at hs 16 9 (by kernel_rfl) (h))))))
              have n17 : L 17 = false := not_yet hL fun h => shut_at hs 5 4 (by kernel_rfl) (shut_at hs 6 5 (by kernel_rfl) (shut_at hs 17 6 (by kernel_rfl) (h)))
              have n18 : L 18 = false := not_yet hL fun h => shut_at hs 18 4 (by kernel_rfl) (h)
              have e8 : (many gg_ L (VL z))[8]?.getD undef = .pointer (some ⟨q, 0, none⟩) := many_out3 hgN (HOK.out z) (by rw [HVL.out]; rfl) hF8
              refine opIn_run (v := .pointer (some ⟨q, 1, none⟩)) (w' := w') rfl rfl (fun c h => by cases h) (fun _ => trivial) ?_ ⟨z, by exact many_put3 (HOK.out _) (by rw [HVL.out]; rfl) hL, hcm, hph⟩
              go_simp
            · skip
              have y4 : L 4 = true := up_at hu 4 (by kernel_rfl)
              have n16 : L 16 = false := not_yet hL fun h => shut_at hs 6 5 (by kernel_rfl) (shut_at hs 7 6 (by kernel_rfl) (shut_at hs 8 7 (by kernel_rfl) (shut_at hs 9 8 (by kernel_rfl) (shut_at hs 16 9 (by kernel_rfl) (h)))))
              have n17 : L 17 = false := not_yet hL fun h => shut_at hs 6 5 (by kernel_rfl) (shut_at hs 17 6 (by kernel_rfl) (h))
              have n18 : L 18 = false := not_yet hL fun h => shut_at hs 18 5 (by kernel_rfl) (h)
              have hcell : w'.cell? ⟨q, 1, none⟩ = some (.bool c.sg) := rb_cell (((hcm.1 n17).block q (blk_lt HQB.out.1)).trans HQB.out.1) 1
              have e60 : (many gg_ L (VL z))[60]?.getD undef = .pointer (some ⟨q, 1, none⟩) := many_eval3 hgN (HOK.out z) (by rw [HVL.out]; rfl) y4
              refine opIn_run (v := .bool c.sg) (w' := w') rfl rfl (fun c h => by cases h) (fun _ => trivial) ?_ ⟨z, by exact many_put3 (HOK.out _) (by rw [HVL.out]; rfl) hL, hcm, hph⟩
              go_simp
            · skip
              have y5 : L 5 = true := up_at hu 5 (by kernel_rfl)
              have n16 : L 16 = false := not_yet hL fun h => shut_at hs 7 6 (by kernel_rfl) (shut_at hs 8 7 (by kernel_rfl) (shut_at hs 9 8 (by kernel_rfl) (shut_at hs 16 9 (by kernel_rfl) (h))))
              have n17 : L 17 = false := not_yet hL fun h => shut_at hs 17 6 (by kernel_rfl) (h)
              have n18 : L 18 = false := not_yet hL fun h => shut_at hs 18 6 (by kernel_rfl) (h)
              have e61 : (many gg_ L (VL z))[61]?.getD undef = .bool c.sg := many_eval3 hgN (HOK.out z) (by rw [HVL.out]; rfl) y5
              refine opIn_call (f := 54) (args := #[.bool c.sg]) (w' := w') rfl rfl (fun c h => by cases h) (fun _ => trivial) rfl (by go_simp) ((callsIn_wide.2 (BA.out w')).mono ?_)
              rintro e w2 ⟨rfl, rfl⟩
              exact ⟨_, rfl, z, by exact many_put3 (HOK.out _) (by rw [HVL.out]; rfl) hL, hcm, trivial⟩
            · skip
              have y6 : L 6 = true := up_at hu 6 (by kernel_rfl)
              have n16 : L 16 = false := not_yet hL fun h => shut_at hs 8 7 (by kernel_rfl) (shut_at hs 9 8 (by kernel_rfl) (shut_at hs 16 9 (by kernel_rfl) (h)))
              have n17 : L 17 = false := not_yet hL fun h => shut_at hs 8 7 (by kernel_rfl) (shut_at hs 9 8 (by kernel_rfl) (shut_at hs 16 9 (by kernel_rfl) (shut_at hs 17 16 (by kernel_rfl) (h))))
              have n18 : L 18 = false := not_yet hL fun h => shut_at hs 18 7 (by kernel_rfl) (h)
              have q1 := HW.out.2.1
              have e62 : (many gg_ L (VL z))[62]?.getD undef = .int .i64 sv := many_eval3 hgN (HOK.out z) (by rw [HVL.out]; rfl) y6
              refine opIn_run (v := .int .i64 (128 * sv)) (w' := w') rfl rfl (fun c h => by cases h) (fun _ => trivial) ?_ ⟨z, by exact many_put3 (HOK.out _) (by rw [HVL.out]; rfl) hL, hcm, hph⟩
              go_simp
            · skip
              have y3 : L 3 = true := up_at hu 3 (by kernel_rfl)
              have y7 : L 7 = true := up_at hu 7 (by kernel_rfl)
              have n16 : L 16 = false := not_yet hL fun h => shut_at hs 9 8 (by kernel_rfl) (shut_at hs 16 9 (by kernel_rfl) (h))
              have n17 : L 17 = false := not_yet hL fun h => shut_at hs 9 8 (by kernel_rfl) (shut_at hs 16 9 (by kernel_rfl) (shut_at hs 17 16 (by kernel_rfl) (h)))
              have n18 : L 18 = false := not_yet hL fun h => shut_at hs 18 8 (by kernel_rfl) (h)
              have q1 := HW.out.2.2
              have e59 : (many gg_ L (VL z))[59]?.getD undef = .int .i64 (c.d - 1) := many_eval3 hgN (HOK.out z) (by rw [HVL.out]; rfl) y3
              have e63 : (many gg_ L (VL z))[63]?.getD undef = .int .i64 (128 * sv) := many_eval3 hgN (HOK.out z) (by rw [HVL.out]; rfl) y7
              refine opIn_run (v := .int .i64 (depthF c)) (w' := w') rfl rfl (fun c h => by cases h) (fun _ => trivial) ?_ ⟨z, by exact many_put3 (HOK.out _) (by rw [HVL.out]; rfl) hL, hcm, hph⟩
              go_simp
            · skip
              have y8 : L 8 = true := up_at hu 8 (by kernel_rfl)
              have n16 : L 16 = false := not_yet hL fun h => shut_at hs 16 9 (by kernel_rfl) (h)
              have n17 : L 17 = false := not_yet hL fun h => shut_at hs 16 9 (by kernel_rfl) (shut_at hs 17 16 (by kernel_rfl) (h))
              have n18 : L 18 = false := not_yet hL fun h => shut_at hs 18 9 (by kernel_rfl) (h)
              have e64 : (many gg_ L (VL z))[64]?.getD undef = .int .i64 (depthF c) := many_eval3 hgN (HOK.out z) (by rw [HVL.out]; rfl) y8
              refine opIn_run (v := .int .u8 (depthF c % 256)) (w' := w') rfl rfl (fun c h => by cases h) (fun _ => trivial) ?_ ⟨z, by exact many_put3 (HOK.out _) (by rw [HVL.out]; rfl) hL, hcm, trivial⟩
              go_simp
              try rfl
            · skip
              have n16 : L 16 = false := not_yet hL fun h => shut_at hs 11 10 (by kernel_rfl) (shut_at hs 12 11 (by kernel_rfl) (shut_at hs 16 12 (by kernel_rfl) (h)))
              have n17 : L 17 = false := not_yet hL fun h => shut_at hs 11 10 (by kernel_rfl) (shut_at hs 12 11 (by kernel_rfl) (shut_at hs 16 12 (by kernel_rfl) (shut_at hs 17 16 (by kernel_rfl) (h))))
              have n18 : L 18 = false := not_yet hL fun h => shut_at hs 18 10 (by kernel_rfl) (h)
              have e8 : (many gg_ L (VL z))[8]?.getD undef = .pointer (some ⟨q, 0, none⟩) := many_out3 hgN (HOK.out z) (by rw [HVL.out]; rfl) hF8
              refine opIn_run (v := .pointer (some ⟨q, 2, none⟩)) (w' := w') rfl rfl (fun c h => by cases h) (fun _ => trivial) ?_ ⟨z, by exact many_put3 (HOK.out _) (by rw [HVL.out]; rfl) hL, hcm, hph⟩
              go_simp
            · skip
              have y10 : L 10 = true := up_at hu 10 (by kernel_rfl)
              have n16 : L 16 = false := not_yet hL fun h => shut_at hs 12 11 (by kernel_rfl) (shut_at hs 16 12 (by kernel_rfl) (h))
              have n17 : L 17 = false := not_yet hL fun h => shut_at hs 12 11 (by kernel_rfl) (shut_at hs 16 12 (by kernel_rfl) (shut_at hs 17 16 (by kernel_rfl) (h)))
              have n18 : L 18 = false := not_yet hL fun h => shut_at hs 18 11 (by kernel_rfl) (h)
              have hcell : w'.cell? ⟨q, 2, none⟩ = some (.int .i64 c.dx) := rb_cell (((hcm.1 n17).block q (blk_lt HQB.out.1)).trans HQB.out.1) 2
              have e66 : (many gg_ L (VL z))[66]?.getD undef = .pointer (some ⟨q, 2, none⟩) := many_eval3 hgN (HOK.out z) (by rw [HVL.out]; rfl) y10
              refine opIn_run (v := .int .i64 c.dx) (w' := w') rfl rfl (fun c h => by cases h) (fun _ => trivial) ?_ ⟨z, by exact many_put3 (HOK.out _) (by rw [HVL.out]; rfl) hL, hcm, hph⟩
              go_simp
            · skip
              have y11 : L 11 = true := up_at hu 11 (by kernel_rfl)
              have n16 : L 16 = false := not_yet hL fun h => shut_at hs 16 12 (by kernel_rfl) (h)
              have n17 : L 17 = false := not_yet hL fun h => shut_at hs 16 12 (by kernel_rfl) (shut_at hs 17 16 (by kernel_rfl) (h))
              have n18 : L 18 = false := not_yet hL fun h => shut_at hs 18 12 (by kernel_rfl) (h)
              have e67 : (many gg_ L (VL z))[67]?.getD undef = .int .i64 c.dx := many_eval3 hgN (HOK.out z) (by rw [HVL.out]; rfl) y11
              refine opIn_run (v := .int .u8 (c.dx % 256)) (w' := w') rfl rfl (fun c h => by cases h) (fun _ => trivial) ?_ ⟨z, by exact many_put3 (HOK.out _) (by rw [HVL.out]; rfl) hL, hcm, trivial⟩
              go_simp
              try rfl
            · skip
              have n16 : L 16 = false := not_yet hL fun h => shut_at hs 14 13 (by kernel_rfl) (shut_at hs 15 14 (by kernel_rfl) (shut_at hs 16 15 (by kernel_rfl) (h)))
              have n17 : L 17 = false := not_yet hL fun h => shut_at hs 14 13 (by kernel_rfl) (shut_at hs 15 14 (by kernel_rfl) (shut_at hs 16 15 (by kernel_rfl) (shut_at hs 17 16 (by kernel_rfl) (h))))
              have n18 : L 18 = false := not_yet hL fun h => shut_at hs 18 13 (by kernel_rfl) (h)
              have e8 : (many gg_ L (VL z))[8]?.getD undef = .pointer (some ⟨q, 0, none⟩) := many_out3 hgN (HOK.out z) (by rw [HVL.out]; rfl) hF8
              refine opIn_run (v := .pointer (some ⟨q, 3, none⟩)) (w' := w') rfl rfl (fun c h => by cases h) (fun _ => trivial) ?_ ⟨z, by exact many_put3 (HOK.out _) (by rw [HVL.out]; rfl) hL, hcm, hph⟩
              go_simp
            · skip
              have y13 : L 13 = true := up_at hu 13 (by kernel_rfl)
              have n16 : L 16 = false := not_yet hL fun h => shut_at hs 15 14 (by kernel_rfl) (shut_at hs 16 15 (by kernel_rfl) (h))
              have n17 : L 17 = false := not_yet hL fun h => shut_at hs 15 14 (by kernel_rfl) (shut_at hs 16 15 (by kernel_rfl) (shut_at hs 17 16 (by kernel_rfl) (h)))
              have n18 : L 18 = false := not_yet hL fun h => shut_at hs 18 14 (by kernel_rfl) (h)
              have hcell : w'.cell? ⟨q, 3, none⟩ = some (.int .i64 c.dy) := rb_cell (((hcm.1 n17).block q (blk_lt HQB.out.1)).trans HQB.out.1) 3
              have e69 : (many gg_ L (VL z))[69]?.getD undef = .pointer (some ⟨q, 3, none⟩) := many_eval3 hgN (HOK.out z) (by rw [HVL.out]; rfl) y13
              refine opIn_run (v := .int .i64 c.dy) (w' := w') rfl rfl (fun c h => by cases h) (fun _ => trivial) ?_ ⟨z, by exact many_put3 (HOK.out _) (by rw [HVL.out]; rfl) hL, hcm, hph⟩
              go_simp
            · skip
              have y14 : L 14 = true := up_at hu 14 (by kernel_rfl)
              have n16 : L 16 = false := not_yet hL fun h => shut_at hs 16 15 (by kernel_rfl) (h)
              have n17 : L 17 = false := not_yet hL fun h => shut_at hs 16 15 (by kernel_rfl) (shut_at hs 17 16 (by kernel_rfl) (h))
              have n18 : L 18 = false := not_yet hL fun h => shut_at hs 18 15 (by kernel_rfl) (h)
              have e70 : (many gg_ L (VL z))[70]?.getD undef = .int .i64 c.dy := many_eval3 hgN (HOK.out z) (by rw [HVL.out]; rfl) y14
              refine opIn_run (v := .int .u8 (c.dy % 256)) (w' := w') rfl rfl (fun c h => by cases h) (fun _ => trivial) ?_ ⟨z, by exact many_put3 (HOK.out _) (by rw [HVL.out]; rfl) hL, hcm, trivial⟩
              go_simp
              try rfl
            · skip
              have y9 : L 9 = true := up_at hu 9 (by kernel_rfl)
              have y12 : L 12 = true := up_at hu 12 (by kernel_rfl)
              have y15 : L 15 = true := up_at hu 15 (by kernel_rfl)
              have n17 : L 17 = false := not_yet hL fun h => shut_at hs 17 16 (by kernel_rfl) (h)
              have n18 : L 18 = false := not_yet hL fun h => shut_at hs 18 16 (by kernel_rfl) (h)
              have e65 : (many gg_ L (VL z))[65]?.getD undef = .int .u8 (depthF c % 256) := many_eval3 hgN (HOK.out z) (by rw [HVL.out]; rfl) y9
              have e68 : (many gg_ L (VL z))[68]?.getD undef = .int .u8 (c.dx % 256) := many_eval3 hgN (HOK.out z) (by rw [HVL.out]; rfl) y12
              have e71 : (many gg_ L (VL z))[71]?.getD undef = .int .u8 (c.dy % 256) := many_eval3 hgN (HOK.out z) (by rw [HVL.out]; rfl) y15
              refine opIn_run (v := (.slice (some ⟨w'.heap.size, 0, none⟩) 3 3)) (w' := w'.alloc (.cells #[.int .u8 (depthF c % 256), .int .u8 (c.dx % 256), .int .u8 (c.dy % 256)] 5)) rfl rfl (fun c h => by cases h) (fun _ => trivial) ?_ ⟨(w'.heap.size, z.2), by rw [show many gg_ L (VL z) = many gg_ L (VL (w'.heap.size, z.2)) from by rw [HVL.out]; simp only [many, y9, y12, y15, n17, n18, hL, cond_false, cond_true]]; exact many_put3 (HOK.out _) (by rw [HVL.out]; rfl) hL, ⟨fun _ => (hcm.1 n17).alloc (hcm.1 n17).size _, fun _ _ => lst_new8 w' [depthF c % 256, c.dx % 256, c.dy % 256], fun a => absurd a (by simp [upd, n17])⟩, trivial⟩
              go_simp
            · skip
              have y0 : L 0 = true := up_at hu 0 (by kernel_rfl)
              have y6 : L 6 = true := up_at hu 6 (by kernel_rfl)
              have y16 : L 16 = true := up_at hu 16 (by kernel_rfl)
              have n18 : L 18 = false := not_yet hL fun h => shut_at hs 18 17 (by kernel_rfl) (h)
              have hb0 : Below w2.heap.size w2 w' := HQB.out.2.2.trans ((hcm.1 hL).mono HQB.out.2.2.size)
              obtain ⟨A9, n9_, c9, w9, hr9, hy9, hg9⟩ := app_gro (m := 3) (c := 3) (HQB.out.2.1.below (hcm.1 hL)) (fun e => by cases e) (hcm.2.1 hL y16) rfl hb0.size (by have := HLE.out; omega)
              have e56 : (many gg_ L (VL z))[56]?.getD undef = .slice A6 n6 c6 := many_eval3 hgN (HOK.out z) (by rw [HVL.out]; rfl) y0
              have e72 : (many gg_ L (VL z))[72]?.getD undef = .slice (some ⟨z.1, 0, none⟩) 3 3 := many_eval3 hgN (HOK.out z) (by rw [HVL.out]; rfl) y16
              refine opIn_run (v := (.slice A9 n9_ c9)) (w' := w9) rfl rfl (fun c h => by cases h) (fun _ => trivial) ?_ ⟨(z.1, (A9, n9_, c9)), by rw [show many gg_ L (VL z) = many gg_ L (VL (z.1, (A9, n9_, c9))) from by rw [HVL.out]; simp only [many, y0, y6, y16, n18, hL, cond_false, cond_true]]; exact many_put3 (HOK.out _) (by rw [HVL.out]; rfl) hL, ⟨fun a => absurd a (by simp [upd_self]), fun a => absurd a (by simp [upd_self]), fun _ => ⟨by rw [HX.out]; exact hy9, Gro.bel (HQB.out.2.1.below (hcm.1 hL)) hb0 hb0.size hg9⟩⟩, trivial⟩
              go_simp
            · skip
              have y0 : L 0 = true := up_at hu 0 (by kernel_rfl)
              have y1 : L 1 = true := up_at hu 1 (by kernel_rfl)
              have y2 : L 2 = true := up_at hu 2 (by kernel_rfl)
              have y3 : L 3 = true := up_at hu 3 (by kernel_rfl)
              have y4 : L 4 = true := up_at hu 4 (by kernel_rfl)
              have y5 : L 5 = true := up_at hu 5 (by kernel_rfl)
              have y6 : L 6 = true := up_at hu 6 (by kernel_rfl)
              have y7 : L 7 = true := up_at hu 7 (by kernel_rfl)
              have y8 : L 8 = true := up_at hu 8 (by kernel_rfl)
              have y9 : L 9 = true := up_at hu 9 (by kernel_rfl)
              have y10 : L 10 = true := up_at hu 10 (by kernel_rfl)
              have y11 : L 11 = true := up_at hu 11 (by kernel_rfl)
              have y12 : L 12 = true := up_at hu 12 (by kernel_rfl)
              have y13 : L 13 = true := up_at hu 13 (by kernel_rfl)
              have y14 : L 14 = true := up_at hu 14 (by kernel_rfl)
              have y15 : L 15 = true := up_at hu 15 (by kernel_rfl)
              have y16 : L 16 = true := up_at hu 16 (by kernel_rfl)
              have y17 : L 17 = true := up_at hu 17 (by kernel_rfl)
              have e73 : (many gg_ L (VL z))[73]?.getD undef = .slice z.2.1 z.2.2.1 z.2.2.2 := many_eval3 hgN (HOK.out z) (by rw [HVL.out]; rfl) y17
              refine opIn_run (v := .slice z.2.1 z.2.2.1 z.2.2.2) (w' := w') rfl rfl (fun c h => by cases h) (fun _ => trivial) ?_ ⟨z, by exact many_put3 (HOK.out _) (by rw [HVL.out]; rfl) hL, hcm, hph⟩
              go_simp
          case fin =>
            intro L z w' hall hph
            obtain ⟨hcm, hph⟩ := hph
            have KF := hcm.2.2 (hall 17 (by decide))
            obtain ⟨z1, A7, n7_, c7⟩ := z
            simp only at KF
            have KF := Lib.hid KF
            clear hcm hph
            rw [HVL.out]
            dsimp only [manyL, List.set_cons_zero, List.set_cons_succ]
            clear hall HVL HOK HVI
            go_wp2
            go_roundg g1
            case measure => omega
            case rel => exact ⟨j + 1, A7, n7_, c7, by omega, rfl, by simp, KF⟩
        · obtain rfl : j = N := by omega
          have hlc : ¬ (j : Int) < (j : Int) := by omega
          have hf := HI.out.1
          rw [List.take_of_length_le (by rw [HLN.out.1]; exact Nat.le_refl _), ← HPRE.out.1, ← HNU.out] at hf
          have HF := Lib.hid hf
          clear hf
          go_wp2
          go_ret
          have hB2 : B ≤ w2.heap.size := by have := H2.out.2.2; omega
          refine ⟨_, _, _, rfl, by rw [HE.out.2]; exact HF.out.low hB2, ?_⟩
          rw [HE.out.2]
          have h1 : Below B w w2 := H1.out.1.trans (H2.out.1.mono (by have := H1.out.2.2; omega))
          exact h1.trans (HI.out.2.mono hB2)
end
end
section
open Go.RowKit Go.Shelf
attribute [local go_sem ↓] appSem_eq
set_option maxRecDepth 100000
theorem by_lit (w : World) (L : List Int) (hl : L.length ≤ 1000) : By w.heap.size (w.alloc (.cells (L.map (Value.int .u8)).toArray 5)) (.slice (some ⟨w.heap.size, 0, none⟩) L.length L.length) L := by
  have h := World.ownsRow_lit (base := w.heap.size) (e := 5) (size := 1) w (L.map (Value.int .u8)).toArray L.length (Nat.le_refl _) (by unfold maxLen; omega) (by simp)
  simpa [By] using h
theorem allocs2 : ∀ (os : List Obj) (w : World), (os.foldl World.alloc w).heap.size = w.heap.size + os.length ∧ Below w.heap.size w (os.foldl World.alloc w) ∧ ∀ i o, os[i]? = some o → (os.foldl World.alloc w).heap[w.heap.size + i]? = some o
  | [], w => ⟨rfl, Below.refl _ _, fun i o h => by simp at h⟩
  | x :: os, w => by
    obtain ⟨h1, h2, h3⟩ := allocs2 os (w.alloc x)
    have hz : (w.alloc x).heap.size = w.heap.size + 1 := by unfold World.alloc; simp
    have hb : Below w.heap.size w (w.alloc x) := (Below.refl _ _).alloc (Nat.le_refl _) _
    refine ⟨by rw [List.foldl_cons, h1, hz, List.length_cons]; omega, hb.trans (h2.mono hb.size), fun i o h => ?_⟩
    rw [List.foldl_cons]
    cases i with
    | zero =>
      have hx : x = o := by simpa using h
      subst hx
      have h4 := h2.block w.heap.size (by rw [hz]; omega)
      rw [Nat.add_zero, h4]
      unfold World.alloc
      simp
    | succ i =>
      have h4 := h3 i o (by simpa using h)
      rw [hz] at h4
      rw [show w.heap.size + (i + 1) = w.heap.size + 1 + i by omega]
      exact h4
theorem fld6 (a b c d e f : Int) : fldL 1 [a, b, c, d, e, f] = [a % 256, b % 256, c % 256, d % 256, e % 256, f % 256] := by
  show [a / 2 ^ (8 * 0) % 256, b / 2 ^ (8 * 0) % 256, c / 2 ^ (8 * 0) % 256, d / 2 ^ (8 * 0) % 256, e / 2 ^ (8 * 0) % 256, f / 2 ^ (8 * 0) % 256] = _
  simp
theorem fldb2 (a b : Int) : fldL 1 [a, b] = [a % 256, b % 256] := by
  show [a / 2 ^ (8 * 0) % 256, b / 2 ^ (8 * 0) % 256] = _
  simp
theorem fldb1 (a : Int) : fldL 1 [a] = [a % 256] := by
  show [a / 2 ^ (8 * 0) % 256] = _
  simp
theorem repb (v : Int) (k : Nat) : repL [v] 1 k = List.replicate k v := by
  unfold repL
  simp [Nat.mod_one, List.map_const']
set_option maxHeartbeats 8000000 in
theorem rways_any (TX TY LV BW BH PR ST OD LY : Int) (RC SO EP : Bool) (k : Nat) (w : World) (hLV : LV = (k : Int)) (hk : k ≤ 6) (hBW : 0 ≤ BW ∧ BW ≤ 1000) (hBH : 0 ≤ BH ∧ BH ≤ 1000) (hPR : 0 ≤ PR ∧ PR ≤ 1000) :
    Calls Try.prog 30 #[.agg #[.int .i64 TX, .int .i64 TY, .int .i64 LV, .int .i64 BW, .int .i64 BH, .int .i64 PR, .int .i64 ST, .int .i64 OD, .int .i64 LY, .bool RC, .bool SO, .bool EP]] w fun e w' => ∃ A' n' c', e = .returned (.slice A' n' c') ∧ By w.heap.size w' (.slice A' n' c') (codL LV BW BH PR ST OD LY RC SO EP (k + 1)) ∧ Below w.heap.size w w' := by
  obtain ⟨a, ha⟩ : ∃ a : Int, (if SO = true then (1 : Int) else 0) = a := ⟨_, rfl⟩
  obtain ⟨b, hb⟩ : ∃ b : Int, (if EP = true then (1 : Int) else 0) = b := ⟨_, rfl⟩
  obtain ⟨c, hc⟩ : ∃ c : Int, (if RC = true then (1 : Int) else 0) = c := ⟨_, rfl⟩
  have hab : 0 ≤ a ∧ a ≤ 1 := by rw [← ha]; split <;> omega
  have hbb : 0 ≤ b ∧ b ≤ 1 := by rw [← hb]; split <;> omega
  have WA : Hid (∀ u, Calls Try.prog 54 #[.bool SO] u fun e w' => e = .returned (.int .i64 a) ∧ u = w') := Lib.hid fun u => by have := bit_any SO u; rw [ha] at this; exact this
  have WB : Hid (∀ u, Calls Try.prog 54 #[.bool EP] u fun e w' => e = .returned (.int .i64 b) ∧ u = w') := Lib.hid fun u => by have := bit_any EP u; rw [hb] at this; exact this
  have WC : Hid (∀ u, Calls Try.prog 54 #[.bool RC] u fun e w' => e = .returned (.int .i64 c) ∧ u = w') := Lib.hid fun u => by have := bit_any RC u; rw [hc] at this; exact this
  have hCL : codL LV BW BH PR ST OD LY RC SO EP (k + 1) = [(1 + 2 * a + 4 * b) % 256, OD % 256] ++ putL LY 2 ++ [c % 256, LV % 256, (BW - 2) % 256, (BH - 2) % 256, ST % 256, 1] ++ List.replicate (k + 1) (17 * PR % 256) := by
    unfold codL
    rw [fldL_one, fldb1, repb, fld6, fldb2, hc, show (if SO = true then (2 : Int) else 0) = 2 * a by rw [← ha]; split <;> rfl, show (if EP = true then (4 : Int) else 0) = 4 * b by rw [← hb]; split <;> rfl]
    rfl
  have HCL := Lib.hid hCL
  clear ha hb hc hCL
  have HW : Hid (IntKind.i64.wrap (2 * a) = 2 * a ∧ IntKind.i64.wrap (1 + 2 * a) = 1 + 2 * a ∧ IntKind.i64.wrap (4 * b) = 4 * b ∧ IntKind.i64.wrap (1 + 2 * a + 4 * b) = 1 + 2 * a + 4 * b ∧ IntKind.i64.wrap (BW - 2) = BW - 2 ∧ IntKind.i64.wrap (BH - 2) = BH - 2 ∧ IntKind.i64.wrap (17 * PR) = 17 * PR) := Lib.hid ⟨IntWalk.i64_in _ (by omega), IntWalk.i64_in _ (by omega), IntWalk.i64_in _ (by omega), IntWalk.i64_in _ (by omega), IntWalk.i64_in _ (by omega), IntWalk.i64_in _ (by omega), IntWalk.i64_in _ (by omega)⟩
  have HK6 := Lib.hid (And.intro hk hLV)
  clear hLV hBW hBH hPR hab hbb
  obtain ⟨B, hB⟩ : ∃ B, w.heap.size = B := ⟨_, rfl⟩
  obtain ⟨w1, hw1⟩ : ∃ w1, w.alloc (.cells #[.int .i64 TX, .int .i64 TY, .int .i64 LV, .int .i64 BW, .int .i64 BH, .int .i64 PR, .int .i64 ST, .int .i64 OD, .int .i64 LY, .bool RC, .bool SO, .bool EP] 31) = w1 := ⟨_, rfl⟩
  have H1 : Hid (Below B w w1 ∧ w1.heap[B]? = some (.cells #[.int .i64 TX, .int .i64 TY, .int .i64 LV, .int .i64 BW, .int .i64 BH, .int .i64 PR, .int .i64 ST, .int .i64 OD, .int .i64 LY, .bool RC, .bool SO, .bool EP] 31 (0, 0)) ∧ w1.heap.size = B + 1) := Lib.hid ⟨by rw [← hw1, ← hB]; exact (Below.refl _ _).alloc (Nat.le_refl _) _, by rw [← hw1, ← hB]; exact World.alloc_heap_new w _, by rw [← hw1, ← hB]; simp⟩
  have HE := Lib.hid (And.intro hw1 hB)
  clear hw1 hB
  obtain ⟨B1, hB1⟩ : ∃ B1, w1.heap.size = B1 := ⟨_, rfl⟩
  have KB : Hid (∀ u : World, Below B1 w1 u → u.heap[B]? = some (.cells #[.int .i64 TX, .int .i64 TY, .int .i64 LV, .int .i64 BW, .int .i64 BH, .int .i64 PR, .int .i64 ST, .int .i64 OD, .int .i64 LY, .bool RC, .bool SO, .bool EP] 31 (0, 0))) := Lib.hid fun u hb => (hb.block B (by rw [← hB1]; exact blk_lt H1.out.2.1)).trans H1.out.2.1
  have HB1 : Hid (w1.heap.size = B1 ∧ B1 = B + 1) := Lib.hid ⟨hB1, by rw [← hB1]; exact H1.out.2.2⟩
  have SZ : Hid (∀ u : World, Below B1 w1 u → B1 ≤ u.heap.size) := Lib.hid fun u hb => by have := hb.size; rw [hB1] at this; exact this
  have HR1 : Hid (Below B1 w1 w1) := Lib.hid (Below.refl _ _)
  clear hB1
  go_enter Try.func30, Try.ntmps30
  go_upto_region 1 with fail
  rw [show w.alloc _ = w1 from HE.out.1, HE.out.2]
  obtain ⟨VL, hVL⟩ : ∃ VL : Nat → List (Nat × Nat × Value), VL = fun z => [(0, 5, .pointer (some ⟨B, 10, none⟩)), (1, 6, .bool SO), (2, 7, .int .i64 a), (3, 8, .int .i64 (2 * a)), (4, 9, .int .i64 (1 + 2 * a)), (5, 10, .pointer (some ⟨B, 11, none⟩)), (6, 11, .bool EP), (7, 12, .int .i64 b), (8, 13, .int .i64 (4 * b)), (9, 14, .int .i64 (1 + 2 * a + 4 * b)), (10, 15, .int .u8 ((1 + 2 * a + 4 * b) % 256)), (11, 16, .pointer (some ⟨B, 7, none⟩)), (12, 17, .int .i64 OD), (13, 18, .int .u8 (OD % 256)), (14, 19, .slice (some ⟨z, 0, none⟩) 2 2), (15, 3, .slice (some ⟨z, 0, none⟩) 2 2)] := ⟨_, rfl⟩
  have hok : ∀ z, manyOk 59 (VL z) := fun z => by rw [hVL]; exact okB_ok rfl
  have HVL := Lib.hid hVL
  have hvi : ∀ z, ∀ x ∈ VL z, x.1 < 16 := fun z => by rw [hVL]; exact ltB_ok rfl
  have HOK := Lib.hid hok
  have HVI := Lib.hid hvi
  clear hVL hok hvi
  refine (wpIn_wide (n := 9)).1 (regionIn_many (N := 59) (w := _) VL (fun L z w' => (Below B1 w1 w' ∧ (L 14 = true → By B1 w' (.slice (some ⟨z, 0, none⟩) 2 2) [(1 + 2 * a + 4 * b) % 256, OD % 256])) ∧ True) [(1, .pointer (some ⟨B, 0, none⟩))] (by kernel_rfl) (by kernel_rfl) rfl (by simp only [List.forall_mem_cons, List.not_mem_nil, false_imp_iff, implies_true, and_true]; exact rfl) HVI.out 0 ?start ?step ?fin)
  case start => exact ⟨⟨HR1.out.drew, fun h => (by cases h)⟩, trivial⟩
  case step =>
    intro gg_ hgN hgF ii_ hii_ L z w' hph hs hu
    obtain ⟨hcm, hph⟩ := hph
    have hF1 := hgF (1, .pointer (some ⟨B, 0, none⟩)) (by simp)
    have hL := hu.1
    have hii_ : ii_ < 16 := hii_
    clear hgF
    obtain rfl | rfl | rfl | rfl | rfl | rfl | rfl | rfl | rfl | rfl | rfl | rfl | rfl | rfl | rfl | rfl := (by omega : ii_ = 0 ∨ ii_ = 1 ∨ ii_ = 2 ∨ ii_ = 3 ∨ ii_ = 4 ∨ ii_ = 5 ∨ ii_ = 6 ∨ ii_ = 7 ∨ ii_ = 8 ∨ ii_ = 9 ∨ ii_ = 10 ∨ ii_ = 11 ∨ ii_ = 12 ∨ ii_ = 13 ∨ ii_ = 14 ∨ ii_ = 15)
    · skip
      have n14 : L 14 = false := not_yet hL fun h => shut_at hs 1 0 (by kernel_rfl) (shut_at hs 2 1 (by kernel_rfl) (shut_at hs 3 2 (by kernel_rfl) (shut_at hs 4 3 (by kernel_rfl) (shut_at hs 9 4 (by kernel_rfl) (shut_at hs 10 9 (by kernel_rfl) (shut_at hs 14 10 (by kernel_rfl) (h)))))))
      have n15 : L 15 = false := not_yet hL fun h => shut_at hs 15 0 (by kernel_rfl) (h)
      have e1 : (many gg_ L (VL z))[1]?.getD undef = .pointer (some ⟨B, 0, none⟩) := many_out3 hgN (HOK.out z) (by rw [HVL.out]; rfl) hF1
      refine opIn_run (v := .pointer (some ⟨B, 10, none⟩)) (w' := w') rfl rfl (fun c h => by cases h) (fun _ => trivial) ?_ ⟨z, by exact many_put3 (HOK.out _) (by rw [HVL.out]; rfl) hL, hcm, hph⟩
      go_simp
    · skip
      have y0 : L 0 = true := up_at hu 0 (by kernel_rfl)
      have n14 : L 14 = false := not_yet hL fun h => shut_at hs 2 1 (by kernel_rfl) (shut_at hs 3 2 (by kernel_rfl) (shut_at hs 4 3 (by kernel_rfl) (shut_at hs 9 4 (by kernel_rfl) (shut_at hs 10 9 (by kernel_rfl) (shut_at hs 14 10 (by kernel_rfl) (h))))))
      have n15 : L 15 = false := not_yet hL fun h => shut_at hs 15 1 (by kernel_rfl) (h)
      have hcell : w'.cell? ⟨B, 10, none⟩ = some (.bool SO) := rb_cell (KB.out _ (hcm.1)) 10
      have e5 : (many gg_ L (VL z))[5]?.getD undef = .pointer (some ⟨B, 10, none⟩) := many_eval3 hgN (HOK.out z) (by rw [HVL.out]; rfl) y0
      refine opIn_run (v := .bool SO) (w' := w') rfl rfl (fun c h => by cases h) (fun _ => trivial) ?_ ⟨z, by exact many_put3 (HOK.out _) (by rw [HVL.out]; rfl) hL, hcm, hph⟩
      go_simp
    · skip
      have y1 : L 1 = true := up_at hu 1 (by kernel_rfl)
      have n14 : L 14 = false := not_yet hL fun h => shut_at hs 3 2 (by kernel_rfl) (shut_at hs 4 3 (by kernel_rfl) (shut_at hs 9 4 (by kernel_rfl) (shut_at hs 10 9 (by kernel_rfl) (shut_at hs 14 10 (by kernel_rfl) (h)))))
      have n15 : L 15 = false := not_yet hL fun h => shut_at hs 15 2 (by kernel_rfl) (h)
      have e6 : (many gg_ L (VL z))[6]?.getD undef = .bool SO := many_eval3 hgN (HOK.out z) (by rw [HVL.out]; rfl) y1
      refine opIn_call (f := 54) (args := #[.bool SO]) (w' := w') rfl rfl (fun c h => by cases h) (fun _ => trivial) rfl (by go_simp) ((callsIn_wide.2 (WA.out w')).mono ?_)
      rintro e w2 ⟨rfl, rfl⟩
      exact ⟨_, rfl, z, by exact many_put3 (HOK.out _) (by rw [HVL.out]; rfl) hL, hcm, trivial⟩
    · skip
      have y2 : L 2 = true := up_at hu 2 (by kernel_rfl)
      have n14 : L 14 = false := not_yet hL fun h => shut_at hs 4 3 (by kernel_rfl) (shut_at hs 9 4 (by kernel_rfl) (shut_at hs 10 9 (by kernel_rfl) (shut_at hs 14 10 (by kernel_rfl) (h))))
      have n15 : L 15 = false := not_yet hL fun h => shut_at hs 15 3 (by kernel_rfl) (h)
      have q1 := HW.out.1
      have e7 : (many gg_ L (VL z))[7]?.getD undef = .int .i64 a := many_eval3 hgN (HOK.out z) (by rw [HVL.out]; rfl) y2
      refine opIn_run (v := .int .i64 (2 * a)) (w' := w') rfl rfl (fun c h => by cases h) (fun _ => trivial) ?_ ⟨z, by exact many_put3 (HOK.out _) (by rw [HVL.out]; rfl) hL, hcm, hph⟩
      go_simp
    · skip
      have y3 : L 3 = true := up_at hu 3 (by kernel_rfl)
      have n14 : L 14 = false := not_yet hL fun h => shut_at hs 9 4 (by kernel_rfl) (shut_at hs 10 9 (by kernel_rfl) (shut_at hs 14 10 (by kernel_rfl) (h)))
      have n15 : L 15 = false := not_yet hL fun h => shut_at hs 15 4 (by kernel_rfl) (h)
      have q1 := HW.out.2.1
      have e8 : (many gg_ L (VL z))[8]?.getD undef = .int .i64 (2 * a) := many_eval3 hgN (HOK.out z) (by rw [HVL.out]; rfl) y3
      refine opIn_run (v := .int .i64 (1 + 2 * a)) (w' := w') rfl rfl (fun c h => by cases h) (fun _ => trivial) ?_ ⟨z, by exact many_put3 (HOK.out _) (by rw [HVL.out]; rfl) hL, hcm, hph⟩
      go_simp
    · skip
      have n14 : L 14 = false := not_yet hL fun h => shut_at hs 6 5 (by kernel_rfl) (shut_at hs 7 6 (by kernel_rfl) (shut_at hs 8 7 (by kernel_rfl) (shut_at hs 9 8 (by kernel_rfl) (shut_at hs 10 9 (by kernel_rfl) (shut_at hs 14 10 (by kernel_rfl) (h))))))
      have n15 : L 15 = false := not_yet hL fun h => shut_at hs 15 5 (by kernel_rfl) (h)
      have e1 : (many gg_ L (VL z))[1]?.getD undef = .pointer (some ⟨B, 0, none⟩) := many_out3 hgN (HOK.out z) (by rw [HVL.out]; rfl) hF1
      refine opIn_run (v := .pointer (some ⟨B, 11, none⟩)) (w' := w') rfl rfl (fun c h => by cases h) (fun _ => trivial) ?_ ⟨z, by exact many_put3 (HOK.out _) (by rw [HVL.out]; rfl) hL, hcm, hph⟩
      go_simp
    · skip
      have y5 : L 5 = true := up_at hu 5 (by kernel_rfl)
      have n14 : L 14 = false := not_yet hL fun h => shut_at hs 7 6 (by kernel_rfl) (shut_at hs 8 7 (by kernel_rfl) (shut_at hs 9 8 (by kernel_rfl) (shut_at hs 10 9 (by kernel_rfl) (shut_at hs 14 10 (by kernel_rfl) (h)))))
      have n15 : L 15 = false := not_yet hL fun h => shut_at hs 15 6 (by kernel_rfl) (h)
      have hcell : w'.cell? ⟨B, 11, none⟩ = some (.bool EP) := rb_cell (KB.out _ (hcm.1)) 11
      have e10 : (many gg_ L (VL z))[10]?.getD undef = .pointer (some ⟨B, 11, none⟩) := many_eval3 hgN (HOK.out z) (by rw [HVL.out]; rfl) y5
      refine opIn_run (v := .bool EP) (w' := w') rfl rfl (fun c h => by cases h) (fun _ => trivial) ?_ ⟨z, by exact many_put3 (HOK.out _) (by rw [HVL.out]; rfl) hL, hcm, hph⟩
      go_simp
    · skip
      have y2 : L 2 = true := up_at hu 2 (by kernel_rfl)
      have y6 : L 6 = true := up_at hu 6 (by kernel_rfl)
      have n14 : L 14 = false := not_yet hL fun h => shut_at hs 8 7 (by kernel_rfl) (shut_at hs 9 8 (by kernel_rfl) (shut_at hs 10 9 (by kernel_rfl) (shut_at hs 14 10 (by kernel_rfl) (h))))
      have n15 : L 15 = false := not_yet hL fun h => shut_at hs 15 7 (by kernel_rfl) (h)
      have e11 : (many gg_ L (VL z))[11]?.getD undef = .bool EP := many_eval3 hgN (HOK.out z) (by rw [HVL.out]; rfl) y6
      refine opIn_call (f := 54) (args := #[.bool EP]) (w' := w') rfl rfl (fun c h => by cases h) (fun _ => trivial) rfl (by go_simp) ((callsIn_wide.2 (WB.out w')).mono ?_)
      rintro e w2 ⟨rfl, rfl⟩
      exact ⟨_, rfl, z, by exact many_put3 (HOK.out _) (by rw [HVL.out]; rfl) hL, hcm, trivial⟩
    · skip
      have y7 : L 7 = true := up_at hu 7 (by kernel_rfl)
      have n14 : L 14 = false := not_yet hL fun h => shut_at hs 9 8 (by kernel_rfl) (shut_at hs 10 9 (by kernel_rfl) (shut_at hs 14 10 (by kernel_rfl) (h)))
      have n15 : L 15 = false := not_yet hL fun h => shut_at hs 15 8 (by kernel_rfl) (h)
      have q1 := HW.out.2.2.1
      have e12 : (many gg_ L (VL z))[12]?.getD undef = .int .i64 b := many_eval3 hgN (HOK.out z) (by rw [HVL.out]; rfl) y7
      refine opIn_run (v := .int .i64 (4 * b)) (w' := w') rfl rfl (fun c h => by cases h) (fun _ => trivial) ?_ ⟨z, by exact many_put3 (HOK.out _) (by rw [HVL.out]; rfl) hL, hcm, hph⟩
      go_simp
    · skip
      have y4 : L 4 = true := up_at hu 4 (by kernel_rfl)
      have y8 : L 8 = true := up_at hu 8 (by kernel_rfl)
      have n14 : L 14 = false := not_yet hL fun h => shut_at hs 10 9 (by kernel_rfl) (shut_at hs 14 10 (by kernel_rfl) (h))
      have n15 : L 15 = false := not_yet hL fun h => shut_at hs 15 9 (by kernel_rfl) (h)
      have q1 := HW.out.2.2.2.1
      have e9 : (many gg_ L (VL z))[9]?.getD undef = .int .i64 (1 + 2 * a) := many_eval3 hgN (HOK.out z) (by rw [HVL.out]; rfl) y4
      have e13 : (many gg_ L (VL z))[13]?.getD undef = .int .i64 (4 * b) := many_eval3 hgN (HOK.out z) (by rw [HVL.out]; rfl) y8
      refine opIn_run (v := .int .i64 (1 + 2 * a + 4 * b)) (w' := w') rfl rfl (fun c h => by cases h) (fun _ => trivial) ?_ ⟨z, by exact many_put3 (HOK.out _) (by rw [HVL.out]; rfl) hL, hcm, hph⟩
      go_simp
    · skip
      have y9 : L 9 = true := up_at hu 9 (by kernel_rfl)
      have n14 : L 14 = false := not_yet hL fun h => shut_at hs 14 10 (by kernel_rfl) (h)
      have n15 : L 15 = false := not_yet hL fun h => shut_at hs 15 10 (by kernel_rfl) (h)
      have e14 : (many gg_ L (VL z))[14]?.getD undef = .int .i64 (1 + 2 * a + 4 * b) := many_eval3 hgN (HOK.out z) (by rw [HVL.out]; rfl) y9
      refine opIn_run (v := .int .u8 ((1 + 2 * a + 4 * b) % 256)) (w' := w') rfl rfl (fun c h => by cases h) (fun _ => trivial) ?_ ⟨z, by exact many_put3 (HOK.out _) (by rw [HVL.out]; rfl) hL, hcm, trivial⟩
      go_simp
      try rfl
    · skip
      have n14 : L 14 = false := not_yet hL fun h => shut_at hs 12 11 (by kernel_rfl) (shut_at hs 13 12 (by kernel_rfl) (shut_at hs 14 13 (by kernel_rfl) (h)))
      have n15 : L 15 = false := not_yet hL fun h => shut_at hs 15 11 (by kernel_rfl) (h)
      have e1 : (many gg_ L (VL z))[1]?.getD undef = .pointer (some ⟨B, 0, none⟩) := many_out3 hgN (HOK.out z) (by rw [HVL.out]; rfl) hF1
      refine opIn_run (v := .pointer (some ⟨B, 7, none⟩)) (w' := w') rfl rfl (fun c h => by cases h) (fun _ => trivial) ?_ ⟨z, by exact many_put3 (HOK.out _) (by rw [HVL.out]; rfl) hL, hcm, hph⟩
      go_simp
    · skip
      have y11 : L 11 = true := up_at hu 11 (by kernel_rfl)
      have n14 : L 14 = false := not_yet hL fun h => shut_at hs 13 12 (by kernel_rfl) (shut_at hs 14 13 (by kernel_rfl) (h))
      have n15 : L 15 = false := not_yet hL fun h => shut_at hs 15 12 (by kernel_rfl) (h)
      have hcell : w'.cell? ⟨B, 7, none⟩ = some (.int .i64 OD) := rb_cell (KB.out _ (hcm.1)) 7
      have e16 : (many gg_ L (VL z))[16]?.getD undef = .pointer (some ⟨B, 7, none⟩) := many_eval3 hgN (HOK.out z) (by rw [HVL.out]; rfl) y11
      refine opIn_run (v := .int .i64 OD) (w' := w') rfl rfl (fun c h => by cases h) (fun _ => trivial) ?_ ⟨z, by exact many_put3 (HOK.out _) (by rw [HVL.out]; rfl) hL, hcm, hph⟩
      go_simp
    · skip
      have y12 : L 12 = true := up_at hu 12 (by kernel_rfl)
      have n14 : L 14 = false := not_yet hL fun h => shut_at hs 14 13 (by kernel_rfl) (h)
      have n15 : L 15 = false := not_yet hL fun h => shut_at hs 15 13 (by kernel_rfl) (h)
      have e17 : (many gg_ L (VL z))[17]?.getD undef = .int .i64 OD := many_eval3 hgN (HOK.out z) (by rw [HVL.out]; rfl) y12
      refine opIn_run (v := .int .u8 (OD % 256)) (w' := w') rfl rfl (fun c h => by cases h) (fun _ => trivial) ?_ ⟨z, by exact many_put3 (HOK.out _) (by rw [HVL.out]; rfl) hL, hcm, trivial⟩
      go_simp
      try rfl
    · skip
      have y10 : L 10 = true := up_at hu 10 (by kernel_rfl)
      have y13 : L 13 = true := up_at hu 13 (by kernel_rfl)
      have n15 : L 15 = false := not_yet hL fun h => shut_at hs 15 14 (by kernel_rfl) (h)
      have e15 : (many gg_ L (VL z))[15]?.getD undef = .int .u8 ((1 + 2 * a + 4 * b) % 256) := many_eval3 hgN (HOK.out z) (by rw [HVL.out]; rfl) y10
      have e18 : (many gg_ L (VL z))[18]?.getD undef = .int .u8 (OD % 256) := many_eval3 hgN (HOK.out z) (by rw [HVL.out]; rfl) y13
      refine opIn_run (v := (.slice (some ⟨w'.heap.size, 0, none⟩) 2 2)) (w' := w'.alloc (.cells #[.int .u8 ((1 + 2 * a + 4 * b) % 256), .int .u8 (OD % 256)] 5)) rfl rfl (fun c h => by cases h) (fun _ => trivial) ?_ ⟨w'.heap.size, by rw [show many gg_ L (VL z) = many gg_ L (VL w'.heap.size) from by rw [HVL.out]; simp only [many, y10, y13, n15, hL, cond_false, cond_true]]; exact many_put3 (HOK.out _) (by rw [HVL.out]; rfl) hL, ⟨hcm.1.alloc (SZ.out _ hcm.1) _, fun _ => (by_lit w' [(1 + 2 * a + 4 * b) % 256, OD % 256] (by simp)).low (SZ.out _ hcm.1)⟩, trivial⟩
      go_simp
    · skip
      have y0 : L 0 = true := up_at hu 0 (by kernel_rfl)
      have y1 : L 1 = true := up_at hu 1 (by kernel_rfl)
      have y2 : L 2 = true := up_at hu 2 (by kernel_rfl)
      have y3 : L 3 = true := up_at hu 3 (by kernel_rfl)
      have y4 : L 4 = true := up_at hu 4 (by kernel_rfl)
      have y5 : L 5 = true := up_at hu 5 (by kernel_rfl)
      have y6 : L 6 = true := up_at hu 6 (by kernel_rfl)
      have y7 : L 7 = true := up_at hu 7 (by kernel_rfl)
      have y8 : L 8 = true := up_at hu 8 (by kernel_rfl)
      have y9 : L 9 = true := up_at hu 9 (by kernel_rfl)
      have y10 : L 10 = true := up_at hu 10 (by kernel_rfl)
      have y11 : L 11 = true := up_at hu 11 (by kernel_rfl)
      have y12 : L 12 = true := up_at hu 12 (by kernel_rfl)
      have y13 : L 13 = true := up_at hu 13 (by kernel_rfl)
      have y14 : L 14 = true := up_at hu 14 (by kernel_rfl)
      have e19 : (many gg_ L (VL z))[19]?.getD undef = .slice (some ⟨z, 0, none⟩) 2 2 := many_eval3 hgN (HOK.out z) (by rw [HVL.out]; rfl) y14
      refine opIn_run (v := .slice (some ⟨z, 0, none⟩) 2 2) (w' := w') rfl rfl (fun c h => by cases h) (fun _ => trivial) ?_ ⟨z, by exact many_put3 (HOK.out _) (by rw [HVL.out]; rfl) hL, hcm, hph⟩
      go_simp
  case fin =>
    intro L z w' hall hph
    obtain ⟨hcm, hph⟩ := hph
    have KF := hcm.2 (hall 14 (by decide))
    have KF := Lib.hid (And.intro hcm.1 KF)
    clear hcm hph
    rw [HVL.out]
    dsimp only [manyL, List.set_cons_zero, List.set_cons_succ]
    clear hall HVL HOK HVI
    obtain ⟨w2, hw2⟩ : ∃ w2, w' = w2 := ⟨_, rfl⟩
    rw [hw2] at KF ⊢
    clear hw2
    have k8 : w2.cell? ⟨B, 8, none⟩ = some (.int .i64 LY) := rb_cell (KB.out _ KF.out.1) 8
    have CP := Lib.hid (rput_gro 2 LY KF.out.2 (SZ.out _ KF.out.1) (by omega) (by simp))
    go_wp2_with fail
    refine CP.out.mono ?_
    rintro e w4 ⟨A3, n3, c3, rfl, hy3, hg3⟩
    have KX := Lib.hid (And.intro (Gro.bel KF.out.2 KF.out.1 (SZ.out _ KF.out.1) hg3) hy3)
    clear hy3 hg3 k8 KF CP
    go_upto_region 3 with fail
    have TR : Hid (∀ u : World, Below w4.heap.size w4 u → Below B1 w1 u) := Lib.hid fun u hb => KX.out.1.trans (hb.mono (SZ.out _ KX.out.1))
    obtain ⟨VL, hVL⟩ : ∃ VL : Nat × (Option Addr × Nat × Nat) → List (Nat × Nat × Value), VL = fun z => [(0, 24, .slice A3 n3 c3), (1, 25, .pointer (some ⟨B, 9, none⟩)), (2, 26, .bool RC), (3, 27, .int .i64 c), (4, 28, .int .u8 (c % 256)), (5, 29, .pointer (some ⟨B, 2, none⟩)), (6, 30, .int .i64 LV), (7, 31, .int .u8 (LV % 256)), (8, 32, .pointer (some ⟨B, 3, none⟩)), (9, 33, .int .i64 BW), (10, 34, .int .i64 (BW - 2)), (11, 35, .int .u8 ((BW - 2) % 256)), (12, 36, .pointer (some ⟨B, 4, none⟩)), (13, 37, .int .i64 BH), (14, 38, .int .i64 (BH - 2)), (15, 39, .int .u8 ((BH - 2) % 256)), (16, 40, .pointer (some ⟨B, 6, none⟩)), (17, 41, .int .i64 ST), (18, 42, .int .u8 (ST % 256)), (19, 43, .slice (some ⟨z.1, 0, none⟩) 6 6), (20, 44, .slice z.2.1 z.2.2.1 z.2.2.2), (21, 3, .slice z.2.1 z.2.2.1 z.2.2.2)] := ⟨_, rfl⟩
    have hok : ∀ z, manyOk 59 (VL z) := fun z => by rw [hVL]; exact okB_ok rfl
    have HVL := Lib.hid hVL
    have hvi : ∀ z, ∀ x ∈ VL z, x.1 < 22 := fun z => by rw [hVL]; exact ltB_ok rfl
    have HOK := Lib.hid hok
    have HVI := Lib.hid hvi
    clear hVL hok hvi
    refine (wpIn_wide (n := 9)).1 (regionIn_many (N := 59) (w := _) VL (fun L z w' => ((L 20 = false → Below w4.heap.size w4 w') ∧ (L 20 = false → L 19 = true → Lst w' w'.heap.size (some ⟨z.1, 0, none⟩) (([c % 256, LV % 256, (BW - 2) % 256, (BH - 2) % 256, ST % 256, 1] : List Int).map (Value.int .u8))) ∧ (L 20 = true → By B1 w' (.slice z.2.1 z.2.2.1 z.2.2.2) (([(1 + 2 * a + 4 * b) % 256, OD % 256] ++ putL LY 2) ++ [c % 256, LV % 256, (BW - 2) % 256, (BH - 2) % 256, ST % 256, 1]) ∧ Below B1 w1 w')) ∧ True) [(1, .pointer (some ⟨B, 0, none⟩)), (3, .slice A3 n3 c3)] (by kernel_rfl) (by kernel_rfl) rfl (by simp only [List.forall_mem_cons, List.not_mem_nil, false_imp_iff, implies_true, and_true]; exact ⟨rfl, rfl⟩) HVI.out (0, (none, 0, 0)) ?start ?step ?fin)
    case start => exact ⟨⟨fun _ => (Below.refl _ _).drew, fun _ h => (by cases h), fun h => (by cases h)⟩, trivial⟩
    case step =>
      intro gg_ hgN hgF ii_ hii_ L z w' hph hs hu
      obtain ⟨hcm, hph⟩ := hph
      have hF1 := hgF (1, .pointer (some ⟨B, 0, none⟩)) (by simp)
      have hF3 := hgF (3, .slice A3 n3 c3) (by simp)
      have hL := hu.1
      have hii_ : ii_ < 22 := hii_
      clear hgF
      obtain rfl | rfl | rfl | rfl | rfl | rfl | rfl | rfl | rfl | rfl | rfl | rfl | rfl | rfl | rfl | rfl | rfl | rfl | rfl | rfl | rfl | rfl := (by omega : ii_ = 0 ∨ ii_ = 1 ∨ ii_ = 2 ∨ ii_ = 3 ∨ ii_ = 4 ∨ ii_ = 5 ∨ ii_ = 6 ∨ ii_ = 7 ∨ ii_ = 8 ∨ ii_ = 9 ∨ ii_ = 10 ∨ ii_ = 11 ∨ ii_ = 12 ∨ ii_ = 13 ∨ ii_ = 14 ∨ ii_ = 15 ∨ ii_ = 16 ∨ ii_ = 17 ∨ ii_ = 18 ∨ ii_ = 19 ∨ ii_ = 20 ∨ ii_ = 21)
      · skip
        have n20 : L 20 = false := not_yet hL fun h => shut_at hs 20 0 (by kernel_rfl) (h)
        have n21 : L 21 = false := not_yet hL fun h => shut_at hs 21 0 (by kernel_rfl) (h)
        have e3 : (many gg_ L (VL z))[3]?.getD undef = .slice A3 n3 c3 := many_out3' hgN (HOK.out z) (by rw [HVL.out]; rfl) (by assumption) hF3
        refine opIn_run (v := .slice A3 n3 c3) (w' := w') rfl rfl (fun c h => by cases h) (fun _ => trivial) ?_ ⟨z, by exact many_put3 (HOK.out _) (by rw [HVL.out]; rfl) hL, hcm, hph⟩
        go_simp
      · skip
        have n19 : L 19 = false := not_yet hL fun h => shut_at hs 2 1 (by kernel_rfl) (shut_at hs 3 2 (by kernel_rfl) (shut_at hs 4 3 (by kernel_rfl) (shut_at hs 19 4 (by kernel_rfl) (h))))
        have n20 : L 20 = false := not_yet hL fun h => shut_at hs 2 1 (by kernel_rfl) (shut_at hs 3 2 (by kernel_rfl) (shut_at hs 20 3 (by kernel_rfl) (h)))
        have n21 : L 21 = false := not_yet hL fun h => shut_at hs 21 1 (by kernel_rfl) (h)
        have e1 : (many gg_ L (VL z))[1]?.getD undef = .pointer (some ⟨B, 0, none⟩) := many_out3 hgN (HOK.out z) (by rw [HVL.out]; rfl) hF1
        refine opIn_run (v := .pointer (some ⟨B, 9, none⟩)) (w' := w') rfl rfl (fun c h => by cases h) (fun _ => trivial) ?_ ⟨z, by exact many_put3 (HOK.out _) (by rw [HVL.out]; rfl) hL, hcm, hph⟩
        go_simp
      · skip
        have y1 : L 1 = true := up_at hu 1 (by kernel_rfl)
        have n19 : L 19 = false := not_yet hL fun h => shut_at hs 3 2 (by kernel_rfl) (shut_at hs 4 3 (by kernel_rfl) (shut_at hs 19 4 (by kernel_rfl) (h)))
        have n20 : L 20 = false := not_yet hL fun h => shut_at hs 3 2 (by kernel_rfl) (shut_at hs 20 3 (by kernel_rfl) (h))
        have n21 : L 21 = false := not_yet hL fun h => shut_at hs 21 2 (by kernel_rfl) (h)
        have hcell : w'.cell? ⟨B, 9, none⟩ = some (.bool RC) := rb_cell (KB.out _ (TR.out _ (hcm.1 n20))) 9
        have e25 : (many gg_ L (VL z))[25]?.getD undef = .pointer (some ⟨B, 9, none⟩) := many_eval3 hgN (HOK.out z) (by rw [HVL.out]; rfl) y1
        refine opIn_run (v := .bool RC) (w' := w') rfl rfl (fun c h => by cases h) (fun _ => trivial) ?_ ⟨z, by exact many_put3 (HOK.out _) (by rw [HVL.out]; rfl) hL, hcm, hph⟩
        go_simp
      · skip
        have y2 : L 2 = true := up_at hu 2 (by kernel_rfl)
        have n19 : L 19 = false := not_yet hL fun h => shut_at hs 4 3 (by kernel_rfl) (shut_at hs 19 4 (by kernel_rfl) (h))
        have n20 : L 20 = false := not_yet hL fun h => shut_at hs 20 3 (by kernel_rfl) (h)
        have n21 : L 21 = false := not_yet hL fun h => shut_at hs 21 3 (by kernel_rfl) (h)
        have e26 : (many gg_ L (VL z))[26]?.getD undef = .bool RC := many_eval3 hgN (HOK.out z) (by rw [HVL.out]; rfl) y2
        refine opIn_call (f := 54) (args := #[.bool RC]) (w' := w') rfl rfl (fun c h => by cases h) (fun _ => trivial) rfl (by go_simp) ((callsIn_wide.2 (WC.out w')).mono ?_)
        rintro e w2 ⟨rfl, rfl⟩
        exact ⟨_, rfl, z, by exact many_put3 (HOK.out _) (by rw [HVL.out]; rfl) hL, hcm, trivial⟩
      · skip
        have y3 : L 3 = true := up_at hu 3 (by kernel_rfl)
        have n19 : L 19 = false := not_yet hL fun h => shut_at hs 19 4 (by kernel_rfl) (h)
        have n20 : L 20 = false := not_yet hL fun h => shut_at hs 19 4 (by kernel_rfl) (shut_at hs 20 19 (by kernel_rfl) (h))
        have n21 : L 21 = false := not_yet hL fun h => shut_at hs 21 4 (by kernel_rfl) (h)
        have e27 : (many gg_ L (VL z))[27]?.getD undef = .int .i64 c := many_eval3 hgN (HOK.out z) (by rw [HVL.out]; rfl) y3
        refine opIn_run (v := .int .u8 (c % 256)) (w' := w') rfl rfl (fun c h => by cases h) (fun _ => trivial) ?_ ⟨z, by exact many_put3 (HOK.out _) (by rw [HVL.out]; rfl) hL, hcm, trivial⟩
        go_simp
        try rfl
      · skip
        have n19 : L 19 = false := not_yet hL fun h => shut_at hs 6 5 (by kernel_rfl) (shut_at hs 7 6 (by kernel_rfl) (shut_at hs 19 7 (by kernel_rfl) (h)))
        have n20 : L 20 = false := not_yet hL fun h => shut_at hs 6 5 (by kernel_rfl) (shut_at hs 7 6 (by kernel_rfl) (shut_at hs 19 7 (by kernel_rfl) (shut_at hs 20 19 (by kernel_rfl) (h))))
        have n21 : L 21 = false := not_yet hL fun h => shut_at hs 21 5 (by kernel_rfl) (h)
        have e1 : (many gg_ L (VL z))[1]?.getD undef = .pointer (some ⟨B, 0, none⟩) := many_out3 hgN (HOK.out z) (by rw [HVL.out]; rfl) hF1
        refine opIn_run (v := .pointer (some ⟨B, 2, none⟩)) (w' := w') rfl rfl (fun c h => by cases h) (fun _ => trivial) ?_ ⟨z, by exact many_put3 (HOK.out _) (by rw [HVL.out]; rfl) hL, hcm, hph⟩
        go_simp
      · skip
        have y5 : L 5 = true := up_at hu 5 (by kernel_rfl)
        have n19 : L 19 = false := not_yet hL fun h => shut_at hs 7 6 (by kernel_rfl) (shut_at hs 19 7 (by kernel_rfl) (h))
        have n20 : L 20 = false := not_yet hL fun h => shut_at hs 7 6 (by kernel_rfl) (shut_at hs 19 7 (by kernel_rfl) (shut_at hs 20 19 (by kernel_rfl) (h)))
        have n21 : L 21 = false := not_yet hL fun h => shut_at hs 21 6 (by kernel_rfl) (h)
        have hcell : w'.cell? ⟨B, 2, none⟩ = some (.int .i64 LV) := rb_cell (KB.out _ (TR.out _ (hcm.1 n20))) 2
        have e29 : (many gg_ L (VL z))[29]?.getD undef = .pointer (some ⟨B, 2, none⟩) := many_eval3 hgN (HOK.out z) (by rw [HVL.out]; rfl) y5
        refine opIn_run (v := .int .i64 LV) (w' := w') rfl rfl (fun c h => by cases h) (fun _ => trivial) ?_ ⟨z, by exact many_put3 (HOK.out _) (by rw [HVL.out]; rfl) hL, hcm, hph⟩
        go_simp
      · skip
        have y6 : L 6 = true := up_at hu 6 (by kernel_rfl)
        have n19 : L 19 = false := not_yet hL fun h => shut_at hs 19 7 (by kernel_rfl) (h)
        have n20 : L 20 = false := not_yet hL fun h => shut_at hs 19 7 (by kernel_rfl) (shut_at hs 20 19 (by kernel_rfl) (h))
        have n21 : L 21 = false := not_yet hL fun h => shut_at hs 21 7 (by kernel_rfl) (h)
        have e30 : (many gg_ L (VL z))[30]?.getD undef = .int .i64 LV := many_eval3 hgN (HOK.out z) (by rw [HVL.out]; rfl) y6
        refine opIn_run (v := .int .u8 (LV % 256)) (w' := w') rfl rfl (fun c h => by cases h) (fun _ => trivial) ?_ ⟨z, by exact many_put3 (HOK.out _) (by rw [HVL.out]; rfl) hL, hcm, trivial⟩
        go_simp
        try rfl
      · skip
        have n19 : L 19 = false := not_yet hL fun h => shut_at hs 9 8 (by kernel_rfl) (shut_at hs 10 9 (by kernel_rfl) (shut_at hs 11 10 (by kernel_rfl) (shut_at hs 19 11 (by kernel_rfl) (h))))
        have n20 : L 20 = false := not_yet hL fun h => shut_at hs 9 8 (by kernel_rfl) (shut_at hs 10 9 (by kernel_rfl) (shut_at hs 11 10 (by kernel_rfl) (shut_at hs 19 11 (by kernel_rfl) (shut_at hs 20 19 (by kernel_rfl) (h)))))
        have n21 : L 21 = false := not_yet hL fun h => shut_at hs 21 8 (by kernel_rfl) (h)
        have e1 : (many gg_ L (VL z))[1]?.getD undef = .pointer (some ⟨B, 0, none⟩) := many_out3 hgN (HOK.out z) (by rw [HVL.out]; rfl) hF1
        refine opIn_run (v := .pointer (some ⟨B, 3, none⟩)) (w' := w') rfl rfl (fun c h => by cases h) (fun _ => trivial) ?_ ⟨z, by exact many_put3 (HOK.out _) (by rw [HVL.out]; rfl) hL, hcm, hph⟩
        go_simp
      · skip
        have y8 : L 8 = true := up_at hu 8 (by kernel_rfl)
        have n19 : L 19 = false := not_yet hL fun h => shut_at hs 10 9 (by kernel_rfl) (shut_at hs 11 10 (by kernel_rfl) (shut_at hs 19 11 (by kernel_rfl) (h)))
        have n20 : L 20 = false := not_yet hL fun h => shut_at hs 10 9 (by kernel_rfl) (shut_at hs 11 10 (by kernel_rfl) (shut_at hs 19 11 (by kernel_rfl) (shut_at hs 20 19 (by kernel_rfl) (h))))
        have n21 : L 21 = false := not_yet hL fun h => shut_at hs 21 9 (by kernel_rfl) (h)
        have hcell : w'.cell? ⟨B, 3, none⟩ = some (.int .i64 BW) := rb_cell (KB.out _ (TR.out _ (hcm.1 n20))) 3
        have e32 : (many gg_ L (VL z))[32]?.getD undef = .pointer (some ⟨B, 3, none⟩) := many_eval3 hgN (HOK.out z) (by rw [HVL.out]; rfl) y8
        refine opIn_run (v := .int .i64 BW) (w' := w') rfl rfl (fun c h => by cases h) (fun _ => trivial) ?_ ⟨z, by exact many_put3 (HOK.out _) (by rw [HVL.out]; rfl) hL, hcm, hph⟩
        go_simp
      · skip
        have y9 : L 9 = true := up_at hu 9 (by kernel_rfl)
        have n19 : L 19 = false := not_yet hL fun h => shut_at hs 11 10 (by kernel_rfl) (shut_at hs 19 11 (by kernel_rfl) (h))
        have n20 : L 20 = false := not_yet hL fun h => shut_at hs 11 10 (by kernel_rfl) (shut_at hs 19 11 (by kernel_rfl) (shut_at hs 20 19 (by kernel_rfl) (h)))
        have n21 : L 21 = false := not_yet hL fun h => shut_at hs 21 10 (by kernel_rfl) (h)
        have q1 := HW.out.2.2.2.2.1
        have e33 : (many gg_ L (VL z))[33]?.getD undef = .int .i64 BW := many_eval3 hgN (HOK.out z) (by rw [HVL.out]; rfl) y9
        refine opIn_run (v := .int .i64 (BW - 2)) (w' := w') rfl rfl (fun c h => by cases h) (fun _ => trivial) ?_ ⟨z, by exact many_put3 (HOK.out _) (by rw [HVL.out]; rfl) hL, hcm, hph⟩
        go_simp
      · skip
        have y10 : L 10 = true := up_at hu 10 (by kernel_rfl)
        have n19 : L 19 = false := not_yet hL fun h => shut_at hs 19 11 (by kernel_rfl) (h)
        have n20 : L 20 = false := not_yet hL fun h => shut_at hs 19 11 (by kernel_rfl) (shut_at hs 20 19 (by kernel_rfl) (h))
        have n21 : L 21 = false := not_yet hL fun h => shut_at hs 21 11 (by kernel_rfl) (h)
        have e34 : (many gg_ L (VL z))[34]?.getD undef = .int .i64 (BW - 2) := many_eval3 hgN (HOK.out z) (by rw [HVL.out]; rfl) y10
        refine opIn_run (v := .int .u8 ((BW - 2) % 256)) (w' := w') rfl rfl (fun c h => by cases h) (fun _ => trivial) ?_ ⟨z, by exact many_put3 (HOK.out _) (by rw [HVL.out]; rfl) hL, hcm, trivial⟩
        go_simp
        try rfl
      · skip
        have n19 : L 19 = false := not_yet hL fun h => shut_at hs 13 12 (by kernel_rfl) (shut_at hs 14 13 (by kernel_rfl) (shut_at hs 15 14 (by kernel_rfl) (shut_at hs 19 15 (by kernel_rfl) (h))))
        have n20 : L 20 = false := not_yet hL fun h => shut_at hs 13 12 (by kernel_rfl) (shut_at hs 14 13 (by kernel_rfl) (shut_at hs 15 14 (by kernel_rfl) (shut_at hs 19 15 (by kernel_rfl) (shut_at hs 20 19 (by kernel_rfl) (h)))))
        have n21 : L 21 = false := not_yet hL fun h => shut_at hs 21 12 (by kernel_rfl) (h)
        have e1 : (many gg_ L (VL z))[1]?.getD undef = .pointer (some ⟨B, 0, none⟩) := many_out3 hgN (HOK.out z) (by rw [HVL.out]; rfl) hF1
        refine opIn_run (v := .pointer (some ⟨B, 4, none⟩)) (w' := w') rfl rfl (fun c h => by cases h) (fun _ => trivial) ?_ ⟨z, by exact many_put3 (HOK.out _) (by rw [HVL.out]; rfl) hL, hcm, hph⟩
        go_simp
      · skip
        have y12 : L 12 = true := up_at hu 12 (by kernel_rfl)
        have n19 : L 19 = false := not_yet hL fun h => shut_at hs 14 13 (by kernel_rfl) (shut_at hs 15 14 (by kernel_rfl) (shut_at hs 19 15 (by kernel_rfl) (h)))
        have n20 : L 20 = false := not_yet hL fun h => shut_at hs 14 13 (by kernel_rfl) (shut_at hs 15 14 (by kernel_rfl) (shut_at hs 19 15 (by kernel_rfl) (shut_at hs 20 19 (by kernel_rfl) (h))))
        have n21 : L 21 = false := not_yet hL fun h => shut_at hs 21 13 (by kernel_rfl) (h)
        have hcell : w'.cell? ⟨B, 4, none⟩ = some (.int .i64 BH) := rb_cell (KB.out _ (TR.out _ (hcm.1 n20))) 4
        have e36 : (many gg_ L (VL z))[36]?.getD undef = .pointer (some ⟨B, 4, none⟩) := many_eval3 hgN (HOK.out z) (by rw [HVL.out]; rfl) y12
        refine opIn_run (v := .int .i64 BH) (w' := w') rfl rfl (fun c h => by cases h) (fun _ => trivial) ?_ ⟨z, by exact many_put3 (HOK.out _) (by rw [HVL.out]; rfl) hL, hcm, hph⟩
        go_simp
      · skip
        have y13 : L 13 = true := up_at hu 13 (by kernel_rfl)
        have n19 : L 19 = false := not_yet hL fun h => shut_at hs 15 14 (by kernel_rfl) (shut_at hs 19 15 (by kernel_rfl) (h))
        have n20 : L 20 = false := not_yet hL fun h => shut_at hs 15 14 (by kernel_rfl) (shut_at hs 19 15 (by kernel_rfl) (shut_at hs 20 19 (by kernel_rfl) (h)))
        have n21 : L 21 = false := not_yet hL fun h => shut_at hs 21 14 (by kernel_rfl) (h)
        have q1 := HW.out.2.2.2.2.2.1
        have e37 : (many gg_ L (VL z))[37]?.getD undef = .int .i64 BH := many_eval3 hgN (HOK.out z) (by rw [HVL.out]; rfl) y13
        refine opIn_run (v := .int .i64 (BH - 2)) (w' := w') rfl rfl (fun c h => by cases h) (fun _ => trivial) ?_ ⟨z, by exact many_put3 (HOK.out _) (by rw [HVL.out]; rfl) hL, hcm, hph⟩
        go_simp
      · skip
        have y14 : L 14 = true := up_at hu 14 (by kernel_rfl)
        have n19 : L 19 = false := not_yet hL fun h => shut_at hs 19 15 (by kernel_rfl) (h)
        have n20 : L 20 = false := not_yet hL fun h => shut_at hs 19 15 (by kernel_rfl) (shut_at hs 20 19 (by kernel_rfl) (h))
        have n21 : L 21 = false := not_yet hL fun h => shut_at hs 21 15 (by kernel_rfl) (h)
        have e38 : (many gg_ L (VL z))[38]?.getD undef = .int .i64 (BH - 2) := many_eval3 hgN (HOK.out z) (by rw [HVL.out]; rfl) y14
        refine opIn_run (v := .int .u8 ((BH - 2) % 256)) (w' := w') rfl rfl (fun c h => by cases h) (fun _ => trivial) ?_ ⟨z, by exact many_put3 (HOK.out _) (by rw [HVL.out]; rfl) hL, hcm, trivial⟩
        go_simp
        try rfl
      · skip
        have n19 : L 19 = false := not_yet hL fun h => shut_at hs 17 16 (by kernel_rfl) (shut_at hs 18 17 (by kernel_rfl) (shut_at hs 19 18 (by kernel_rfl) (h)))
        have n20 : L 20 = false := not_yet hL fun h => shut_at hs 17 16 (by kernel_rfl) (shut_at hs 18 17 (by kernel_rfl) (shut_at hs 19 18 (by kernel_rfl) (shut_at hs 20 19 (by kernel_rfl) (h))))
        have n21 : L 21 = false := not_yet hL fun h => shut_at hs 21 16 (by kernel_rfl) (h)
        have e1 : (many gg_ L (VL z))[1]?.getD undef = .pointer (some ⟨B, 0, none⟩) := many_out3 hgN (HOK.out z) (by rw [HVL.out]; rfl) hF1
        refine opIn_run (v := .pointer (some ⟨B, 6, none⟩)) (w' := w') rfl rfl (fun c h => by cases h) (fun _ => trivial) ?_ ⟨z, by exact many_put3 (HOK.out _) (by rw [HVL.out]; rfl) hL, hcm, hph⟩
        go_simp
      · skip
        have y16 : L 16 = true := up_at hu 16 (by kernel_rfl)
        have n19 : L 19 = false := not_yet hL fun h => shut_at hs 18 17 (by kernel_rfl) (shut_at hs 19 18 (by kernel_rfl) (h))
        have n20 : L 20 = false := not_yet hL fun h => shut_at hs 18 17 (by kernel_rfl) (shut_at hs 19 18 (by kernel_rfl) (shut_at hs 20 19 (by kernel_rfl) (h)))
        have n21 : L 21 = false := not_yet hL fun h => shut_at hs 21 17 (by kernel_rfl) (h)
        have hcell : w'.cell? ⟨B, 6, none⟩ = some (.int .i64 ST) := rb_cell (KB.out _ (TR.out _ (hcm.1 n20))) 6
        have e40 : (many gg_ L (VL z))[40]?.getD undef = .pointer (some ⟨B, 6, none⟩) := many_eval3 hgN (HOK.out z) (by rw [HVL.out]; rfl) y16
        refine opIn_run (v := .int .i64 ST) (w' := w') rfl rfl (fun c h => by cases h) (fun _ => trivial) ?_ ⟨z, by exact many_put3 (HOK.out _) (by rw [HVL.out]; rfl) hL, hcm, hph⟩
        go_simp
      · skip
        have y17 : L 17 = true := up_at hu 17 (by kernel_rfl)
        have n19 : L 19 = false := not_yet hL fun h => shut_at hs 19 18 (by kernel_rfl) (h)
        have n20 : L 20 = false := not_yet hL fun h => shut_at hs 19 18 (by kernel_rfl) (shut_at hs 20 19 (by kernel_rfl) (h))
        have n21 : L 21 = false := not_yet hL fun h => shut_at hs 21 18 (by kernel_rfl) (h)
        have e41 : (many gg_ L (VL z))[41]?.getD undef = .int .i64 ST := many_eval3 hgN (HOK.out z) (by rw [HVL.out]; rfl) y17
        refine opIn_run (v := .int .u8 (ST % 256)) (w' := w') rfl rfl (fun c h => by cases h) (fun _ => trivial) ?_ ⟨z, by exact many_put3 (HOK.out _) (by rw [HVL.out]; rfl) hL, hcm, trivial⟩
        go_simp
        try rfl
      · skip
        have y4 : L 4 = true := up_at hu 4 (by kernel_rfl)
        have y7 : L 7 = true := up_at hu 7 (by kernel_rfl)
        have y11 : L 11 = true := up_at hu 11 (by kernel_rfl)
        have y15 : L 15 = true := up_at hu 15 (by kernel_rfl)
        have y18 : L 18 = true := up_at hu 18 (by kernel_rfl)
        have n20 : L 20 = false := not_yet hL fun h => shut_at hs 20 19 (by kernel_rfl) (h)
        have n21 : L 21 = false := not_yet hL fun h => shut_at hs 21 19 (by kernel_rfl) (h)
        have e28 : (many gg_ L (VL z))[28]?.getD undef = .int .u8 (c % 256) := many_eval3 hgN (HOK.out z) (by rw [HVL.out]; rfl) y4
        have e31 : (many gg_ L (VL z))[31]?.getD undef = .int .u8 (LV % 256) := many_eval3 hgN (HOK.out z) (by rw [HVL.out]; rfl) y7
        have e35 : (many gg_ L (VL z))[35]?.getD undef = .int .u8 ((BW - 2) % 256) := many_eval3 hgN (HOK.out z) (by rw [HVL.out]; rfl) y11
        have e39 : (many gg_ L (VL z))[39]?.getD undef = .int .u8 ((BH - 2) % 256) := many_eval3 hgN (HOK.out z) (by rw [HVL.out]; rfl) y15
        have e42 : (many gg_ L (VL z))[42]?.getD undef = .int .u8 (ST % 256) := many_eval3 hgN (HOK.out z) (by rw [HVL.out]; rfl) y18
        refine opIn_run (v := (.slice (some ⟨w'.heap.size, 0, none⟩) 6 6)) (w' := w'.alloc (.cells #[.int .u8 (c % 256), .int .u8 (LV % 256), .int .u8 ((BW - 2) % 256), .int .u8 ((BH - 2) % 256), .int .u8 (ST % 256), .int .u8 1] 5)) rfl rfl (fun c h => by cases h) (fun _ => trivial) ?_ ⟨(w'.heap.size, z.2), by rw [show many gg_ L (VL z) = many gg_ L (VL (w'.heap.size, z.2)) from by rw [HVL.out]; simp only [many, y4, y7, y11, y15, y18, n20, n21, hL, cond_false, cond_true]]; exact many_put3 (HOK.out _) (by rw [HVL.out]; rfl) hL, ⟨fun _ => (hcm.1 n20).alloc (hcm.1 n20).size _, fun _ _ => lst_new8 w' [c % 256, LV % 256, (BW - 2) % 256, (BH - 2) % 256, ST % 256, 1], fun a => absurd a (by simp [upd, n20])⟩, trivial⟩
        go_simp
      · skip
        have y0 : L 0 = true := up_at hu 0 (by kernel_rfl)
        have y3 : L 3 = true := up_at hu 3 (by kernel_rfl)
        have y19 : L 19 = true := up_at hu 19 (by kernel_rfl)
        have n21 : L 21 = false := not_yet hL fun h => shut_at hs 21 20 (by kernel_rfl) (h)
        have hb0 : Below B1 w1 w' := TR.out _ (hcm.1 hL)
        obtain ⟨A9, n9_, c9, w9, hr9, hy9, hg9⟩ := app_gro (m := 6) (c := 6) (KX.out.2.below (hcm.1 hL)) (fun e => by cases e) (hcm.2.1 hL y19) rfl (SZ.out _ hb0) (by rw [List.length_append, putL_len]; simp)
        have e24 : (many gg_ L (VL z))[24]?.getD undef = .slice A3 n3 c3 := many_eval3 hgN (HOK.out z) (by rw [HVL.out]; rfl) y0
        have e43 : (many gg_ L (VL z))[43]?.getD undef = .slice (some ⟨z.1, 0, none⟩) 6 6 := many_eval3 hgN (HOK.out z) (by rw [HVL.out]; rfl) y19
        refine opIn_run (v := (.slice A9 n9_ c9)) (w' := w9) rfl rfl (fun c h => by cases h) (fun _ => trivial) ?_ ⟨(z.1, (A9, n9_, c9)), by rw [show many gg_ L (VL z) = many gg_ L (VL (z.1, (A9, n9_, c9))) from by rw [HVL.out]; simp only [many, y0, y3, y19, n21, hL, cond_false, cond_true]]; exact many_put3 (HOK.out _) (by rw [HVL.out]; rfl) hL, ⟨fun a => absurd a (by simp [upd_self]), fun a => absurd a (by simp [upd_self]), fun _ => ⟨hy9, Gro.bel (KX.out.2.below (hcm.1 hL)) hb0 (SZ.out _ hb0) hg9⟩⟩, trivial⟩
        go_simp
      · skip
        have y0 : L 0 = true := up_at hu 0 (by kernel_rfl)
        have y1 : L 1 = true := up_at hu 1 (by kernel_rfl)
        have y2 : L 2 = true := up_at hu 2 (by kernel_rfl)
        have y3 : L 3 = true := up_at hu 3 (by kernel_rfl)
        have y4 : L 4 = true := up_at hu 4 (by kernel_rfl)
        have y5 : L 5 = true := up_at hu 5 (by kernel_rfl)
        have y6 : L 6 = true := up_at hu 6 (by kernel_rfl)
        have y7 : L 7 = true := up_at hu 7 (by kernel_rfl)
        have y8 : L 8 = true := up_at hu 8 (by kernel_rfl)
        have y9 : L 9 = true := up_at hu 9 (by kernel_rfl)
        have y10 : L 10 = true := up_at hu 10 (by kernel_rfl)
        have y11 : L 11 = true := up_at hu 11 (by kernel_rfl)
        have y12 : L 12 = true := up_at hu 12 (by kernel_rfl)
        have y13 : L 13 = true := up_at hu 13 (by kernel_rfl)
        have y14 : L 14 = true := up_at hu 14 (by kernel_rfl)
        have y15 : L 15 = true := up_at hu 15 (by kernel_rfl)
        have y16 : L 16 = true := up_at hu 16 (by kernel_rfl)
        have y17 : L 17 = true := up_at hu 17 (by kernel_rfl)
        have y18 : L 18 = true := up_at hu 18 (by kernel_rfl)
        have y19 : L 19 = true := up_at hu 19 (by kernel_rfl)
        have y20 : L 20 = true := up_at hu 20 (by kernel_rfl)
        have e44 : (many gg_ L (VL z))[44]?.getD undef = .slice z.2.1 z.2.2.1 z.2.2.2 := many_eval3 hgN (HOK.out z) (by rw [HVL.out]; rfl) y20
        refine opIn_run (v := .slice z.2.1 z.2.2.1 z.2.2.2) (w' := w') rfl rfl (fun c h => by cases h) (fun _ => trivial) ?_ ⟨z, by exact many_put3 (HOK.out _) (by rw [HVL.out]; rfl) hL, hcm, hph⟩
        go_simp
    case fin =>
      intro L z w' hall hph
      obtain ⟨hcm, hph⟩ := hph
      have KF := hcm.2.2 (hall 20 (by decide))
      obtain ⟨z1, A4, n4, c4⟩ := z
      simp only at KF
      have KF := Lib.hid KF
      clear hcm hph
      rw [HVL.out]
      dsimp only [manyL, List.set_cons_zero, List.set_cons_succ]
      clear hall HVL HOK HVI
      obtain ⟨w5, hw5⟩ : ∃ w5, w' = w5 := ⟨_, rfl⟩
      rw [hw5] at KF ⊢
      clear hw5
      obtain ⟨PRE, hPRE⟩ : ∃ P, ([(1 + 2 * a + 4 * b) % 256, OD % 256] ++ putL LY 2) ++ [c % 256, LV % 256, (BW - 2) % 256, (BH - 2) % 256, ST % 256, 1] = P := ⟨_, rfl⟩
      have H5 : Hid (By B1 w5 (.slice A4 n4 c4) PRE ∧ Below B1 w1 w5 ∧ PRE.length ≤ 20) := Lib.hid ⟨by rw [← hPRE]; exact KF.out.1, KF.out.2, by rw [← hPRE, List.length_append, List.length_append, putL_len]; simp⟩
      have HPRE := Lib.hid hPRE
      clear hPRE KF
      go_wp2_with fail
      go_loopg [3, 4] (k + 1) (fun g a v wr => ∃ (j : Nat) (A' : Option Addr) (n' c' : Nat), j + g = k + 1 ∧ a = .slice A' n' c' ∧ v = .int .i64 (j : Int) ∧ Hid (By B1 wr (.slice A' n' c') (PRE ++ List.replicate j (17 * PR % 256)) ∧ Below B1 w1 wr))
      case atStart => exact ⟨0, A4, n4, c4, by omega, rfl, rfl, Lib.hid ⟨by simpa using H5.out.1, H5.out.2.1⟩⟩
      case round =>
        obtain ⟨j, A6, n6, c6, hjg, rfl, rfl, HI⟩ := hrel
        obtain ⟨wa, hwa⟩ : ∃ wa, wa = wr := ⟨wr, rfl⟩
        subst hwa
        have k2 : wa.cell? ⟨B, 2, none⟩ = some (.int .i64 LV) := rb_cell (KB.out _ HI.out.2) 2
        have k5 : wa.cell? ⟨B, 5, none⟩ = some (.int .i64 PR) := rb_cell (KB.out _ HI.out.2) 5
        by_cases hj : j < k + 1
        · obtain ⟨g1, rfl⟩ : ∃ g1, gk = g1 + 1 := ⟨gk - 1, by omega⟩
          have hjI : (j : Int) ≤ LV := by have := HK6.out.2; omega
          have q1 := HW.out.2.2.2.2.2.2
          have q2 : IntKind.u8.wrap (17 * PR) = 17 * PR % 256 := rfl
          obtain ⟨A9, n9, c9, w9, hr, hy9, hg9⟩ := app_new [17 * PR % 256] HI.out.1 (SZ.out _ HI.out.2) (by have := H5.out.2.2; simp only [List.length_append, List.length_replicate, List.length_cons, List.length_nil]; omega)
          have hr2 : (appSem #[25, 25] 25 #[.slice A6 n6 c6, .slice (some ⟨wa.heap.size, 0, none⟩) 1 1]).run Try.prog (wa.alloc (.cells #[.int .u8 (17 * PR % 256)] 5)) = .ok (.slice A9 n9 c9) w9 := hr
          have HN : Hid (By B1 w9 (.slice A9 n9 c9) (PRE ++ List.replicate (j + 1) (17 * PR % 256)) ∧ Below B1 w1 w9) := Lib.hid ⟨by rw [List.replicate_succ', ← List.append_assoc]; exact hy9, Gro.bel HI.out.1 HI.out.2 (SZ.out _ HI.out.2) hg9⟩
          clear hr hy9 hg9 HI
          go_wp2
          go_roundg g1
          case measure => omega
          case rel => exact ⟨j + 1, A9, n9, c9, by omega, rfl, by simp, HN⟩
        · obtain rfl : j = k + 1 := by omega
          have hjI : ¬ (k : Int) + 1 ≤ LV := by have := HK6.out.2; omega
          have HF : Hid (By B1 wa (.slice A6 n6 c6) (codL LV BW BH PR ST OD LY RC SO EP (k + 1))) := Lib.hid (by rw [HCL.out, HPRE.out]; exact HI.out.1)
          go_wp2
          go_ret
          have hBB : B ≤ B1 := by have := HB1.out.2; omega
          exact ⟨_, _, _, rfl, by rw [HE.out.2]; exact HF.out.low hBB, by rw [HE.out.2]; exact H1.out.1.trans (HI.out.2.mono hBB)⟩
def expL (d : Int) (k : Nat) : List Int := d :: (List.replicate k [d + 1, d + 1, d + 2]).flatten
theorem expL_len (d : Int) (k : Nat) : (expL d k).length = 1 + 3 * k := by
  unfold expL
  simp
  omega
def maxD (cs : List Cp) : Int := cs.foldl (fun b c => if b < c.d then c.d else b) 0
theorem maxD_snoc (cs : List Cp) (c : Cp) : maxD (cs ++ [c]) = if maxD cs < c.d then c.d else maxD cs := by
  unfold maxD
  rw [List.foldl_append]
  rfl
theorem bitsF_max (r : Int) (cs : List Cp) : bitsF r cs = maxD cs + r := by
  unfold bitsF maxD
  have e : ∀ (l : List Cp) (b : Int), l.foldl (fun b c => if b < c.d + r then c.d + r else b) (b + r) = l.foldl (fun b c => if b < c.d then c.d else b) b + r := by
    intro l
    induction l with
    | nil => intro b; rfl
    | cons c l ih =>
      intro b
      rw [List.foldl_cons, List.foldl_cons, ← ih]
      congr 1
      by_cases h : b < c.d
      · rw [if_pos h, if_pos (by omega)]
      · rw [if_neg h, if_neg (by omega)]
  have := e cs 0
  rw [Int.zero_add] at this
  exact this
def IntsB (base : Nat) (w : World) (v : Value) (X : List Int) : Prop := w.ownsRow base 3 1 v X.length (X.map (Value.int .i64))
theorem app_newi {w : World} {base : Nat} {v : Value} {X : List Int} (L : List Int) (h : IntsB base w v X) (hb : base ≤ w.heap.size) (hlen : X.length + L.length ≤ 1000) (hL : L ≠ []) :
    ∃ A' m' c' w', (appSem #[22, 22] 22 #[v, .slice (some ⟨w.heap.size, 0, none⟩) L.length L.length]).run Try.prog (w.alloc (.cells (L.map (Value.int .i64)).toArray 3)) = .ok (.slice A' m' c') w' ∧ IntsB base w' (.slice A' m' c') (X ++ L) ∧ Below base w w' := by
  have hbk : Below w.heap.size w (w.alloc (.cells (L.map (Value.int .i64)).toArray 3)) := (Below.refl _ _).alloc (Nat.le_refl _) _
  have h2 : IntsB base (w.alloc (.cells (L.map (Value.int .i64)).toArray 3)) v X := h.alloc _
  obtain ⟨v', w', hr, hown, hg⟩ := app_intl (m := L.length) (c := L.length) h2 (A := some ⟨w.heap.size, 0, none⟩) (by simp) (lst_news w L) rfl (Nat.le_trans hb hbk.size) (by omega)
  obtain ⟨gg, cap2, rfl, _, _⟩ := own_form hown (by rw [List.length_append]; have : L.length ≠ 0 := fun e => hL (List.eq_nil_of_length_eq_zero e); omega)
  exact ⟨_, _, _, w', hr, hown, (hbk.mono hb).grown hg (Nat.le_trans hb hbk.size) (fun k e => (own_lt h2 e).1)⟩
set_option maxHeartbeats 8000000 in
theorem rexp_any {w : World} {X Y OX OY : Int} {A : Option Addr} {N C : Nat} {cs : List Cp} (TX TY LV BW BH PR ST OD LY : Int) (RC SO EP : Bool) (k : Nat) (hrow : CpL w (.slice A N C) cs) (hlen : cs.length = N) (hN5 : N ≤ 5) (hd : ∀ c ∈ cs, 0 ≤ c.d ∧ c.d ≤ 100) (hLV : LV = (k : Int)) (hk : k ≤ 6) :
    Calls Try.prog 55 #[.agg #[.int .i64 X, .int .i64 Y, .int .i64 OX, .int .i64 OY, .slice A N C], .agg #[.int .i64 TX, .int .i64 TY, .int .i64 LV, .int .i64 BW, .int .i64 BH, .int .i64 PR, .int .i64 ST, .int .i64 OD, .int .i64 LY, .bool RC, .bool SO, .bool EP]] w fun e w' => ∃ A' n' c', e = .returned (.slice A' n' c') ∧ IntsB w.heap.size w' (.slice A' n' c') (expL (maxD cs + (if RC then 1 else 0)) k) ∧ Below w.heap.size w w' := by
  have HROW := Lib.hid hrow
  have HD := Lib.hid hd
  obtain ⟨r, hr0⟩ : ∃ r : Int, (if RC = true then (1 : Int) else 0) = r := ⟨_, rfl⟩
  have hrb : 0 ≤ r ∧ r ≤ 1 := by rw [← hr0]; split <;> omega
  have WC : Hid (∀ u, Calls Try.prog 54 #[.bool RC] u fun e w' => e = .returned (.int .i64 r) ∧ u = w') := Lib.hid fun u => by have := bit_any RC u; rw [hr0] at this; exact this
  rw [hr0]
  have HRB := Lib.hid (And.intro hrb (And.intro hk hLV))
  obtain ⟨B, hB⟩ : ∃ B, w.heap.size = B := ⟨_, rfl⟩
  obtain ⟨w2, hw2⟩ : ∃ w2, (w.alloc (.cells #[.int .i64 X, .int .i64 Y, .int .i64 OX, .int .i64 OY, .slice A N C] 29)).alloc (.cells #[.int .i64 TX, .int .i64 TY, .int .i64 LV, .int .i64 BW, .int .i64 BH, .int .i64 PR, .int .i64 ST, .int .i64 OD, .int .i64 LY, .bool RC, .bool SO, .bool EP] 31) = w2 := ⟨_, rfl⟩
  have H2 : Hid (Below B w w2 ∧ w2.heap[B]? = some (.cells #[.int .i64 X, .int .i64 Y, .int .i64 OX, .int .i64 OY, .slice A N C] 29 (0, 0)) ∧ w2.heap[B + 1]? = some (.cells #[.int .i64 TX, .int .i64 TY, .int .i64 LV, .int .i64 BW, .int .i64 BH, .int .i64 PR, .int .i64 ST, .int .i64 OD, .int .i64 LY, .bool RC, .bool SO, .bool EP] 31 (0, 0)) ∧ w2.heap.size = B + 2) := Lib.hid (by
    have h := allocs2 [Obj.cells #[.int .i64 X, .int .i64 Y, .int .i64 OX, .int .i64 OY, .slice A N C] 29, Obj.cells #[.int .i64 TX, .int .i64 TY, .int .i64 LV, .int .i64 BW, .int .i64 BH, .int .i64 PR, .int .i64 ST, .int .i64 OD, .int .i64 LY, .bool RC, .bool SO, .bool EP] 31] w
    rw [show [Obj.cells #[.int .i64 X, .int .i64 Y, .int .i64 OX, .int .i64 OY, .slice A N C] 29, Obj.cells #[.int .i64 TX, .int .i64 TY, .int .i64 LV, .int .i64 BW, .int .i64 BH, .int .i64 PR, .int .i64 ST, .int .i64 OD, .int .i64 LY, .bool RC, .bool SO, .bool EP] 31].foldl World.alloc w = w2 from hw2, hB] at h
    exact ⟨h.2.1, h.2.2 0 _ rfl, h.2.2 1 _ rfl, h.1⟩)
  have HE := Lib.hid (And.intro hw2 hB)
  have HLN := Lib.hid (And.intro hlen hN5)
  have hN5' : N ≤ 5 := hN5
  clear hr0 hrb hk hLV hw2 hB hrow hd hlen
  go_enter Try.func55, Try.ntmps55
  go_upto_region 1 with fail
  rw [show (w.alloc (.cells #[.int .i64 X, .int .i64 Y, .int .i64 OX, .int .i64 OY, .slice A N C] 29)).alloc (.cells #[.int .i64 TX, .int .i64 TY, .int .i64 LV, .int .i64 BW, .int .i64 BH, .int .i64 PR, .int .i64 ST, .int .i64 OD, .int .i64 LY, .bool RC, .bool SO, .bool EP] 31) = w2 from HE.out.1, HE.out.2]
  have k4 : w2.cell? ⟨B, 4, none⟩ = some (.slice A N C) := rb_cell H2.out.2.1 4
  have k9 : w2.cell? ⟨B + 1, 9, none⟩ = some (.bool RC) := rb_cell H2.out.2.2.1 9
  go_wp2_with fail
  go_loopg [5, 6] N (fun gh a v wr => ∃ (j : Nat) (b : Int), j + gh = N ∧ a = .int .i64 b ∧ v = .int .i64 (j : Int) ∧ w2 = wr ∧ Hid (b = maxD (cs.take j) ∧ 0 ≤ b ∧ b ≤ 100))
  case atStart => exact ⟨0, 0, by omega, rfl, rfl, rfl, Lib.hid ⟨rfl, by omega, by omega⟩⟩
  case round =>
    obtain ⟨j, b, hjg, rfl, rfl, rfl, HI⟩ := hrel
    by_cases hj : j < N
    · obtain ⟨g1, rfl⟩ : ∃ g1, gk = g1 + 1 := ⟨gk - 1, by omega⟩
      have hjI : (j : Int) < (N : Int) ∧ (0 : Int) ≤ (j : Int) := by omega
      obtain ⟨c, hc⟩ : ∃ c, cs[j]? = some c := ⟨_, List.getElem?_eq_getElem (by rw [HLN.out.1]; exact hj)⟩
      obtain ⟨g, cap, hv, hgl, _, _, q0, q1, q2, q3, q4⟩ := HROW.out j c hc
      have hdb := HD.out c (List.mem_of_getElem? hc)
      injection hv with hv1 hv2 hv3
      subst hv1
      have hgB : g < B := by rw [← HE.out.2]; exact hgl
      have e0 := (H2.out.1.cell (p := ⟨g, j * 5, none⟩) hgB).trans q0
      have HX : Hid ((if b < c.d then c.d else b) = maxD (cs.take (j + 1)) ∧ 0 ≤ (if b < c.d then c.d else b) ∧ (if b < c.d then c.d else b) ≤ 100) := Lib.hid ⟨by rw [List.take_add_one, hc]; simp only [Option.toList_some]; rw [maxD_snoc, ← HI.out.1], by have := HI.out.2; split <;> omega, by have := HI.out.2; split <;> omega⟩
      clear hc q0 q1 q2 q3 q4 hdb hv2 hv3 hgB hgl
      by_cases hbc : b < c.d
      · rw [if_pos hbc] at HX
        go_wp2
        go_roundg g1
        case measure => omega
        case rel => exact ⟨j + 1, c.d, by omega, by first | rfl | (simp; omega), by simp, rfl, HX⟩
      · rw [if_neg hbc] at HX
        go_wp2
        go_roundg g1
        case measure => omega
        case rel => exact ⟨j + 1, b, by omega, by first | rfl | (simp; omega), by simp, rfl, HX⟩
    · obtain rfl : j = N := by omega
      have hlc : ¬ (j : Int) < (j : Int) := by omega
      have HV2 : Hid (b = maxD cs ∧ 0 ≤ b ∧ b ≤ 100) := Lib.hid ⟨by have := HI.out.1; rw [List.take_of_length_le (by rw [HLN.out.1]; exact Nat.le_refl _)] at this; exact this, HI.out.2.1, HI.out.2.2⟩
      clear HI hjg
      go_wp2_with fail
      refine (WC.out w2).mono ?_
      rintro e wx ⟨rfl, rfl⟩
      obtain ⟨d, hd⟩ : ∃ d, b + r = d := ⟨_, rfl⟩
      have hdb : 0 ≤ d ∧ d ≤ 101 := by have := HV2.out; have := HRB.out; omega
      have q1 : IntKind.i64.wrap (b + r) = d := by rw [IntWalk.i64_in _ (by omega)]; exact hd
      obtain ⟨w3, hw3⟩ : ∃ w3, w2.alloc (.cells #[.int .i64 d] 3) = w3 := ⟨_, rfl⟩
      have H3 : Hid (IntsB (B + 2) w3 (.slice (some ⟨B + 2, 0, none⟩) 1 1) (expL d 0) ∧ Below (B + 2) w2 w3) := Lib.hid (by
        have h1 : (w2.alloc (.cells #[.int .i64 d] 3)).ownsRow w2.heap.size 3 1 (.slice (some ⟨w2.heap.size, 0, none⟩) 1 1) 1 [.int .i64 d] := World.ownsRow_lit w2 #[.int .i64 d] 1 (Nat.le_refl _) (by unfold maxLen; omega) rfl
        rw [hw3, H2.out.2.2.2] at h1
        refine ⟨h1, ?_⟩
        rw [← hw3, ← H2.out.2.2.2]
        exact (Below.refl _ _).alloc (Nat.le_refl _) _)
      have HDD := Lib.hid hd
      have HW3 := Lib.hid (And.intro hw3 H2.out.2.2.2)
      clear hw3 hd
      go_upto_region 8 with fail
      rw [show w2.alloc (.cells #[.int .i64 d] 3) = w3 from HW3.out.1, HW3.out.2]
      clear k4 k9 q1
      go_wp2_with fail
      go_loopg [7, 8] k (fun gh a v wx => ∃ (i : Nat) (A' : Option Addr) (n' c' : Nat), i + gh = k ∧ a = .slice A' n' c' ∧ v = .int .i64 (i : Int) ∧ Hid (IntsB (B + 2) wx (.slice A' n' c') (expL d i) ∧ Below (B + 2) w2 wx))
      case atStart => exact ⟨0, _, 1, 1, by omega, rfl, rfl, H3⟩
      case round =>
        obtain ⟨i, A6, n6, c6, hig, rfl, rfl, HI⟩ := hrel
        obtain ⟨wa, hwa⟩ : ∃ wa, wa = wr := ⟨wr, rfl⟩
        subst hwa
        have hsz : B + 2 ≤ wa.heap.size := by have := HI.out.2.size; have := H2.out.2.2.2; omega
        have k2 : wa.cell? ⟨B + 1, 2, none⟩ = some (.int .i64 LV) := rb_cell ((HI.out.2.block (B + 1) (by omega)).trans H2.out.2.2.1) 2
        by_cases hi : i < k
        · obtain ⟨g1, rfl⟩ : ∃ g1, gk = g1 + 1 := ⟨gk - 1, by omega⟩
          have hiI : (i : Int) < LV := by have := HRB.out.2.2; omega
          have q1 : IntKind.i64.wrap (d + 1) = d + 1 := IntWalk.i64_in _ (by omega)
          have q2 : IntKind.i64.wrap (d + 2) = d + 2 := IntWalk.i64_in _ (by omega)
          have hk6 := HRB.out.2.1
          obtain ⟨A9, n9, c9, w9, hr, hy9, hb9⟩ := app_newi [d + 1, d + 1, d + 2] HI.out.1 hsz (by rw [expL_len]; simp; omega) (by simp)
          have hr2 : (appSem #[22, 22] 22 #[.slice A6 n6 c6, .slice (some ⟨wa.heap.size, 0, none⟩) 3 3]).run Try.prog (wa.alloc (.cells #[.int .i64 (d + 1), .int .i64 (d + 1), .int .i64 (d + 2)] 3)) = .ok (.slice A9 n9 c9) w9 := hr
          have HN : Hid (IntsB (B + 2) w9 (.slice A9 n9 c9) (expL d (i + 1)) ∧ Below (B + 2) w2 w9) := Lib.hid ⟨by
            have e : expL d (i + 1) = expL d i ++ [d + 1, d + 1, d + 2] := by
              unfold expL
              rw [List.replicate_succ', List.flatten_append]
              simp
            rw [e]
            exact hy9, HI.out.2.trans hb9⟩
          clear hr hy9 hb9 HI
          go_wp2
          go_roundg g1
          case measure => omega
          case rel => exact ⟨i + 1, A9, n9, c9, by omega, rfl, by simp, HN⟩
        · obtain rfl : i = k := by omega
          have hiI : ¬ (i : Int) < LV := by have := HRB.out.2.2; omega
          go_wp2
          go_ret
          refine ⟨_, _, _, rfl, ?_, ?_⟩
          · rw [HE.out.2, ← HV2.out.1, HDD.out]
            exact own_low HI.out.1 (by omega)
          · rw [HE.out.2]
            exact H2.out.1.trans (HI.out.2.mono (by omega))
end
end
section
open Go.RowKit Go.Shelf
attribute [local go_sem ↓] appSem_eq
set_option maxRecDepth 100000
theorem gains_flat : ∀ k : Nat, ((List.range (3 * k)).map fun i => ([1, 1, 2] : List Int).getD (i % 3) 0) = (List.replicate k [1, 1, 2]).flatten
  | 0 => rfl
  | k + 1 => by
    rw [show 3 * (k + 1) = 3 * k + 1 + 1 + 1 by omega, List.range_succ, List.range_succ, List.range_succ, List.map_append, List.map_append, List.map_append, gains_flat k, List.replicate_succ', List.flatten_append]
    have e0 : 3 * k % 3 = 0 := by omega
    have e1 : (3 * k + 1) % 3 = 1 := by omega
    have e2 : (3 * k + 1 + 1) % 3 = 2 := by omega
    simp [e0, e1, e2]
theorem flat_fld (d : Int) : ∀ l : List Int, (l.flatMap fun g => fldL 1 [8 * (d + g)]) = (l.map fun g => d + g).map fun x => 8 * x % 256
  | [] => rfl
  | x :: l => by rw [List.flatMap_cons, fldb1, flat_fld d l]; rfl
theorem bands_exp (r : Int) (cs : List Cp) (k : Nat) : bandsB r cs k = 96 :: (expL (maxD cs + r) k).map fun x => 8 * x % 256 := by
  unfold bandsB
  rw [flat_fld, bitsF_max]
  have e : (gainsL k).map (fun g => maxD cs + r + g) = expL (maxD cs + r) k := by
    unfold gainsL expL
    rw [gains_flat]
    simp only [List.map_append, List.map_cons, List.map_nil, List.map_flatten, List.map_replicate, Int.add_zero]
    rfl
  rw [e]
  rfl
theorem maxD_bd {cs : List Cp} (h : ∀ c ∈ cs, 0 ≤ c.d ∧ c.d ≤ 100) : 0 ≤ maxD cs ∧ maxD cs ≤ 100 := by
  unfold maxD
  have e : ∀ (l : List Cp) (b : Int), (∀ c ∈ l, 0 ≤ c.d ∧ c.d ≤ 100) → 0 ≤ b ∧ b ≤ 100 → 0 ≤ l.foldl (fun b c => if b < c.d then c.d else b) b ∧ l.foldl (fun b c => if b < c.d then c.d else b) b ≤ 100 := by
    intro l
    induction l with
    | nil => intro b _ hb; exact hb
    | cons c l ih =>
      intro b hl hb
      rw [List.foldl_cons]
      refine ih _ (fun x hx => hl x (List.mem_cons_of_mem _ hx)) ?_
      have := hl c List.mem_cons_self
      split <;> omega
  exact e cs 0 h (by omega)
theorem rg12 {w : World} {B : Nat} {h : HV} {t : TypeId} (hb : w.heap[B]? = some (.cells h.arr t (0, 0))) : w.rangeAt B 5 [.int .i64 h.TX, .int .i64 h.TY, .int .i64 h.LV, .int .i64 h.BW, .int .i64 h.BH, .int .i64 h.PR, .int .i64 h.ST, .int .i64 h.OD, .int .i64 h.LY, .bool h.RC, .bool h.SO, .bool h.EP] := by
  intro j v hv
  rw [rb_cell hb (5 + j)]
  match j, hv with
  | 0, hv => exact hv
  | 1, hv => exact hv
  | 2, hv => exact hv
  | 3, hv => exact hv
  | 4, hv => exact hv
  | 5, hv => exact hv
  | 6, hv => exact hv
  | 7, hv => exact hv
  | 8, hv => exact hv
  | 9, hv => exact hv
  | 10, hv => exact hv
  | 11, hv => exact hv
/-- A Head that can be written. -/
structure RHd (w : World) (h : HV) (cs : List Cp) (l : List Int) (k : Nat) : Prop where
  row : CpL w (.slice h.A h.N h.C) cs
  len : cs.length = h.N
  few : h.N ≤ 5
  com : Lst w w.heap.size h.SA (l.map (Value.int .u8))
  cn : h.SA = none → h.sn = 0
  cl : l.length = h.sn
  cb : h.sn ≤ 1000
  d : ∀ c ∈ cs, 0 ≤ c.d ∧ c.d ≤ 100
  lv : h.LV = (k : Int)
  k5 : k ≤ 5
  bw : 0 ≤ h.BW ∧ h.BW ≤ 1000
  bh : 0 ≤ h.BH ∧ h.BH ≤ 1000
  pr : 0 ≤ h.PR ∧ h.PR ≤ 1000
theorem RHd.below {w w' : World} {h : HV} {cs : List Cp} {l : List Int} {k : Nat} (H : RHd w h cs l k) (hb : Below w.heap.size w w') : RHd w' h cs l k :=
  ⟨H.row.below hb, H.len, H.few, (H.com.below hb).more hb.size, H.cn, H.cl, H.cb, H.d, H.lv, H.k5, H.bw, H.bh, H.pr⟩
set_option maxHeartbeats 8000000 in
theorem rsteps_any {w : World} {h : HV} {cs : List Cp} {l : List Int} {k : Nat} (H : RHd w h cs l k) :
    Calls Try.prog 31 #[.agg h.arr] w fun e w' => ∃ A' n' c', e = .returned (.slice A' n' c') ∧ By w.heap.size w' (.slice A' n' c') (bandsB (if h.RC then 1 else 0) cs k) ∧ Below w.heap.size w w' := by
  obtain ⟨B, hB⟩ : ∃ B, w.heap.size = B := ⟨_, rfl⟩
  obtain ⟨fc, hfc⟩ : ∃ fc, h.arr = fc := ⟨_, rfl⟩
  obtain ⟨w2, hw2⟩ : ∃ w2, (w.alloc (.cells fc 37)).alloc (.cells #[.int .u8 96] 5) = w2 := ⟨_, rfl⟩
  have H2 : Hid (Below B w w2 ∧ w2.heap[B]? = some (.cells fc 37 (0, 0)) ∧ By (B + 1) w2 (.slice (some ⟨B + 1, 0, none⟩) 1 1) [96] ∧ w2.heap.size = B + 2) := Lib.hid (by
    have h := allocs2 [Obj.cells fc 37, Obj.cells #[.int .u8 96] 5] w
    rw [show [Obj.cells fc 37, Obj.cells #[.int .u8 96] 5].foldl World.alloc w = w2 from hw2, hB] at h
    have hz : (w.alloc (.cells fc 37)).heap.size = B + 1 := by rw [← hB]; unfold World.alloc; simp
    have hy := by_lit (w.alloc (.cells fc 37)) [96] (by simp)
    rw [hz, show (w.alloc (.cells fc 37)).alloc (.cells (([96] : List Int).map (Value.int .u8)).toArray 5) = w2 from hw2] at hy
    exact ⟨h.2.1, h.2.2 0 _ rfl, hy, h.1⟩)
  have HE := Lib.hid (And.intro hw2 hB)
  have hTW : Below w.heap.size w w2 := by rw [hB]; exact H2.out.1
  have HX := H.below hTW
  have R5 : w2.rangeAt B 0 [.int .i64 h.X, .int .i64 h.Y, .int .i64 h.OX, .int .i64 h.OY, .slice h.A h.N h.C] := rg5 (by rw [hfc]; exact H2.out.2.1)
  have R12 : w2.rangeAt B 5 [.int .i64 h.TX, .int .i64 h.TY, .int .i64 h.LV, .int .i64 h.BW, .int .i64 h.BH, .int .i64 h.PR, .int .i64 h.ST, .int .i64 h.OD, .int .i64 h.LY, .bool h.RC, .bool h.SO, .bool h.EP] := rg12 (by rw [hfc]; exact H2.out.2.1)
  have EX := Lib.hid (rexp_any (X := h.X) (Y := h.Y) (OX := h.OX) (OY := h.OY) h.TX h.TY h.LV h.BW h.BH h.PR h.ST h.OD h.LY h.RC h.SO h.EP k HX.row HX.len HX.few HX.d HX.lv (by have := HX.k5; omega))
  have HR5 := Lib.hid (And.intro R5 R12)
  have hk5 : k ≤ 5 := H.k5
  obtain ⟨E, hE⟩ : ∃ E, expL (maxD cs + (if h.RC then 1 else 0)) k = E := ⟨_, rfl⟩
  have HEX : Hid (E.length = 1 + 3 * k ∧ bandsB (if h.RC then 1 else 0) cs k = 96 :: E.map fun x => 8 * x % 256) := Lib.hid ⟨by rw [← hE, expL_len], by rw [bands_exp, hE]⟩
  have hEb : ∀ x ∈ E, -1000 ≤ x ∧ x ≤ 1000 := by
    rw [← hE]
    have hm : 0 ≤ maxD cs ∧ maxD cs ≤ 100 := maxD_bd HX.d
    have hr : (if h.RC = true then (1 : Int) else 0) = 0 ∨ (if h.RC = true then (1 : Int) else 0) = 1 := by cases h.RC <;> simp
    intro x hx
    obtain ⟨d, hd⟩ : ∃ d, maxD cs + (if h.RC = true then (1 : Int) else 0) = d := ⟨_, rfl⟩
    rw [hd] at hx
    unfold expL at hx
    rcases List.mem_cons.1 hx with rfl | hx
    · omega
    · obtain ⟨y, hy, hx⟩ := List.mem_flatten.1 hx
      have := List.eq_of_mem_replicate hy
      subst this
      simp at hx
      omega
  have HEB := Lib.hid hEb
  rw [hE] at EX
  obtain ⟨BL, hBL⟩ : ∃ X, bandsB (if h.RC then 1 else 0) cs k = X := ⟨_, rfl⟩
  rw [hBL] at HEX ⊢
  rw [hfc]
  clear hBL hw2 hB hTW HX R5 R12 hE hEb H hfc
  go_enter Try.func31, Try.ntmps31
  go_upto_region 2 with fail
  rw [show (w.alloc (.cells fc 37)).alloc (.cells #[.int .u8 96] 5) = w2 from HE.out.1, HE.out.2]
  go_wp2_with (first | refine wpList_load_mid rfl 29 _ rfl B 0 rfl [.int .i64 h.X, .int .i64 h.Y, .int .i64 h.OX, .int .i64 h.OY, .slice h.A h.N h.C] _ HR5.out.1 Try.underlying29 rfl (by kernel_rfl) ?_ | refine wpList_load_mid rfl 31 _ rfl B 5 rfl [.int .i64 h.TX, .int .i64 h.TY, .int .i64 h.LV, .int .i64 h.BW, .int .i64 h.BH, .int .i64 h.PR, .int .i64 h.ST, .int .i64 h.OD, .int .i64 h.LY, .bool h.RC, .bool h.SO, .bool h.EP] _ HR5.out.2 Try.underlying31 rfl (by kernel_rfl) ?_)
  refine EX.out.mono ?_
  rintro e w3 ⟨A3, n3, c3, rfl, hy3, hb3⟩
  obtain ⟨p, cp, hv, hp1, hp2, _, _⟩ := own_form hy3 (by rw [HEX.out.1]; omega)
  injection hv with hv1 hv2 hv3
  subst hv1 hv3
  have hy4 := hy3
  unfold IntsB at hy4
  rw [← hv2] at hy4
  have H3 : Hid (By (B + 1) w3 (.slice (some ⟨B + 1, 0, none⟩) 1 1) [96] ∧ Below (B + 1) w2 w3 ∧ w3.heap.size ≤ w3.heap.size ∧ p < w3.heap.size ∧ B + 2 ≤ p ∧ Lst w3 w3.heap.size (some ⟨p, 0, none⟩) (E.map (Value.int .i64))) := Lib.hid (by
    have h1 := H2.out
    refine ⟨h1.2.2.1.below hb3, hb3.mono (by omega), Nat.le_refl _, hp2, by have := h1.2.2.2; omega, Lst.own hy4⟩)
  obtain ⟨ne, hne⟩ : ∃ n, E.length = n := ⟨_, rfl⟩
  rw [hne] at hv2
  subst hv2
  have HNE : Hid (E.length = n3 ∧ n3 = 1 + 3 * k) := Lib.hid ⟨hne, by rw [← hne]; exact HEX.out.1⟩
  have hn16 : n3 ≤ 16 := by have := HNE.out.2; omega
  clear hy3 hy4 hb3 hp1 hp2 hne EX
  go_wp2_with fail
  go_loopg [3, 5] n3 (fun gh a v wr => ∃ (j : Nat) (A' : Option Addr) (n' c' : Nat), j + gh = n3 ∧ a = .slice A' n' c' ∧ v = .int .i64 (j : Int) ∧ Hid (By (B + 1) wr (.slice A' n' c') (96 :: (E.take j).map fun x => 8 * x % 256) ∧ Below (B + 1) w2 wr ∧ wr.heap[p]? = w3.heap[p]? ∧ p < wr.heap.size ∧ (Value.slice A' n' c').ownBlock ≠ some p))
  case atStart => exact ⟨0, _, 1, 1, by omega, rfl, rfl, Lib.hid ⟨by simpa using H3.out.1, H3.out.2.1, rfl, H3.out.2.2.2.1, fun e => by have e2 : some (B + 1) = some p := e; injection e2 with e2; have := H3.out.2.2.2.2.1; omega⟩⟩
  case round =>
    obtain ⟨j, A6, n6, c6, hjg, rfl, rfl, HI⟩ := hrel
    obtain ⟨wa, hwa⟩ : ∃ wa, wa = wr := ⟨wr, rfl⟩
    subst hwa
    by_cases hj : j < n3
    · obtain ⟨g1, rfl⟩ : ∃ g1, gk = g1 + 1 := ⟨gk - 1, by omega⟩
      have hjI : (j : Int) < (n3 : Int) ∧ (0 : Int) ≤ (j : Int) := by omega
      obtain ⟨x, hx⟩ : ∃ x, E[j]? = some x := ⟨_, List.getElem?_eq_getElem (by rw [HNE.out.1]; exact hj)⟩
      have hxb := HEB.out x (List.mem_of_getElem? hx)
      have cj : wa.cell? ⟨p, j, none⟩ = some (.int .i64 x) := by
        obtain ⟨b', o', q1, q2, q3⟩ := H3.out.2.2.2.2.2 j (.int .i64 x) (by rw [List.getElem?_map, hx]; rfl)
        injection q1 with q1
        injection q1 with q4 q5
        subst q4
        subst q5
        rw [Nat.zero_add] at q3
        rw [← q3]
        simp [World.cell?, HI.out.2.2.1]
      have hsz : B + 1 ≤ wa.heap.size := by have := HI.out.2.1.size; have := H2.out.2.2.2; omega
      have q1 : IntKind.i64.wrap (8 * x) = 8 * x := IntWalk.i64_in _ (by omega)
      have q2 : IntKind.u8.wrap (8 * x) = 8 * x % 256 := rfl
      obtain ⟨A9, n9, c9, w9, hr, hy9, hg9⟩ := app_new [8 * x % 256] HI.out.1 hsz (by simp only [List.length_cons, List.length_map, List.length_take, List.length_nil]; omega)
      have hr2 : (appSem #[25, 25] 25 #[.slice A6 n6 c6, .slice (some ⟨wa.heap.size, 0, none⟩) 1 1]).run Try.prog (wa.alloc (.cells #[.int .u8 (8 * x % 256)] 5)) = .ok (.slice A9 n9 c9) w9 := hr
      have HN : Hid (By (B + 1) w9 (.slice A9 n9 c9) (96 :: (E.take (j + 1)).map fun x => 8 * x % 256) ∧ Below (B + 1) w2 w9 ∧ w9.heap[p]? = w3.heap[p]? ∧ p < w9.heap.size ∧ (Value.slice A9 n9 c9).ownBlock ≠ some p) := Lib.hid (by
        have hk := hg9.keepL HI.out.2.2.2.1 HI.out.2.2.2.2
        refine ⟨?_, Gro.bel HI.out.1 HI.out.2.1 hsz hg9, hk.1.trans HI.out.2.2.1, hk.2.2, hk.2.1⟩
        rw [List.take_add_one, hx]
        simpa using hy9)
      clear hr hy9 hg9 HI hx hxb hsz
      go_wp2
      go_roundg g1
      case measure => omega
      case rel => exact ⟨j + 1, A9, n9, c9, by omega, rfl, by simp, HN⟩
    · obtain rfl : j = n3 := by omega
      have hlc : ¬ (j : Int) < (j : Int) := by omega
      have hf := HI.out.1
      rw [List.take_of_length_le (by rw [HNE.out.1]; exact Nat.le_refl _), ← HEX.out.2] at hf
      have HF := Lib.hid hf
      clear hf
      go_wp2
      go_ret
      exact ⟨_, _, _, rfl, by rw [HE.out.2]; exact HF.out.low (Nat.le_succ B), by rw [HE.out.2]; exact H2.out.1.trans (HI.out.2.1.mono (Nat.le_succ B))⟩
set_option maxHeartbeats 4000000 in
/-- A head as the document's. -/
theorem toref_any (h : HV) (w : World) : Calls Try.prog 15 #[.agg h.arr] w fun e w' => e = .returned (.agg h.arr) ∧ Below w.heap.size w w' := by
  obtain ⟨X, Y, OX, OY, A, N, C, TX, TY, LV, BW, BH, PR, ST, OD, LY, RC, SO, EP, SA, sn, sc⟩ := h
  go_enter Try.func15, Try.ntmps15
  obtain ⟨B, hB⟩ : ∃ B, w.heap.size = B := ⟨_, rfl⟩
  obtain ⟨w2, hw2⟩ : ∃ w2, (w.alloc (.cells (HV.arr ⟨X, Y, OX, OY, A, N, C, TX, TY, LV, BW, BH, PR, ST, OD, LY, RC, SO, EP, SA, sn, sc⟩) 33)).alloc (.cells #[.int .i64 0, .int .i64 0, .int .i64 0, .int .i64 0, .slice none 0 0, .int .i64 0, .int .i64 0, .int .i64 0, .int .i64 0, .int .i64 0, .int .i64 0, .int .i64 0, .int .i64 0, .int .i64 0, .bool false, .bool false, .bool false, .slice none 0 0] 37) = w2 := ⟨_, rfl⟩
  have H2 : Hid (Below B w w2 ∧ w2.heap[B]? = some (.cells (HV.arr ⟨X, Y, OX, OY, A, N, C, TX, TY, LV, BW, BH, PR, ST, OD, LY, RC, SO, EP, SA, sn, sc⟩) 33 (0, 0)) ∧ w2.heap[B + 1]? = some (.cells #[.int .i64 0, .int .i64 0, .int .i64 0, .int .i64 0, .slice none 0 0, .int .i64 0, .int .i64 0, .int .i64 0, .int .i64 0, .int .i64 0, .int .i64 0, .int .i64 0, .int .i64 0, .int .i64 0, .bool false, .bool false, .bool false, .slice none 0 0] 37 (0, 0))) := Lib.hid (by
    have h := allocs2 [Obj.cells (HV.arr ⟨X, Y, OX, OY, A, N, C, TX, TY, LV, BW, BH, PR, ST, OD, LY, RC, SO, EP, SA, sn, sc⟩) 33, Obj.cells #[.int .i64 0, .int .i64 0, .int .i64 0, .int .i64 0, .slice none 0 0, .int .i64 0, .int .i64 0, .int .i64 0, .int .i64 0, .int .i64 0, .int .i64 0, .int .i64 0, .int .i64 0, .int .i64 0, .bool false, .bool false, .bool false, .slice none 0 0] 37] w
    rw [show List.foldl World.alloc w [Obj.cells (HV.arr ⟨X, Y, OX, OY, A, N, C, TX, TY, LV, BW, BH, PR, ST, OD, LY, RC, SO, EP, SA, sn, sc⟩) 33, Obj.cells #[.int .i64 0, .int .i64 0, .int .i64 0, .int .i64 0, .slice none 0 0, .int .i64 0, .int .i64 0, .int .i64 0, .int .i64 0, .int .i64 0, .int .i64 0, .int .i64 0, .int .i64 0, .int .i64 0, .bool false, .bool false, .bool false, .slice none 0 0] 37] = w2 from hw2, hB] at h
    exact ⟨h.2.1, h.2.2 0 _ rfl, h.2.2 1 _ rfl⟩)
  have HR5 := Lib.hid (And.intro (rg5 H2.out.2.1) (rg12 H2.out.2.1))
  have c17 : w2.cell? ⟨B, 17, none⟩ = some (.slice SA sn sc) := rb_cell H2.out.2.1 17
  go_upto_region 1 with fail
  have HB := Lib.hid hB
  clear hB hw2
  obtain ⟨Z, hZ⟩ : ∃ Z : Array Value, HV.arr ⟨X, Y, OX, OY, A, N, C, TX, TY, LV, BW, BH, PR, ST, OD, LY, RC, SO, EP, SA, sn, sc⟩ = Z := ⟨_, rfl⟩
  go_wp2_with (first | refine wpList_load_mid rfl 29 _ rfl B 0 rfl [.int .i64 X, .int .i64 Y, .int .i64 OX, .int .i64 OY, .slice A N C] _ HR5.out.1 Try.underlying29 rfl (by kernel_rfl) ?_ | refine wpList_load_mid rfl 31 _ rfl B 5 rfl [.int .i64 TX, .int .i64 TY, .int .i64 LV, .int .i64 BW, .int .i64 BH, .int .i64 PR, .int .i64 ST, .int .i64 OD, .int .i64 LY, .bool RC, .bool SO, .bool EP] _ HR5.out.2 Try.underlying31 rfl (by kernel_rfl) ?_ | refine wpList_store_row rfl 37 _ _ rfl (B + 1) #[.int .i64 X, .int .i64 Y, .int .i64 OX, .int .i64 OY, .slice A N C, .int .i64 TX, .int .i64 TY, .int .i64 LV, .int .i64 BW, .int .i64 BH, .int .i64 PR, .int .i64 ST, .int .i64 OD, .int .i64 LY, .bool RC, .bool SO, .bool EP, .slice SA sn sc] rfl rfl 37 #[.int .i64 0, .int .i64 0, .int .i64 0, .int .i64 0, .slice none 0 0, .int .i64 0, .int .i64 0, .int .i64 0, .int .i64 0, .int .i64 0, .int .i64 0, .int .i64 0, .int .i64 0, .int .i64 0, .bool false, .bool false, .bool false, .slice none 0 0] H2.out.2.2 (by kernel_rfl) (by rfl) (by kernel_rfl) ?_)
  have hz := setRow_heap w2 (B + 1) _ #[.int .i64 X, .int .i64 Y, .int .i64 OX, .int .i64 OY, .slice A N C, .int .i64 TX, .int .i64 TY, .int .i64 LV, .int .i64 BW, .int .i64 BH, .int .i64 PR, .int .i64 ST, .int .i64 OD, .int .i64 LY, .bool RC, .bool SO, .bool EP, .slice SA sn sc] _ _ H2.out.2.2
  have hZ2 : #[.int .i64 X, .int .i64 Y, .int .i64 OX, .int .i64 OY, .slice A N C, .int .i64 TX, .int .i64 TY, .int .i64 LV, .int .i64 BW, .int .i64 BH, .int .i64 PR, .int .i64 ST, .int .i64 OD, .int .i64 LY, .bool RC, .bool SO, .bool EP, .slice SA sn sc] = Z := hZ
  refine bodyPost_ret (v := .agg Z) ?_ rfl ?_
  · rw [hZ2] at hz ⊢
    exact results_cell_row (p := 2) (ty := 37) rfl _ _ (B + 1) 37 Z (0, 0) _ rfl hz Try.underlying37 rfl (by rw [← hZ]; kernel_rfl)
  · refine ⟨by rw [← hZ], ?_⟩
    rw [HB.out]
    exact below_setRow H2.out.1 (by omega) _
theorem By.sep {b1 b2 : Nat} {w w' : World} {v v2 : Value} {X : List Int} (h : By b2 w v2 X) (hg : w.grownBy w' v.ownBlock) (hs : ∀ k, v.ownBlock = some k → v2.ownBlock ≠ some k) : By b2 w' v2 X := by
  refine World.ownsRow.kept h hg ?_
  cases hv : v2.ownBlock with
  | none => exact .inl rfl
  | some k => exact .inr fun e => hs k e.symm hv
set_option maxHeartbeats 16000000 in
/-- The document's Main. -/
theorem rmain_any {w : World} {h : HV} {cs : List Cp} {l : List Int} {k : Nat} (H : RHd w h cs l k) :
    Calls Try.prog 14 #[.agg h.arr] w fun e w' => ∃ A' n' c', e = .returned (.slice A' n' c') ∧ By w.heap.size w' (.slice A' n' c') (mainL h cs l k) ∧ Below w.heap.size w w' := by
  obtain ⟨B, hB⟩ : ∃ B, w.heap.size = B := ⟨_, rfl⟩
  obtain ⟨fc, hfc⟩ : ∃ fc, h.arr = fc := ⟨_, rfl⟩
  obtain ⟨w1, hw1⟩ : ∃ w1, w.alloc (.cells fc 37) = w1 := ⟨_, rfl⟩
  have H1 : Hid (Below B w w1 ∧ w1.heap[B]? = some (.cells fc 37 (0, 0)) ∧ w1.heap.size = B + 1) := Lib.hid ⟨by rw [← hw1, ← hB]; exact (Below.refl _ _).alloc (Nat.le_refl _) _, by rw [← hw1, ← hB]; exact World.alloc_heap_new w _, by rw [← hw1, ← hB]; simp⟩
  have HE := Lib.hid (And.intro hw1 hB)
  have TW : Hid (∀ u, Below (B + 1) w1 u → RHd u h cs l k) := Lib.hid fun u hu => by
    refine H.below ?_
    rw [hB]
    exact H1.out.1.trans (hu.mono (by omega))
  have KB : Hid (∀ u, Below (B + 1) w1 u → u.heap[B]? = some (.cells fc 37 (0, 0))) := Lib.hid fun u hu => (hu.block B (by omega)).trans H1.out.2.1
  have SZ : Hid (∀ u : World, Below (B + 1) w1 u → B + 1 ≤ u.heap.size) := Lib.hid fun u hu => by have := hu.size; rw [H1.out.2.2] at this; exact this
  have RP : Hid (∀ u, Below (B + 1) w1 u → u.rangeAt B 5 [.int .i64 h.TX, .int .i64 h.TY, .int .i64 h.LV, .int .i64 h.BW, .int .i64 h.BH, .int .i64 h.PR, .int .i64 h.ST, .int .i64 h.OD, .int .i64 h.LY, .bool h.RC, .bool h.SO, .bool h.EP]) := Lib.hid fun u hu => rg12 (by rw [hfc]; exact KB.out u hu)
  have C17 : Hid (∀ u, Below (B + 1) w1 u → u.cell? ⟨B, 17, none⟩ = some (.slice h.SA h.sn h.sc)) := Lib.hid fun u hu => by
    rw [rb_cell (KB.out u hu) 17, ← hfc]
    rfl
  have SI : Hid (∀ u, Below (B + 1) w1 u → Calls Try.prog 29 #[.agg fc] u fun e w' => ∃ A' n' c', e = .returned (.slice A' n' c') ∧ By u.heap.size w' (.slice A' n' c') (sizeL h cs) ∧ Below u.heap.size u w') := Lib.hid fun u hu => by
    rw [← hfc]
    have hx := TW.out u hu
    exact rsizes_any hx.row hx.len hx.few hx.d
  have WY : Hid (∀ u, Below (B + 1) w1 u → Calls Try.prog 30 #[.agg #[.int .i64 h.TX, .int .i64 h.TY, .int .i64 h.LV, .int .i64 h.BW, .int .i64 h.BH, .int .i64 h.PR, .int .i64 h.ST, .int .i64 h.OD, .int .i64 h.LY, .bool h.RC, .bool h.SO, .bool h.EP]] u fun e w' => ∃ A' n' c', e = .returned (.slice A' n' c') ∧ By u.heap.size w' (.slice A' n' c') (codH h k) ∧ Below u.heap.size u w') := Lib.hid fun u hu => by
    have hx := TW.out u hu
    exact rways_any h.TX h.TY h.LV h.BW h.BH h.PR h.ST h.OD h.LY h.RC h.SO h.EP k u hx.lv (by have := hx.k5; omega) hx.bw hx.bh hx.pr
  have ST : Hid (∀ u, Below (B + 1) w1 u → Calls Try.prog 31 #[.agg fc] u fun e w' => ∃ A' n' c', e = .returned (.slice A' n' c') ∧ By u.heap.size w' (.slice A' n' c') (bandsB (if h.RC then 1 else 0) cs k) ∧ Below u.heap.size u w') := Lib.hid fun u hu => by
    rw [← hfc]
    exact rsteps_any (TW.out u hu)
  have hfs : fc.size = 18 := by rw [← hfc]; rfl
  have HLN : Hid ((sizeL h cs).length ≤ 60 ∧ (codH h k).length ≤ 20 ∧ (bandsB (if h.RC then 1 else 0) cs k).length ≤ 20 ∧ l.length = h.sn ∧ h.sn ≤ 1000 ∧ (h.SA = none → h.sn = 0)) := Lib.hid ⟨by rw [sizeL_len]; have := H.len; have := H.few; omega, by unfold codH; rw [codL_len]; have := H.k5; omega, by rw [bandsB_len]; have := H.k5; omega, H.cl, H.cb, H.cn⟩
  have SEG : Hid (∀ (u : World) (A Ax : Option Addr) (n c nx cx : Nat) (mk : Int) (X L : List Int) (b2 : Nat), Below (B + 1) w1 u → By (B + 1) u (.slice A n c) X → X.length ≤ 5000 → By b2 u (.slice Ax nx cx) L → L.length ≤ 2000 → (∀ q, (Value.slice A n c).ownBlock = some q → (Value.slice Ax nx cx).ownBlock ≠ some q) →
      Calls Try.prog 27 #[.slice A n c, .int .i64 mk, .slice Ax nx cx] u fun e w' => ∃ A' n' c', e = .returned (.slice A' n' c') ∧ By (B + 1) w' (.slice A' n' c') (X ++ segL mk L) ∧ Below (B + 1) w1 w') := Lib.hid fun u A Ax n c nx cx mk X L b2 hu hy hl hx hxl hs => by
    obtain ⟨A0, c0, hv, hA, _⟩ := By.form hx
    injection hv with hv1 hv2 hv3
    refine (rseg_gro mk hy (SZ.out u hu) (by omega) hv2.symm (by omega) (fun e => by rw [hv2]; exact (hA (by rw [← hv1]; exact e)).1) (fun w' hg => (By.sep (b1 := 0) hx hg hs).lst)).mono ?_
    rintro e w' ⟨A', n', c', rfl, h1, h2⟩
    exact ⟨A', n', c', rfl, h1, Gro.bel hy hu (SZ.out u hu) h2⟩
  have HX := Lib.hid H
  have HML : Hid (mainL h cs l k = putL 65359 2 ++ segL 65361 (sizeL h cs) ++ segL 65362 (codH h k) ++ segL 65372 (bandsB (if h.RC then 1 else 0) cs k) ++ (if 0 < h.sn then segL 65380 (0 :: 1 :: l) else [])) := Lib.hid (by
    unfold mainL headL
    rw [fldL_one]
    rfl)
  obtain ⟨SS, hSS⟩ : ∃ X, sizeL h cs = X := ⟨_, rfl⟩
  obtain ⟨CC, hCC⟩ : ∃ X, codH h k = X := ⟨_, rfl⟩
  obtain ⟨BL, hBL⟩ : ∃ X, bandsB (if h.RC then 1 else 0) cs k = X := ⟨_, rfl⟩
  obtain ⟨sn, hsn⟩ : ∃ n, h.sn = n := ⟨_, rfl⟩
  obtain ⟨SA, hSA⟩ : ∃ n, h.SA = n := ⟨_, rfl⟩
  obtain ⟨sc, hsc⟩ : ∃ n, h.sc = n := ⟨_, rfl⟩
  rw [hSS] at SI HML
  rw [hCC] at WY HML
  rw [hBL] at ST HML
  rw [hSS, hCC, hBL, hsn, hSA] at HLN
  rw [hsn] at HML C17
  rw [hSA, hsc] at C17
  have HCO : Hid (∀ u, Below (B + 1) w1 u → Lst u u.heap.size SA (l.map (Value.int .u8))) := Lib.hid fun u hu => by rw [← hSA]; exact (TW.out u hu).com
  obtain ⟨ML, hML⟩ : ∃ X, mainL h cs l k = X := ⟨_, rfl⟩
  rw [hML] at HML ⊢
  rw [hfc]
  clear hw1 hB hfc H hSS hCC hBL hsn hSA hsc hML TW KB HX
  have HR1 : Hid (Below (B + 1) w1 w1) := Lib.hid (Below.refl _ _)
  go_enter Try.func14, Try.ntmps14
  go_upto_region 1 with fail
  rw [show w.alloc (.cells fc 37) = w1 from HE.out.1, HE.out.2]
  obtain ⟨VL, hVL⟩ : ∃ VL : (Option Addr × Nat × Nat) × (Option Addr × Nat × Nat) × (Option Addr × Nat × Nat) → List (Nat × Nat × Value), VL = fun z => [(0, 4, .slice z.1.1 z.1.2.1 z.1.2.2), (1, 5, .agg fc), (2, 6, .slice z.2.1.1 z.2.1.2.1 z.2.1.2.2), (3, 7, .slice z.2.2.1 z.2.2.2.1 z.2.2.2.2), (4, 3, .slice z.2.2.1 z.2.2.2.1 z.2.2.2.2)] := ⟨_, rfl⟩
  have hok : ∀ z, manyOk 28 (VL z) := fun z => by rw [hVL]; exact okB_ok rfl
  have HVL := Lib.hid hVL
  have hvi : ∀ z, ∀ x ∈ VL z, x.1 < 5 := fun z => by rw [hVL]; exact ltB_ok rfl
  have HOK := Lib.hid hok
  have HVI := Lib.hid hvi
  clear hVL hok hvi
  refine (wpIn_wide (n := 9)).1 (regionIn_many (N := 28) (w := _) VL (fun L z w' => ((L 3 = false → Below (B + 1) w1 w') ∧ (L 3 = false → L 0 = true → By (B + 1) w' (.slice z.1.1 z.1.2.1 z.1.2.2) (putL 65359 2)) ∧ (L 3 = false → L 2 = true → By (B + 1) w' (.slice z.2.1.1 z.2.1.2.1 z.2.1.2.2) SS) ∧ (L 3 = false → L 0 = true → L 2 = true → ∀ q, (Value.slice z.1.1 z.1.2.1 z.1.2.2).ownBlock = some q → (Value.slice z.2.1.1 z.2.1.2.1 z.2.1.2.2).ownBlock ≠ some q) ∧ (L 3 = true → By (B + 1) w' (.slice z.2.2.1 z.2.2.2.1 z.2.2.2.2) (putL 65359 2 ++ segL 65361 SS) ∧ Below (B + 1) w1 w')) ∧ True) [(1, .pointer (some ⟨B, 0, none⟩))] (by kernel_rfl) (by kernel_rfl) rfl (by simp only [List.forall_mem_cons, List.not_mem_nil, false_imp_iff, implies_true, and_true]; exact rfl) HVI.out ((none, 0, 0), (none, 0, 0), (none, 0, 0)) ?start ?step ?fin)
  case start => exact ⟨⟨fun _ => HR1.out.drew, fun _ h => (by cases h), fun _ h => (by cases h), fun _ h => (by cases h), fun h => (by cases h)⟩, trivial⟩
  case step =>
    intro gg_ hgN hgF ii_ hii_ L z w' hph hs hu
    obtain ⟨hcm, hph⟩ := hph
    have hF1 := hgF (1, .pointer (some ⟨B, 0, none⟩)) (by simp)
    have hL := hu.1
    have hii_ : ii_ < 5 := hii_
    clear hgF
    obtain rfl | rfl | rfl | rfl | rfl := (by omega : ii_ = 0 ∨ ii_ = 1 ∨ ii_ = 2 ∨ ii_ = 3 ∨ ii_ = 4)
    · skip
      have n2 : L 2 = false := not_yet hL fun h => shut_at hs 2 0 (by kernel_rfl) (h)
      have n3 : L 3 = false := not_yet hL fun h => shut_at hs 3 0 (by kernel_rfl) (h)
      have n4 : L 4 = false := not_yet hL fun h => shut_at hs 4 0 (by kernel_rfl) (h)
      refine opIn_call (f := 28) (args := #[.slice none 0 0, .int .i64 2, .int .i64 65359]) (w' := w') rfl rfl (fun c h => by cases h) (fun _ => trivial) rfl (by go_simp) ((callsIn_wide.2 (rput_gro 2 65359 (By.nil w'.heap.size w') (Nat.le_refl _) (by omega) (by simp))).mono ?_)
      rintro e w2 ⟨A0, n0_, c0, rfl, hy0, hg0⟩
      have hb0 : Below w'.heap.size w' w2 := (By.nil w'.heap.size w').bel (Below.refl _ _) (Nat.le_refl _) hg0.g
      exact ⟨_, rfl, ((A0, n0_, c0), z.2), by rw [show many gg_ L (VL z) = many gg_ L (VL ((A0, n0_, c0), z.2)) from by rw [HVL.out]; simp only [many, n2, n3, n4, hL, cond_false, cond_true]]; exact many_put3 (HOK.out _) (by rw [HVL.out]; rfl) hL, ⟨fun _ => (hcm.1 n3).trans (hb0.mono (SZ.out _ (hcm.1 n3))), fun _ _ => hy0.low (SZ.out _ (hcm.1 n3)), fun _ a => (hcm.2.2.1 n3 (by simpa [upd] using a)).below hb0, fun _ _ a q hq e => (by have h1 := (own_lt hy0 hq).1; have h2 := (own_lt (hcm.2.2.1 n3 (by simpa [upd] using a)) e).2; omega), fun a => absurd a (by simp [upd, n3])⟩, trivial⟩
    · skip
      have n2 : L 2 = false := not_yet hL fun h => shut_at hs 2 1 (by kernel_rfl) (h)
      have n3 : L 3 = false := not_yet hL fun h => shut_at hs 2 1 (by kernel_rfl) (shut_at hs 3 2 (by kernel_rfl) (h))
      have n4 : L 4 = false := not_yet hL fun h => shut_at hs 4 1 (by kernel_rfl) (h)
      have e1 : (many gg_ L (VL z))[1]?.getD undef = .pointer (some ⟨B, 0, none⟩) := many_out3 hgN (HOK.out z) (by rw [HVL.out]; rfl) hF1
      refine opIn_run (v := .agg fc) (w' := w') rfl rfl (fun c h => by cases h) (fun _ => trivial) ?_ ⟨z, by exact many_put3 (HOK.out _) (by rw [HVL.out]; rfl) hL, hcm, trivial⟩
      exact run_load_many e1 ((hcm.1 n3).block B (by have := H1.out.2.2; omega) |>.trans H1.out.2.1) Try.underlying37 rfl (by rw [hfs]; kernel_rfl)
    · skip
      have y0 : L 0 = true := up_at hu 0 (by kernel_rfl)
      have y1 : L 1 = true := up_at hu 1 (by kernel_rfl)
      have n3 : L 3 = false := not_yet hL fun h => shut_at hs 3 2 (by kernel_rfl) (h)
      have n4 : L 4 = false := not_yet hL fun h => shut_at hs 4 2 (by kernel_rfl) (h)
      have e5 : (many gg_ L (VL z))[5]?.getD undef = .agg fc := many_eval3 hgN (HOK.out z) (by rw [HVL.out]; rfl) y1
      refine opIn_call (f := 29) (args := #[.agg fc]) (w' := w') rfl rfl (fun c h => by cases h) (fun _ => trivial) rfl (by go_simp) ((callsIn_wide.2 (SI.out w' (hcm.1 n3))).mono ?_)
      rintro e w2 ⟨A0, n0_, c0, rfl, hy0, hb0⟩
      exact ⟨_, rfl, (z.1, (A0, n0_, c0), z.2.2), by rw [show many gg_ L (VL z) = many gg_ L (VL (z.1, (A0, n0_, c0), z.2.2)) from by rw [HVL.out]; simp only [many, y0, y1, n3, n4, hL, cond_false, cond_true]]; exact many_put3 (HOK.out _) (by rw [HVL.out]; rfl) hL, ⟨fun _ => (hcm.1 n3).trans (hb0.mono (SZ.out _ (hcm.1 n3))), fun _ a => (hcm.2.1 n3 (by simpa [upd] using a)).below hb0, fun _ _ => hy0.low (SZ.out _ (hcm.1 n3)), fun _ a _ q hq e => (by have h1 := (own_lt (hcm.2.1 n3 (by simpa [upd] using a)) hq).2; have h2 := (own_lt hy0 e).1; omega), fun a => absurd a (by simp [upd, n3])⟩, trivial⟩
    · skip
      have y0 : L 0 = true := up_at hu 0 (by kernel_rfl)
      have y2 : L 2 = true := up_at hu 2 (by kernel_rfl)
      have n4 : L 4 = false := not_yet hL fun h => shut_at hs 4 3 (by kernel_rfl) (h)
      have e4 : (many gg_ L (VL z))[4]?.getD undef = .slice z.1.1 z.1.2.1 z.1.2.2 := many_eval3 hgN (HOK.out z) (by rw [HVL.out]; rfl) y0
      have e6 : (many gg_ L (VL z))[6]?.getD undef = .slice z.2.1.1 z.2.1.2.1 z.2.1.2.2 := many_eval3 hgN (HOK.out z) (by rw [HVL.out]; rfl) y2
      refine opIn_call (f := 27) (args := #[.slice z.1.1 z.1.2.1 z.1.2.2, .int .i64 65361, .slice z.2.1.1 z.2.1.2.1 z.2.1.2.2]) (w' := w') rfl rfl (fun c h => by cases h) (fun _ => trivial) rfl (by go_simp) ((callsIn_wide.2 (SEG.out w' _ _ _ _ _ _ 65361 _ _ _ (hcm.1 hL) (hcm.2.1 hL y0) (by rw [putL_len]; omega) (hcm.2.2.1 hL y2) (by have := HLN.out.1; omega) (hcm.2.2.2.1 hL y0 y2))).mono ?_)
      rintro e w2 ⟨A0, n0_, c0, rfl, hy0, hb0⟩
      exact ⟨_, rfl, (z.1, z.2.1, (A0, n0_, c0)), by rw [show many gg_ L (VL z) = many gg_ L (VL (z.1, z.2.1, (A0, n0_, c0))) from by rw [HVL.out]; simp only [many, y0, y2, n4, hL, cond_false, cond_true]]; exact many_put3 (HOK.out _) (by rw [HVL.out]; rfl) hL, ⟨fun a => absurd a (by simp [upd_self]), fun a => absurd a (by simp [upd_self]), fun a => absurd a (by simp [upd_self]), fun a => absurd a (by simp [upd_self]), fun _ => ⟨hy0, hb0⟩⟩, trivial⟩
    · skip
      have y0 : L 0 = true := up_at hu 0 (by kernel_rfl)
      have y1 : L 1 = true := up_at hu 1 (by kernel_rfl)
      have y2 : L 2 = true := up_at hu 2 (by kernel_rfl)
      have y3 : L 3 = true := up_at hu 3 (by kernel_rfl)
      have e7 : (many gg_ L (VL z))[7]?.getD undef = .slice z.2.2.1 z.2.2.2.1 z.2.2.2.2 := many_eval3 hgN (HOK.out z) (by rw [HVL.out]; rfl) y3
      refine opIn_run (v := .slice z.2.2.1 z.2.2.2.1 z.2.2.2.2) (w' := w') rfl rfl (fun c h => by cases h) (fun _ => trivial) ?_ ⟨z, by exact many_put3 (HOK.out _) (by rw [HVL.out]; rfl) hL, hcm, hph⟩
      go_simp
  case fin =>
    intro L z w' hall hph
    obtain ⟨hcm, hph⟩ := hph
    have KF := hcm.2.2.2.2 (hall 3 (by decide))
    obtain ⟨z1, z2, A1, n1, c1⟩ := z
    simp only at KF
    have KF := Lib.hid KF
    clear hcm hph
    rw [HVL.out]
    dsimp only [manyL, List.set_cons_zero, List.set_cons_succ]
    clear hall HVL HOK HVI
    obtain ⟨w2, hw2⟩ : ∃ w2, w' = w2 := ⟨_, rfl⟩
    rw [hw2] at KF ⊢
    clear hw2
    go_wp2_with (refine wpList_load_mid rfl 31 _ rfl B 5 rfl [.int .i64 h.TX, .int .i64 h.TY, .int .i64 h.LV, .int .i64 h.BW, .int .i64 h.BH, .int .i64 h.PR, .int .i64 h.ST, .int .i64 h.OD, .int .i64 h.LY, .bool h.RC, .bool h.SO, .bool h.EP] _ (RP.out _ KF.out.2) Try.underlying31 rfl (by kernel_rfl) ?_)
    refine (WY.out w2 KF.out.2).mono ?_
    rintro e w3 ⟨A2, n2, c2, rfl, hy2, hb2⟩
    have hB3 : Below (B + 1) w1 w3 := KF.out.2.trans (hb2.mono (SZ.out _ KF.out.2))
    have SG := Lib.hid (SEG.out w3 _ _ _ _ _ _ 65362 _ _ _ hB3 (KF.out.1.below hb2) (by rw [List.length_append, putL_len, segL_len]; have := HLN.out.1; omega) hy2 (by have := HLN.out.2.1; omega) (fun q hq e => by have h1 := (own_lt KF.out.1 hq).2; have h2 := (own_lt hy2 e).1; omega))
    clear hy2 hb2 hB3 KF
    go_wp2_with fail
    refine SG.out.mono ?_
    rintro e w4 ⟨A3, n3, c3, rfl, hy3, hb3⟩
    have KF := Lib.hid (And.intro hy3 hb3)
    have KB4 := Lib.hid ((hb3.block B (by have := H1.out.2.2; omega)).trans H1.out.2.1)
    clear hy3 hb3 SG
    go_wp2_with (refine wpList_load_row rfl 37 _ rfl B rfl 37 fc (0, 0) _ KB4.out Try.underlying37 rfl (by rw [hfs]; kernel_rfl) ?_)
    refine (ST.out w4 KF.out.2).mono ?_
    rintro e w5 ⟨A4, n4, c4, rfl, hy4, hb4⟩
    have hB5 : Below (B + 1) w1 w5 := KF.out.2.trans (hb4.mono (SZ.out _ KF.out.2))
    have SG := Lib.hid (SEG.out w5 _ _ _ _ _ _ 65372 _ _ _ hB5 (KF.out.1.below hb4) (by rw [List.length_append, List.length_append, putL_len, segL_len, segL_len]; have := HLN.out.1; have := HLN.out.2.1; omega) hy4 (by have := HLN.out.2.2.1; omega) (fun q hq e => by have h1 := (own_lt KF.out.1 hq).2; have h2 := (own_lt hy4 e).1; omega))
    clear hy4 hb4 hB5 KF KB4
    go_wp2_with fail
    refine SG.out.mono ?_
    rintro e w6 ⟨A5, n5, c5, rfl, hy5, hb5⟩
    have c17 := C17.out w6 hb5
    have KF := Lib.hid (And.intro hy5 hb5)
    clear hy5 hb5 SG
    by_cases h0 : 0 < sn
    · have h0I : (0 : Int) < (sn : Int) := by omega
      obtain ⟨w7, hw7⟩ : ∃ w7, w6.alloc (.cells #[.int .u8 0, .int .u8 1] 5) = w7 := ⟨_, rfl⟩
      obtain ⟨p, hp⟩ : ∃ p, w6.heap.size = p := ⟨_, rfl⟩
      have hb7 : Below w6.heap.size w6 w7 := by rw [← hw7]; exact (Below.refl _ _).alloc (Nat.le_refl _) _
      have hB7 : Below (B + 1) w1 w7 := KF.out.2.trans (hb7.mono (SZ.out _ KF.out.2))
      have hy7 := by_lit w6 [0, 1] (by simp)
      rw [show w6.alloc (.cells (([0, 1] : List Int).map (Value.int .u8)).toArray 5) = w7 from hw7, hp] at hy7
      obtain ⟨A8, n8, c8, w8, hr, hy8, hg8⟩ := app_gro (m := sn) (c := sc) hy7 (fun e => HLN.out.2.2.2.2.2 e) (HCO.out w7 hB7) HLN.out.2.2.2.1 (by rw [← hp]; exact hb7.size) (by have := HLN.out.2.2.2.2.1; simp; omega)
      have hr2 : (appSem #[25, 25] 25 #[.slice (some ⟨p, 0, none⟩) 2 2, .slice SA sn sc]).run Try.prog w7 = .ok (.slice A8 n8 c8) w8 := hr
      have hpz : p ≤ w7.heap.size := by rw [← hp]; exact hb7.size
      have hB8 : Below p w6 w8 := by
        have := Gro.bel hy7 (by rw [← hp]; exact hb7 : Below p w6 w7) hpz hg8
        exact this
      have hB8' : Below (B + 1) w1 w8 := KF.out.2.trans (hB8.mono (by rw [← hp]; exact SZ.out _ KF.out.2))
      have SG := Lib.hid (SEG.out w8 _ _ _ _ _ _ 65380 _ _ _ hB8' (KF.out.1.below (by rw [hp]; exact hB8)) (by rw [List.length_append, List.length_append, List.length_append, putL_len, segL_len, segL_len, segL_len]; have := HLN.out.1; have := HLN.out.2.1; have := HLN.out.2.2.1; omega) hy8 (by have := HLN.out.2.2.2; simp; omega) (fun q hq e => by have h1 := (own_lt KF.out.1 hq).2; have h2 := (own_lt hy8 e).1; omega))
      have c17b : w7.cell? ⟨B, 17, none⟩ = some (.slice SA sn sc) := C17.out w7 hB7
      have HW7 := Lib.hid (And.intro hw7 hp)
      have HMF : Hid (ML = putL 65359 2 ++ segL 65361 SS ++ segL 65362 CC ++ segL 65372 BL ++ segL 65380 ([0, 1] ++ l)) := Lib.hid (by rw [HML.out, if_pos h0]; rfl)
      clear hb7 hB7 hy7 hr hy8 hg8 hB8 hB8' KF hpz
      go_wp2_with fail
      refine SG.out.mono ?_
      rintro e w9 ⟨A9, n9, c9, rfl, hy9, hb9⟩
      have HF : Hid (By (B + 1) w9 (.slice A9 n9 c9) ML ∧ Below (B + 1) w1 w9) := Lib.hid ⟨by rw [HMF.out]; exact hy9, hb9⟩
      clear hy9 hb9 SG hr2 c17 c17b hw7 hp
      go_wp2
      go_ret
      exact ⟨_, _, _, rfl, by rw [HE.out.2]; exact HF.out.1.low (Nat.le_succ B), by rw [HE.out.2]; exact H1.out.1.trans (HF.out.2.mono (Nat.le_succ B))⟩
    · have h0I : ¬ (0 : Int) < (sn : Int) := by omega
      have HF : Hid (By (B + 1) w6 (.slice A5 n5 c5) ML ∧ Below (B + 1) w1 w6) := Lib.hid ⟨by rw [HML.out, if_neg h0, List.append_nil]; exact KF.out.1, KF.out.2⟩
      go_wp2
      go_ret
      exact ⟨_, _, _, rfl, by rw [HE.out.2]; exact HF.out.1.low (Nat.le_succ B), by rw [HE.out.2]; exact H1.out.1.trans (HF.out.2.mono (Nat.le_succ B))⟩
end
end
section
open Go.RowKit Go.Shelf
set_option maxRecDepth 100000
set_option maxHeartbeats 16000000 in
theorem rsame_yes {w : World} {h h' : HV} {cs cs' : List Cp} {l l' : List Int} (H : HdOk w h cs l) (H' : HdOk w h' cs' l') (hs : h.same h' cs cs' l l') :
    Calls Try.prog 17 #[.agg h.arr, .agg h'.arr] w fun e w' => e = .returned (.bool true) ∧ Below w.heap.size w w' := by
  obtain ⟨⟨e1, e2, e3, e4⟩, hlk, ⟨e5, e6, e7, e8, e9, e10, e11, e12, e13, e14, e15, e16⟩, hll⟩ := hs
  obtain ⟨r1, n1, f1, c1, k1, _⟩ := H
  obtain ⟨r2, n2, f2, c2, k2, _⟩ := H'
  have hNN : h.N = h'.N := by rw [← n1, ← n2]; exact hlk.1
  have hSS : h.sn = h'.sn := by rw [← k1, ← k2, hll]
  subst hll
  obtain ⟨X, Y, OX, OY, A, N, C, TX, TY, LV, BW, BH, PR, ST, OD, LY, RC, SO, EP, SA, sn, sc⟩ := h
  obtain ⟨X', Y', OX', OY', A', N', C', TX', TY', LV', BW', BH', PR', ST', OD', LY', RC', SO', EP', SA', sn', sc'⟩ := h'
  simp only at e1 e2 e3 e4 e5 e6 e7 e8 e9 e10 e11 e12 e13 e14 e15 e16 hNN hSS r1 r2 n1 n2 f1 f2 c1 c2 k1 k2
  subst e1 e2 e3 e4 e5 e6 e7 e8 e9 e10 e11 e12 e13 e14 e15 e16 hNN hSS
  obtain ⟨B, hB⟩ : ∃ B, w.heap.size = B := ⟨_, rfl⟩
  obtain ⟨w1, hw1⟩ : ∃ w1, (w.alloc (.cells #[.int .i64 X, .int .i64 Y, .int .i64 OX, .int .i64 OY, .slice A N C, .int .i64 TX, .int .i64 TY, .int .i64 LV, .int .i64 BW, .int .i64 BH, .int .i64 PR, .int .i64 ST, .int .i64 OD, .int .i64 LY, .bool RC, .bool SO, .bool EP, .slice SA sn sc] 37)).alloc (.cells #[.int .i64 X, .int .i64 Y, .int .i64 OX, .int .i64 OY, .slice A' N C', .int .i64 TX, .int .i64 TY, .int .i64 LV, .int .i64 BW, .int .i64 BH, .int .i64 PR, .int .i64 ST, .int .i64 OD, .int .i64 LY, .bool RC, .bool SO, .bool EP, .slice SA' sn sc'] 37) = w1 := ⟨_, rfl⟩
  have H1 : Hid (Below B w w1 ∧ w1.heap[B]? = some (.cells #[.int .i64 X, .int .i64 Y, .int .i64 OX, .int .i64 OY, .slice A N C, .int .i64 TX, .int .i64 TY, .int .i64 LV, .int .i64 BW, .int .i64 BH, .int .i64 PR, .int .i64 ST, .int .i64 OD, .int .i64 LY, .bool RC, .bool SO, .bool EP, .slice SA sn sc] 37 (0, 0)) ∧ w1.heap[B + 1]? = some (.cells #[.int .i64 X, .int .i64 Y, .int .i64 OX, .int .i64 OY, .slice A' N C', .int .i64 TX, .int .i64 TY, .int .i64 LV, .int .i64 BW, .int .i64 BH, .int .i64 PR, .int .i64 ST, .int .i64 OD, .int .i64 LY, .bool RC, .bool SO, .bool EP, .slice SA' sn sc'] 37 (0, 0)) ∧ w1.heap.size = B + 2) := Lib.hid (by
    have h := allocs2 [Obj.cells #[.int .i64 X, .int .i64 Y, .int .i64 OX, .int .i64 OY, .slice A N C, .int .i64 TX, .int .i64 TY, .int .i64 LV, .int .i64 BW, .int .i64 BH, .int .i64 PR, .int .i64 ST, .int .i64 OD, .int .i64 LY, .bool RC, .bool SO, .bool EP, .slice SA sn sc] 37, Obj.cells #[.int .i64 X, .int .i64 Y, .int .i64 OX, .int .i64 OY, .slice A' N C', .int .i64 TX, .int .i64 TY, .int .i64 LV, .int .i64 BW, .int .i64 BH, .int .i64 PR, .int .i64 ST, .int .i64 OD, .int .i64 LY, .bool RC, .bool SO, .bool EP, .slice SA' sn sc'] 37] w
    rw [show [Obj.cells #[.int .i64 X, .int .i64 Y, .int .i64 OX, .int .i64 OY, .slice A N C, .int .i64 TX, .int .i64 TY, .int .i64 LV, .int .i64 BW, .int .i64 BH, .int .i64 PR, .int .i64 ST, .int .i64 OD, .int .i64 LY, .bool RC, .bool SO, .bool EP, .slice SA sn sc] 37, Obj.cells #[.int .i64 X, .int .i64 Y, .int .i64 OX, .int .i64 OY, .slice A' N C', .int .i64 TX, .int .i64 TY, .int .i64 LV, .int .i64 BW, .int .i64 BH, .int .i64 PR, .int .i64 ST, .int .i64 OD, .int .i64 LY, .bool RC, .bool SO, .bool EP, .slice SA' sn sc'] 37].foldl World.alloc w = w1 from hw1, hB] at h
    exact ⟨h.2.1, h.2.2 0 _ rfl, h.2.2 1 _ rfl, h.1⟩)
  have HE := Lib.hid (And.intro hw1 hB)
  have hb1 : Below w.heap.size w w1 := by rw [hB]; exact H1.out.1
  obtain ⟨STR, hSTR⟩ : ∃ S, strOf l = S := ⟨_, rfl⟩
  have hs1 := conv_str (c := sc) k1 ((c1.below hb1).more hb1.size)
  have hs2 := conv_str (c := sc') k1 ((c2.below hb1).more hb1.size)
  rw [hSTR] at hs1 hs2
  have HR := Lib.hid (And.intro r1 (And.intro r2 (And.intro n1 (And.intro n2 hlk))))
  have hN4 : N ≤ 4 := f1
  have a0 : w1.cell? ⟨B, 0, none⟩ = some (.int .i64 X) := rb_cell H1.out.2.1 0
  have a1 : w1.cell? ⟨B, 1, none⟩ = some (.int .i64 Y) := rb_cell H1.out.2.1 1
  have a2 : w1.cell? ⟨B, 2, none⟩ = some (.int .i64 OX) := rb_cell H1.out.2.1 2
  have a3 : w1.cell? ⟨B, 3, none⟩ = some (.int .i64 OY) := rb_cell H1.out.2.1 3
  have a4 : w1.cell? ⟨B, 4, none⟩ = some (.slice A N C) := rb_cell H1.out.2.1 4
  have a5 : w1.cell? ⟨B, 5, none⟩ = some (.int .i64 TX) := rb_cell H1.out.2.1 5
  have a6 : w1.cell? ⟨B, 6, none⟩ = some (.int .i64 TY) := rb_cell H1.out.2.1 6
  have a7 : w1.cell? ⟨B, 7, none⟩ = some (.int .i64 LV) := rb_cell H1.out.2.1 7
  have a8 : w1.cell? ⟨B, 8, none⟩ = some (.int .i64 BW) := rb_cell H1.out.2.1 8
  have a9 : w1.cell? ⟨B, 9, none⟩ = some (.int .i64 BH) := rb_cell H1.out.2.1 9
  have a10 : w1.cell? ⟨B, 10, none⟩ = some (.int .i64 PR) := rb_cell H1.out.2.1 10
  have a11 : w1.cell? ⟨B, 11, none⟩ = some (.int .i64 ST) := rb_cell H1.out.2.1 11
  have a12 : w1.cell? ⟨B, 12, none⟩ = some (.int .i64 OD) := rb_cell H1.out.2.1 12
  have a13 : w1.cell? ⟨B, 13, none⟩ = some (.int .i64 LY) := rb_cell H1.out.2.1 13
  have a14 : w1.cell? ⟨B, 14, none⟩ = some (.bool RC) := rb_cell H1.out.2.1 14
  have a15 : w1.cell? ⟨B, 15, none⟩ = some (.bool SO) := rb_cell H1.out.2.1 15
  have a16 : w1.cell? ⟨B, 16, none⟩ = some (.bool EP) := rb_cell H1.out.2.1 16
  have a17 : w1.cell? ⟨B, 17, none⟩ = some (.slice SA sn sc) := rb_cell H1.out.2.1 17
  have b0 : w1.cell? ⟨B + 1, 0, none⟩ = some (.int .i64 X) := rb_cell H1.out.2.2.1 0
  have b1 : w1.cell? ⟨B + 1, 1, none⟩ = some (.int .i64 Y) := rb_cell H1.out.2.2.1 1
  have b2 : w1.cell? ⟨B + 1, 2, none⟩ = some (.int .i64 OX) := rb_cell H1.out.2.2.1 2
  have b3 : w1.cell? ⟨B + 1, 3, none⟩ = some (.int .i64 OY) := rb_cell H1.out.2.2.1 3
  have b4 : w1.cell? ⟨B + 1, 4, none⟩ = some (.slice A' N C') := rb_cell H1.out.2.2.1 4
  have b5 : w1.cell? ⟨B + 1, 5, none⟩ = some (.int .i64 TX) := rb_cell H1.out.2.2.1 5
  have b6 : w1.cell? ⟨B + 1, 6, none⟩ = some (.int .i64 TY) := rb_cell H1.out.2.2.1 6
  have b7 : w1.cell? ⟨B + 1, 7, none⟩ = some (.int .i64 LV) := rb_cell H1.out.2.2.1 7
  have b8 : w1.cell? ⟨B + 1, 8, none⟩ = some (.int .i64 BW) := rb_cell H1.out.2.2.1 8
  have b9 : w1.cell? ⟨B + 1, 9, none⟩ = some (.int .i64 BH) := rb_cell H1.out.2.2.1 9
  have b10 : w1.cell? ⟨B + 1, 10, none⟩ = some (.int .i64 PR) := rb_cell H1.out.2.2.1 10
  have b11 : w1.cell? ⟨B + 1, 11, none⟩ = some (.int .i64 ST) := rb_cell H1.out.2.2.1 11
  have b12 : w1.cell? ⟨B + 1, 12, none⟩ = some (.int .i64 OD) := rb_cell H1.out.2.2.1 12
  have b13 : w1.cell? ⟨B + 1, 13, none⟩ = some (.int .i64 LY) := rb_cell H1.out.2.2.1 13
  have b14 : w1.cell? ⟨B + 1, 14, none⟩ = some (.bool RC) := rb_cell H1.out.2.2.1 14
  have b15 : w1.cell? ⟨B + 1, 15, none⟩ = some (.bool SO) := rb_cell H1.out.2.2.1 15
  have b16 : w1.cell? ⟨B + 1, 16, none⟩ = some (.bool EP) := rb_cell H1.out.2.2.1 16
  have b17 : w1.cell? ⟨B + 1, 17, none⟩ = some (.slice SA' sn sc') := rb_cell H1.out.2.2.1 17
  clear hw1 hB hb1 hSTR r1 r2 n1 n2 f1 f2 c1 c2 k1 k2 hlk
  show Calls Try.prog 17 #[.agg #[.int .i64 X, .int .i64 Y, .int .i64 OX, .int .i64 OY, .slice A N C, .int .i64 TX, .int .i64 TY, .int .i64 LV, .int .i64 BW, .int .i64 BH, .int .i64 PR, .int .i64 ST, .int .i64 OD, .int .i64 LY, .bool RC, .bool SO, .bool EP, .slice SA sn sc], .agg #[.int .i64 X, .int .i64 Y, .int .i64 OX, .int .i64 OY, .slice A' N C', .int .i64 TX, .int .i64 TY, .int .i64 LV, .int .i64 BW, .int .i64 BH, .int .i64 PR, .int .i64 ST, .int .i64 OD, .int .i64 LY, .bool RC, .bool SO, .bool EP, .slice SA' sn sc']] w _
  go_enter Try.func17, Try.ntmps17
  go_upto_region 1 with fail
  rw [show (w.alloc (.cells #[.int .i64 X, .int .i64 Y, .int .i64 OX, .int .i64 OY, .slice A N C, .int .i64 TX, .int .i64 TY, .int .i64 LV, .int .i64 BW, .int .i64 BH, .int .i64 PR, .int .i64 ST, .int .i64 OD, .int .i64 LY, .bool RC, .bool SO, .bool EP, .slice SA sn sc] 37)).alloc (.cells #[.int .i64 X, .int .i64 Y, .int .i64 OX, .int .i64 OY, .slice A' N C', .int .i64 TX, .int .i64 TY, .int .i64 LV, .int .i64 BW, .int .i64 BH, .int .i64 PR, .int .i64 ST, .int .i64 OD, .int .i64 LY, .bool RC, .bool SO, .bool EP, .slice SA' sn sc'] 37) = w1 from HE.out.1, HE.out.2]
  go_upto_region 3 with fail
  clear a0 a1 a2 a3 a4 a5 a6 a7 a8 a9 a10 a11 a12 a13 a14 a15 a16 a17 b0 b1 b2 b3 b4 b5 b6 b7 b8 b9 b10 b11 b12 b13 b14 b15 b16 b17 hs1 hs2
  go_wp2_with fail
  go_loopg [5] N (fun gh v wr => ∃ (j : Nat), j + gh = N ∧ v = .int .i64 (j : Int) ∧ Hid (Below (B + 2) w1 wr))
  case atStart => exact ⟨0, by omega, rfl, Lib.hid (Below.refl _ _)⟩
  case round =>
    obtain ⟨j, hjg, rfl, HI⟩ := hrel
    obtain ⟨wa, hwa⟩ : ∃ wa, wa = wr := ⟨wr, rfl⟩
    subst hwa
    have a4 : wa.cell? ⟨B, 4, none⟩ = some (.slice A N C) := rb_cell ((HI.out.block B (by omega)).trans H1.out.2.1) 4
    have b4 : wa.cell? ⟨B + 1, 4, none⟩ = some (.slice A' N C') := rb_cell ((HI.out.block (B + 1) (by omega)).trans H1.out.2.2.1) 4
    by_cases hj : j < N
    · obtain ⟨g1, rfl⟩ : ∃ g1, gk = g1 + 1 := ⟨gk - 1, by omega⟩
      have hjI : (j : Int) < (N : Int) ∧ (0 : Int) ≤ (j : Int) := by omega
      obtain ⟨c, hc⟩ : ∃ c, cs[j]? = some c := ⟨_, List.getElem?_eq_getElem (by rw [HR.out.2.2.1]; exact hj)⟩
      obtain ⟨c', hc'⟩ : ∃ c', cs'[j]? = some c' := ⟨_, List.getElem?_eq_getElem (by rw [HR.out.2.2.2.1]; exact hj)⟩
      have hlc := HR.out.2.2.2.2.2 j c c' hc hc'
      obtain ⟨g, cap, hv, hgl, _, _, q0, q1, q2, q3, q4⟩ := HR.out.1 j c hc
      obtain ⟨g', cap', hv', hgl', _, _, p0, p1, p2, p3, p4⟩ := HR.out.2.1 j c' hc'
      injection hv with hv1 hv2 hv3
      injection hv' with hv1' hv2' hv3'
      subst hv1
      subst hv1'
      have hgB : g < B := by rw [← HE.out.2]; exact hgl
      have hgB' : g' < B := by rw [← HE.out.2]; exact hgl'
      have hbb : Below B w wa := H1.out.1.trans (HI.out.mono (by omega))
      have e0 := (hbb.cell (p := ⟨g, j * 5, none⟩) hgB).trans q0
      have e1 := (hbb.cell (p := ⟨g, j * 5 + 1, none⟩) hgB).trans q1
      have e2 := (hbb.cell (p := ⟨g, j * 5 + 2, none⟩) hgB).trans q2
      have e3 := (hbb.cell (p := ⟨g, j * 5 + 3, none⟩) hgB).trans q3
      have e4 := (hbb.cell (p := ⟨g, j * 5 + 4, none⟩) hgB).trans q4
      have d0 := (hbb.cell (p := ⟨g', j * 5, none⟩) hgB').trans p0
      have d1 := (hbb.cell (p := ⟨g', j * 5 + 1, none⟩) hgB').trans p1
      have d2 := (hbb.cell (p := ⟨g', j * 5 + 2, none⟩) hgB').trans p2
      have d3 := (hbb.cell (p := ⟨g', j * 5 + 3, none⟩) hgB').trans p3
      have d4 := (hbb.cell (p := ⟨g', j * 5 + 4, none⟩) hgB').trans p4
      unfold likeC at hlc
      simp only [Bool.and_eq_true, decide_eq_true_eq, beq_iff_eq] at hlc
      obtain ⟨⟨⟨l0, l1⟩, l2⟩, l3⟩ := hlc
      rw [← l0] at d0
      rw [← l1] at d1
      rw [← l2] at d2
      rw [← l3] at d3
      clear hc hc' q0 q1 q2 q3 q4 p0 p1 p2 p3 p4 hv2 hv3 hv2' hv3' l0 l1 l2 l3
      have HCC := Lib.hid (And.intro e0 (And.intro e1 (And.intro e2 (And.intro e3 (And.intro e4 (And.intro d0 (And.intro d1 (And.intro d2 (And.intro d3 d4)))))))))
      have HGL : Hid (g < wa.heap.size ∧ g' < wa.heap.size ∧ B + 2 ≤ wa.heap.size) := Lib.hid (by have h1 := hbb.size; have h2 := HI.out.size; have h3 := H1.out.2.2.2; omega)
      have HAB := Lib.hid (And.intro a4 b4)
      clear hgB hgl hgB' hgl' hbb
      go_upto_region 6 with fail
      clear e0 e1 e2 e3 e4 d0 d1 d2 d3 d4 a4 b4
      obtain ⟨VL, hVL⟩ : ∃ VL : Nat × Nat → List (Nat × Nat × Value), VL = fun z => [(0, 77, .pointer (some ⟨B, 0, none⟩)), (1, 78, .pointer (some ⟨B, 4, none⟩)), (2, 79, .slice (some ⟨g, 0, none⟩) N C), (3, 80, .int .i64 (j : Int)), (4, 81, .pointer (some ⟨g, j * 5, none⟩)), (5, 82, .agg #[.int .i64 c.d, .bool c.sg, .int .i64 c.dx, .int .i64 c.dy, .slice c.A c.n c.cap]), (6, 83, .pointer (some ⟨B + 1, 0, none⟩)), (7, 84, .pointer (some ⟨B + 1, 4, none⟩)), (8, 85, .slice (some ⟨g', 0, none⟩) N C'), (9, 86, .int .i64 (j : Int)), (10, 87, .pointer (some ⟨g', j * 5, none⟩)), (11, 88, .agg #[.int .i64 c.d, .bool c.sg, .int .i64 c.dx, .int .i64 c.dy, .slice c'.A c'.n c'.cap]), (12, 6, .pointer (some ⟨z.1, 0, none⟩)), (13, 7, .pointer (some ⟨z.2, 0, none⟩))] := ⟨_, rfl⟩
      have hok : ∀ z, manyOk 115 (VL z) := fun z => by rw [hVL]; exact okB_ok rfl
      have HVL := Lib.hid hVL
      have hvi : ∀ z, ∀ x ∈ VL z, x.1 < 16 := fun z => by rw [hVL]; exact ltB_ok rfl
      have HOK := Lib.hid hok
      have HVI := Lib.hid hvi
      clear hVL hok hvi
      refine (wpIn_wide (n := 9)).1 (regionIn_many (N := 115) (w := _) VL (fun L z w' => (Below wa.heap.size wa w' ∧ (L 12 = true → L 14 = false → w'.heap[z.1]? = some (.cells #[.int .i64 0, .bool false, .int .i64 0, .int .i64 0, .slice none 0 0] 45 (0, 0)) ∧ wa.heap.size ≤ z.1) ∧ (L 14 = true → w'.heap[z.1]? = some (.cells #[.int .i64 c.d, .bool c.sg, .int .i64 c.dx, .int .i64 c.dy, .slice c.A c.n c.cap] 45 (0, 0)) ∧ wa.heap.size ≤ z.1) ∧ (L 13 = true → L 15 = false → w'.heap[z.2]? = some (.cells #[.int .i64 0, .bool false, .int .i64 0, .int .i64 0, .slice none 0 0] 45 (0, 0)) ∧ wa.heap.size ≤ z.2) ∧ (L 15 = true → w'.heap[z.2]? = some (.cells #[.int .i64 c.d, .bool c.sg, .int .i64 c.dx, .int .i64 c.dy, .slice c'.A c'.n c'.cap] 45 (0, 0)) ∧ wa.heap.size ≤ z.2) ∧ (L 12 = true → L 13 = true → z.1 ≠ z.2)) ∧ True) [(2, .pointer (some ⟨B, 0, none⟩)), (3, .pointer (some ⟨B + 1, 0, none⟩)), (5, .int .i64 (j : Int))] (by kernel_rfl) (by kernel_rfl) rfl (by simp only [List.forall_mem_cons, List.not_mem_nil, false_imp_iff, implies_true, and_true]; exact ⟨rfl, rfl, rfl⟩) HVI.out (0, 0) ?start ?step ?fin)
      case start => exact ⟨⟨(Below.refl _ _).drew, fun h => (by cases h), fun h => (by cases h), fun h => (by cases h), fun h => (by cases h), fun h => (by cases h)⟩, trivial⟩
      case step =>
        intro gg_ hgN hgF ii_ hii_ L z w' hph hs hu
        obtain ⟨hcm, hph⟩ := hph
        have hF2 := hgF (2, .pointer (some ⟨B, 0, none⟩)) (by simp)
        have hF3 := hgF (3, .pointer (some ⟨B + 1, 0, none⟩)) (by simp)
        have hF5 := hgF (5, .int .i64 (j : Int)) (by simp)
        have hL := hu.1
        have hii_ : ii_ < 16 := hii_
        clear hgF
        obtain rfl | rfl | rfl | rfl | rfl | rfl | rfl | rfl | rfl | rfl | rfl | rfl | rfl | rfl | rfl | rfl := (by omega : ii_ = 0 ∨ ii_ = 1 ∨ ii_ = 2 ∨ ii_ = 3 ∨ ii_ = 4 ∨ ii_ = 5 ∨ ii_ = 6 ∨ ii_ = 7 ∨ ii_ = 8 ∨ ii_ = 9 ∨ ii_ = 10 ∨ ii_ = 11 ∨ ii_ = 12 ∨ ii_ = 13 ∨ ii_ = 14 ∨ ii_ = 15)
        · skip
          have n14 : L 14 = false := not_yet hL fun h => shut_at hs 14 0 (by kernel_rfl) (h)
          have n15 : L 15 = false := not_yet hL fun h => shut_at hs 15 0 (by kernel_rfl) (h)
          have e2 : (many gg_ L (VL z))[2]?.getD undef = .pointer (some ⟨B, 0, none⟩) := many_out3 hgN (HOK.out z) (by rw [HVL.out]; rfl) hF2
          refine opIn_run (v := .pointer (some ⟨B, 0, none⟩)) (w' := w') rfl rfl (fun c h => by cases h) (fun _ => trivial) ?_ ⟨z, by exact many_put3 (HOK.out _) (by rw [HVL.out]; rfl) hL, hcm, hph⟩
          go_simp
        · skip
          have y0 : L 0 = true := up_at hu 0 (by kernel_rfl)
          have n14 : L 14 = false := not_yet hL fun h => shut_at hs 14 1 (by kernel_rfl) (h)
          have n15 : L 15 = false := not_yet hL fun h => shut_at hs 15 1 (by kernel_rfl) (h)
          have e77 : (many gg_ L (VL z))[77]?.getD undef = .pointer (some ⟨B, 0, none⟩) := many_eval3 hgN (HOK.out z) (by rw [HVL.out]; rfl) y0
          refine opIn_run (v := .pointer (some ⟨B, 4, none⟩)) (w' := w') rfl rfl (fun c h => by cases h) (fun _ => trivial) ?_ ⟨z, by exact many_put3 (HOK.out _) (by rw [HVL.out]; rfl) hL, hcm, hph⟩
          go_simp
        · skip
          have y1 : L 1 = true := up_at hu 1 (by kernel_rfl)
          have n14 : L 14 = false := not_yet hL fun h => shut_at hs 14 2 (by kernel_rfl) (h)
          have n15 : L 15 = false := not_yet hL fun h => shut_at hs 15 2 (by kernel_rfl) (h)
          have hcell : w'.cell? ⟨B, 4, none⟩ = some (.slice (some ⟨g, 0, none⟩) N C) := (hcm.1.cell (p := ⟨B, 4, none⟩) (by have := HGL.out.2.2; show B < _; omega)).trans HAB.out.1
          have e78 : (many gg_ L (VL z))[78]?.getD undef = .pointer (some ⟨B, 4, none⟩) := many_eval3 hgN (HOK.out z) (by rw [HVL.out]; rfl) y1
          refine opIn_run (v := .slice (some ⟨g, 0, none⟩) N C) (w' := w') rfl rfl (fun c h => by cases h) (fun _ => trivial) ?_ ⟨z, by exact many_put3 (HOK.out _) (by rw [HVL.out]; rfl) hL, hcm, hph⟩
          go_simp
        · skip
          have n14 : L 14 = false := not_yet hL fun h => shut_at hs 14 3 (by kernel_rfl) (h)
          have n15 : L 15 = false := not_yet hL fun h => shut_at hs 15 3 (by kernel_rfl) (h)
          have e5 : (many gg_ L (VL z))[5]?.getD undef = .int .i64 (j : Int) := many_out3 hgN (HOK.out z) (by rw [HVL.out]; rfl) hF5
          refine opIn_run (v := .int .i64 (j : Int)) (w' := w') rfl rfl (fun c h => by cases h) (fun _ => trivial) ?_ ⟨z, by exact many_put3 (HOK.out _) (by rw [HVL.out]; rfl) hL, hcm, hph⟩
          go_simp
        · skip
          have y2 : L 2 = true := up_at hu 2 (by kernel_rfl)
          have y3 : L 3 = true := up_at hu 3 (by kernel_rfl)
          have n14 : L 14 = false := not_yet hL fun h => shut_at hs 14 4 (by kernel_rfl) (h)
          have n15 : L 15 = false := not_yet hL fun h => shut_at hs 15 4 (by kernel_rfl) (h)
          have e79 : (many gg_ L (VL z))[79]?.getD undef = .slice (some ⟨g, 0, none⟩) N C := many_eval3 hgN (HOK.out z) (by rw [HVL.out]; rfl) y2
          have e80 : (many gg_ L (VL z))[80]?.getD undef = .int .i64 (j : Int) := many_eval3 hgN (HOK.out z) (by rw [HVL.out]; rfl) y3
          refine opIn_run (v := .pointer (some ⟨g, j * 5, none⟩)) (w' := w') rfl rfl (fun c h => by cases h) (fun _ => trivial) ?_ ⟨z, by exact many_put3 (HOK.out _) (by rw [HVL.out]; rfl) hL, hcm, hph⟩
          go_simp
        · skip
          have y4 : L 4 = true := up_at hu 4 (by kernel_rfl)
          have n14 : L 14 = false := not_yet hL fun h => shut_at hs 14 5 (by kernel_rfl) (h)
          have n15 : L 15 = false := not_yet hL fun h => shut_at hs 15 5 (by kernel_rfl) (h)
          have e0 := (hcm.1.cell (p := ⟨g, j * 5, none⟩) HGL.out.1).trans HCC.out.1
          have e1 := (hcm.1.cell (p := ⟨g, j * 5 + 1, none⟩) HGL.out.1).trans HCC.out.2.1
          have e2 := (hcm.1.cell (p := ⟨g, j * 5 + 2, none⟩) HGL.out.1).trans HCC.out.2.2.1
          have e3 := (hcm.1.cell (p := ⟨g, j * 5 + 3, none⟩) HGL.out.1).trans HCC.out.2.2.2.1
          have e4 := (hcm.1.cell (p := ⟨g, j * 5 + 4, none⟩) HGL.out.1).trans HCC.out.2.2.2.2.1
          have e81 : (many gg_ L (VL z))[81]?.getD undef = .pointer (some ⟨g, j * 5, none⟩) := many_eval3 hgN (HOK.out z) (by rw [HVL.out]; rfl) y4
          refine opIn_run (v := .agg #[.int .i64 c.d, .bool c.sg, .int .i64 c.dx, .int .i64 c.dy, .slice c.A c.n c.cap]) (w' := w') rfl rfl (fun c h => by cases h) (fun _ => trivial) ?_ ⟨z, by exact many_put3 (HOK.out _) (by rw [HVL.out]; rfl) hL, hcm, trivial⟩
          go_simp
        · skip
          have n15 : L 15 = false := not_yet hL fun h => shut_at hs 15 6 (by kernel_rfl) (h)
          have e3 : (many gg_ L (VL z))[3]?.getD undef = .pointer (some ⟨B + 1, 0, none⟩) := many_out3 hgN (HOK.out z) (by rw [HVL.out]; rfl) hF3
          refine opIn_run (v := .pointer (some ⟨B + 1, 0, none⟩)) (w' := w') rfl rfl (fun c h => by cases h) (fun _ => trivial) ?_ ⟨z, by exact many_put3 (HOK.out _) (by rw [HVL.out]; rfl) hL, hcm, hph⟩
          go_simp
        · skip
          have y6 : L 6 = true := up_at hu 6 (by kernel_rfl)
          have n15 : L 15 = false := not_yet hL fun h => shut_at hs 15 7 (by kernel_rfl) (h)
          have e83 : (many gg_ L (VL z))[83]?.getD undef = .pointer (some ⟨B + 1, 0, none⟩) := many_eval3 hgN (HOK.out z) (by rw [HVL.out]; rfl) y6
          refine opIn_run (v := .pointer (some ⟨B + 1, 4, none⟩)) (w' := w') rfl rfl (fun c h => by cases h) (fun _ => trivial) ?_ ⟨z, by exact many_put3 (HOK.out _) (by rw [HVL.out]; rfl) hL, hcm, hph⟩
          go_simp
        · skip
          have y7 : L 7 = true := up_at hu 7 (by kernel_rfl)
          have n15 : L 15 = false := not_yet hL fun h => shut_at hs 15 8 (by kernel_rfl) (h)
          have hcell : w'.cell? ⟨B + 1, 4, none⟩ = some (.slice (some ⟨g', 0, none⟩) N C') := (hcm.1.cell (p := ⟨B + 1, 4, none⟩) (by have := HGL.out.2.2; show B + 1 < _; omega)).trans HAB.out.2
          have e84 : (many gg_ L (VL z))[84]?.getD undef = .pointer (some ⟨B + 1, 4, none⟩) := many_eval3 hgN (HOK.out z) (by rw [HVL.out]; rfl) y7
          refine opIn_run (v := .slice (some ⟨g', 0, none⟩) N C') (w' := w') rfl rfl (fun c h => by cases h) (fun _ => trivial) ?_ ⟨z, by exact many_put3 (HOK.out _) (by rw [HVL.out]; rfl) hL, hcm, hph⟩
          go_simp
        · skip
          have n15 : L 15 = false := not_yet hL fun h => shut_at hs 15 9 (by kernel_rfl) (h)
          have e5 : (many gg_ L (VL z))[5]?.getD undef = .int .i64 (j : Int) := many_out3 hgN (HOK.out z) (by rw [HVL.out]; rfl) hF5
          refine opIn_run (v := .int .i64 (j : Int)) (w' := w') rfl rfl (fun c h => by cases h) (fun _ => trivial) ?_ ⟨z, by exact many_put3 (HOK.out _) (by rw [HVL.out]; rfl) hL, hcm, hph⟩
          go_simp
        · skip
          have y8 : L 8 = true := up_at hu 8 (by kernel_rfl)
          have y9 : L 9 = true := up_at hu 9 (by kernel_rfl)
          have n15 : L 15 = false := not_yet hL fun h => shut_at hs 15 10 (by kernel_rfl) (h)
          have e85 : (many gg_ L (VL z))[85]?.getD undef = .slice (some ⟨g', 0, none⟩) N C' := many_eval3 hgN (HOK.out z) (by rw [HVL.out]; rfl) y8
          have e86 : (many gg_ L (VL z))[86]?.getD undef = .int .i64 (j : Int) := many_eval3 hgN (HOK.out z) (by rw [HVL.out]; rfl) y9
          refine opIn_run (v := .pointer (some ⟨g', j * 5, none⟩)) (w' := w') rfl rfl (fun c h => by cases h) (fun _ => trivial) ?_ ⟨z, by exact many_put3 (HOK.out _) (by rw [HVL.out]; rfl) hL, hcm, hph⟩
          go_simp
        · skip
          have y10 : L 10 = true := up_at hu 10 (by kernel_rfl)
          have n15 : L 15 = false := not_yet hL fun h => shut_at hs 15 11 (by kernel_rfl) (h)
          have d0 := (hcm.1.cell (p := ⟨g', j * 5, none⟩) HGL.out.2.1).trans HCC.out.2.2.2.2.2.1
          have d1 := (hcm.1.cell (p := ⟨g', j * 5 + 1, none⟩) HGL.out.2.1).trans HCC.out.2.2.2.2.2.2.1
          have d2 := (hcm.1.cell (p := ⟨g', j * 5 + 2, none⟩) HGL.out.2.1).trans HCC.out.2.2.2.2.2.2.2.1
          have d3 := (hcm.1.cell (p := ⟨g', j * 5 + 3, none⟩) HGL.out.2.1).trans HCC.out.2.2.2.2.2.2.2.2.1
          have d4 := (hcm.1.cell (p := ⟨g', j * 5 + 4, none⟩) HGL.out.2.1).trans HCC.out.2.2.2.2.2.2.2.2.2
          have e87 : (many gg_ L (VL z))[87]?.getD undef = .pointer (some ⟨g', j * 5, none⟩) := many_eval3 hgN (HOK.out z) (by rw [HVL.out]; rfl) y10
          refine opIn_run (v := .agg #[.int .i64 c.d, .bool c.sg, .int .i64 c.dx, .int .i64 c.dy, .slice c'.A c'.n c'.cap]) (w' := w') rfl rfl (fun c h => by cases h) (fun _ => trivial) ?_ ⟨z, by exact many_put3 (HOK.out _) (by rw [HVL.out]; rfl) hL, hcm, trivial⟩
          go_simp
        · skip
          have n14 : L 14 = false := not_yet hL fun h => shut_at hs 14 12 (by kernel_rfl) (h)
          have n15 : L 15 = false := not_yet hL fun h => shut_at hs 15 12 (by kernel_rfl) (h)
          refine opIn_run (v := (.pointer (some ⟨w'.heap.size, 0, none⟩))) (w' := w'.alloc (.cells #[.int .i64 0, .bool false, .int .i64 0, .int .i64 0, .slice none 0 0] 45)) rfl rfl (fun c h => by cases h) (fun _ => trivial) ?_ ⟨(w'.heap.size, z.2), by rw [show many gg_ L (VL z) = many gg_ L (VL (w'.heap.size, z.2)) from by rw [HVL.out]; simp only [many, n14, n15, hL, cond_false, cond_true]]; exact many_put3 (HOK.out _) (by rw [HVL.out]; rfl) hL, ⟨hcm.1.alloc hcm.1.size _, fun _ _ => ⟨World.alloc_heap_new w' _, hcm.1.size⟩, fun a => absurd a (by simp [upd, n14]), fun a b => ⟨(Below.heap_alloc _ _ _ (blk_lt (hcm.2.2.2.1 (by simpa [upd] using a) b).1)).trans (hcm.2.2.2.1 (by simpa [upd] using a) b).1, (hcm.2.2.2.1 (by simpa [upd] using a) b).2⟩, fun a => absurd a (by simp [upd, n15]), fun _ a => (by have := blk_lt (hcm.2.2.2.1 (by simpa [upd] using a) n15).1; simp only; omega)⟩, trivial⟩
          go_simp
        · skip
          have n14 : L 14 = false := not_yet hL fun h => shut_at hs 14 13 (by kernel_rfl) (h)
          have n15 : L 15 = false := not_yet hL fun h => shut_at hs 15 13 (by kernel_rfl) (h)
          refine opIn_run (v := (.pointer (some ⟨w'.heap.size, 0, none⟩))) (w' := w'.alloc (.cells #[.int .i64 0, .bool false, .int .i64 0, .int .i64 0, .slice none 0 0] 45)) rfl rfl (fun c h => by cases h) (fun _ => trivial) ?_ ⟨(z.1, w'.heap.size), by rw [show many gg_ L (VL z) = many gg_ L (VL (z.1, w'.heap.size)) from by rw [HVL.out]; simp only [many, n14, n15, hL, cond_false, cond_true]]; exact many_put3 (HOK.out _) (by rw [HVL.out]; rfl) hL, ⟨hcm.1.alloc hcm.1.size _, fun a b => ⟨(Below.heap_alloc _ _ _ (blk_lt (hcm.2.1 (by simpa [upd] using a) b).1)).trans (hcm.2.1 (by simpa [upd] using a) b).1, (hcm.2.1 (by simpa [upd] using a) b).2⟩, fun a => absurd a (by simp [upd, n14]), fun _ _ => ⟨World.alloc_heap_new w' _, hcm.1.size⟩, fun a => absurd a (by simp [upd, n15]), fun a _ => (by have := blk_lt (hcm.2.1 (by simpa [upd] using a) n14).1; simp only; omega)⟩, trivial⟩
          go_simp
        · skip
          have y0 : L 0 = true := up_at hu 0 (by kernel_rfl)
          have y1 : L 1 = true := up_at hu 1 (by kernel_rfl)
          have y2 : L 2 = true := up_at hu 2 (by kernel_rfl)
          have y3 : L 3 = true := up_at hu 3 (by kernel_rfl)
          have y4 : L 4 = true := up_at hu 4 (by kernel_rfl)
          have y5 : L 5 = true := up_at hu 5 (by kernel_rfl)
          have y12 : L 12 = true := up_at hu 12 (by kernel_rfl)
          have y13 : L 13 = true := up_at hu 13 (by kernel_rfl)
          have n15 : L 15 = false := not_yet hL fun h => shut_at hs 15 14 (by kernel_rfl) (h)
          have hz := hcm.2.1 y12 hL
          have e6 : (many gg_ L (VL z))[6]?.getD undef = .pointer (some ⟨z.1, 0, none⟩) := many_eval3 hgN (HOK.out z) (by rw [HVL.out]; rfl) y12
          have e82 : (many gg_ L (VL z))[82]?.getD undef = .agg #[.int .i64 c.d, .bool c.sg, .int .i64 c.dx, .int .i64 c.dy, .slice c.A c.n c.cap] := many_eval3 hgN (HOK.out z) (by rw [HVL.out]; rfl) y5
          refine opIn_skip (w' := w'.setRow z.1 #[.int .i64 c.d, .bool c.sg, .int .i64 c.dx, .int .i64 c.dy, .slice c.A c.n c.cap]) rfl rfl (fun c h => by cases h) (fun _ => trivial) ?_ ⟨z, by exact many_none 14 _ (by rw [HVL.out]; simp), ⟨below_setRow hcm.1 hz.2 _, fun _ a => absurd a (by simp [upd_self]), fun _ => ⟨setRow_heap _ _ _ _ _ _ hz.1, hz.2⟩, fun a b => ⟨(setRow_other _ _ _ _ (by have := hcm.2.2.2.2.2 y12 (by simpa [upd] using a); omega)).trans (hcm.2.2.2.1 (by simpa [upd] using a) (by simpa [upd] using b)).1, (hcm.2.2.2.1 (by simpa [upd] using a) (by simpa [upd] using b)).2⟩, fun a => absurd a (by simp [upd, n15]), fun a b => hcm.2.2.2.2.2 (by simpa [upd] using a) (by simpa [upd] using b)⟩, trivial⟩
          exact run_store_many e6 e82 hz.1 (by kernel_rfl) rfl (by kernel_rfl)
        · skip
          have y0 : L 0 = true := up_at hu 0 (by kernel_rfl)
          have y1 : L 1 = true := up_at hu 1 (by kernel_rfl)
          have y2 : L 2 = true := up_at hu 2 (by kernel_rfl)
          have y3 : L 3 = true := up_at hu 3 (by kernel_rfl)
          have y4 : L 4 = true := up_at hu 4 (by kernel_rfl)
          have y5 : L 5 = true := up_at hu 5 (by kernel_rfl)
          have y6 : L 6 = true := up_at hu 6 (by kernel_rfl)
          have y7 : L 7 = true := up_at hu 7 (by kernel_rfl)
          have y8 : L 8 = true := up_at hu 8 (by kernel_rfl)
          have y9 : L 9 = true := up_at hu 9 (by kernel_rfl)
          have y10 : L 10 = true := up_at hu 10 (by kernel_rfl)
          have y11 : L 11 = true := up_at hu 11 (by kernel_rfl)
          have y12 : L 12 = true := up_at hu 12 (by kernel_rfl)
          have y13 : L 13 = true := up_at hu 13 (by kernel_rfl)
          have y14 : L 14 = true := up_at hu 14 (by kernel_rfl)
          have hz := hcm.2.2.2.1 y13 hL
          have hz1 := hcm.2.2.1 y14
          have hne := hcm.2.2.2.2.2 y12 y13
          have e7 : (many gg_ L (VL z))[7]?.getD undef = .pointer (some ⟨z.2, 0, none⟩) := many_eval3 hgN (HOK.out z) (by rw [HVL.out]; rfl) y13
          have e88 : (many gg_ L (VL z))[88]?.getD undef = .agg #[.int .i64 c.d, .bool c.sg, .int .i64 c.dx, .int .i64 c.dy, .slice c'.A c'.n c'.cap] := many_eval3 hgN (HOK.out z) (by rw [HVL.out]; rfl) y11
          refine opIn_skip (w' := w'.setRow z.2 #[.int .i64 c.d, .bool c.sg, .int .i64 c.dx, .int .i64 c.dy, .slice c'.A c'.n c'.cap]) rfl rfl (fun c h => by cases h) (fun _ => trivial) ?_ ⟨z, by exact many_none 15 _ (by rw [HVL.out]; simp), ⟨below_setRow hcm.1 hz.2 _, fun _ a => absurd a (by simp [upd, y14]), fun _ => ⟨(setRow_other _ _ _ _ hne).trans hz1.1, hz1.2⟩, fun _ a => absurd a (by simp [upd_self]), fun _ => ⟨setRow_heap _ _ _ _ _ _ hz.1, hz.2⟩, fun _ _ => hne⟩, trivial⟩
          exact run_store_many e7 e88 hz.1 (by kernel_rfl) rfl (by kernel_rfl)
      case fin =>
        intro L z w' hall hph
        obtain ⟨hcm, hph⟩ := hph
        have K1 := hcm.2.2.1 (hall 14 (by decide))
        have K2 := hcm.2.2.2.2.1 (hall 15 (by decide))
        have K0 := hcm.1
        obtain ⟨z1, z2⟩ := z
        simp only at K1 K2
        have KF := Lib.hid (And.intro K0 (And.intro K1.1 K2.1))
        clear hcm hph K0 K1 K2
        rw [HVL.out]
        dsimp only [manyL, List.set_cons_zero, List.set_cons_succ]
        clear hall HVL HOK HVI
        obtain ⟨wb, hwb⟩ : ∃ wb, w' = wb := ⟨_, rfl⟩
        rw [hwb] at KF ⊢
        clear hwb
        have x0 : wb.cell? ⟨z1, 0, none⟩ = some (.int .i64 c.d) := rb_cell KF.out.2.1 0
        have x1 : wb.cell? ⟨z1, 1, none⟩ = some (.bool c.sg) := rb_cell KF.out.2.1 1
        have x2 : wb.cell? ⟨z1, 2, none⟩ = some (.int .i64 c.dx) := rb_cell KF.out.2.1 2
        have x3 : wb.cell? ⟨z1, 3, none⟩ = some (.int .i64 c.dy) := rb_cell KF.out.2.1 3
        have y0 : wb.cell? ⟨z2, 0, none⟩ = some (.int .i64 c.d) := rb_cell KF.out.2.2 0
        have y1 : wb.cell? ⟨z2, 1, none⟩ = some (.bool c.sg) := rb_cell KF.out.2.2 1
        have y2 : wb.cell? ⟨z2, 2, none⟩ = some (.int .i64 c.dx) := rb_cell KF.out.2.2 2
        have y3 : wb.cell? ⟨z2, 3, none⟩ = some (.int .i64 c.dy) := rb_cell KF.out.2.2 3
        have HN : Hid (Below (B + 2) w1 wb) := Lib.hid (HI.out.trans (KF.out.1.mono HGL.out.2.2))
        clear HI
        go_wp2
        go_roundg g1
        case measure => omega
        case rel => exact ⟨j + 1, by omega, by simp, HN⟩
    · obtain rfl : j = N := by omega
      have hjI : ¬ (j : Int) < (j : Int) := by omega
      have hF : Hid (Below w.heap.size w wa) := Lib.hid (by
        rw [HE.out.2]
        exact H1.out.1.trans (HI.out.mono (by omega)))
      go_wp2
      go_ret
      first | exact hF.out | exact ⟨rfl, hF.out⟩
end
end
section
open Go.RowKit Go.Shelf
set_option maxRecDepth 100000
attribute [local go_sem ↓] appSem_eq
theorem mainL_lenn (h : HV) (cs : List Cp) (l : List Int) (k : Nat) (hl : l.length = h.sn) : (mainL h cs l k).length = 42 + 3 * cs.length + 15 + k + 6 + 3 * k + (if 0 < h.sn then 6 + h.sn else 0) := by
  unfold mainL
  rw [List.length_append, headL_len]
  split
  · rw [segL_len, List.length_append, fldL_len, hl]
    simp
    omega
  · simp
    omega
/-- What Parse gives of what Main wrote. -/
structure MainOut (h : HV) (cs : List Cp) (l : List Int) (N : Nat) (u w' : World) (cx : Array Value) (n' : Int) : Prop where
  n : n' = (N : Int)
  bel : Below u.heap.size u w'
  ex : ∃ (h' : HV) (cs' : List Cp) (c0 : Cp), cx = h'.arr ∧ HdOk w' h' cs' l ∧ h'.same h cs' cs l l ∧ cs'[0]? = some c0 ∧ c0.A = none ∧ c0.n = 0 ∧ c0.cap = 0
theorem parse_main {h : HV} {cs : List Cp} {k pr : Nat} (H : HOk h cs k pr) (hcs : 1 ≤ cs.length ∧ cs.length ≤ 4) (hf : frameF h.X h.Y h.OX h.OY cs h.TX h.TY h.LV h.BW h.BH h.PR h.ST h.OD h.LY h.RC = 0) (l more : List Int) (hO : Oct l) (hO2 : Oct more) (hl : l.length = h.sn) (hlm : l.length ≤ 1000) (hmm : more.length ≤ 1000)
    (A : Option Addr) (N c : Nat) (X : List Int) (hX : mainL h cs l k ++ 255 :: 144 :: more = X) (hN : X.length = N) (hA : A = none → N = 0 ∧ c = 0) (u : World) (hL : Lst u u.heap.size A (X.map (Value.int .u8))) :
    Calls Try.prog 16 #[.slice A N c] u fun e w' => ∃ (cx : Array Value) (n' : Int), e = .returned (.tuple #[.agg cx, .int .i64 n', .int .i64 0]) ∧ MainOut h cs l (mainL h cs l k).length u w' cx n' := by
  have hmi := main_is h cs l more k hl
  have hlen : N = (mainL h cs l k).length + 2 + more.length := by rw [← hN, ← hX]; simp only [List.length_append, List.length_cons]; omega
  have hml : (mainL h cs l k).length ≤ 3000 := by
    have h1 := mainL_lenn h cs l k hl
    have h2 := H.k5
    split at h1 <;> omega
  rw [hX] at hmi
  rw [hmi] at hL hN
  have hrd := sAll_rds H l
  have hfin := hrd.fin H hcs.1 0 hf (.inr ⟨rfl, hcs.2, by omega⟩)
  refine (parse_fin A N c 4 _ more _ 0 u hN hA (by omega) hL (main_oct h cs k (remL_oct hO hO2)) (run_main H l more hO hO2 hlm hmm) (by omega) hfin).mono ?_
  rintro e w' ⟨cx, n', rfl, ho⟩
  obtain ⟨y1, A', C', SA, sc, lo, y2, y3, y4, y5⟩ := ho.yes rfl
  obtain ⟨c0, hc0⟩ : ∃ c0, cs[0]? = some c0 := ⟨_, List.getElem?_eq_getElem (by omega)⟩
  refine ⟨cx, n', rfl, by rw [y1, hlen]; omega, ho.bel, (sAll h cs k pr l).hv A' C' SA sc, (sAll h cs k pr l).cs, stripC c0, y2, ⟨y4.cpl, rfl, ?_, y5, rfl, by show l.length ≤ 100000; omega⟩, hrd.same A' C' SA sc, ?_, rfl, rfl, rfl⟩
  · show (sAll h cs k pr l).cs.length ≤ 4
    rw [hrd.cl, List.length_map]
    exact hcs.2
  · rw [hrd.cl, List.getElem?_map, hc0]
    rfl
set_option maxHeartbeats 16000000 in
theorem walk_marksMain (f : FN) (A0 : Option Addr) (len0 cap0 : Nat) (z0 : List Int) (a1 : Option Addr) (len1 cap1 : Nat) (z1 : List Int) (a2 : Option Addr) (len2 cap2 : Nat) (z2 : List Int) (w : World) (w0 : IsRow .i64 w A0 len0 cap0 z0) (s0 : -9223372036854775808 ≤ f.sb ∧ f.sb ≤ 9223372036854775807) (w1 : IsRow .u8 w a1 len1 cap1 z1) (w2 : IsRow .u8 w a2 len2 cap2 z2) :
    Calls Try.prog 3 #[.agg (f.arr A0 len0 cap0), .slice a1 len1 cap1, .slice a2 len2 cap2] w fun e w' => e = .returned (.bool true) ∧ Below w.heap.size w w' := by
  have HOKM := Lib.hid (fun (A : Option Addr) (C : Nat) (SA : Option Addr) (sn sc : Nat) (cs : List Cp) h1 h2 h3 => hok_make f (A := A) (C := C) (SA := SA) (sn := sn) (sc := sc) (cs := cs) h1 h2 h3)
  have MH0 := Lib.hid (fun (u : World) A2 C2 cs SA sn sc l h1 h2 h3 h4 h5 h6 h7 => main_hv f (w := u) (A2 := A2) (C2 := C2) (cs := cs) (SA := SA) (sn := sn) (sc := sc) (l := l) h1 h2 h3 h4 h5 h6 h7)
  have HDV := Lib.hid (fun SA sn sc u hu => head_hv f A0 len0 cap0 z0 SA sn sc u hu s0)
  obtain ⟨fc, hfc⟩ : ∃ fc, f.arr A0 len0 cap0 = fc := ⟨_, rfl⟩
  have hfs : fc.size = 21 := by rw [← hfc]; rfl
  rw [hfc] at HDV ⊢
  have HFS := Lib.hid hfs
  clear hfc hfs
  have hok := mkPN_ok f 8 (by omega)
  obtain ⟨M, hM⟩ : ∃ M, mkPN f 8 = M := ⟨_, rfl⟩
  rw [hM] at hok
  have HOK := Lib.hid hok
  clear hok
  obtain ⟨N, hN⟩ : ∃ N, mkN f = N := ⟨_, rfl⟩
  have hNb : 1 ≤ N ∧ N ≤ 4 := by
    have := within_rng f.nc 4 (by omega)
    rw [← hN]
    unfold mkN
    omega
  obtain ⟨DP, hDP⟩ : ∃ D, mkDP f = D := ⟨_, rfl⟩
  have HDP : Hid (1 ≤ DP ∧ DP ≤ 10) := Lib.hid (by
    have := within_rng f.dp 10 (by omega)
    rw [← hDP]
    unfold mkDP
    omega)
  rw [hM, hN, hDP] at HDV MH0 HOKM
  clear hM hN hDP
  go_enter Try.func3, Try.ntmps3
  go_wp2_with fail
  obtain ⟨B0, hB0⟩ : ∃ B, w.heap.size = B := ⟨_, rfl⟩
  obtain ⟨Wf, hWf⟩ : ∃ Wf, w.alloc (Obj.cells fc 24) = Wf := ⟨_, rfl⟩
  have HF0 : Hid (MkW w B0 [(fc, 24)] Wf) := Lib.hid (by
    have h0 : MkW w B0 [] w := ⟨fun i c e => by simp at e, Below.refl _ _, by simp; omega⟩
    have h1 := h0.more (by simp; omega) fc 24
    rw [← hWf]; exact h1)
  rw [hWf, hB0]
  have HBE := Lib.hid hB0
  clear hWf hB0
  refine (known17 _).mono ?_
  rintro e W0 ⟨rfl, hb⟩
  have HF1 := Lib.hid (HF0.out.keep hb)
  clear hb HF0
  obtain ⟨lo, hlo⟩ : ∃ lo, W0.heap.size = lo := ⟨_, rfl⟩
  have HLO : Hid (W0.heap.size = lo ∧ B0 < lo ∧ W0.heap[B0]? = some (.cells fc 24 (0, 0))) := Lib.hid ⟨hlo, by have := HF1.out.sz; simp at this; omega, HF1.out.b 0 _ rfl⟩
  clear hlo
  obtain ⟨Q, hQ⟩ : ∃ Q : List Cp → Prop, Q = fun cs => cs.length = N ∧ (∀ i c, cs[i]? = some c → KeyIs M.X M.Y M.OX M.OY f.sb DP f.sg i c) ∧ ((1 ≤ M.TX ∧ M.TX ≤ 832) ∧ (1 ≤ M.TY ∧ M.TY ≤ 832) ∧ cntT M.X M.Y M.TX M.TY ≤ 6) := ⟨_, rfl⟩
  have HQ := Lib.hid hQ
  have HD : Hid (∀ SA sn sc u, Below lo W0 u → lo ≤ u.heap.size → Calls Try.prog 12 #[.agg fc, .slice SA sn sc] u fun e w' => ∃ (A2 : Option Addr) (C2 : Nat) (cs : List Cp), e = .returned (.agg (M.hv A2 N C2 SA sn sc).arr) ∧ CRow u.heap.size w' (.slice A2 N C2) cs ∧ Q cs ∧ Below u.heap.size u w') := Lib.hid fun SA sn sc u hb hl => by
    refine (HDV.out SA sn sc u (IsRow.below w0 ?_)).mono ?_
    · exact (by rw [HBE.out]; exact HF1.out.bel : Below w.heap.size w W0).trans (hb.mono (by have := HLO.out.2.1; have := HBE.out; omega))
    · rintro e w' ⟨A2, C2, cs, he, hl, hc, hk, hb, htx⟩
      exact ⟨A2, C2, cs, he, hc, by rw [HQ.out]; exact ⟨hl, hk, htx⟩, hb⟩
  have HL1 := Lib.hid (And.intro (IsRow.below w1 (by rw [HBE.out]; exact HF1.out.bel : Below w.heap.size w W0)) (IsRow.below w2 (by rw [HBE.out]; exact HF1.out.bel : Below w.heap.size w W0)))
  clear hQ HDV w0 w1 w2 s0
  have hlw : Below w.heap.size w W0 := by rw [HBE.out]; exact HF1.out.bel
  have HW0 := Lib.hid hlw
  clear hlw
  by_cases h300 : 300 < len1
  · have h300I : (300 : Int) < (len1 : Int) := by omega
    go_wp2
    go_ret
    first | exact HW0.out | exact ⟨rfl, HW0.out⟩
  have h300I : ¬ (300 : Int) < (len1 : Int) := by omega
  by_cases h100 : 100 < len2
  · have h100I : (100 : Int) < (len2 : Int) := by omega
    go_wp2
    go_ret
    first | exact HW0.out | exact ⟨rfl, HW0.out⟩
  have h100I : ¬ (100 : Int) < (len2 : Int) := by omega
  have hrl := row_len HL1.out.1
  have hll := lst_of_row HL1.out.1
  have hoo : Oct (z1.take len1) := row_u8 HL1.out.1
  obtain ⟨l, hl⟩ : ∃ l, z1.take len1 = l := ⟨_, rfl⟩
  rw [hl] at hrl hll hoo
  have HLL := Lib.hid (And.intro hll (And.intro hoo hrl))
  clear hl hrl hll hoo
  have hrl := row_len HL1.out.2
  have hll := lst_of_row HL1.out.2
  have hoo : Oct (z2.take len2) := row_u8 HL1.out.2
  obtain ⟨more, hl⟩ : ∃ l, z2.take len2 = l := ⟨_, rfl⟩
  rw [hl] at hrl hll hoo
  have HLM := Lib.hid (And.intro hll (And.intro hoo hrl))
  clear hl hrl hll hoo HL1
  go_wp2_with (refine wpList_load_row rfl 24 _ rfl B0 rfl 24 fc (0, 0) _ HLO.out.2.2 Try.underlying24 rfl (by rw [HFS.out]; kernel_rfl) ?_)
  refine (HD.out a1 len1 cap1 W0 (by rw [← HLO.out.1]; exact Below.refl _ _) (by rw [HLO.out.1]; exact Nat.le_refl _)).mono ?_
  rintro e W1 ⟨A, C, cs, rfl, hrow, KQ, hb1⟩
  rw [HQ.out] at KQ
  have HK := HOKM.out A C a1 len1 cap1 cs KQ.1 KQ.2.1 KQ.2.2
  obtain ⟨hh, hhh⟩ : ∃ hh, M.hv A N C a1 len1 cap1 = hh := ⟨_, rfl⟩
  have HKK : Hid (HOk hh cs M.LV M.PR ∧ (1 ≤ cs.length ∧ cs.length ≤ 4) ∧ frameF hh.X hh.Y hh.OX hh.OY cs hh.TX hh.TY hh.LV hh.BW hh.BH hh.PR hh.ST hh.OD hh.LY hh.RC = 0) := Lib.hid (by rw [← hhh]; exact HK)
  have hNN : hh.N = N ∧ hh.A = A ∧ hh.C = C ∧ hh.SA = a1 ∧ hh.sn = len1 := by rw [← hhh]; exact ⟨rfl, rfl, rfl, rfl, rfl⟩
  obtain ⟨ha, hha⟩ : ∃ ha, hh.arr = ha := ⟨_, rfl⟩
  have hhs : ha.size = 18 := by rw [← hha]; rfl
  have hho : ha.all (·.oneCell') = true := by rw [← hha]; kernel_rfl
  have MH1 := Lib.hid (fun (W2 : World) hb hl2 => MH0.out W2 A C cs a1 len1 cap1 l KQ.1 hb KQ.2.1 KQ.2.2 hl2 HLL.out.2.2.1 (by omega))
  rw [hhh, hha] at MH1 ⊢
  go_upto_region 6 with (refine wpList_store_row rfl 33 _ _ rfl W1.heap.size ha rfl rfl 33 #[.int .i64 0, .int .i64 0, .int .i64 0, .int .i64 0, .slice none 0 0, .int .i64 0, .int .i64 0, .int .i64 0, .int .i64 0, .int .i64 0, .int .i64 0, .int .i64 0, .int .i64 0, .int .i64 0, .bool false, .bool false, .bool false, .slice none 0 0] (World.alloc_heap_new W1 _) (by rw [hhs]; kernel_rfl) (by rw [hhs]; rfl) hho ?_)
  obtain ⟨W2, hW2⟩ : ∃ W2, (W1.alloc (Obj.cells #[.int .i64 0, .int .i64 0, .int .i64 0, .int .i64 0, .slice none 0 0, .int .i64 0, .int .i64 0, .int .i64 0, .int .i64 0, .int .i64 0, .int .i64 0, .int .i64 0, .int .i64 0, .int .i64 0, .bool false, .bool false, .bool false, .slice none 0 0] 33)).setRow W1.heap.size ha = W2 := ⟨_, rfl⟩
  obtain ⟨g, hgg⟩ : ∃ g, W1.heap.size = g := ⟨_, rfl⟩
  have KG : W2.heap[g]? = some (.cells ha 33 (0, 0)) := by rw [← hW2, ← hgg]; exact setRow_heap _ _ _ _ _ _ (World.alloc_heap_new W1 _)
  have KB : Below W1.heap.size W1 W2 := by rw [← hW2]; exact below_setRow ((Below.refl _ _).alloc (Nat.le_refl _) _) (Nat.le_refl _) _
  rw [hW2, hgg]
  clear hW2
  have hb02 : Below W0.heap.size W0 W2 := hb1.trans (KB.mono hb1.size)
  have hcpl : CpL W2 (.slice A N C) cs := hrow.cpl.below KB
  have hlst1 : Lst W2 W2.heap.size a1 (l.map (Value.int .u8)) := (HLL.out.1.below hb02).more hb02.size
  have HMR : Hid (∀ u, Below W2.heap.size W2 u → Lst u u.heap.size a2 (more.map (Value.int .u8))) := Lib.hid fun u hu => by
    exact (((HLM.out.1.below hb02).more hb02.size).below hu).more hu.size
  have HRH : Hid (∀ u, Below W2.heap.size W2 u → RHd u hh cs l M.LV ∧ HdOk u hh cs l) := Lib.hid fun u hu => by
    have K := HKK.out.1
    have hx : RHd W2 hh cs l M.LV := ⟨by rw [hNN.1, hNN.2.1, hNN.2.2.1]; exact hcpl, K.n, K.n4, by rw [hNN.2.2.2.1]; exact hlst1, fun e => by rw [hNN.2.2.2.2]; exact (HLL.out.2.2.2.2.2 (by rw [← hNN.2.2.2.1]; exact e)).1, by rw [hNN.2.2.2.2]; exact HLL.out.2.2.1, by rw [hNN.2.2.2.2]; omega, fun c hc => by have := (K.c c hc).1; omega, K.lv, K.k5, by have := K.bw; omega, by have := K.bh; omega, by have := K.pr; have := K.pr1; omega⟩
    have hy : HdOk W2 hh cs l := ⟨hx.row, hx.len, by rw [hNN.1]; exact hNb.2, hx.com, hx.cl, by have := hx.cb; omega⟩
    exact ⟨hx.below hu, hy.below hu⟩
  have HBW : Hid (Below w.heap.size w W2 ∧ w.heap.size ≤ W2.heap.size) := Lib.hid (by
    have h2 := HW0.out.trans (hb02.mono HW0.out.size)
    exact ⟨h2, h2.size⟩)
  have HKG := Lib.hid KG
  have MH := MH1.out W2 hcpl hlst1
  have hlen := mainL_lenn hh cs l M.LV (by rw [hNN.2.2.2.2]; exact HLL.out.2.2.1)
  obtain ⟨ML, hML⟩ : ∃ X, mainL hh cs l M.LV = X := ⟨_, rfl⟩
  rw [hML] at MH hlen
  have hlv : M.LV ≤ 5 := HOK.out.lv
  have hmlb : ML.length ≤ 500 := by
    have h4 := HKK.out.2.1
    have h5 := hNN.2.2.2.2
    split at hlen <;> omega
  have HML := Lib.hid (And.intro hML hmlb)
  have HMH := Lib.hid MH
  have HHA := Lib.hid hha
  clear KQ KB hb1 hrow hgg HK HD HQ KG HOKM hhh MH hcpl hlst1 hb02 MH1 MH0 hlen hML hmlb hlv hha
  go_wp2_with (refine wpList_load_row rfl 33 _ rfl g rfl 33 ha (0, 0) _ HKG.out Try.underlying33 rfl (by rw [hhs]; kernel_rfl) ?_)
  refine HMH.out.mono ?_
  rintro e W3 ⟨vb, rfl, hy3, hb3⟩
  obtain ⟨Ab, cb, rfl, hAb, _⟩ := By.form hy3
  have HY3 : Hid (By W2.heap.size W3 (.slice Ab ML.length cb) ML ∧ Below W2.heap.size W2 W3) := Lib.hid ⟨hy3, hb3⟩
  obtain ⟨nb, hnb⟩ : ∃ n, ML.length = n := ⟨_, rfl⟩
  rw [hnb] at HY3 hAb ⊢
  have HNB := Lib.hid (And.intro hnb hAb)
  obtain ⟨STR, hSTR⟩ : ∃ S, strOf ML = S := ⟨_, rfl⟩
  have HSTR := Lib.hid hSTR
  have HKG3 : Hid (∀ u, Below W3.heap.size W3 u → u.heap[g]? = some (.cells ha 33 (0, 0)) ∧ Below W2.heap.size W2 u) := Lib.hid fun u hu => by
    have h1 := HY3.out.2.trans (hu.mono HY3.out.2.size)
    exact ⟨(h1.block g (blk_lt HKG.out)).trans HKG.out, h1⟩
  have HCV : Hid (∀ u, Below W3.heap.size W3 u → (convert 25 9 (.slice Ab nb cb)).run Try.prog u = .ok (.string STR) u) := Lib.hid fun u hu => by
    rw [← HSTR.out]
    exact conv_str (c := cb) HNB.out.1 ((HY3.out.1.lst.below hu).more hu.size)
  have HR3 : Hid (Below W3.heap.size W3 W3) := Lib.hid (Below.refl _ _)
  clear hy3 hb3 hAb hnb hSTR HMH
  go_upto_region 7 with fail
  obtain ⟨VL, hVL⟩ : ∃ VL : Option Addr × Nat → List (Nat × Nat × Value), VL = fun z => [(0, 27, .slice Ab nb cb), (1, 28, .string STR), (2, 29, .agg ha), (3, 30, .agg ha), (4, 31, .slice z.1 nb z.2), (5, 32, .string STR), (6, 33, .bool false)] := ⟨_, rfl⟩
  have hok : ∀ z, manyOk 76 (VL z) := fun z => by rw [hVL]; exact okB_ok rfl
  have HVL := Lib.hid hVL
  have hvi : ∀ z, ∀ x ∈ VL z, x.1 < 7 := fun z => by rw [hVL]; exact ltB_ok rfl
  have HOK := Lib.hid hok
  have HVI := Lib.hid hvi
  clear hVL hok hvi
  refine (wpIn_wide (n := 9)).1 (regionIn_many (N := 76) (w := _) VL (fun L z w' => (Below W3.heap.size W3 w' ∧ (L 4 = true → By W3.heap.size w' (.slice z.1 nb z.2) ML)) ∧ True) [(7, .pointer (some ⟨g, 0, none⟩)), (8, .slice Ab nb cb)] (by kernel_rfl) (by kernel_rfl) rfl (by simp only [List.forall_mem_cons, List.not_mem_nil, false_imp_iff, implies_true, and_true]; exact ⟨rfl, rfl⟩) HVI.out (none, 0) ?start ?step ?fin)
  case start => exact ⟨⟨HR3.out.drew, fun h => (by cases h)⟩, trivial⟩
  case step =>
    intro gg_ hgN hgF ii_ hii_ L z w' hph hs hu
    obtain ⟨hcm, hph⟩ := hph
    have hF8 := hgF (8, .slice Ab nb cb) (by simp)
    have hF7 := hgF (7, .pointer (some ⟨g, 0, none⟩)) (by simp)
    have hL := hu.1
    have hii_ : ii_ < 7 := hii_
    clear hgF
    obtain rfl | rfl | rfl | rfl | rfl | rfl | rfl := (by omega : ii_ = 0 ∨ ii_ = 1 ∨ ii_ = 2 ∨ ii_ = 3 ∨ ii_ = 4 ∨ ii_ = 5 ∨ ii_ = 6)
    · skip
      have e8 : (many gg_ L (VL z))[8]?.getD undef = .slice Ab nb cb := many_out3 hgN (HOK.out z) (by rw [HVL.out]; rfl) hF8
      refine opIn_run (v := .slice Ab nb cb) (w' := w') rfl rfl (fun c h => by cases h) (fun _ => trivial) ?_ ⟨z, by exact many_put3 (HOK.out _) (by rw [HVL.out]; rfl) hL, hcm, hph⟩
      go_simp
    · skip
      have y0 : L 0 = true := up_at hu 0 (by kernel_rfl)
      have q1 := HCV.out w' hcm.1
      have e27 : (many gg_ L (VL z))[27]?.getD undef = .slice Ab nb cb := many_eval3 hgN (HOK.out z) (by rw [HVL.out]; rfl) y0
      refine opIn_run (v := .string STR) (w' := w') rfl rfl (fun c h => by cases h) (fun _ => trivial) ?_ ⟨z, by exact many_put3 (HOK.out _) (by rw [HVL.out]; rfl) hL, hcm, trivial⟩
      go_simp
    · skip
      have n4 : L 4 = false := not_yet hL fun h => shut_at hs 3 2 (by kernel_rfl) (shut_at hs 4 3 (by kernel_rfl) (h))
      have n5 : L 5 = false := not_yet hL fun h => shut_at hs 3 2 (by kernel_rfl) (shut_at hs 4 3 (by kernel_rfl) (shut_at hs 5 4 (by kernel_rfl) (h)))
      have e7 : (many gg_ L (VL z))[7]?.getD undef = .pointer (some ⟨g, 0, none⟩) := many_out3 hgN (HOK.out z) (by rw [HVL.out]; rfl) hF7
      refine opIn_run (v := .agg ha) (w' := w') rfl rfl (fun c h => by cases h) (fun _ => trivial) ?_ ⟨z, by exact many_put3 (HOK.out _) (by rw [HVL.out]; rfl) hL, hcm, trivial⟩
      exact run_load_many e7 (HKG3.out w' hcm.1).1 Try.underlying33 rfl (by rw [hhs]; kernel_rfl)
    · skip
      have y2 : L 2 = true := up_at hu 2 (by kernel_rfl)
      have n4 : L 4 = false := not_yet hL fun h => shut_at hs 4 3 (by kernel_rfl) (h)
      have n5 : L 5 = false := not_yet hL fun h => shut_at hs 4 3 (by kernel_rfl) (shut_at hs 5 4 (by kernel_rfl) (h))
      have e29 : (many gg_ L (VL z))[29]?.getD undef = .agg ha := many_eval3 hgN (HOK.out z) (by rw [HVL.out]; rfl) y2
      refine opIn_call (f := 15) (args := #[.agg ha]) (w' := w') rfl rfl (fun c h => by cases h) (fun _ => trivial) rfl (by go_simp) ((callsIn_wide.2 ((by have := toref_any hh w'; rw [HHA.out] at this; exact this))).mono ?_)
      rintro e w2 ⟨rfl, hb⟩
      exact ⟨_, rfl, z, by exact many_put3 (HOK.out _) (by rw [HVL.out]; rfl) hL, ⟨hcm.1.trans (hb.mono hcm.1.size), fun a => (hcm.2 (by simpa [upd] using a)).below hb⟩, trivial⟩
    · skip
      have y3 : L 3 = true := up_at hu 3 (by kernel_rfl)
      have n5 : L 5 = false := not_yet hL fun h => shut_at hs 5 4 (by kernel_rfl) (h)
      have e30 : (many gg_ L (VL z))[30]?.getD undef = .agg ha := many_eval3 hgN (HOK.out z) (by rw [HVL.out]; rfl) y3
      refine opIn_call (f := 14) (args := #[.agg ha]) (w' := w') rfl rfl (fun c h => by cases h) (fun _ => trivial) rfl (by go_simp) ((callsIn_wide.2 ((by have := rmain_any (HRH.out w' (HKG3.out w' hcm.1).2).1; rw [HHA.out, HML.out.1] at this; exact this))).mono ?_)
      rintro e w2 ⟨A0_, n0_, c0_, rfl, hy, hb⟩
      obtain ⟨A9, c9, hv9, _⟩ := By.form hy
      injection hv9 with v1 v2 v3
      rw [HNB.out.1] at v2
      subst v2
      exact ⟨_, rfl, (A0_, c0_), by rw [show many gg_ L (VL z) = many gg_ L (VL (A0_, c0_)) from by rw [HVL.out]; simp only [many, y3, n5, hL, cond_false, cond_true]]; exact many_put3 (HOK.out _) (by rw [HVL.out]; rfl) hL, ⟨hcm.1.trans (hb.mono hcm.1.size), fun _ => hy.low hcm.1.size⟩, trivial⟩
    · skip
      have y4 : L 4 = true := up_at hu 4 (by kernel_rfl)
      have q1 := conv_str (c := z.2) HNB.out.1 (hcm.2 y4).lst
      rw [HSTR.out] at q1
      have e31 : (many gg_ L (VL z))[31]?.getD undef = .slice z.1 nb z.2 := many_eval3 hgN (HOK.out z) (by rw [HVL.out]; rfl) y4
      refine opIn_run (v := .string STR) (w' := w') rfl rfl (fun c h => by cases h) (fun _ => trivial) ?_ ⟨z, by exact many_put3 (HOK.out _) (by rw [HVL.out]; rfl) hL, hcm, trivial⟩
      go_simp
    · skip
      have y1 : L 1 = true := up_at hu 1 (by kernel_rfl)
      have y5 : L 5 = true := up_at hu 5 (by kernel_rfl)
      have e28 : (many gg_ L (VL z))[28]?.getD undef = .string STR := many_eval3 hgN (HOK.out z) (by rw [HVL.out]; rfl) y1
      have e32 : (many gg_ L (VL z))[32]?.getD undef = .string STR := many_eval3 hgN (HOK.out z) (by rw [HVL.out]; rfl) y5
      refine opIn_run (v := .bool false) (w' := w') rfl rfl (fun c h => by cases h) (fun _ => trivial) ?_ ⟨z, by exact many_put3 (HOK.out _) (by rw [HVL.out]; rfl) hL, hcm, trivial⟩
      go_simp
  case fin =>
    intro L z w' hall hph
    obtain ⟨hcm, hph⟩ := hph
    have KF := Lib.hid hcm.1
    clear hcm hph
    rw [HVL.out]
    dsimp only [manyL, List.set_cons_zero, List.set_cons_succ]
    clear hall HVL HOK HVI
    obtain ⟨w4, hw4⟩ : ∃ w4, w' = w4 := ⟨_, rfl⟩
    rw [hw4] at KF ⊢
    clear hw4
    obtain ⟨p4, hp4⟩ : ∃ p, w4.heap.size = p := ⟨_, rfl⟩
    have HB4 : Hid (Below W2.heap.size W2 w4) := Lib.hid (HKG3.out w4 KF.out).2
    have hb5 : Below w4.heap.size w4 (w4.alloc (Obj.cells #[] 5)) := (Below.refl _ _).alloc (Nat.le_refl _) _
    have h5 : By w4.heap.size (w4.alloc (Obj.cells #[] 5)) (.slice (some ⟨w4.heap.size, 0, none⟩) 0 0) [] := World.ownsRow_made w4 #[] 0 (Nat.le_refl _) (by unfold maxLen; omega) rfl
    have hlb : Lst w4 w4.heap.size Ab (ML.map (Value.int .u8)) := (HY3.out.1.lst.below KF.out).more KF.out.size
    obtain ⟨A6, n6, c6, w6, hr6, hy6, hg6⟩ := app_gro (m := nb) (c := cb) h5 (fun e => (HNB.out.2 e).1) ((hlb.below hb5).more hb5.size) HNB.out.1 hb5.size (by have := HML.out.2; have := HNB.out.1; simp; omega)
    rw [List.nil_append] at hy6
    have hb6 : Below w4.heap.size w4 w6 := Gro.bel h5 hb5 hb5.size hg6
    obtain ⟨A7, n7, c7, w7, hr7, hy7, hg7⟩ := app_new [255, 144] hy6 hb6.size (by have := HML.out.2; simp; omega)
    have hr72 : (appSem #[25, 25] 25 #[.slice A6 n6 c6, .slice (some ⟨w6.heap.size, 0, none⟩) 2 2]).run Try.prog (w6.alloc (.cells #[.int .u8 255, .int .u8 144] 5)) = .ok (.slice A7 n7 c7) w7 := hr7
    have hb7 : Below w4.heap.size w4 w7 := Gro.bel hy6 hb6 hb6.size hg7
    obtain ⟨A8, n8, c8, w8, hr8, hy8, hg8⟩ := app_gro (m := len2) (c := cap2) hy7 (fun e => (HLM.out.2.2.2.2.2 e).1) (HMR.out w7 (HB4.out.trans (hb7.mono HB4.out.size))) HLM.out.2.2.1 hb7.size (by rw [List.length_append]; have := HML.out.2; simp; omega)
    have hb8 : Below w4.heap.size w4 w8 := Gro.bel hy7 hb7 hb7.size hg8
    obtain ⟨gX, cX, hv, _, _, _, _⟩ := own_form hy8 (by rw [List.length_append, List.length_append]; simp; omega)
    injection hv with hv1 hv2 hv3
    subst hv1 hv3
    have hXX : mainL hh cs l M.LV ++ 255 :: 144 :: more = ML ++ [255, 144] ++ more := by rw [HML.out.1]; simp
    have PT := parse_main HKK.out.1 HKK.out.2.1 HKK.out.2.2 l more HLL.out.2.1 HLM.out.2.1 (by rw [hNN.2.2.2.2]; exact HLL.out.2.2.1) (by rw [HLL.out.2.2.1]; omega) (by rw [HLM.out.2.2.1]; omega) (some ⟨gX, 0, none⟩) n8 c8 _ hXX hv2.symm (by simp) w8 hy8.lst
    rw [HML.out.1, HNB.out.1] at PT
    have HPT := Lib.hid PT
    have HB8 : Hid (Below W2.heap.size W2 w8) := Lib.hid (HB4.out.trans (hb8.mono HB4.out.size))
    rw [hp4] at hr6
    clear hb5 h5 hlb hy6 hg6 hb6 hr7 hy7 hg7 hb7 hy8 hg8 hb8 hv2 hXX PT KF HR3 HCV
    go_wp2_with fail
    refine HPT.out.mono ?_
    rintro e Wp ⟨cp, n', rfl, hmo⟩
    obtain ⟨rfl, hbp, h', cs', c0, rfl, hok, hsm, hc0, hA0, hn0, hcp0⟩ := hmo
    go_upto_region 10 with (refine wpList_store_row rfl 33 _ _ rfl Wp.heap.size h'.arr rfl rfl 33 #[.int .i64 0, .int .i64 0, .int .i64 0, .int .i64 0, .slice none 0 0, .int .i64 0, .int .i64 0, .int .i64 0, .int .i64 0, .int .i64 0, .int .i64 0, .int .i64 0, .int .i64 0, .int .i64 0, .bool false, .bool false, .bool false, .slice none 0 0] (World.alloc_heap_new Wp _) (by kernel_rfl) (by rfl) (by kernel_rfl) ?_)
    have hbq : Below Wp.heap.size Wp ((Wp.alloc (Obj.cells #[.int .i64 0, .int .i64 0, .int .i64 0, .int .i64 0, .slice none 0 0, .int .i64 0, .int .i64 0, .int .i64 0, .int .i64 0, .int .i64 0, .int .i64 0, .int .i64 0, .int .i64 0, .int .i64 0, .bool false, .bool false, .bool false, .slice none 0 0] 33)).setRow Wp.heap.size h'.arr) := below_setRow ((Below.refl _ _).alloc (Nat.le_refl _) _) (Nat.le_refl _) _
    obtain ⟨Wq, hWq⟩ : ∃ Wq, (Wp.alloc (Obj.cells #[.int .i64 0, .int .i64 0, .int .i64 0, .int .i64 0, .slice none 0 0, .int .i64 0, .int .i64 0, .int .i64 0, .int .i64 0, .int .i64 0, .int .i64 0, .int .i64 0, .int .i64 0, .int .i64 0, .bool false, .bool false, .bool false, .slice none 0 0] 33)).setRow Wp.heap.size h'.arr = Wq := ⟨_, rfl⟩
    obtain ⟨gx, hgx⟩ : ∃ g, Wp.heap.size = g := ⟨_, rfl⟩
    have KX : Wq.heap[gx]? = some (.cells h'.arr 33 (0, 0)) := by rw [← hWq, ← hgx]; exact setRow_heap _ _ _ _ _ _ (World.alloc_heap_new Wp _)
    rw [hWq] at hbq ⊢
    rw [hgx]
    have hb2q : Below W2.heap.size W2 Wq := by
      have h1 := HB8.out.trans (hbp.mono HB8.out.size)
      exact h1.trans (hbq.mono h1.size)
    have HWq : Hid (Below w.heap.size w Wq ∧ Wq.heap[gx]? = some (.cells h'.arr 33 (0, 0)) ∧ Wq.heap[g]? = some (.cells ha 33 (0, 0)) ∧ Below Wq.heap.size Wq Wq) := Lib.hid ⟨HBW.out.1.trans (hb2q.mono HBW.out.2), KX, (hb2q.block g (blk_lt HKG.out)).trans HKG.out, Below.refl _ _⟩
    have hokq := hok.below hbq
    have HOKQ : Hid (∀ u, Below Wq.heap.size Wq u → HdOk u h' cs' l ∧ HdOk u hh cs l) := Lib.hid fun u hu => ⟨hokq.below hu, (HRH.out u (hb2q.trans (hu.mono hb2q.size))).2⟩
    have HSM := Lib.hid hsm
    have RSM : Hid (∀ u, Below Wq.heap.size Wq u → Calls Try.prog 17 #[.agg h'.arr, .agg ha] u fun e w' => e = .returned (.bool true) ∧ Below u.heap.size u w') := Lib.hid fun u hu => by
      rw [← HHA.out]
      exact rsame_yes (HOKQ.out u hu).1 (HOKQ.out u hu).2 HSM.out
    have MSM : Hid (∀ u, Below Wq.heap.size Wq u → Calls Try.prog 18 #[.agg h'.arr, .agg ha] u fun e w' => e = .returned (.bool true) ∧ Below u.heap.size u w') := Lib.hid fun u hu => by
      rw [← HHA.out]
      refine (same_hv (HOKQ.out u hu).1 (HOKQ.out u hu).2).mono ?_
      rintro e w' ⟨⟨b, rfl, hb⟩, hb2⟩
      exact ⟨by rw [hb.2 HSM.out], hb2⟩
    obtain ⟨gc, capc, hvc, hgc, _, _, _, _, _, _, d4⟩ := hokq.row 0 c0 hc0
    rw [hA0, hn0, hcp0] at d4
    simp only [Nat.zero_mul, Nat.zero_add] at d4
    injection hvc with hv1 hv2 hv3
    have hN1 : 1 ≤ h'.N := by
      have := (List.getElem?_eq_some_iff.1 hc0).1
      have := hokq.len
      omega
    have hnz : ¬ h'.N = 0 := by omega
    have HD4 : Hid (gc < Wq.heap.size ∧ Wq.cell? ⟨gc, 4, none⟩ = some (.slice none 0 0)) := Lib.hid ⟨hgc, d4⟩
    have HX4 : Hid (Wq.cell? ⟨gx, 4, none⟩ = some (.slice (some ⟨gc, 0, none⟩) h'.N h'.C)) := Lib.hid (by
      rw [rb_cell HWq.out.2.1 4]
      show some (Value.slice h'.A h'.N h'.C) = _
      rw [hv1])
    have hs' : h'.arr.size = 18 := rfl
    clear hWq hbq hgx KX hb2q hok hokq hsm hc0 hA0 hn0 hcp0 hbp d4 hv1 hv2 hv3 hr6 hr72 hr8 HPT hp4 hgc
    obtain ⟨VL, hVL⟩ : ∃ VL : Unit → List (Nat × Nat × Value), VL = fun z => [(0, 46, .int .i64 0), (1, 47, .bool true), (2, 48, .bool true), (3, 49, .int .i64 (nb : Int)), (4, 50, .slice Ab nb cb), (5, 51, .int .i64 (nb : Int)), (6, 52, .bool true), (7, 53, .bool true), (8, 54, .bool true), (9, 55, .agg h'.arr), (10, 56, .agg h'.arr), (11, 57, .agg ha), (12, 58, .agg ha), (13, 59, .bool true), (14, 60, .bool true), (15, 61, .bool true), (16, 62, .agg h'.arr), (17, 63, .agg ha), (18, 64, .bool true), (19, 65, .bool true), (20, 66, .bool true), (21, 67, .pointer (some ⟨gx, 0, none⟩)), (22, 68, .pointer (some ⟨gx, 4, none⟩)), (23, 69, .slice (some ⟨gc, 0, none⟩) h'.N h'.C), (24, 70, .pointer (some ⟨gc, 0, none⟩)), (25, 71, .pointer (some ⟨gc, 4, none⟩)), (26, 72, .slice none 0 0), (27, 73, .int .i64 0), (28, 74, .bool true), (29, 75, .bool true), (30, 6, .bool true)] := ⟨_, rfl⟩
    have hok : ∀ z, manyOk 76 (VL z) := fun z => by rw [hVL]; exact okB_ok rfl
    have HVL := Lib.hid hVL
    have hvi : ∀ z, ∀ x ∈ VL z, x.1 < 31 := fun z => by rw [hVL]; exact ltB_ok rfl
    have HOK := Lib.hid hok
    have HVI := Lib.hid hvi
    clear hVL hok hvi
    refine (wpIn_wide (n := 9)).1 (regionIn_many (N := 76) (w := _) VL (fun L z w' => (Below Wq.heap.size Wq w') ∧ True) [(7, .pointer (some ⟨g, 0, none⟩)), (8, .slice Ab nb cb), (9, .pointer (some ⟨gx, 0, none⟩)), (10, .int .i64 (nb : Int)), (11, .int .i64 0)] (by kernel_rfl) (by kernel_rfl) rfl (by simp only [List.forall_mem_cons, List.not_mem_nil, false_imp_iff, implies_true, and_true]; exact ⟨rfl, rfl, rfl, rfl, rfl⟩) HVI.out () ?start ?step ?fin)
    case start => exact ⟨HWq.out.2.2.2.drew, trivial⟩
    case step =>
      intro gg_ hgN hgF ii_ hii_ L z w' hph hs hu
      obtain ⟨hcm, hph⟩ := hph
      have hF11 := hgF (11, .int .i64 0) (by simp)
      have hF10 := hgF (10, .int .i64 (nb : Int)) (by simp)
      have hF8 := hgF (8, .slice Ab nb cb) (by simp)
      have hF9 := hgF (9, .pointer (some ⟨gx, 0, none⟩)) (by simp)
      have hF7 := hgF (7, .pointer (some ⟨g, 0, none⟩)) (by simp)
      have hL := hu.1
      have hii_ : ii_ < 31 := hii_
      clear hgF
      obtain rfl | rfl | rfl | rfl | rfl | rfl | rfl | rfl | rfl | rfl | rfl | rfl | rfl | rfl | rfl | rfl | rfl | rfl | rfl | rfl | rfl | rfl | rfl | rfl | rfl | rfl | rfl | rfl | rfl | rfl | rfl := (by omega : ii_ = 0 ∨ ii_ = 1 ∨ ii_ = 2 ∨ ii_ = 3 ∨ ii_ = 4 ∨ ii_ = 5 ∨ ii_ = 6 ∨ ii_ = 7 ∨ ii_ = 8 ∨ ii_ = 9 ∨ ii_ = 10 ∨ ii_ = 11 ∨ ii_ = 12 ∨ ii_ = 13 ∨ ii_ = 14 ∨ ii_ = 15 ∨ ii_ = 16 ∨ ii_ = 17 ∨ ii_ = 18 ∨ ii_ = 19 ∨ ii_ = 20 ∨ ii_ = 21 ∨ ii_ = 22 ∨ ii_ = 23 ∨ ii_ = 24 ∨ ii_ = 25 ∨ ii_ = 26 ∨ ii_ = 27 ∨ ii_ = 28 ∨ ii_ = 29 ∨ ii_ = 30)
      · skip
        have e11 : (many gg_ L (VL z))[11]?.getD undef = .int .i64 0 := many_out3 hgN (HOK.out z) (by rw [HVL.out]; rfl) hF11
        refine opIn_run (v := .int .i64 0) (w' := w') rfl rfl (fun c h => by cases h) (fun _ => trivial) ?_ ⟨z, by exact many_put3 (HOK.out _) (by rw [HVL.out]; rfl) hL, hcm, hph⟩
        go_simp
      · skip
        have y0 : L 0 = true := up_at hu 0 (by kernel_rfl)
        have e46 : (many gg_ L (VL z))[46]?.getD undef = .int .i64 0 := many_eval3 hgN (HOK.out z) (by rw [HVL.out]; rfl) y0
        refine opIn_run (v := .bool true) (w' := w') rfl rfl (fun c h => by cases h) (fun _ => trivial) ?_ ⟨z, by exact many_put3 (HOK.out _) (by rw [HVL.out]; rfl) hL, hcm, hph⟩
        go_simp
      · skip
        have y1 : L 1 = true := up_at hu 1 (by kernel_rfl)
        have e47 : (many gg_ L (VL z))[47]?.getD undef = .bool true := many_eval3 hgN (HOK.out z) (by rw [HVL.out]; rfl) y1
        refine opIn_run (v := .bool true) (w' := w') rfl rfl (fun c h => by cases h) (fun _ => trivial) ?_ ⟨z, by exact many_put3 (HOK.out _) (by rw [HVL.out]; rfl) hL, hcm, hph⟩
        go_simp
      · skip
        have y2 : L 2 = true := up_at hu 2 (by kernel_rfl)
        have e10 : (many gg_ L (VL z))[10]?.getD undef = .int .i64 (nb : Int) := many_out3 hgN (HOK.out z) (by rw [HVL.out]; rfl) hF10
        have e48 : (many gg_ L (VL z))[48]?.getD undef = .bool true := many_eval3 hgN (HOK.out z) (by rw [HVL.out]; rfl) y2
        refine opIn_run_g (v := .int .i64 (nb : Int)) (w' := w') (j := 2) (b := true) rfl rfl (by simp [yielded, many_some hgN (show 48 < 76 by decide) e48]) (fun c h => by cases h) (fun _ => trivial) ?_ ⟨z, by exact many_put3 (HOK.out _) (by rw [HVL.out]; rfl) hL, hcm, hph⟩
        go_simp
      · skip
        have y2 : L 2 = true := up_at hu 2 (by kernel_rfl)
        have e8 : (many gg_ L (VL z))[8]?.getD undef = .slice Ab nb cb := many_out3 hgN (HOK.out z) (by rw [HVL.out]; rfl) hF8
        have e48 : (many gg_ L (VL z))[48]?.getD undef = .bool true := many_eval3 hgN (HOK.out z) (by rw [HVL.out]; rfl) y2
        refine opIn_run_g (v := .slice Ab nb cb) (w' := w') (j := 2) (b := true) rfl rfl (by simp [yielded, many_some hgN (show 48 < 76 by decide) e48]) (fun c h => by cases h) (fun _ => trivial) ?_ ⟨z, by exact many_put3 (HOK.out _) (by rw [HVL.out]; rfl) hL, hcm, hph⟩
        go_simp
      · skip
        have y2 : L 2 = true := up_at hu 2 (by kernel_rfl)
        have y4 : L 4 = true := up_at hu 4 (by kernel_rfl)
        have e48 : (many gg_ L (VL z))[48]?.getD undef = .bool true := many_eval3 hgN (HOK.out z) (by rw [HVL.out]; rfl) y2
        have e50 : (many gg_ L (VL z))[50]?.getD undef = .slice Ab nb cb := many_eval3 hgN (HOK.out z) (by rw [HVL.out]; rfl) y4
        refine opIn_run_g (v := .int .i64 (nb : Int)) (w' := w') (j := 2) (b := true) rfl rfl (by simp [yielded, many_some hgN (show 48 < 76 by decide) e48]) (fun c h => by cases h) (fun _ => trivial) ?_ ⟨z, by exact many_put3 (HOK.out _) (by rw [HVL.out]; rfl) hL, hcm, hph⟩
        go_simp
      · skip
        have y2 : L 2 = true := up_at hu 2 (by kernel_rfl)
        have y3 : L 3 = true := up_at hu 3 (by kernel_rfl)
        have y5 : L 5 = true := up_at hu 5 (by kernel_rfl)
        have e48 : (many gg_ L (VL z))[48]?.getD undef = .bool true := many_eval3 hgN (HOK.out z) (by rw [HVL.out]; rfl) y2
        have e49 : (many gg_ L (VL z))[49]?.getD undef = .int .i64 (nb : Int) := many_eval3 hgN (HOK.out z) (by rw [HVL.out]; rfl) y3
        have e51 : (many gg_ L (VL z))[51]?.getD undef = .int .i64 (nb : Int) := many_eval3 hgN (HOK.out z) (by rw [HVL.out]; rfl) y5
        refine opIn_run_g (v := .bool true) (w' := w') (j := 2) (b := true) rfl rfl (by simp [yielded, many_some hgN (show 48 < 76 by decide) e48]) (fun c h => by cases h) (fun _ => trivial) ?_ ⟨z, by exact many_put3 (HOK.out _) (by rw [HVL.out]; rfl) hL, hcm, hph⟩
        go_simp
      · skip
        have y2 : L 2 = true := up_at hu 2 (by kernel_rfl)
        have y6 : L 6 = true := up_at hu 6 (by kernel_rfl)
        have e48 : (many gg_ L (VL z))[48]?.getD undef = .bool true := many_eval3 hgN (HOK.out z) (by rw [HVL.out]; rfl) y2
        have e52 : (many gg_ L (VL z))[52]?.getD undef = .bool true := many_eval3 hgN (HOK.out z) (by rw [HVL.out]; rfl) y6
        refine opIn_run (v := .bool true) (w' := w') rfl rfl (fun c h => by cases h) (fun _ => trivial) ?_ ⟨z, by exact many_put3 (HOK.out _) (by rw [HVL.out]; rfl) hL, hcm, hph⟩
        go_simp
      · skip
        have y2 : L 2 = true := up_at hu 2 (by kernel_rfl)
        have y7 : L 7 = true := up_at hu 7 (by kernel_rfl)
        have e53 : (many gg_ L (VL z))[53]?.getD undef = .bool true := many_eval3 hgN (HOK.out z) (by rw [HVL.out]; rfl) y7
        refine opIn_run (v := .bool true) (w' := w') rfl rfl (fun c h => by cases h) (fun _ => trivial) ?_ ⟨z, by exact many_put3 (HOK.out _) (by rw [HVL.out]; rfl) hL, hcm, hph⟩
        go_simp
      · skip
        have y8 : L 8 = true := up_at hu 8 (by kernel_rfl)
        have e9 : (many gg_ L (VL z))[9]?.getD undef = .pointer (some ⟨gx, 0, none⟩) := many_out3 hgN (HOK.out z) (by rw [HVL.out]; rfl) hF9
        have e54 : (many gg_ L (VL z))[54]?.getD undef = .bool true := many_eval3 hgN (HOK.out z) (by rw [HVL.out]; rfl) y8
        refine opIn_run_g (v := .agg h'.arr) (w' := w') (j := 8) (b := true) rfl rfl (by simp [yielded, many_some hgN (show 54 < 76 by decide) e54]) (fun c h => by cases h) (fun _ => trivial) ?_ ⟨z, by exact many_put3 (HOK.out _) (by rw [HVL.out]; rfl) hL, hcm, trivial⟩
        exact run_load_many e9 ((hcm.block gx (blk_lt HWq.out.2.1)).trans HWq.out.2.1) Try.underlying33 rfl (by kernel_rfl)
      · skip
        have y8 : L 8 = true := up_at hu 8 (by kernel_rfl)
        have y9 : L 9 = true := up_at hu 9 (by kernel_rfl)
        have e54 : (many gg_ L (VL z))[54]?.getD undef = .bool true := many_eval3 hgN (HOK.out z) (by rw [HVL.out]; rfl) y8
        have e55 : (many gg_ L (VL z))[55]?.getD undef = .agg h'.arr := many_eval3 hgN (HOK.out z) (by rw [HVL.out]; rfl) y9
        refine opIn_call_g (f := 15) (args := #[.agg h'.arr]) (w' := w') (j := 8) (b := true) rfl rfl (by simp [yielded, many_some hgN (show 54 < 76 by decide) e54]) (fun c h => by cases h) (fun _ => trivial) rfl (by go_simp) ((callsIn_wide.2 (toref_any h' w')).mono ?_)
        rintro e w2 ⟨rfl, hb⟩
        exact ⟨_, rfl, z, by exact many_put3 (HOK.out _) (by rw [HVL.out]; rfl) hL, hcm.trans (hb.mono hcm.size), trivial⟩
      · skip
        have y8 : L 8 = true := up_at hu 8 (by kernel_rfl)
        have e7 : (many gg_ L (VL z))[7]?.getD undef = .pointer (some ⟨g, 0, none⟩) := many_out3 hgN (HOK.out z) (by rw [HVL.out]; rfl) hF7
        have e54 : (many gg_ L (VL z))[54]?.getD undef = .bool true := many_eval3 hgN (HOK.out z) (by rw [HVL.out]; rfl) y8
        refine opIn_run_g (v := .agg ha) (w' := w') (j := 8) (b := true) rfl rfl (by simp [yielded, many_some hgN (show 54 < 76 by decide) e54]) (fun c h => by cases h) (fun _ => trivial) ?_ ⟨z, by exact many_put3 (HOK.out _) (by rw [HVL.out]; rfl) hL, hcm, trivial⟩
        exact run_load_many e7 ((hcm.block g (blk_lt HWq.out.2.2.1)).trans HWq.out.2.2.1) Try.underlying33 rfl (by rw [hhs]; kernel_rfl)
      · skip
        have y8 : L 8 = true := up_at hu 8 (by kernel_rfl)
        have y10 : L 10 = true := up_at hu 10 (by kernel_rfl)
        have y11 : L 11 = true := up_at hu 11 (by kernel_rfl)
        have e54 : (many gg_ L (VL z))[54]?.getD undef = .bool true := many_eval3 hgN (HOK.out z) (by rw [HVL.out]; rfl) y8
        have e57 : (many gg_ L (VL z))[57]?.getD undef = .agg ha := many_eval3 hgN (HOK.out z) (by rw [HVL.out]; rfl) y11
        refine opIn_call_g (f := 15) (args := #[.agg ha]) (w' := w') (j := 8) (b := true) rfl rfl (by simp [yielded, many_some hgN (show 54 < 76 by decide) e54]) (fun c h => by cases h) (fun _ => trivial) rfl (by go_simp) ((callsIn_wide.2 ((by have := toref_any hh w'; rw [HHA.out] at this; exact this))).mono ?_)
        rintro e w2 ⟨rfl, hb⟩
        exact ⟨_, rfl, z, by exact many_put3 (HOK.out _) (by rw [HVL.out]; rfl) hL, hcm.trans (hb.mono hcm.size), trivial⟩
      · skip
        have y8 : L 8 = true := up_at hu 8 (by kernel_rfl)
        have y10 : L 10 = true := up_at hu 10 (by kernel_rfl)
        have y12 : L 12 = true := up_at hu 12 (by kernel_rfl)
        have e54 : (many gg_ L (VL z))[54]?.getD undef = .bool true := many_eval3 hgN (HOK.out z) (by rw [HVL.out]; rfl) y8
        have e56 : (many gg_ L (VL z))[56]?.getD undef = .agg h'.arr := many_eval3 hgN (HOK.out z) (by rw [HVL.out]; rfl) y10
        have e58 : (many gg_ L (VL z))[58]?.getD undef = .agg ha := many_eval3 hgN (HOK.out z) (by rw [HVL.out]; rfl) y12
        refine opIn_call_g (f := 17) (args := #[.agg h'.arr, .agg ha]) (w' := w') (j := 8) (b := true) rfl rfl (by simp [yielded, many_some hgN (show 54 < 76 by decide) e54]) (fun c h => by cases h) (fun _ => trivial) rfl (by go_simp) ((callsIn_wide.2 (RSM.out w' hcm)).mono ?_)
        rintro e w2 ⟨rfl, hb⟩
        exact ⟨_, rfl, z, by exact many_put3 (HOK.out _) (by rw [HVL.out]; rfl) hL, hcm.trans (hb.mono hcm.size), trivial⟩
      · skip
        have y8 : L 8 = true := up_at hu 8 (by kernel_rfl)
        have y13 : L 13 = true := up_at hu 13 (by kernel_rfl)
        have e54 : (many gg_ L (VL z))[54]?.getD undef = .bool true := many_eval3 hgN (HOK.out z) (by rw [HVL.out]; rfl) y8
        have e59 : (many gg_ L (VL z))[59]?.getD undef = .bool true := many_eval3 hgN (HOK.out z) (by rw [HVL.out]; rfl) y13
        refine opIn_run (v := .bool true) (w' := w') rfl rfl (fun c h => by cases h) (fun _ => trivial) ?_ ⟨z, by exact many_put3 (HOK.out _) (by rw [HVL.out]; rfl) hL, hcm, hph⟩
        go_simp
      · skip
        have y13 : L 13 = true := up_at hu 13 (by kernel_rfl)
        have y14 : L 14 = true := up_at hu 14 (by kernel_rfl)
        have e60 : (many gg_ L (VL z))[60]?.getD undef = .bool true := many_eval3 hgN (HOK.out z) (by rw [HVL.out]; rfl) y14
        refine opIn_run (v := .bool true) (w' := w') rfl rfl (fun c h => by cases h) (fun _ => trivial) ?_ ⟨z, by exact many_put3 (HOK.out _) (by rw [HVL.out]; rfl) hL, hcm, hph⟩
        go_simp
      · skip
        have y15 : L 15 = true := up_at hu 15 (by kernel_rfl)
        have e9 : (many gg_ L (VL z))[9]?.getD undef = .pointer (some ⟨gx, 0, none⟩) := many_out3 hgN (HOK.out z) (by rw [HVL.out]; rfl) hF9
        have e61 : (many gg_ L (VL z))[61]?.getD undef = .bool true := many_eval3 hgN (HOK.out z) (by rw [HVL.out]; rfl) y15
        refine opIn_run_g (v := .agg h'.arr) (w' := w') (j := 15) (b := true) rfl rfl (by simp [yielded, many_some hgN (show 61 < 76 by decide) e61]) (fun c h => by cases h) (fun _ => trivial) ?_ ⟨z, by exact many_put3 (HOK.out _) (by rw [HVL.out]; rfl) hL, hcm, trivial⟩
        exact run_load_many e9 ((hcm.block gx (blk_lt HWq.out.2.1)).trans HWq.out.2.1) Try.underlying33 rfl (by kernel_rfl)
      · skip
        have y15 : L 15 = true := up_at hu 15 (by kernel_rfl)
        have e7 : (many gg_ L (VL z))[7]?.getD undef = .pointer (some ⟨g, 0, none⟩) := many_out3 hgN (HOK.out z) (by rw [HVL.out]; rfl) hF7
        have e61 : (many gg_ L (VL z))[61]?.getD undef = .bool true := many_eval3 hgN (HOK.out z) (by rw [HVL.out]; rfl) y15
        refine opIn_run_g (v := .agg ha) (w' := w') (j := 15) (b := true) rfl rfl (by simp [yielded, many_some hgN (show 61 < 76 by decide) e61]) (fun c h => by cases h) (fun _ => trivial) ?_ ⟨z, by exact many_put3 (HOK.out _) (by rw [HVL.out]; rfl) hL, hcm, trivial⟩
        exact run_load_many e7 ((hcm.block g (blk_lt HWq.out.2.2.1)).trans HWq.out.2.2.1) Try.underlying33 rfl (by rw [hhs]; kernel_rfl)
      · skip
        have y15 : L 15 = true := up_at hu 15 (by kernel_rfl)
        have y16 : L 16 = true := up_at hu 16 (by kernel_rfl)
        have y17 : L 17 = true := up_at hu 17 (by kernel_rfl)
        have e61 : (many gg_ L (VL z))[61]?.getD undef = .bool true := many_eval3 hgN (HOK.out z) (by rw [HVL.out]; rfl) y15
        have e62 : (many gg_ L (VL z))[62]?.getD undef = .agg h'.arr := many_eval3 hgN (HOK.out z) (by rw [HVL.out]; rfl) y16
        have e63 : (many gg_ L (VL z))[63]?.getD undef = .agg ha := many_eval3 hgN (HOK.out z) (by rw [HVL.out]; rfl) y17
        refine opIn_call_g (f := 18) (args := #[.agg h'.arr, .agg ha]) (w' := w') (j := 15) (b := true) rfl rfl (by simp [yielded, many_some hgN (show 61 < 76 by decide) e61]) (fun c h => by cases h) (fun _ => trivial) rfl (by go_simp) ((callsIn_wide.2 (MSM.out w' hcm)).mono ?_)
        rintro e w2 ⟨rfl, hb⟩
        exact ⟨_, rfl, z, by exact many_put3 (HOK.out _) (by rw [HVL.out]; rfl) hL, hcm.trans (hb.mono hcm.size), trivial⟩
      · skip
        have y15 : L 15 = true := up_at hu 15 (by kernel_rfl)
        have y18 : L 18 = true := up_at hu 18 (by kernel_rfl)
        have e61 : (many gg_ L (VL z))[61]?.getD undef = .bool true := many_eval3 hgN (HOK.out z) (by rw [HVL.out]; rfl) y15
        have e64 : (many gg_ L (VL z))[64]?.getD undef = .bool true := many_eval3 hgN (HOK.out z) (by rw [HVL.out]; rfl) y18
        refine opIn_run (v := .bool true) (w' := w') rfl rfl (fun c h => by cases h) (fun _ => trivial) ?_ ⟨z, by exact many_put3 (HOK.out _) (by rw [HVL.out]; rfl) hL, hcm, hph⟩
        go_simp
      · skip
        have y18 : L 18 = true := up_at hu 18 (by kernel_rfl)
        have y19 : L 19 = true := up_at hu 19 (by kernel_rfl)
        have e65 : (many gg_ L (VL z))[65]?.getD undef = .bool true := many_eval3 hgN (HOK.out z) (by rw [HVL.out]; rfl) y19
        refine opIn_run (v := .bool true) (w' := w') rfl rfl (fun c h => by cases h) (fun _ => trivial) ?_ ⟨z, by exact many_put3 (HOK.out _) (by rw [HVL.out]; rfl) hL, hcm, hph⟩
        go_simp
      · skip
        have y20 : L 20 = true := up_at hu 20 (by kernel_rfl)
        have e9 : (many gg_ L (VL z))[9]?.getD undef = .pointer (some ⟨gx, 0, none⟩) := many_out3 hgN (HOK.out z) (by rw [HVL.out]; rfl) hF9
        have e66 : (many gg_ L (VL z))[66]?.getD undef = .bool true := many_eval3 hgN (HOK.out z) (by rw [HVL.out]; rfl) y20
        refine opIn_run_g (v := .pointer (some ⟨gx, 0, none⟩)) (w' := w') (j := 20) (b := true) rfl rfl (by simp [yielded, many_some hgN (show 66 < 76 by decide) e66]) (fun c h => by cases h) (fun _ => trivial) ?_ ⟨z, by exact many_put3 (HOK.out _) (by rw [HVL.out]; rfl) hL, hcm, hph⟩
        go_simp
      · skip
        have y20 : L 20 = true := up_at hu 20 (by kernel_rfl)
        have y21 : L 21 = true := up_at hu 21 (by kernel_rfl)
        have e66 : (many gg_ L (VL z))[66]?.getD undef = .bool true := many_eval3 hgN (HOK.out z) (by rw [HVL.out]; rfl) y20
        have e67 : (many gg_ L (VL z))[67]?.getD undef = .pointer (some ⟨gx, 0, none⟩) := many_eval3 hgN (HOK.out z) (by rw [HVL.out]; rfl) y21
        refine opIn_run_g (v := .pointer (some ⟨gx, 4, none⟩)) (w' := w') (j := 20) (b := true) rfl rfl (by simp [yielded, many_some hgN (show 66 < 76 by decide) e66]) (fun c h => by cases h) (fun _ => trivial) ?_ ⟨z, by exact many_put3 (HOK.out _) (by rw [HVL.out]; rfl) hL, hcm, hph⟩
        go_simp
      · skip
        have y20 : L 20 = true := up_at hu 20 (by kernel_rfl)
        have y22 : L 22 = true := up_at hu 22 (by kernel_rfl)
        have hcell : w'.cell? ⟨gx, 4, none⟩ = some (.slice (some ⟨gc, 0, none⟩) h'.N h'.C) := (hcm.cell (p := ⟨gx, 4, none⟩) (blk_lt HWq.out.2.1)).trans HX4.out
        have e66 : (many gg_ L (VL z))[66]?.getD undef = .bool true := many_eval3 hgN (HOK.out z) (by rw [HVL.out]; rfl) y20
        have e68 : (many gg_ L (VL z))[68]?.getD undef = .pointer (some ⟨gx, 4, none⟩) := many_eval3 hgN (HOK.out z) (by rw [HVL.out]; rfl) y22
        refine opIn_run_g (v := .slice (some ⟨gc, 0, none⟩) h'.N h'.C) (w' := w') (j := 20) (b := true) rfl rfl (by simp [yielded, many_some hgN (show 66 < 76 by decide) e66]) (fun c h => by cases h) (fun _ => trivial) ?_ ⟨z, by exact many_put3 (HOK.out _) (by rw [HVL.out]; rfl) hL, hcm, hph⟩
        go_simp
      · skip
        have y20 : L 20 = true := up_at hu 20 (by kernel_rfl)
        have y23 : L 23 = true := up_at hu 23 (by kernel_rfl)
        have e66 : (many gg_ L (VL z))[66]?.getD undef = .bool true := many_eval3 hgN (HOK.out z) (by rw [HVL.out]; rfl) y20
        have e69 : (many gg_ L (VL z))[69]?.getD undef = .slice (some ⟨gc, 0, none⟩) h'.N h'.C := many_eval3 hgN (HOK.out z) (by rw [HVL.out]; rfl) y23
        refine opIn_run_g (v := .pointer (some ⟨gc, 0, none⟩)) (w' := w') (j := 20) (b := true) rfl rfl (by simp [yielded, many_some hgN (show 66 < 76 by decide) e66]) (fun c h => by cases h) (fun _ => trivial) ?_ ⟨z, by exact many_put3 (HOK.out _) (by rw [HVL.out]; rfl) hL, hcm, hph⟩
        go_simp
      · skip
        have y20 : L 20 = true := up_at hu 20 (by kernel_rfl)
        have y24 : L 24 = true := up_at hu 24 (by kernel_rfl)
        have e66 : (many gg_ L (VL z))[66]?.getD undef = .bool true := many_eval3 hgN (HOK.out z) (by rw [HVL.out]; rfl) y20
        have e70 : (many gg_ L (VL z))[70]?.getD undef = .pointer (some ⟨gc, 0, none⟩) := many_eval3 hgN (HOK.out z) (by rw [HVL.out]; rfl) y24
        refine opIn_run_g (v := .pointer (some ⟨gc, 4, none⟩)) (w' := w') (j := 20) (b := true) rfl rfl (by simp [yielded, many_some hgN (show 66 < 76 by decide) e66]) (fun c h => by cases h) (fun _ => trivial) ?_ ⟨z, by exact many_put3 (HOK.out _) (by rw [HVL.out]; rfl) hL, hcm, hph⟩
        go_simp
      · skip
        have y20 : L 20 = true := up_at hu 20 (by kernel_rfl)
        have y25 : L 25 = true := up_at hu 25 (by kernel_rfl)
        have hcell : w'.cell? ⟨gc, 4, none⟩ = some (.slice none 0 0) := (hcm.cell (p := ⟨gc, 4, none⟩) HD4.out.1).trans HD4.out.2
        have e66 : (many gg_ L (VL z))[66]?.getD undef = .bool true := many_eval3 hgN (HOK.out z) (by rw [HVL.out]; rfl) y20
        have e71 : (many gg_ L (VL z))[71]?.getD undef = .pointer (some ⟨gc, 4, none⟩) := many_eval3 hgN (HOK.out z) (by rw [HVL.out]; rfl) y25
        refine opIn_run_g (v := .slice none 0 0) (w' := w') (j := 20) (b := true) rfl rfl (by simp [yielded, many_some hgN (show 66 < 76 by decide) e66]) (fun c h => by cases h) (fun _ => trivial) ?_ ⟨z, by exact many_put3 (HOK.out _) (by rw [HVL.out]; rfl) hL, hcm, hph⟩
        go_simp
      · skip
        have y20 : L 20 = true := up_at hu 20 (by kernel_rfl)
        have y26 : L 26 = true := up_at hu 26 (by kernel_rfl)
        have e66 : (many gg_ L (VL z))[66]?.getD undef = .bool true := many_eval3 hgN (HOK.out z) (by rw [HVL.out]; rfl) y20
        have e72 : (many gg_ L (VL z))[72]?.getD undef = .slice none 0 0 := many_eval3 hgN (HOK.out z) (by rw [HVL.out]; rfl) y26
        refine opIn_run_g (v := .int .i64 0) (w' := w') (j := 20) (b := true) rfl rfl (by simp [yielded, many_some hgN (show 66 < 76 by decide) e66]) (fun c h => by cases h) (fun _ => trivial) ?_ ⟨z, by exact many_put3 (HOK.out _) (by rw [HVL.out]; rfl) hL, hcm, hph⟩
        go_simp
      · skip
        have y20 : L 20 = true := up_at hu 20 (by kernel_rfl)
        have y27 : L 27 = true := up_at hu 27 (by kernel_rfl)
        have e66 : (many gg_ L (VL z))[66]?.getD undef = .bool true := many_eval3 hgN (HOK.out z) (by rw [HVL.out]; rfl) y20
        have e73 : (many gg_ L (VL z))[73]?.getD undef = .int .i64 0 := many_eval3 hgN (HOK.out z) (by rw [HVL.out]; rfl) y27
        refine opIn_run_g (v := .bool true) (w' := w') (j := 20) (b := true) rfl rfl (by simp [yielded, many_some hgN (show 66 < 76 by decide) e66]) (fun c h => by cases h) (fun _ => trivial) ?_ ⟨z, by exact many_put3 (HOK.out _) (by rw [HVL.out]; rfl) hL, hcm, hph⟩
        go_simp
      · skip
        have y20 : L 20 = true := up_at hu 20 (by kernel_rfl)
        have y28 : L 28 = true := up_at hu 28 (by kernel_rfl)
        have e66 : (many gg_ L (VL z))[66]?.getD undef = .bool true := many_eval3 hgN (HOK.out z) (by rw [HVL.out]; rfl) y20
        have e74 : (many gg_ L (VL z))[74]?.getD undef = .bool true := many_eval3 hgN (HOK.out z) (by rw [HVL.out]; rfl) y28
        refine opIn_run (v := .bool true) (w' := w') rfl rfl (fun c h => by cases h) (fun _ => trivial) ?_ ⟨z, by exact many_put3 (HOK.out _) (by rw [HVL.out]; rfl) hL, hcm, hph⟩
        go_simp
      · skip
        have y0 : L 0 = true := up_at hu 0 (by kernel_rfl)
        have y1 : L 1 = true := up_at hu 1 (by kernel_rfl)
        have y2 : L 2 = true := up_at hu 2 (by kernel_rfl)
        have y3 : L 3 = true := up_at hu 3 (by kernel_rfl)
        have y4 : L 4 = true := up_at hu 4 (by kernel_rfl)
        have y5 : L 5 = true := up_at hu 5 (by kernel_rfl)
        have y6 : L 6 = true := up_at hu 6 (by kernel_rfl)
        have y7 : L 7 = true := up_at hu 7 (by kernel_rfl)
        have y8 : L 8 = true := up_at hu 8 (by kernel_rfl)
        have y9 : L 9 = true := up_at hu 9 (by kernel_rfl)
        have y10 : L 10 = true := up_at hu 10 (by kernel_rfl)
        have y11 : L 11 = true := up_at hu 11 (by kernel_rfl)
        have y12 : L 12 = true := up_at hu 12 (by kernel_rfl)
        have y13 : L 13 = true := up_at hu 13 (by kernel_rfl)
        have y14 : L 14 = true := up_at hu 14 (by kernel_rfl)
        have y15 : L 15 = true := up_at hu 15 (by kernel_rfl)
        have y16 : L 16 = true := up_at hu 16 (by kernel_rfl)
        have y17 : L 17 = true := up_at hu 17 (by kernel_rfl)
        have y18 : L 18 = true := up_at hu 18 (by kernel_rfl)
        have y19 : L 19 = true := up_at hu 19 (by kernel_rfl)
        have y20 : L 20 = true := up_at hu 20 (by kernel_rfl)
        have y21 : L 21 = true := up_at hu 21 (by kernel_rfl)
        have y22 : L 22 = true := up_at hu 22 (by kernel_rfl)
        have y23 : L 23 = true := up_at hu 23 (by kernel_rfl)
        have y24 : L 24 = true := up_at hu 24 (by kernel_rfl)
        have y25 : L 25 = true := up_at hu 25 (by kernel_rfl)
        have y26 : L 26 = true := up_at hu 26 (by kernel_rfl)
        have y27 : L 27 = true := up_at hu 27 (by kernel_rfl)
        have y28 : L 28 = true := up_at hu 28 (by kernel_rfl)
        have y29 : L 29 = true := up_at hu 29 (by kernel_rfl)
        have e75 : (many gg_ L (VL z))[75]?.getD undef = .bool true := many_eval3 hgN (HOK.out z) (by rw [HVL.out]; rfl) y29
        refine opIn_run (v := .bool true) (w' := w') rfl rfl (fun c h => by cases h) (fun _ => trivial) ?_ ⟨z, by exact many_put3 (HOK.out _) (by rw [HVL.out]; rfl) hL, hcm, hph⟩
        go_simp
    case fin =>
      intro L z w' hall hph
      obtain ⟨hcm, hph⟩ := hph
      have KF := Lib.hid (HWq.out.1.trans (hcm.mono HWq.out.1.size))
      clear hcm hph
      rw [HVL.out]
      dsimp only [manyL, List.set_cons_zero, List.set_cons_succ]
      clear hall HVL HOK HVI
      go_wp2
      go_ret
      first | exact KF.out | exact ⟨rfl, KF.out⟩
end
end
end Go.Proofs.Ytlbfjaifemnkpaa
