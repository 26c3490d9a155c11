/- ColorBounds: three rows in an array. -/
import Derived.Test.YtgplaikcahpiiaaColBack
import Derived.Test.YtgplaikcahpiiaaOnly
import Derived.StillTailTactics
import Derived.Deep.AppendLies
import Derived.Deep.RegionWith
import Derived.Deep.RegionLaw
import Derived.Deep.CutBlock
import Derived.Deep.CutRange
set_option linter.unusedVariables false
namespace Go.Proofs.Ytgplaikcahpiiaa
open Go.RowKit

theorem blk_cell {w : World} {p : Nat} {cs : Array Value} {t : TypeId} (h : w.heap[p]? = some (.cells cs t (0, 0))) (i : Nat) : w.cell? ⟨p, i, none⟩ = cs[i]? := cell_of_row w p i cs t (0, 0) h
theorem blk_frozen {w : World} {p : Nat} {cs : Array Value} {t : TypeId} (h : w.heap[p]? = some (.cells cs t (0, 0))) (i : Nat) : w.frozen? ⟨p, i, none⟩ = false := by simp [World.frozen?, h]
theorem blk_lt {w : World} {p : Nat} {o : Obj} (h : w.heap[p]? = some o) : p < w.heap.size := (Array.getElem?_eq_some_iff.1 h).1
theorem blk_set {w : World} {p : Nat} {cs : Array Value} {t : TypeId} (h : w.heap[p]? = some (.cells cs t (0, 0))) (i : Nat) (u : Value) :
    (w.setCell ⟨p, i, none⟩ u).heap[p]? = some (.cells (cs.setIfInBounds i u) t (0, 0)) := by
  simp [World.setCell, Array.getElem?_modify, h]
theorem blk_not_row {w : World} {p : Nat} {cs : Array Value} {t e : TypeId} (h : w.heap[p]? = some (.cells cs t (0, 0))) (hte : t ≠ e) {base size k : Nat} {v : Value} {xs : List Value} (hr : w.ownsRow base e size v k xs) : v.ownBlock ≠ some p := by
  rcases hr.2 with ⟨rfl, _⟩ | ⟨g, cap, cur, rfl, _, hgb, _⟩
  · simp [Value.ownBlock]
  · intro e'
    obtain rfl : g = p := by simpa [Value.ownBlock] using e'
    rw [h] at hgb
    simp at hgb
    exact hte hgb.2

/-- Block b holds three slices, each of which is alone in its block; k numbers from 0 to m - 1 at most in each. -/
def L3 (w : World) (b : Nat) (m : Int) (k : Nat) (u : World) (V : Nat → Value) (L : Nat → List Int) : Prop :=
  w.heap.size ≤ b ∧ u.heap[b]? = some (.cells #[V 0, V 1, V 2] 36 (0, 0)) ∧
  (∀ j, j < 3 → u.ownsRow w.heap.size 3 1 (V j) (L j).length ((L j).map (Value.int .i64)) ∧ (L j).length ≤ k ∧ (∀ x ∈ L j, 0 ≤ x ∧ x < m)) ∧
  (∀ i j, i < 3 → j < 3 → i ≠ j → ∀ g, (V i).ownBlock = some g → (V j).ownBlock ≠ some g) ∧ Below w.heap.size w u
theorem L3.cell {w u : World} {b k : Nat} {m : Int} {V : Nat → Value} {L : Nat → List Int} (h : L3 w b m k u V L) {r : Nat} (hr : r < 3) : u.cell? ⟨b, r, none⟩ = some (V r) := by
  rw [blk_cell h.2.1 r]
  rcases r with _ | _ | _ | r
  · rfl
  · rfl
  · rfl
  · omega
theorem L3.frozen {w u : World} {b k : Nat} {m : Int} {V : Nat → Value} {L : Nat → List Int} (h : L3 w b m k u V L) (r : Nat) : u.frozen? ⟨b, r, none⟩ = false := blk_frozen h.2.1 r
theorem L3.step {w u u1 u2 : World} {b k : Nat} {m : Int} {V : Nat → Value} {L : Nat → List Int} (h : L3 w b m k u V L) {r : Nat} (hr : r < 3) (h1 : u.heap.size ≤ u1.heap.size) (hk1 : ∀ i, i < u.heap.size → u1.heap[i]? = u.heap[i]?) (hb1 : Below w.heap.size w u1)
    {x : Int} (hx : 0 ≤ x ∧ x < m) {g cap : Nat} (hown : u2.ownsRow w.heap.size 3 1 (.slice (some ⟨g, 0, none⟩) ((L r).length + 1) cap) ((L r).length + 1) ((L r).map (Value.int .i64) ++ [.int .i64 x]))
    (hg : u1.grownBy u2 (V r).ownBlock) (hat : (V r).ownBlock = some g ∨ u.heap.size ≤ g) :
    L3 w b m (k + 1) (u2.setCell ⟨b, r, none⟩ (.slice (some ⟨g, 0, none⟩) ((L r).length + 1) cap)) (fun j => if j = r then .slice (some ⟨g, 0, none⟩) ((L r).length + 1) cap else V j) (fun j => if j = r then L r ++ [x] else L j) := by
  obtain ⟨hlo, hblk, hall, hne, hbel⟩ := h
  have hbl := blk_lt hblk
  have hsz := hbel.size
  have hnb : ∀ j, j < 3 → (V j).ownBlock ≠ some b := fun j hj => blk_not_row hblk (by decide) (hall j hj).1
  have hb2 : u2.heap[b]? = some (.cells #[V 0, V 1, V 2] 36 (0, 0)) := (hg.block b (by omega) (fun e => hnb r hr e.symm)).trans ((hk1 b hbl).trans hblk)
  have hgb : g ≠ b := by
    rcases hat with e | e
    · intro e'; subst e'; exact hnb r hr e
    · omega
  have hset := blk_set hb2 r (.slice (some ⟨g, 0, none⟩) ((L r).length + 1) cap)
  have hoth : ∀ i, i ≠ b → (u2.setCell ⟨b, r, none⟩ (.slice (some ⟨g, 0, none⟩) ((L r).length + 1) cap)).heap[i]? = u2.heap[i]? := fun i hi => Below.heap_setCell _ _ _ _ (fun e => hi (by simpa using e))
  have hss : (u2.setCell ⟨b, r, none⟩ (.slice (some ⟨g, 0, none⟩) ((L r).length + 1) cap)).heap.size = u2.heap.size := by simp [World.setCell]
  have hg2 := hg.size
  refine ⟨hlo, ?_, fun j hj => ?_, fun i j hi hj hij g' hg' => ?_, ?_⟩
  · rw [hset]
    rcases r with _ | _ | _ | r
    · rfl
    · rfl
    · rfl
    · omega
  · by_cases hjr : j = r
    · subst hjr
      show World.ownsRow _ _ _ _ (if j = j then _ else _) (List.length (if j = j then _ else _)) (List.map _ (if j = j then _ else _)) ∧ (List.length (if j = j then _ else _)) ≤ k + 1 ∧ _
      rw [if_pos rfl, if_pos rfl]
      refine ⟨?_, ?_, ?_⟩
      · rw [List.length_append, List.map_append]
        exact ownsRow_keep hown (by omega) (fun i hi => hoth i (by simp [Value.ownBlock] at hi; omega))
      · rw [List.length_append]; have := (hall j hj).2.1; simp; omega
      · intro y hy
        simp at hy
        rcases hy with hy | rfl
        · exact (hall j hj).2.2 y hy
        · exact hx
    · simp only [if_neg hjr]
      refine ⟨ownsRow_keep (hall j hj).1 (by omega) (fun i hi => ?_), by have := (hall j hj).2.1; omega, (hall j hj).2.2⟩
      have hi2 := own_lt (hall j hj).1 hi
      have hib : i ≠ b := fun e => hnb j hj (e ▸ hi)
      rw [hoth i hib, hg.block i (by omega) (fun e => hne r j hr hj (Ne.symm hjr) i e.symm hi), hk1 i hi2.2]
  · by_cases hir : i = r
    · subst hir
      have hjr : j ≠ i := Ne.symm hij
      simp only [if_pos, if_neg hjr] at hg' ⊢
      intro e
      obtain rfl : g = g' := by simpa [Value.ownBlock] using hg'
      rcases hat with e2 | e2
      · exact hne i j hi hj hij g e2 e
      · have := own_lt (hall j hj).1 e; omega
    · simp only [if_neg hir] at hg'
      by_cases hjr : j = r
      · subst hjr
        simp only [if_pos]
        intro e
        obtain rfl : g = g' := by simpa [Value.ownBlock] using e
        rcases hat with e2 | e2
        · exact hne j i hj hi (Ne.symm hij) g e2 hg'
        · have := own_lt (hall i hi).1 hg'; omega
      · simp only [if_neg hjr]
        exact hne i j hi hj hij g' hg'
  · exact (hb1.grown hg (by omega) (fun q hq => (own_lt (hall r hr).1 hq).1)).setCell (p := ⟨b, r, none⟩) hlo _
theorem two_pow (q : Nat) (hq : q < 16) : (2 : Int) ≤ 2 ^ (1 + q) ∧ (2 : Int) ^ (1 + q) ≤ 65536 ∧ (2 : Int) ^ (1 + q) = 2 * 2 ^ q := by
  have e : (2 : Int) ^ q = ((2 ^ q : Nat) : Int) := by simp
  have h3 : (2 : Nat) ^ q ≤ 2 ^ 15 := Nat.pow_le_pow_right (by decide) (by omega)
  have h4 : 1 ≤ (2 : Nat) ^ q := Nat.one_le_two_pow
  rw [show 1 + q = q + 1 from by omega, Int.pow_succ]
  omega
theorem half_b (q : Nat) (hq : q < 16) : wrap64 ((2 : Int) ^ q) = 2 ^ q := by
  have h := two_pow q hq
  exact IntWalk.wrap64_in _ (by omega)
theorem sh_get (h : Int) (l : List Int) (n k : Nat) (hk : k < n) : (map1 (· - h) l n).getD k 0 = l.getD k 0 - h := by
  unfold map1
  rw [ranged_getD, if_pos hk]
theorem get_in {m : Int} {l : List Int} {k : Nat} (hk : k < l.length) (h : ∀ x ∈ l, 0 ≤ x ∧ x < m) : 0 ≤ l.getD k 0 ∧ l.getD k 0 < m := h _ (by rw [List.getD_eq_getElem?_getD, List.getElem?_eq_getElem hk]; exact List.getElem_mem _)
theorem rng_b {m h : Int} {l : List Int} {n : Nat} (hm : m ≤ 65536) (h0 : 0 ≤ h) (h1 : h ≤ 65536) (hl : n ≤ l.length) (hr : ∀ x ∈ l, 0 ≤ x ∧ x < m) : Rng 65536 (map1 (· - h) l n) := fun i => by
  unfold map1
  rw [ranged_getD]
  show (-65536 ≤ if i < n then l.getD i 0 - h else 0) ∧ (if i < n then l.getD i 0 - h else 0) ≤ 65536
  split
  · have := get_in (by omega) hr (k := i); omega
  · omega
theorem shl_is (q : Nat) (hq : q < 16) : IntKind.i64.wrap ((2 : Int) ^ min (IntKind.u64.wrap (1 + (q : Int))).toNat 64) = 2 ^ (1 + q) := by
  have h := two_pow q hq
  rw [IntWalk.u64_in _ (by omega), show min (1 + (q : Int)).toNat 64 = 1 + q from by omega]
  exact IntWalk.i64_in _ (by omega)

set_option maxRecDepth 100000 in
set_option maxHeartbeats 16000000 in
theorem walk_colorBounds (a0 : Int) (a1 : Option Addr) (len1 cap1 : Nat) (z1 : List Int) (w : World) (w0 : (Lit.int .i64 a0).wf = true) (w1 : IsRow .i64 w a1 len1 cap1 z1) :
    Calls Try.prog 7 #[.int .i64 a0, .slice a1 len1 cap1] w fun e w' => e = .returned (.bool true) ∧ Below w.heap.size w w' := by
  obtain ⟨i0, hi, hz0, hz1, hz2⟩ := info_parts Try.info3
  have H1 := Lib.hid (rowI_is w1)
  generalize z1.take len1 = l at *
  obtain ⟨q, hq⟩ : ∃ q : Nat, a0 % 16 = q := ⟨(a0 % 16).toNat, by omega⟩
  have hq16 : q < 16 := by omega
  have HQ := Lib.hid hq
  clear w0 w1 hq
  go_enter Try.func7, Try.ntmps7
  go_wp2_with fail
  refine (known11 _).mono ?_
  rintro e w1 ⟨rfl, b1⟩
  go_wp2_with fail
  refine (within11 _ _ _ (by omega) (by omega)).mono ?_
  rintro e w' ⟨rfl, rfl⟩
  rw [HQ.out]
  have hpw := two_pow q hq16
  have hwrq : IntKind.i64.wrap (1 + (q : Int)) = 1 + (q : Int) := IntWalk.i64_in _ (by omega)
  have s1 := b1.size
  have hl0 : L3 w w1.heap.size (2 ^ (1 + q)) 0 (w1.alloc (Obj.cells #[.slice none 0 0, .slice none 0 0, .slice none 0 0] 36)) (fun _ => .slice none 0 0) (fun _ => []) :=
    ⟨s1, heap_alloc_new w1 _, fun j hj => ⟨World.ownsRow_nil _ _ _ _, Nat.le_refl _, by simp⟩, fun i j _ _ _ g hg => by simp [Value.ownBlock] at hg, b1.alloc s1 _⟩
  have HL0 := Lib.hid hl0
  clear hl0
  have hb1s : w1.heap.size < (w1.alloc (Obj.cells #[.slice none 0 0, .slice none 0 0, .slice none 0 0] 36)).heap.size := by simp
  have HSH := Lib.hid (shl_is q hq16)
  obtain ⟨m, hm⟩ : ∃ m, (2 : Int) ^ (1 + q) = m := ⟨_, rfl⟩
  rw [hm] at hpw HL0 HSH
  have HM := Lib.hid hm
  clear hm
  go_upto_block 0 with fail
  go_cut [6] from 21 to 47 (fun i wx => ∃ (k : Nat) (V : Nat → Value) (L : Nat → List Int), k ≤ 90 ∧ L3 w w1.heap.size m k wx V L)
  case first =>
    go_wp2
    go_loopw [6] (fun i wr => ∃ (k : Nat) (V : Nat → Value) (L : Nat → List Int), k ≤ 90 ∧ k ≤ len1 ∧ i = .int .i64 (k : Int) ∧ L3 w w1.heap.size m k wr V L) (fun i _ => 90 - (intOf i).toNat)
    case atStart => exact ⟨0, _, _, by omega, by omega, rfl, HL0.out⟩
    case round =>
      obtain ⟨k, V, L, k90, kl, rfl, hL⟩ := hrel
      have hbel := hL.2.2.2.2
      clear HL0 hb1s
      by_cases c1 : k < len1
      · by_cases c2 : k < 90
        · obtain ⟨b, o, rfl, hbb, hc⟩ := (H1.out.keep hbel (Nat.le_refl _)).cell c1
          generalize l.getD k 0 = x at *
          obtain ⟨r, hr⟩ : ∃ r, k % 3 = r := ⟨_, rfl⟩
          have hr3 : r < 3 := by omega
          have d1 : (k : Int) < (len1 : Int) := by omega
          have d2 : (k : Int) < 90 := by omega
          have e1 : (k : Int).tmod 3 = (r : Int) := by rw [← hr]; rfl
          have e2 : (r : Int) < 3 := by omega
          have f1 := hL.cell hr3
          have f2 := hL.frozen r
          have HL := Lib.hid hL
          clear hL hr
          have hm0 : 0 ≤ x % m ∧ x % m < m := ⟨Int.emod_nonneg _ (by omega), Int.emod_lt_of_pos _ (by omega)⟩
          have WI : Hid (∀ u, Calls Try.prog 12 #[.int .i64 x, .int .i64 (IntKind.i64.wrap ((2 : Int) ^ min (IntKind.u64.wrap (1 + (q : Int))).toNat 64))] u fun e w'' => e = .returned (.int .i64 (x % m)) ∧ u = w'') := Lib.hid (fun u => by
            rw [HSH.out]; exact within11 x m u (by omega) (by omega))
          generalize x % m = y at *
          have hown := (HL.out.2.2.1 r hr3).1
          have hll := (HL.out.2.2.1 r hr3).2.1
          have hsz := hbel.size
          have hbl := blk_lt HL.out.2.1
          have hnb : (V r).ownBlock ≠ some w1.heap.size := blk_not_row HL.out.2.1 (by decide) hown
          have HO := Lib.hid hown
          have HNB := Lib.hid hnb
          have HBEL := Lib.hid hbel
          have xA : (wr.alloc (Obj.cells #[.int .i64 y] 3)).drew.cell? ⟨w1.heap.size, r, none⟩ = some (V r) := (World.cell?_of_block (w := wr) (Below.heap_alloc wr _ _ hbl)).trans f1
          have zA : (wr.alloc (Obj.cells #[.int .i64 y] 3)).drew.frozen? ⟨w1.heap.size, r, none⟩ = false := (World.frozen?_of_block (w := wr) (Below.heap_alloc wr _ _ hbl)).trans f2
          have hn1 : (L r).length + 1 ≤ maxLen := by unfold maxLen; omega
          have hn2 : ((L r).length + 1) * 8 ≤ 140737488355328 := by omega
          have hn3 : w.heap.size ≤ (wr.alloc (Obj.cells #[.int .i64 y] 3)).heap.size := by simp; omega
          clear hown hnb hbel
          go_wp2
          go_region_law (first
            | (refine step_append_lies _ (by rfl) _ _ _ (by rfl) w.heap.size 3 i0 _ 1 8 Try.underlying22 hi hz0 hz1 hz2 rfl (by omega) (V r) (L r).length ((L r).map (Value.int .i64)) (by rfl) ((HO.out.alloc _).drew)
                 ⟨wr.heap.size, 0, none⟩ 1 1 [.int .i64 y] (by rfl) (by rfl) (World.news_of_block (cs := #[.int .i64 y]) (t := 3) (fr := (0, 0)) (heap_alloc_new wr _)) (by simp [Value.oneCell'])
                 (by omega) hn1 hn2 hn3 (wr.heap.size + 1) (by simp) ?_; intro g4 c4 X4 hown4 hgrow hat4 hlt4; have y1 := (hgrow.cell_far ⟨w1.heap.size, r, none⟩ (by simp; omega) (Ne.symm HNB.out)).trans xA; have y2 := (hgrow.frozen_far ⟨w1.heap.size, r, none⟩ (by simp; omega) (Ne.symm HNB.out)).trans zA)
            | (go_simp; go_wp2_with (go_at_call 12; refine (WI.out _).mono ?_; rintro e w' ⟨rfl, rfl⟩)))
          all_goals
            have hN := HL.out.step (u1 := (wr.alloc (Obj.cells #[.int .i64 y] 3)).drew) (u2 := X4) hr3 (by simp) (fun i hi => Below.heap_alloc wr _ i hi) (below_drewN (HBEL.out.alloc hsz _) 1) hm0 hown4 hgrow (by rcases hat4 with e | e; exact Or.inl e; exact Or.inr (by omega))
            have HN := Lib.hid hN
            clear hN HL HO HNB HBEL xA zA WI hown4 hgrow hat4 y1 y2
            go_wp2
            go_roundw
            case rel => exact ⟨k + 1, _, _, by omega, by omega, by go_num, HN.out⟩
            case measure => simp [intOf]; omega
        · go_wp2
          go_meet
          exact ⟨k, V, L, k90, hL⟩
      · go_wp2
        go_meet
        exact ⟨k, V, L, k90, hL⟩
  case rest =>
    obtain ⟨k, V, L, k90, hL⟩ := hcut
    clear HL0 H1 hb1s
    obtain ⟨A0, c0, hv0, r0⟩ := rowI_own (hL.2.2.1 0 (by omega)).1
    obtain ⟨A1, c1, hv1, r1⟩ := rowI_own (hL.2.2.1 1 (by omega)).1
    obtain ⟨A2, c2, hv2, r2⟩ := rowI_own (hL.2.2.1 2 (by omega)).1
    have l0 := (hL.2.2.1 0 (by omega)).2
    have l1 := (hL.2.2.1 1 (by omega)).2
    have l2 := (hL.2.2.1 2 (by omega)).2
    have g0 := hL.cell (r := 0) (by omega)
    have g1 := hL.cell (r := 1) (by omega)
    have g2 := hL.cell (r := 2) (by omega)
    rw [hv0] at g0
    rw [hv1] at g1
    rw [hv2] at g2
    have hbl := blk_lt hL.2.1
    have hbel := hL.2.2.2.2
    clear hv0 hv1 hv2 hL
    generalize L 0 = L0 at *
    generalize L 1 = L1 at *
    generalize L 2 = L2 at *
    have R0 := Lib.hid (And.intro r0 l0)
    have R1 := Lib.hid (And.intro r1 l1)
    have R2 := Lib.hid (And.intro r2 l2)
    have HB := Lib.hid hbel
    clear r0 r1 r2 l0 l1 l2 hbel
    generalize L0.length = n0 at *
    generalize L1.length = n1 at *
    generalize L2.length = n2 at *
    go_upto_region 9 with fail
    go_cut [7] from 48 to 57 (fun v wx => v = .int .i64 ((min n0 (min n1 n2) : Nat) : Int) ∧ wx = wc)
    case first =>
      by_cases q1 : (n1 : Int) < (n0 : Int)
      · by_cases q2 : (n2 : Int) < (n1 : Int)
        · go_wp2
          go_meet
          exact ⟨congrArg (Value.int .i64) (by omega), rfl⟩
        · go_wp2
          go_meet
          exact ⟨congrArg (Value.int .i64) (by omega), rfl⟩
      · by_cases q2 : (n2 : Int) < (n0 : Int)
        · go_wp2
          go_meet
          exact ⟨congrArg (Value.int .i64) (by omega), rfl⟩
        · go_wp2
          go_meet
          exact ⟨congrArg (Value.int .i64) (by omega), rfl⟩
    case rest =>
      obtain ⟨rfl, rfl⟩ := hcut
      obtain ⟨n, hn⟩ : ∃ n, min n0 (min n1 n2) = n := ⟨_, rfl⟩
      rw [hn]
      have hm0 : n ≤ n0 := by omega
      have hm1 : n ≤ n1 := by omega
      have hm2 : n ≤ n2 := by omega
      have hn90 : n ≤ 90 := by have := R0.out.2.1; omega
      have hc0 : n ≤ c0 := by have := R0.out.1.2.1; omega
      have hc1 : n ≤ c1 := by have := R1.out.1.2.1; omega
      have hc2 : n ≤ c2 := by have := R2.out.1.2.1; omega
      clear hn
      have hlf : levelF (1 + q) false = 2 ^ q := by
        show (2 : Int) ^ (1 + q - 1) = 2 ^ q
        rw [show 1 + q - 1 = q from by omega]
      have HLF := Lib.hid hlf
      obtain ⟨h, hh⟩ : ∃ h, (2 : Int) ^ q = h := ⟨_, rfl⟩
      have HHB : Hid (wrap64 ((2 : Int) ^ (1 + q - 1)) = h) := Lib.hid (by rw [show 1 + q - 1 = q from by omega, half_b q hq16]; exact hh)
      rw [hh] at hpw HLF
      have HH := Lib.hid hh
      clear hlf hh
      have T0 := Lib.hid (R0.out.1.take hm0 (Or.inr hm0))
      have T1 := Lib.hid (R1.out.1.take hm1 (Or.inr hm1))
      have T2 := Lib.hid (R2.out.1.take hm2 (Or.inr hm2))
      have X0 : Hid (Rng 65536 (map1 (· - h) (L0.take n) n)) := Lib.hid (rng_b (m := m) (by omega) (by omega) (by omega) (by rw [T0.out.1]; exact Nat.le_refl _) (fun x hx => R0.out.2.2 x (List.mem_of_mem_take hx)))
      have X1 : Hid (Rng 65536 (map1 (· - h) (L1.take n) n)) := Lib.hid (rng_b (m := m) (by omega) (by omega) (by omega) (by rw [T1.out.1]; exact Nat.le_refl _) (fun x hx => R1.out.2.2 x (List.mem_of_mem_take hx)))
      have X2 : Hid (Rng 65536 (map1 (· - h) (L2.take n) n)) := Lib.hid (rng_b (m := m) (by omega) (by omega) (by omega) (by rw [T2.out.1]; exact Nat.le_refl _) (fun x hx => R2.out.2.2 x (List.mem_of_mem_take hx)))
      have I0 : Hid (∀ k, k < n → 0 ≤ (L0.take n).getD k 0 ∧ (L0.take n).getD k 0 < m) := Lib.hid (fun k hk => get_in (by rw [T0.out.1]; exact hk) (fun x hx => R0.out.2.2 x (List.mem_of_mem_take hx)))
      have I1 : Hid (∀ k, k < n → 0 ≤ (L1.take n).getD k 0 ∧ (L1.take n).getD k 0 < m) := Lib.hid (fun k hk => get_in (by rw [T1.out.1]; exact hk) (fun x hx => R1.out.2.2 x (List.mem_of_mem_take hx)))
      have I2 : Hid (∀ k, k < n → 0 ≤ (L2.take n).getD k 0 ∧ (L2.take n).getD k 0 < m) := Lib.hid (fun k hk => get_in (by rw [T2.out.1]; exact hk) (fun x hx => R2.out.2.2 x (List.mem_of_mem_take hx)))
      have Y0 : Rng 1073741824 (L0.take n) := rng_of (by omega) (fun x hx => by have := R0.out.2.2 x (List.mem_of_mem_take hx); omega)
      have Y1 : Rng 1073741824 (L1.take n) := rng_of (by omega) (fun x hx => by have := R1.out.2.2 x (List.mem_of_mem_take hx); omega)
      have Y2 : Rng 1073741824 (L2.take n) := rng_of (by omega) (fun x hx => by have := R2.out.2.2 x (List.mem_of_mem_take hx); omega)
      generalize L0.take n = M0 at *
      generalize L1.take n = M1 at *
      generalize L2.take n = M2 at *
      have S0 : Hid (∀ u, RowI u A0 n c0 M0 → Calls Try.prog 15 #[.int .i64 (1 + (q : Int)), .bool false, .slice A0 n c0] u fun e w' => ∃ A' c', e = .returned (.slice A' n c') ∧ RowI w' A' n c' (map1 (· - h) M0 n) ∧ Below u.heap.size u w') := Lib.hid (fun u hu => by
        have := shift_at (1 + (q : Int)) (1 + q) false (by omega) (by omega) (by omega) hu (by omega) Y0
        rwa [HLF.out] at this)
      have S1 : Hid (∀ u, RowI u A1 n c1 M1 → Calls Try.prog 15 #[.int .i64 (1 + (q : Int)), .bool false, .slice A1 n c1] u fun e w' => ∃ A' c', e = .returned (.slice A' n c') ∧ RowI w' A' n c' (map1 (· - h) M1 n) ∧ Below u.heap.size u w') := Lib.hid (fun u hu => by
        have := shift_at (1 + (q : Int)) (1 + q) false (by omega) (by omega) (by omega) hu (by omega) Y1
        rwa [HLF.out] at this)
      have S2 : Hid (∀ u, RowI u A2 n c2 M2 → Calls Try.prog 15 #[.int .i64 (1 + (q : Int)), .bool false, .slice A2 n c2] u fun e w' => ∃ A' c', e = .returned (.slice A' n c') ∧ RowI w' A' n c' (map1 (· - h) M2 n) ∧ Below u.heap.size u w') := Lib.hid (fun u hu => by
        have := shift_at (1 + (q : Int)) (1 + q) false (by omega) (by omega) (by omega) hu (by omega) Y2
        rwa [HLF.out] at this)
      have TD0 := Lib.hid (T0.out.drew (Drew.mk _ 1))
      have TD1 := Lib.hid (T1.out.drew (Drew.mk _ 1))
      have TD2 := Lib.hid (T2.out.drew (Drew.mk _ 1))
      have HBD := Lib.hid (below_drewN HB.out 1)
      clear R0 R1 R2 T0 T1 T2 Y0 Y1 Y2 hm0 hm1 hm2 HM HSH HLF HB
      go_upto_region 11 with fail
      rw [HHB.out]
      go_cut [9, 10, 11] from 62 to 79 (fun a b c wx => ∃ B0 f0 B1 f1 B2 f2, a = .slice B0 n f0 ∧ b = .slice B1 n f1 ∧ c = .slice B2 n f2 ∧ RowI wx B0 n f0 (map1 (· - h) M0 n) ∧ RowI wx B1 n f1 (map1 (· - h) M1 n) ∧ RowI wx B2 n f2 (map1 (· - h) M2 n) ∧ Below w.heap.size w wx)
      case first =>
        go_region_with (first
          | (go_at_call_of 15 (Value.slice A0 n c0); refine (S0.out _ TD0.out).mono ?_; rintro e x1 ⟨B0, f0, rfl, k0, b0⟩; have y1 := (b0.cell (p := ⟨w1.heap.size, 1, none⟩) hbl).trans g1; have y2 := (b0.cell (p := ⟨w1.heap.size, 2, none⟩) hbl).trans g2; have E1 := TD1.out.keep b0 (Nat.le_refl _); have E2 := TD2.out.keep b0 (Nat.le_refl _))
          | (go_at_call_of 15 (Value.slice A1 n c1); refine (S1.out _ E1).mono ?_; rintro e x2 ⟨B1, f1, rfl, k1, b1'⟩; have y3 := (b1'.cell (p := ⟨w1.heap.size, 2, none⟩) (Nat.lt_of_lt_of_le hbl b0.size)).trans y2; have E3 := E2.keep b1' (Nat.le_refl _))
          | (go_at_call_of 15 (Value.slice A2 n c2); refine (S2.out _ E3).mono ?_; rintro e x3 ⟨B2, f2, rfl, k2, b2⟩))
        all_goals
          go_wp2_with fail
          go_meet
          exact ⟨B0, f0, B1, f1, B2, f2, rfl, rfl, rfl, (k0.keep b1' (Nat.le_refl _)).keep b2 (Nat.le_refl _), k1.keep b2 (Nat.le_refl _), k2, (HBD.out.trans (b0.mono HBD.out.size)).trans ((b1'.mono (Nat.le_trans HBD.out.size b0.size)).trans (b2.mono (Nat.le_trans (Nat.le_trans HBD.out.size b0.size) b1'.size)))⟩
      case rest =>
        obtain ⟨B0, f0, B1, f1, B2, f2, rfl, rfl, rfl, k0, k1, k2, hb⟩ := hcut
        clear S0 S1 S2 TD0 TD1 TD2 HBD g0 g1 g2 hbl hc0 hc1 hc2
        go_wp2_with fail
        refine (turn_any k0 k1 k2 (by omega) (rng_mono X0.out (by omega)) (rng_mono X1.out (by omega)) (rng_mono X2.out (by omega))).mono ?_
        rintro e w4 ⟨D1, e1, D2, e2, D3, e3, rfl, t1, t2, t3, b4⟩
        have ta := k0.keep b4 (Nat.le_refl _)
        have hb := hb.trans (b4.mono hb.size)
        have hnn : ((n : Int) != (n : Int)) = false := bne_self_eq_false _
        have HT := Lib.hid (And.intro ta (And.intro t1 (And.intro t2 t3)))
        clear k0 k1 k2 ta t1 t2 t3 b4
        go_wp2
        have hz1' : wrap64 (-h) = -h := IntWalk.wrap64_in _ (by omega)
        have hz2' : wrap64 (2 * h) = 2 * h := IntWalk.wrap64_in _ (by omega)
        have hz3' : wrap64 (-(2 * h)) = -(2 * h) := IntWalk.wrap64_in _ (by omega)
        go_loopw [15] (fun i wr => ∃ k : Nat, k ≤ n ∧ i = .int .i64 (k : Int) ∧ w4 = wr) (fun i _ => n - (intOf i).toNat)
        case atStart => exact ⟨0, by omega, rfl, rfl⟩
        case round =>
          obtain ⟨k, kn, rfl, rfl⟩ := hrel
          by_cases ck : k < n
          · obtain ⟨p0, o0, rfl, _, m0⟩ := HT.out.1.cell ck
            obtain ⟨p1, o1, rfl, _, m1⟩ := HT.out.2.1.cell ck
            obtain ⟨p2, o2, rfl, _, m2⟩ := HT.out.2.2.1.cell ck
            obtain ⟨p3, o3, rfl, _, m3⟩ := HT.out.2.2.2.cell ck
            have j0 := sh_get h M0 n k ck
            have j1 := sh_get h M1 n k ck
            have j2 := sh_get h M2 n k ck
            have i0' := I0.out k ck
            have i1' := I1.out k ck
            have i2' := I2.out k ck
            have e1 : (map3 turnF (map1 (· - h) M0 n) (map1 (· - h) M1 n) (map1 (· - h) M2 n) n).getD k 0 = turnF ((map1 (· - h) M0 n).getD k 0) ((map1 (· - h) M1 n).getD k 0) ((map1 (· - h) M2 n).getD k 0) := by
              unfold map3
              rw [ranged_getD, if_pos ck]
            have e2 : (map2 subF (map1 (· - h) M2 n) (map1 (· - h) M1 n) n).getD k 0 = subF ((map1 (· - h) M2 n).getD k 0) ((map1 (· - h) M1 n).getD k 0) := by
              unfold map2
              rw [ranged_getD, if_pos ck]
            have e3 : (map2 subF (map1 (· - h) M0 n) (map1 (· - h) M1 n) n).getD k 0 = subF ((map1 (· - h) M0 n).getD k 0) ((map1 (· - h) M1 n).getD k 0) := by
              unfold map2
              rw [ranged_getD, if_pos ck]
            rw [e1] at m1
            rw [e2] at m2
            rw [e3] at m3
            rw [j0] at m0 m1 m3
            rw [j1] at m1 m2 m3
            rw [j2] at m1 m2
            clear e1 e2 e3 j0 j1 j2
            generalize M0.getD k 0 = v0 at *
            generalize M1.getD k 0 = v1 at *
            generalize M2.getD k 0 = v2 at *
            have ey : -h ≤ turnF (v0 - h) (v1 - h) (v2 - h) ∧ turnF (v0 - h) (v1 - h) (v2 - h) < h := by unfold turnF; omega
            have eu : -(2 * h) < subF (v2 - h) (v1 - h) ∧ subF (v2 - h) (v1 - h) < 2 * h := by unfold subF; omega
            have ev : -(2 * h) < subF (v0 - h) (v1 - h) ∧ subF (v0 - h) (v1 - h) < 2 * h := by unfold subF; omega
            have ea : -h ≤ v0 - h ∧ v0 - h < h := by omega
            generalize turnF (v0 - h) (v1 - h) (v2 - h) = sy at *
            generalize subF (v2 - h) (v1 - h) = su at *
            generalize subF (v0 - h) (v1 - h) = sv at *
            generalize v0 - h = sa at *
            have q1 : ¬ sa < -h := by omega
            have q2 : ¬ h ≤ sa := by omega
            have q3 : ¬ sy < -h := by omega
            have q4 : ¬ h ≤ sy := by omega
            have q5 : ¬ su ≤ -(2 * h) := by omega
            have q6 : ¬ 2 * h ≤ su := by omega
            have q7 : ¬ sv ≤ -(2 * h) := by omega
            have q8 : ¬ 2 * h ≤ sv := by omega
            have ckk : (k : Int) < (n : Int) := by omega
            clear i0' i1' i2' ey eu ev ea
            go_wp2
            go_roundw
            case rel => exact ⟨k + 1, by omega, by go_num, by first | rfl | trivial⟩
            case measure => simp [intOf]; omega
          · obtain rfl : k = n := by omega
            go_wp2
            go_ret
            exact ⟨rfl, hb⟩
end Go.Proofs.Ytgplaikcahpiiaa
