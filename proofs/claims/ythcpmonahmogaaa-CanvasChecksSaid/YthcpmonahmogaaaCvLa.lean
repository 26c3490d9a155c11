/- canvas: a picture in memory that is changed in one place. -/
import Derived.Test.YthcpmonahmogaaaCvFo
set_option linter.unusedVariables false
set_option linter.unusedSimpArgs false
namespace Go.Proofs.Ythcpmonahmogaaa
open Go.RowKit
set_option maxRecDepth 100000
/-- Two blocks hold a picture and params, whatever they are. -/
def PicAt (w0 : World) (bm : Nat) (wx : World) : Prop := ∃ (X3 Y3 OX3 OY3 TX3 TY3 LV3 BW3 BH3 PR3 ST3 OD3 LY3 : Int) (RC3 SO3 EP3 : Bool) (A3 : Option Addr) (C3 : Nat) (cs3 : List Cp) (ds3 : Nat → List Int), Below w0.heap.size w0 wx ∧ wx.heap[bm]? = some (.cells #[.int .i64 X3, .int .i64 Y3, .int .i64 OX3, .int .i64 OY3, .slice A3 cs3.length C3] 24 (0, 0)) ∧ wx.heap[bm + 1]? = some (.cells #[.int .i64 TX3, .int .i64 TY3, .int .i64 LV3, .int .i64 BW3, .int .i64 BH3, .int .i64 PR3, .int .i64 ST3, .int .i64 OD3, .int .i64 LY3, .bool RC3, .bool SO3, .bool EP3] 26 (0, 0)) ∧ Pic wx A3 C3 cs3 ds3
/-- What is a number stays a number. -/
def Ints (w w' : World) : Prop := ∀ b o m, w.cell? ⟨b, o, none⟩ = some (.int .i64 m) → ∃ m', w'.cell? ⟨b, o, none⟩ = some (.int .i64 m')
/-- And what is none stays as it is. -/
structure Soft (w w' : World) : Prop where
  ints : Ints w w'
  rest : ∀ b o v, w.cell? ⟨b, o, none⟩ = some v → (∀ m, v ≠ .int .i64 m) → w'.cell? ⟨b, o, none⟩ = some v
  size : w.heap.size ≤ w'.heap.size
theorem soft_set {w : World} {b o : Nat} {m : Int} (h : w.cell? ⟨b, o, none⟩ = some (.int .i64 m)) (n : Int) : Soft w (w.setCell ⟨b, o, none⟩ (.int .i64 n)) := by
  refine ⟨fun b' o' m' h' => ?_, fun b' o' v h' hv => ?_, by rw [size_setCell]; exact Nat.le_refl _⟩
  · by_cases e : (⟨b, o, none⟩ : Addr) = ⟨b', o', none⟩
    · rw [← e]; exact ⟨n, World.cell?_setCell_same w _ _ h⟩
    · exact ⟨m', (World.cell?_setCell_other w _ _ _ e).trans h'⟩
  · by_cases e : (⟨b, o, none⟩ : Addr) = ⟨b', o', none⟩
    · rw [← e, h] at h'
      injection h' with h'
      exact absurd h'.symm (hv m)
    · exact (World.cell?_setCell_other w _ _ _ e).trans h'
theorem ints_set {w : World} {b o : Nat} {u : Value} (h : w.cell? ⟨b, o, none⟩ = some u) (hu : ∀ m, u ≠ .int .i64 m) (v : Value) : Ints w (w.setCell ⟨b, o, none⟩ v) := fun b' o' m' h' => by
  by_cases e : (⟨b, o, none⟩ : Addr) = ⟨b', o', none⟩
  · rw [← e, h] at h'
    injection h' with h'
    exact absurd h' (hu m')
  · exact ⟨m', (World.cell?_setCell_other w _ _ _ e).trans h'⟩
theorem Ints.trans {w w' w2 : World} (h : Ints w w') (h2 : Ints w' w2) : Ints w w2 := fun b o m hm => by
  obtain ⟨m', h'⟩ := h b o m hm
  exact h2 b o m' h'
theorem lst_ints {w w' : World} {A : Option Addr} {l : List Int} (hi : Ints w w') (hs : w.heap.size ≤ w'.heap.size) (h : Lst w w.heap.size A (l.map (Value.int .i64))) : ∃ l' : List Int, Lst w' w'.heap.size A (l'.map (Value.int .i64)) ∧ l'.length = l.length := by
  have key : ∀ i : Nat, ∃ m' : Int, i < l.length → ∃ b o, A = some ⟨b, o, none⟩ ∧ b < w'.heap.size ∧ w'.cell? ⟨b, o + i, none⟩ = some (.int .i64 m') := fun i => by
    by_cases h' : i < l.length
    · obtain ⟨b, o, e, hb, hc⟩ := h i (.int .i64 l[i]) (by rw [List.getElem?_map, List.getElem?_eq_getElem h']; rfl)
      obtain ⟨m', hm⟩ := hi b (o + i) l[i] hc
      exact ⟨m', fun _ => ⟨b, o, e, Nat.lt_of_lt_of_le hb hs, hm⟩⟩
    · exact ⟨0, fun h'' => absurd h'' h'⟩
  obtain ⟨q, hq⟩ := Classical.axiomOfChoice key
  refine ⟨(List.range l.length).map q, fun i u hu => ?_, by simp⟩
  have hil : i < l.length := by
    have := (List.getElem?_eq_some_iff.1 hu).1
    simpa using this
  rw [List.getElem?_map, List.getElem?_map, List.getElem?_range hil] at hu
  simp only [Option.map_some, Option.some.injEq] at hu
  subst hu
  exact hq i hil
theorem pic_make {w : World} {A : Option Addr} {C : Nat} {cs : List Cp} (h1 : CompsAt w A cs) (h2 : cs.length ≤ C ∧ C ≤ maxLen) (h3 : cs.length ≤ 1000) (h4 : ∀ (i : Nat) (c : Cp), cs[i]? = some c → ∃ l : List Int, Lst w w.heap.size c.A (l.map (Value.int .i64)) ∧ l.length = c.n ∧ c.n ≤ 1000000) : ∃ ds, Pic w A C cs ds := by
  have hD : ∀ i : Nat, ∃ l : List Int, ∀ c, cs[i]? = some c → Lst w w.heap.size c.A (l.map (Value.int .i64)) ∧ l.length = c.n ∧ c.n ≤ 1000000 := fun i => by
    cases hc : cs[i]? with
    | none => exact ⟨[], fun c h => by cases h⟩
    | some c =>
      obtain ⟨l, hl⟩ := h4 i c hc
      exact ⟨l, fun c' h' => by injection h' with h'; subst h'; exact hl⟩
  obtain ⟨ds, hds⟩ := Classical.axiomOfChoice hD
  exact ⟨ds, h1, h2, h3, hds⟩
theorem comps_soft {w w' : World} {A : Option Addr} {cs : List Cp} (h : CompsAt w A cs) (hs : Soft w w') : ∃ cs', CompsAt w' A cs' ∧ cs'.length = cs.length ∧ ∀ (i : Nat) (c' : Cp), cs'[i]? = some c' → ∃ c, cs[i]? = some c ∧ c'.A = c.A ∧ c'.n = c.n := by
  have key : ∀ i : Nat, ∃ q : Cp, ∀ c, cs[i]? = some c → (∃ b o, A = some ⟨b, o, none⟩ ∧ b < w'.heap.size ∧ w'.cell? ⟨b, o + i * 5, none⟩ = some (.int .i64 q.d) ∧ w'.cell? ⟨b, o + i * 5 + 1, none⟩ = some (.bool q.sg) ∧ w'.cell? ⟨b, o + i * 5 + 2, none⟩ = some (.int .i64 q.dx) ∧ w'.cell? ⟨b, o + i * 5 + 3, none⟩ = some (.int .i64 q.dy) ∧ w'.cell? ⟨b, o + i * 5 + 4, none⟩ = some (.slice q.A q.n q.cap)) ∧ q.A = c.A ∧ q.n = c.n := fun i => by
    cases hc : cs[i]? with
    | none => exact ⟨⟨0, false, 0, 0, none, 0, 0⟩, fun c h => by cases h⟩
    | some c =>
      obtain ⟨b, o, e, hb, c0, c1, c2, c3, c4⟩ := h i c hc
      obtain ⟨d, hd⟩ := hs.ints _ _ _ c0
      obtain ⟨dx, hdx⟩ := hs.ints _ _ _ c2
      obtain ⟨dy, hdy⟩ := hs.ints _ _ _ c3
      exact ⟨⟨d, c.sg, dx, dy, c.A, c.n, c.cap⟩, fun c' h' => by injection h' with h'; subst h'; exact ⟨⟨b, o, e, Nat.lt_of_lt_of_le hb hs.size, hd, hs.rest _ _ _ c1 (fun m e => by cases e), hdx, hdy, hs.rest _ _ _ c4 (fun m e => by cases e)⟩, rfl, rfl⟩⟩
  obtain ⟨q, hq⟩ := Classical.axiomOfChoice key
  have get : ∀ (i : Nat) (c' : Cp), ((List.range cs.length).map q)[i]? = some c' → ∃ c, cs[i]? = some c ∧ c' = q i := fun i c' hc' => by
    have hil : i < cs.length := by
      have := (List.getElem?_eq_some_iff.1 hc').1
      simpa using this
    rw [List.getElem?_map, List.getElem?_range hil] at hc'
    simp only [Option.map_some, Option.some.injEq] at hc'
    exact ⟨cs[i], List.getElem?_eq_getElem hil, hc'.symm⟩
  refine ⟨(List.range cs.length).map q, fun i c' hc' => ?_, by simp, fun i c' hc' => ?_⟩
  · obtain ⟨c, hc, rfl⟩ := get i c' hc'
    exact (hq i c hc).1
  · obtain ⟨c, hc, rfl⟩ := get i c' hc'
    exact ⟨c, hc, (hq i c hc).2⟩
theorem pic_soft {w w' : World} {A : Option Addr} {C : Nat} {cs : List Cp} {ds : Nat → List Int} (h : Pic w A C cs ds) (hs : Soft w w') : ∃ cs' ds', Pic w' A C cs' ds' ∧ cs'.length = cs.length := by
  obtain ⟨cs', h1, hl, hn⟩ := comps_soft h.at' hs
  obtain ⟨ds', hp⟩ := pic_make h1 (C := C) (by rw [hl]; exact h.cap) (by rw [hl]; exact h.few) (fun i c' hc' => by
    obtain ⟨c, hc, e1, e2⟩ := hn i c' hc'
    obtain ⟨d1, d2, d3⟩ := h.dat i c hc
    obtain ⟨l', k1, k2⟩ := lst_ints hs.ints hs.size d1
    exact ⟨l', by rw [e1]; exact k1, by rw [k2, d2, e2], by rw [e2]; exact d3⟩)
  exact ⟨cs', ds', hp, hl⟩
theorem img_set {w : World} {bm pb po : Nat} {X Y OX OY m : Int} {A : Option Addr} {l c : Nat} (h : w.heap[bm]? = some (.cells #[.int .i64 X, .int .i64 Y, .int .i64 OX, .int .i64 OY, .slice A l c] 24 (0, 0))) (hc : w.cell? ⟨pb, po, none⟩ = some (.int .i64 m)) (n : Int) :
    ∃ X' Y' OX' OY' : Int, (w.setCell ⟨pb, po, none⟩ (.int .i64 n)).heap[bm]? = some (.cells #[.int .i64 X', .int .i64 Y', .int .i64 OX', .int .i64 OY', .slice A l c] 24 (0, 0)) := by
  by_cases e : pb = bm
  · subst e
    simp only [World.cell?, h] at hc
    match po, hc with
    | 0, _ => exact ⟨n, Y, OX, OY, by simp [World.setCell, Array.getElem?_modify, h]⟩
    | 1, _ => exact ⟨X, n, OX, OY, by simp [World.setCell, Array.getElem?_modify, h]⟩
    | 2, _ => exact ⟨X, Y, n, OY, by simp [World.setCell, Array.getElem?_modify, h]⟩
    | 3, _ => exact ⟨X, Y, OX, n, by simp [World.setCell, Array.getElem?_modify, h]⟩
    | 4, hc => simp at hc
    | q + 5, hc => simp at hc
  · exact ⟨X, Y, OX, OY, (Below.heap_setCell _ _ _ _ (by simpa using fun e' => e e'.symm)).trans h⟩
theorem par_set {w : World} {bm pb po : Nat} {TX TY LV BW BH PR ST OD LY m : Int} {RC SO EP : Bool} (h : w.heap[bm]? = some (.cells #[.int .i64 TX, .int .i64 TY, .int .i64 LV, .int .i64 BW, .int .i64 BH, .int .i64 PR, .int .i64 ST, .int .i64 OD, .int .i64 LY, .bool RC, .bool SO, .bool EP] 26 (0, 0))) (hc : w.cell? ⟨pb, po, none⟩ = some (.int .i64 m)) (n : Int) :
    ∃ TX' TY' LV' BW' BH' PR' ST' OD' LY' : Int, (w.setCell ⟨pb, po, none⟩ (.int .i64 n)).heap[bm]? = some (.cells #[.int .i64 TX', .int .i64 TY', .int .i64 LV', .int .i64 BW', .int .i64 BH', .int .i64 PR', .int .i64 ST', .int .i64 OD', .int .i64 LY', .bool RC, .bool SO, .bool EP] 26 (0, 0)) := by
  by_cases e : pb = bm
  · subst e
    simp only [World.cell?, h] at hc
    match po, hc with
    | 0, _ => exact ⟨n, TY, LV, BW, BH, PR, ST, OD, LY, by simp [World.setCell, Array.getElem?_modify, h]⟩
    | 1, _ => exact ⟨TX, n, LV, BW, BH, PR, ST, OD, LY, by simp [World.setCell, Array.getElem?_modify, h]⟩
    | 2, _ => exact ⟨TX, TY, n, BW, BH, PR, ST, OD, LY, by simp [World.setCell, Array.getElem?_modify, h]⟩
    | 3, _ => exact ⟨TX, TY, LV, n, BH, PR, ST, OD, LY, by simp [World.setCell, Array.getElem?_modify, h]⟩
    | 4, _ => exact ⟨TX, TY, LV, BW, n, PR, ST, OD, LY, by simp [World.setCell, Array.getElem?_modify, h]⟩
    | 5, _ => exact ⟨TX, TY, LV, BW, BH, n, ST, OD, LY, by simp [World.setCell, Array.getElem?_modify, h]⟩
    | 6, _ => exact ⟨TX, TY, LV, BW, BH, PR, n, OD, LY, by simp [World.setCell, Array.getElem?_modify, h]⟩
    | 7, _ => exact ⟨TX, TY, LV, BW, BH, PR, ST, n, LY, by simp [World.setCell, Array.getElem?_modify, h]⟩
    | 8, _ => exact ⟨TX, TY, LV, BW, BH, PR, ST, OD, n, by simp [World.setCell, Array.getElem?_modify, h]⟩
    | 9, hc => simp at hc
    | 10, hc => simp at hc
    | 11, hc => simp at hc
    | q + 12, hc => simp at hc
  · exact ⟨TX, TY, LV, BW, BH, PR, ST, OD, LY, (Below.heap_setCell _ _ _ _ (by simpa using fun e' => e e'.symm)).trans h⟩
theorem pic_at_set {w v : World} {bm pb po : Nat} {X Y OX OY TX TY LV BW BH PR ST OD LY m : Int} {RC SO EP : Bool} {A : Option Addr} {C : Nat} {cs : List Cp} {ds : Nat → List Int} (hb : Below w.heap.size w v) (h1 : v.heap[bm]? = some (.cells #[.int .i64 X, .int .i64 Y, .int .i64 OX, .int .i64 OY, .slice A cs.length C] 24 (0, 0))) (h2 : v.heap[bm + 1]? = some (.cells #[.int .i64 TX, .int .i64 TY, .int .i64 LV, .int .i64 BW, .int .i64 BH, .int .i64 PR, .int .i64 ST, .int .i64 OD, .int .i64 LY, .bool RC, .bool SO, .bool EP] 26 (0, 0))) (hp : Pic v A C cs ds) (hc : v.cell? ⟨pb, po, none⟩ = some (.int .i64 m)) (hpb : w.heap.size ≤ pb) (n : Int) : PicAt w bm (v.setCell ⟨pb, po, none⟩ (.int .i64 n)) := by
  obtain ⟨cs', ds', hp', hl⟩ := pic_soft hp (soft_set hc n)
  obtain ⟨x1, x2, x3, x4, hi⟩ := img_set h1 hc n
  obtain ⟨y1, y2, y3, y4, y5, y6, y7, y8, y9, hq⟩ := par_set h2 hc n
  exact ⟨x1, x2, x3, x4, y1, y2, y3, y4, y5, y6, y7, y8, y9, RC, SO, EP, A, C, cs', ds', hb.setCell (p := ⟨pb, po, none⟩) hpb _, by rw [hl]; exact hi, hq, hp'⟩
theorem pic_at_rct {w v : World} {bm : Nat} {X Y OX OY TX TY LV BW BH PR ST OD LY : Int} {RC SO EP : Bool} {A : Option Addr} {C : Nat} {cs : List Cp} {ds : Nat → List Int} (hb : Below w.heap.size w v) (h1 : v.heap[bm]? = some (.cells #[.int .i64 X, .int .i64 Y, .int .i64 OX, .int .i64 OY, .slice A cs.length C] 24 (0, 0))) (h2 : v.heap[bm + 1]? = some (.cells #[.int .i64 TX, .int .i64 TY, .int .i64 LV, .int .i64 BW, .int .i64 BH, .int .i64 PR, .int .i64 ST, .int .i64 OD, .int .i64 LY, .bool RC, .bool SO, .bool EP] 26 (0, 0))) (hp : Pic v A C cs ds) (hA : ∀ b o, A = some ⟨b, o, none⟩ → b ≠ bm + 1) (hpb : w.heap.size ≤ bm) (r : Bool) : PicAt w bm (v.setCell ⟨bm + 1, 9, none⟩ (.bool r)) := by
  have hc9 : v.cell? ⟨bm + 1, 9, none⟩ = some (.bool RC) := by simp [World.cell?, h2]
  have hi := ints_set hc9 (fun m e => by cases e) (.bool r)
  have kp : ∀ k, k ≠ bm + 1 → (v.setCell ⟨bm + 1, 9, none⟩ (.bool r)).heap[k]? = v.heap[k]? := fun k hk => Below.heap_setCell _ _ _ _ (by simpa using hk)
  have hs : (v.setCell ⟨bm + 1, 9, none⟩ (.bool r)).heap.size = v.heap.size := size_setCell _ _ _
  obtain ⟨ds', hp'⟩ := pic_make (w := v.setCell ⟨bm + 1, 9, none⟩ (.bool r)) (A := A) (C := C) (cs := cs) (fun i c hc => by
    obtain ⟨b, o, e, hbs, c0, c1, c2, c3, c4⟩ := hp.at' i c hc
    have hk := kp b (hA b o e)
    have kc : ∀ o', (v.setCell ⟨bm + 1, 9, none⟩ (.bool r)).cell? ⟨b, o', none⟩ = v.cell? ⟨b, o', none⟩ := fun o' => World.cell?_of_block hk
    exact ⟨b, o, e, by rw [hs]; exact hbs, (kc _).trans c0, (kc _).trans c1, (kc _).trans c2, (kc _).trans c3, (kc _).trans c4⟩) hp.cap hp.few (fun i c hc => by
    obtain ⟨d1, d2, d3⟩ := hp.dat i c hc
    obtain ⟨l', k1, k2⟩ := lst_ints hi (Nat.le_of_eq hs.symm) d1
    exact ⟨l', k1, by rw [k2, d2], d3⟩)
  exact ⟨X, Y, OX, OY, TX, TY, LV, BW, BH, PR, ST, OD, LY, r, SO, EP, A, C, cs, ds', hb.setCell (p := ⟨bm + 1, 9, none⟩) (Nat.le_succ_of_le hpb) _, (kp bm (by omega)).trans h1, by simp [World.setCell, Array.getElem?_modify, h2], hp'⟩
/-- One number appended: numbers stay numbers. -/
theorem app_ints {w : World} {base m z : Nat} {x : Int} {v : Value} {xs : List Int} (hown : w.ownsRow base 3 1 v m (xs.map (Value.int .i64))) (hz : w.heap[z]? = some (.cells #[.int .i64 x] 3 (0, 0))) (hb : base ≤ w.heap.size) (hm : m ≤ 100000) :
    ∃ v' w', (appSem #[27, 27] 27 #[v, .slice (some ⟨z, 0, none⟩) 1 1]).run Try.prog w = .ok v' w' ∧ w'.ownsRow base 3 1 v' (m + 1) (xs.map (Value.int .i64) ++ [.int .i64 x]) ∧ w.grownBy w' v.ownBlock ∧ (v'.ownBlock = v.ownBlock ∨ v'.ownBlock = some w.heap.size) ∧ Ints w w' := by
  obtain ⟨v', w', hr, h1, h2, h3⟩ := app_int hown hz hb hm
  refine ⟨v', w', hr, h1, h2, h3, fun b o n hn => ?_⟩
  by_cases hk : some b = v.ownBlock
  · rcases hown.2 with ⟨rfl, _⟩ | ⟨g, cap, cur, rfl, hbg, hg, hnc, hcm, hcs, htake⟩
    · simp [Value.ownBlock] at hk
    · have hbg2 : b = g := by simpa [Value.ownBlock] using hk
      subst hbg2
      obtain ⟨i0, hi, hzz⟩ := Option.map_eq_some_iff.1 Try.info3
      simp only [Prod.mk.injEq] at hzz
      obtain ⟨hz0, hz1, hz2⟩ := hzz
      have hnew : ∀ j u, [Value.int .i64 x][j]? = some u → w.cell? ((⟨z, 0, none⟩ : Addr).add j) = some u := fun j u hu => by
        rcases j with _ | j
        · simp at hu; subst hu; simp [World.cell?, Addr.add, hz]
        · simp at hu
      by_cases hroom : m + 1 ≤ cap
      · have hr2 := run_append_room (P := Try.prog) w 27 27 3 i0 (by kernel_rfl) hi b m cap cur hg ⟨z, 0, none⟩ 1 1 [.int .i64 x] (by rw [hz1]; rfl) hnew (fun u hu => by simp at hu; subst hu; rfl) hroom (by rw [hz1]; simp; omega)
        have e := hr.symm.trans hr2
        injection e with e1 e2
        subst e2
        rw [cell_setRow_same w b o cur _ _ _ hg]
        simp only [World.cell?, hg] at hn
        rw [hz1, Nat.mul_one]
        simp only [List.getElem?_toArray, List.length_singleton]
        rcases Nat.lt_trichotomy o m with ho | ho | ho
        · refine ⟨n, ?_⟩
          rw [List.append_assoc, List.getElem?_append_left (by simp; omega), List.getElem?_take, if_pos ho, Array.getElem?_toList]
          exact hn
        · refine ⟨x, ?_⟩
          have hl : (cur.toList.take m).length = m := by simp; omega
          rw [List.append_assoc, List.getElem?_append_right (by omega), hl, ho, Nat.sub_self]
          rfl
        · refine ⟨n, ?_⟩
          have hl : (cur.toList.take m).length = m := by simp; omega
          rw [List.append_assoc, List.getElem?_append_right (by omega), hl, List.getElem?_append_right (by simp; omega), List.getElem?_drop, List.length_singleton, show m + 1 + (o - m - 1) = o by omega, Array.getElem?_toList]
          exact hn
      · have hr2 := run_append_grow (P := Try.prog) w 27 27 3 i0 _ (by kernel_rfl) hi hz0 ⟨b, 0, none⟩ m cap (xs.map (Value.int .i64)) (by rw [hz1]; exact hown.1) (hown.cells (g := b) rfl) ⟨z, 0, none⟩ 1 1 [.int .i64 x] (by rw [hz1]; rfl) hnew (by omega) (by omega) (growslice_fits (by omega) (by rw [hz2]; omega))
        have e := hr.symm.trans hr2
        injection e with e1 e2
        subst e2
        exact ⟨n, (World.cell?_alloc_lt w.drew _ _ (World.block_lt_of_cell? w _ hn)).trans hn⟩
  · have hlt := World.block_lt_of_cell? w _ hn
    exact ⟨n, (World.cell?_of_block (h2.block b hlt hk)).trans hn⟩
/-- A component's samples change their place. -/
theorem comps_store {w w1 : World} {g ci : Nat} {cs : List Cp} {c : Cp} (h : CompsAt w (some ⟨g, 0, none⟩) cs) (hc : cs[ci]? = some c) (hs : w.heap.size ≤ w1.heap.size) (hk : w1.heap[g]? = w.heap[g]?) (A : Option Addr) (n cap : Nat) :
    CompsAt (w1.setCell ⟨g, ci * 5 + 4, none⟩ (.slice A n cap)) (some ⟨g, 0, none⟩) (cs.set ci ⟨c.d, c.sg, c.dx, c.dy, A, n, cap⟩) := by
  have kc : ∀ o, w1.cell? ⟨g, o, none⟩ = w.cell? ⟨g, o, none⟩ := fun o => World.cell?_of_block hk
  have far : ∀ o v, o ≠ ci * 5 + 4 → w.cell? ⟨g, o, none⟩ = some v → (w1.setCell ⟨g, ci * 5 + 4, none⟩ (.slice A n cap)).cell? ⟨g, o, none⟩ = some v := fun o v ho hv =>
    (World.cell?_setCell_other _ _ _ _ (fun e => by injection e with _ e; exact ho e.symm)).trans ((kc o).trans hv)
  intro i c' hc'
  by_cases hi : i = ci
  · subst hi
    rw [List.getElem?_set_self (List.getElem?_eq_some_iff.1 hc).1] at hc'
    injection hc' with hc'
    subst hc'
    obtain ⟨b, o, e, hb, c0, c1, c2, c3, c4⟩ := h i c hc
    injection e with e
    injection e with e1 e2
    subst e1 e2
    rw [Nat.zero_add] at c0 c1 c2 c3 c4
    refine ⟨_, 0, rfl, by rw [size_setCell]; omega, ?_⟩
    rw [Nat.zero_add]
    exact ⟨far _ _ (by omega) c0, far _ _ (by omega) c1, far _ _ (by omega) c2, far _ _ (by omega) c3, World.cell?_setCell_same _ _ _ ((kc _).trans c4)⟩
  · rw [List.getElem?_set_ne (fun e => hi e.symm)] at hc'
    obtain ⟨b, o, e, hb, c0, c1, c2, c3, c4⟩ := h i c' hc'
    injection e with e
    injection e with e1 e2
    subst e1 e2
    rw [Nat.zero_add] at c0 c1 c2 c3 c4
    refine ⟨_, 0, rfl, by rw [size_setCell]; omega, ?_⟩
    rw [Nat.zero_add]
    exact ⟨far _ _ (by omega) c0, far _ _ (by omega) c1, far _ _ (by omega) c2, far _ _ (by omega) c3, far _ _ (by omega) c4⟩
theorem own_one {w : World} {lo : Nat} {cs : List Cp} : ∀ u ∈ cs.flatMap cpV, u.oneCell' = true := by
  intro u hu
  obtain ⟨c, _, hc⟩ := List.mem_flatMap.1 hu
  simp only [cpV, List.mem_cons, List.not_mem_nil, or_false] at hc
  rcases hc with rfl | rfl | rfl | rfl | rfl <;> rfl
/-- Components appended to themselves. -/
theorem app_twice {w : World} {lo g c : Nat} {cs : List Cp} (h : CRow lo w (.slice (some ⟨g, 0, none⟩) cs.length c) cs) (hb : lo ≤ w.heap.size) (hl : cs.length ≤ 1000) (h0 : 1 ≤ cs.length) :
    ∃ A' C' w', (appSem #[22, 22] 22 #[.slice (some ⟨g, 0, none⟩) cs.length c, .slice (some ⟨g, 0, none⟩) cs.length c]).run Try.prog w = .ok (.slice A' (cs ++ cs).length C') w' ∧ CRow lo w' (.slice A' (cs ++ cs).length C') (cs ++ cs) ∧ w.grownBy w' (some g) := by
  obtain ⟨i0, hi, hzz⟩ := Option.map_eq_some_iff.1 Try.info39
  simp only [Prod.mk.injEq] at hzz
  obtain ⟨hz0, hz1, hz2⟩ := hzz
  obtain ⟨v', w', hr, hown', hg, _, hat⟩ := run_append_own_at (P := Try.prog) w lo 22 22 39 i0 _ 5 56 (by kernel_rfl) hi hz0 hz1 hz2 rfl (by decide) _ cs.length (cs.flatMap cpV) h.own ⟨g, 0, none⟩ cs.length c (cs.flatMap cpV) h.own.1 (h.own.cells (g := g) rfl) (own_one (w := w) (lo := lo)) (by unfold maxLen; omega) (by omega) hb
  obtain ⟨g', cap', hv, _⟩ := own_form hown' (by omega)
  subst hv
  have hgb : w.grownBy w' (some g) := hg
  refine ⟨some ⟨g', 0, none⟩, cap', w', by rw [List.length_append]; exact hr, ⟨?_, fun cc hcc => ?_⟩, hgb⟩
  · rw [List.length_append, List.flatMap_append]
    exact hown'
  · have hm : cc ∈ cs := by simpa using hcc
    obtain ⟨l, d1, d2⟩ := h.dat cc hm
    exact ⟨l, ownsRow_keep d1 hgb.size (fun k e => hgb.block k (own_lt d1 e).2 (fun e' => own_ne h.own d1 (by decide) g rfl (by rw [e, e']))), d2⟩
theorem pic_at_twice {w v v2 : World} {bm g lo C' : Nat} {X Y OX OY TX TY LV BW BH PR ST OD LY : Int} {RC SO EP : Bool} {V : Value} {A' : Option Addr} {cs : List Cp} (hb : Below w.heap.size w v) (h1 : v.heap[bm]? = some (.cells #[.int .i64 X, .int .i64 Y, .int .i64 OX, .int .i64 OY, V] 24 (0, 0))) (h2 : v.heap[bm + 1]? = some (.cells #[.int .i64 TX, .int .i64 TY, .int .i64 LV, .int .i64 BW, .int .i64 BH, .int .i64 PR, .int .i64 ST, .int .i64 OD, .int .i64 LY, .bool RC, .bool SO, .bool EP] 26 (0, 0)))
    (hg : v.grownBy v2 (some g)) (hC : CRow lo v2 (.slice A' (cs ++ cs).length C') (cs ++ cs)) (hgb : g < bm) (hwg : w.heap.size ≤ g) (h0 : 1 ≤ cs.length) (hl : cs.length ≤ 400) (hn : ∀ c ∈ cs, c.n ≤ 1000000) : PicAt w bm (v2.setCell ⟨bm, 4, none⟩ (.slice A' (cs ++ cs).length C')) := by
  have k1 : v2.heap[bm]? = v.heap[bm]? := hg.block bm (Array.getElem?_eq_some_iff.1 h1).1 (fun e => by injection e with e; omega)
  have k2 : v2.heap[bm + 1]? = v.heap[bm + 1]? := hg.block (bm + 1) (Array.getElem?_eq_some_iff.1 h2).1 (fun e => by injection e with e; omega)
  have hC2 := hC.setCell (b := bm) (k := 4) (k1.trans h1) (by decide) (by decide) (.slice A' (cs ++ cs).length C')
  obtain ⟨ds, hp, _⟩ := hC2.pic (by simp; omega) (by simp; omega) (fun c hc => hn c (by simpa using hc))
  have hbb : Below w.heap.size w v2 := hb.grown hg hb.size (fun k e => by injection e with e; omega)
  exact ⟨X, Y, OX, OY, TX, TY, LV, BW, BH, PR, ST, OD, LY, RC, SO, EP, A', C', cs ++ cs, ds, hbb.setCell (p := ⟨bm, 4, none⟩) (by show w.heap.size ≤ bm; omega) _, by simp [World.setCell, Array.getElem?_modify, k1, h1], (Below.heap_setCell _ _ _ _ (by simp)).trans (k2.trans h2), hp⟩
theorem pic_at_data {w v v1 v2 : World} {bm g lo C ci : Nat} {X Y OX OY TX TY LV BW BH PR ST OD LY : Int} {RC SO EP : Bool} {c : Cp} {v' : Value} {cs : List Cp} {ds : Nat → List Int} {ys : List Int} (hb : Below w.heap.size w v) (h1 : v.heap[bm]? = some (.cells #[.int .i64 X, .int .i64 Y, .int .i64 OX, .int .i64 OY, .slice (some ⟨g, 0, none⟩) cs.length C] 24 (0, 0))) (h2 : v.heap[bm + 1]? = some (.cells #[.int .i64 TX, .int .i64 TY, .int .i64 LV, .int .i64 BW, .int .i64 BH, .int .i64 PR, .int .i64 ST, .int .i64 OD, .int .i64 LY, .bool RC, .bool SO, .bool EP] 26 (0, 0)))
    (hp : Pic v (some ⟨g, 0, none⟩) C cs ds) (hc : cs[ci]? = some c) (hn : c.n ≤ 900000) (hv : Below v.heap.size v v1) (hi : Ints v1 v2) (hg : v1.grownBy v2 (Value.slice c.A c.n c.cap).ownBlock) (hne : ∀ k, (Value.slice c.A c.n c.cap).ownBlock = some k → w.heap.size ≤ k ∧ k ≠ bm ∧ k ≠ bm + 1 ∧ k ≠ g) (hwg : w.heap.size ≤ g) (hgb : g < bm) (ho : v2.ownsRow lo 3 1 v' (c.n + 1) (ys.map (Value.int .i64))) : PicAt w bm (v2.setCell ⟨g, ci * 5 + 4, none⟩ v') := by
  obtain ⟨g', cap', rfl, _⟩ := own_form ho (by omega)
  have z1 := (Array.getElem?_eq_some_iff.1 h1).1
  have z2 := (Array.getElem?_eq_some_iff.1 h2).1
  have kk : ∀ k, k < v.heap.size → some k ≠ (Value.slice c.A c.n c.cap).ownBlock → v2.heap[k]? = v.heap[k]? := fun k hk hk2 => (hg.block k (Nat.lt_of_lt_of_le hk hv.size) hk2).trans (hv.block k hk)
  have kb := kk bm z1 (fun e => (hne _ e.symm).2.1 rfl)
  have kp := kk (bm + 1) z2 (fun e => (hne _ e.symm).2.2.1 rfl)
  have kg := kk g (by omega) (fun e => (hne _ e.symm).2.2.2 rfl)
  have hsz : v.heap.size ≤ v2.heap.size := Nat.le_trans hv.size hg.size
  have hcell : v2.cell? ⟨g, ci * 5 + 4, none⟩ = some (.slice c.A c.n c.cap) := by
    obtain ⟨b, o, e, hb', c0, c1, c2, c3, c4⟩ := hp.at' ci c hc
    injection e with e
    injection e with e1 e2
    subst e1 e2
    rw [Nat.zero_add] at c4
    exact (World.cell?_of_block kg).trans c4
  have hI : Ints v (v2.setCell ⟨g, ci * 5 + 4, none⟩ (.slice (some ⟨g', 0, none⟩) (c.n + 1) cap')) := by
    refine Ints.trans (w' := v2) (Ints.trans (w' := v1) (fun b o m hm => ⟨m, ?_⟩) hi) (ints_set hcell (fun m e => by cases e) _)
    exact (hv.cell (p := ⟨b, o, none⟩) (World.block_lt_of_cell? v _ hm)).trans hm
  have hCA := comps_store (A := some ⟨g', 0, none⟩) (n := c.n + 1) (cap := cap') hp.at' hc hsz kg
  obtain ⟨ds', hp'⟩ := pic_make hCA (C := C) (by rw [List.length_set]; exact hp.cap) (by rw [List.length_set]; exact hp.few) (fun i cc hcc => by
    by_cases hii : i = ci
    · subst hii
      rw [List.getElem?_set_self (List.getElem?_eq_some_iff.1 hc).1] at hcc
      injection hcc with hcc
      subst hcc
      have hL : Lst v2 v2.heap.size (some ⟨g', 0, none⟩) (ys.map (Value.int .i64)) := Lst.own ho
      obtain ⟨l', k1, k2⟩ := lst_ints (w' := v2.setCell ⟨g, i * 5 + 4, none⟩ (.slice (some ⟨g', 0, none⟩) (c.n + 1) cap')) (ints_set hcell (fun m e => by cases e) _) (Nat.le_of_eq (size_setCell _ _ _).symm) hL
      have hy := ho.1
      simp at hy
      exact ⟨l', k1, by rw [k2, hy], by show c.n + 1 ≤ 1000000; omega⟩
    · rw [List.getElem?_set_ne (fun e => hii e.symm)] at hcc
      obtain ⟨d1, d2, d3⟩ := hp.dat i cc hcc
      obtain ⟨l', k1, k2⟩ := lst_ints hI (by rw [size_setCell]; exact hsz) d1
      exact ⟨l', k1, by rw [k2, d2], d3⟩)
  have hbb : Below w.heap.size w v2 := (hb.trans (hv.mono hb.size)).grown hg (Nat.le_trans hb.size hv.size) (fun k e => (hne k e).1)
  exact ⟨X, Y, OX, OY, TX, TY, LV, BW, BH, PR, ST, OD, LY, RC, SO, EP, some ⟨g, 0, none⟩, C, _, ds', hbb.setCell (p := ⟨g, ci * 5 + 4, none⟩) hwg _, by rw [List.length_set]; exact (Below.heap_setCell _ _ _ _ (by show bm ≠ g; omega)).trans (kb.trans h1), (Below.heap_setCell _ _ _ _ (by show bm + 1 ≠ g; omega)).trans (kp.trans h2), hp'⟩
/-- Where the sixteen pointers point. -/
theorem ptr_at {v : World} {lo lb bm cg ci : Nat} {X Y OX OY TX TY LV BW BH PR ST OD LY d dx dy : Int} {RC SO EP : Bool} {V : Value} {cur : Array Value} (hl : v.heap[lb]? = some (.cells #[.pointer (some ⟨bm, 0, none⟩), .pointer (some ⟨bm, 1, none⟩), .pointer (some ⟨bm, 2, none⟩), .pointer (some ⟨bm, 3, none⟩), .pointer (some ⟨bm + 1, 0, none⟩), .pointer (some ⟨bm + 1, 1, none⟩), .pointer (some ⟨bm + 1, 2, none⟩), .pointer (some ⟨bm + 1, 3, none⟩), .pointer (some ⟨bm + 1, 4, none⟩), .pointer (some ⟨bm + 1, 5, none⟩), .pointer (some ⟨bm + 1, 6, none⟩), .pointer (some ⟨bm + 1, 7, none⟩), .pointer (some ⟨bm + 1, 8, none⟩), .pointer (some ⟨cg, ci * 5, none⟩), .pointer (some ⟨cg, ci * 5 + 2, none⟩), .pointer (some ⟨cg, ci * 5 + 3, none⟩)] 41 (0, 0)))
    (h1 : v.heap[bm]? = some (.cells #[.int .i64 X, .int .i64 Y, .int .i64 OX, .int .i64 OY, V] 24 (0, 0))) (h2 : v.heap[bm + 1]? = some (.cells #[.int .i64 TX, .int .i64 TY, .int .i64 LV, .int .i64 BW, .int .i64 BH, .int .i64 PR, .int .i64 ST, .int .i64 OD, .int .i64 LY, .bool RC, .bool SO, .bool EP] 26 (0, 0)))
    (q0 : v.cell? ⟨cg, ci * 5, none⟩ = some (.int .i64 d)) (q2 : v.cell? ⟨cg, ci * 5 + 2, none⟩ = some (.int .i64 dx)) (q3 : v.cell? ⟨cg, ci * 5 + 3, none⟩ = some (.int .i64 dy)) (hcg : v.heap[cg]? = some (.cells cur 39 (0, 0))) (hb : lo ≤ bm) (hg : lo ≤ cg) (kk : Nat) (hk : kk < 16) :
    ∃ pb po m, v.cell? ⟨lb, kk, none⟩ = some (.pointer (some ⟨pb, po, none⟩)) ∧ v.cell? ⟨pb, po, none⟩ = some (.int .i64 m) ∧ v.frozen? ⟨pb, po, none⟩ = false ∧ lo ≤ pb := by
  obtain rfl | rfl | rfl | rfl | rfl | rfl | rfl | rfl | rfl | rfl | rfl | rfl | rfl | rfl | rfl | rfl := (by omega : kk = 0 ∨ kk = 1 ∨ kk = 2 ∨ kk = 3 ∨ kk = 4 ∨ kk = 5 ∨ kk = 6 ∨ kk = 7 ∨ kk = 8 ∨ kk = 9 ∨ kk = 10 ∨ kk = 11 ∨ kk = 12 ∨ kk = 13 ∨ kk = 14 ∨ kk = 15)
  · exact ⟨bm, 0, X, by simp [World.cell?, hl], by simp [World.cell?, h1], by simp [World.frozen?, h1], hb⟩
  · exact ⟨bm, 1, Y, by simp [World.cell?, hl], by simp [World.cell?, h1], by simp [World.frozen?, h1], hb⟩
  · exact ⟨bm, 2, OX, by simp [World.cell?, hl], by simp [World.cell?, h1], by simp [World.frozen?, h1], hb⟩
  · exact ⟨bm, 3, OY, by simp [World.cell?, hl], by simp [World.cell?, h1], by simp [World.frozen?, h1], hb⟩
  · exact ⟨bm + 1, 0, TX, by simp [World.cell?, hl], by simp [World.cell?, h2], by simp [World.frozen?, h2], by omega⟩
  · exact ⟨bm + 1, 1, TY, by simp [World.cell?, hl], by simp [World.cell?, h2], by simp [World.frozen?, h2], by omega⟩
  · exact ⟨bm + 1, 2, LV, by simp [World.cell?, hl], by simp [World.cell?, h2], by simp [World.frozen?, h2], by omega⟩
  · exact ⟨bm + 1, 3, BW, by simp [World.cell?, hl], by simp [World.cell?, h2], by simp [World.frozen?, h2], by omega⟩
  · exact ⟨bm + 1, 4, BH, by simp [World.cell?, hl], by simp [World.cell?, h2], by simp [World.frozen?, h2], by omega⟩
  · exact ⟨bm + 1, 5, PR, by simp [World.cell?, hl], by simp [World.cell?, h2], by simp [World.frozen?, h2], by omega⟩
  · exact ⟨bm + 1, 6, ST, by simp [World.cell?, hl], by simp [World.cell?, h2], by simp [World.frozen?, h2], by omega⟩
  · exact ⟨bm + 1, 7, OD, by simp [World.cell?, hl], by simp [World.cell?, h2], by simp [World.frozen?, h2], by omega⟩
  · exact ⟨bm + 1, 8, LY, by simp [World.cell?, hl], by simp [World.cell?, h2], by simp [World.frozen?, h2], by omega⟩
  · exact ⟨cg, ci * 5, _, by simp [World.cell?, hl], q0, by simp [World.frozen?, hcg], hg⟩
  · exact ⟨cg, ci * 5 + 2, _, by simp [World.cell?, hl], q2, by simp [World.frozen?, hcg], hg⟩
  · exact ⟨cg, ci * 5 + 3, _, by simp [World.cell?, hl], q3, by simp [World.frozen?, hcg], hg⟩
theorem CRow.blk {lo : Nat} {w : World} {g C : Nat} {cs : List Cp} (h : CRow lo w (.slice (some ⟨g, 0, none⟩) cs.length C) cs) : ∃ cur, w.heap[g]? = some (.cells cur 39 (0, 0)) := by
  rcases h.own.2 with ⟨h0, _⟩ | ⟨g', cap, cur, hv, _, hg, _⟩
  · cases h0
  · injection hv with e
    injection e with e
    injection e with e
    subst e
    exact ⟨cur, hg⟩
theorem own_blk {w : World} {lo n s : Nat} {e : TypeId} {v : Value} {xs : List Value} (h : w.ownsRow lo e s v n xs) {k : Nat} (hk : v.ownBlock = some k) : lo ≤ k ∧ k < w.heap.size ∧ ∃ cur, w.heap[k]? = some (.cells cur e (0, 0)) := by
  rcases h.2 with ⟨rfl, _⟩ | ⟨g, cap, cur, rfl, hb, hg, _⟩
  · simp [Value.ownBlock] at hk
  · have e1 : g = k := by simpa [Value.ownBlock] using hk
    subst e1
    exact ⟨hb, (Array.getElem?_eq_some_iff.1 hg).1, cur, hg⟩
end Go.Proofs.Ythcpmonahmogaaa
