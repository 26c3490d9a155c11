/- canvas: a picture and params that are handed in, opened. -/
import Derived.Test.YthcpmonahmogaaaCvFm
import Derived.Test.YthcpmonahmogaaaCvF
import Derived.Deep.Slices
set_option linter.unusedVariables false
set_option linter.unusedSimpArgs false
namespace Go.Proofs.Ythcpmonahmogaaa
open Go.ChangeShapes Go.WideShapes Go.ChangeAt Go.RowKit Go.Joins Go.Deep
set_option maxRecDepth 100000
/-- Components that are handed in. -/
structure ImgIn (w : World) (A : Option Addr) (len cap : Nat) (cs : List Cp) (zs : Nat → List Int) : Prop where
  at' : CompsAt w A cs
  lcs : cs.length = len
  lcap : len ≤ cap ∧ cap ≤ maxLen
  no : A = none → len = 0 ∧ cap = 0
  dat : ∀ i c, cs[i]? = some c → IsRow .i64 w c.A c.n c.cap (zs i)
theorem row_of {H : Type} {enc : TypeId × Value → H} {W : World} {n : Nat} {c : Value} {y : DataW H × List MemPlace} (h : DataW.trod enc Try.prog W 0 (fun _ => true) true n 27 [c] = some y) :
    ∃ (A : Option Addr) (l k : Nat) (zs : List Int), c = .slice A l k ∧ IsRow .i64 W A l k zs := by
  rcases open_ints Try.underlying27 Try.underlying3 (by kernel_rfl) h with ⟨hcs, _⟩ | ⟨x, l, k, zs, hcs, _, hl, hm, hz, _, hcell, hwz⟩
  · simp only [List.cons.injEq, and_true] at hcs
    exact ⟨none, 0, 0, [], hcs, .inl ⟨rfl, rfl, rfl, rfl⟩⟩
  · simp only [List.cons.injEq, and_true] at hcs
    exact ⟨some x, l, k, zs, hcs, .inr ⟨x, rfl, hl, hm, by simpa using hz, hcell, hwz⟩⟩
theorem comp_open {H : Type} {enc : TypeId × Value → H} {W : World} {fuel : Nat} {cs : List Value} {x : DataW H × List MemPlace} (h : DataW.trod enc Try.prog W 0 (fun _ => true) true fuel 39 cs = some x) :
    ∃ (c : Cp) (zs : List Int), cs = [.int .i64 c.d, .bool c.sg, .int .i64 c.dx, .int .i64 c.dy, .slice c.A c.n c.cap] ∧ IsRow .i64 W c.A c.n c.cap zs := by
  have hone : oneCellFields Try.prog _ = true := (by kernel_rfl : oneCellFields Try.prog (match Try.prog.underlying 39 with | some (.struct fs) => fs | _ => #[]) = true)
  have hund := Try.underlying39
  rw [hund] at hone
  simp only at hone
  have hC : Try.prog.cellsOf 39 = 5 := by kernel_rfl
  obtain ⟨xs, n, _, _, hl, hlen, hfd⟩ := DataW.trod_struct hund h
  rw [hC] at hl
  match cs, hl with
  | [c0, c1, c2, c3, c4], _ =>
    have hlen : xs.length = 5 := hlen
    have g : ∀ (i : Nat) (f : Field) (c : Value), _ → ([c0, c1, c2, c3, c4] : List Value)[i]? = some c → ∃ y, DataW.trod enc Try.prog W 0 (fun _ => true) true n f.type [c] = some y := fun i f c hi hc => by
      have h1 := hfd i f hi
      obtain ⟨o, k⟩ := hone_of hone i f hi
      have hi5 : i < 5 := (List.getElem?_eq_some_iff.1 hc).1
      rw [o, k, take_one hc, List.getElem?_eq_getElem (by rw [hlen]; exact hi5)] at h1
      exact ⟨_, h1⟩
    obtain ⟨y0, h0⟩ := g 0 _ c0 rfl rfl
    obtain ⟨d, e0, _, w0⟩ := DataW.trod_int Try.underlying3 h0
    simp only [List.cons.injEq, and_true] at e0
    obtain ⟨y1, h1⟩ := g 1 _ c1 rfl rfl
    obtain ⟨sg, e1, _⟩ := DataW.trod_bool Try.underlying4 h1
    simp only [List.cons.injEq, and_true] at e1
    obtain ⟨y2, h2⟩ := g 2 _ c2 rfl rfl
    obtain ⟨dx, e2, _, w2⟩ := DataW.trod_int Try.underlying3 h2
    simp only [List.cons.injEq, and_true] at e2
    obtain ⟨y3, h3⟩ := g 3 _ c3 rfl rfl
    obtain ⟨dy, e3, _, w3⟩ := DataW.trod_int Try.underlying3 h3
    simp only [List.cons.injEq, and_true] at e3
    obtain ⟨y4, h4⟩ := g 4 _ c4 rfl rfl
    obtain ⟨A, l, k, zs, e4, hr⟩ := row_of h4
    subst e0 e1 e2 e3 e4
    exact ⟨⟨d, sg, dx, dy, A, l, k⟩, zs, rfl, hr⟩
theorem comps_open {H : Type} {enc : TypeId × Value → H} {W : World} {fuel : Nat} {c : Value} {x : DataW H × List MemPlace} (h : DataW.trod enc Try.prog W 0 (fun _ => true) true fuel 22 [c] = some x) :
    ∃ (A : Option Addr) (len cap : Nat) (cs : List Cp) (zs : Nat → List Int), c = .slice A len cap ∧ ImgIn W A len cap cs zs := by
  have hC : Try.prog.cellsOf 39 = 5 := by kernel_rfl
  rcases open_slice Try.underlying22 h with ⟨hcs, _⟩ | ⟨a, len, cap, m, n, D, Pl, hcs, _, hl, hm, hmm, _, hall⟩
  · simp only [List.cons.injEq, and_true] at hcs
    exact ⟨none, 0, 0, [], fun _ => [], hcs, ⟨fun i c hc => by simp at hc, rfl, ⟨Nat.le_refl _, by unfold maxLen; omega⟩, fun _ => ⟨rfl, rfl⟩, fun i c hc => by simp at hc⟩⟩
  · simp only [List.cons.injEq, and_true] at hcs
    simp only [if_true] at hmm
    have key : ∀ i : Nat, ∃ q : Cp × List Int, i < len → (∀ j v, [Value.int .i64 q.1.d, .bool q.1.sg, .int .i64 q.1.dx, .int .i64 q.1.dy, .slice q.1.A q.1.n q.1.cap][j]? = some v → W.cell? ((a.add (i * 5)).add j) = some v) ∧ IsRow .i64 W q.1.A q.1.n q.1.cap q.2 := fun i => by
      by_cases hi : i < len
      · obtain ⟨cs', h1, h2⟩ := hall i (by omega)
        obtain ⟨c, zs, hc, hr⟩ := comp_open h2
        rw [hC] at h1
        refine ⟨(c, zs), fun _ => ⟨fun j v hv => ?_, hr⟩⟩
        rw [← hc] at hv
        unfold World.cells? at h1
        rw [if_pos (Nat.zero_le _)] at h1
        have hj : j < 5 := by
          have h3 := (List.getElem?_eq_some_iff.1 hv).1
          rw [hc] at h3
          simpa using h3
        have h4 := mapM_some_get h1 j j (List.getElem?_range hj)
        rw [h4, hv]
      · exact ⟨(⟨0, false, 0, 0, none, 0, 0⟩, []), fun h => absurd h hi⟩
    obtain ⟨q, hq⟩ := Classical.axiomOfChoice key
    refine ⟨some a, len, cap, (List.range len).map fun i => (q i).1, fun i => (q i).2, hcs, ⟨fun i c hc => ?_, by simp, ⟨hl, hm⟩, (fun h => by cases h), fun i c hc => ?_⟩⟩
    · have hi : i < len := by
        have := (List.getElem?_eq_some_iff.1 hc).1
        simpa using this
      rw [List.getElem?_map, List.getElem?_range hi] at hc
      injection hc with hc
      subst hc
      obtain ⟨h1, _⟩ := hq i hi
      obtain ⟨b, o, spot⟩ := a
      have e : ∀ k, Addr.add ⟨b, o, none⟩ k = ⟨b, o + k, none⟩ := fun k => by unfold Addr.add; split <;> simp_all
      have hs0 : spot = none := by
        have h3 := ((hq 0 (by omega)).1) 0 _ rfl
        rw [Nat.zero_mul] at h3
        exact World.cell?_spot h3
      subst hs0
      have g : ∀ j v, [Value.int .i64 (q i).1.d, .bool (q i).1.sg, .int .i64 (q i).1.dx, .int .i64 (q i).1.dy, .slice (q i).1.A (q i).1.n (q i).1.cap][j]? = some v → W.cell? ⟨b, o + i * 5 + j, none⟩ = some v := fun j v hv => by
        have := h1 j v hv
        rw [e (i * 5)] at this
        have e2 : ∀ k k2, Addr.add ⟨b, k2, none⟩ k = ⟨b, k2 + k, none⟩ := fun k k2 => by unfold Addr.add; split <;> simp_all
        rw [e2] at this
        exact this
      exact ⟨b, o, rfl, World.block_lt_of_cell? W _ (g 0 _ rfl), g 0 _ rfl, g 1 _ rfl, g 2 _ rfl, g 3 _ rfl, g 4 _ rfl⟩
    · have hi : i < len := by
        have := (List.getElem?_eq_some_iff.1 hc).1
        simpa using this
      rw [List.getElem?_map, List.getElem?_range hi] at hc
      injection hc with hc
      subst hc
      exact (hq i hi).2
theorem img_open {H : Type} {enc : TypeId × Value → H} {W : World} {b0 : Nat} {r : Reach} {v : Value} {d : DataW H} {p : List MemPlace} (hv : Value.okWide Try.prog W r b0 24 v) (h : DataW.Trod enc Try.prog W 0 (fun _ => true) true 24 v d p) :
    ∃ (x y ox oy : Int) (A : Option Addr) (len cap : Nat) (cs : List Cp) (zs : Nat → List Int), v = .agg #[.int .i64 x, .int .i64 y, .int .i64 ox, .int .i64 oy, .slice A len cap] ∧ ImgIn W A len cap cs zs := by
  have hone : oneCellFields Try.prog _ = true := (by kernel_rfl : oneCellFields Try.prog (match Try.prog.underlying 24 with | some (.struct fs) => fs | _ => #[]) = true)
  have hund := Try.underlying24
  rw [hund] at hone
  simp only at hone
  obtain ⟨cs, rfl, hsz⟩ := okWide_struct hund hv
  have hC : Try.prog.cellsOf 24 = 5 := by kernel_rfl
  obtain ⟨fuel, hf⟩ := h
  obtain ⟨xs, n, _, _, hl, hlen, hfd⟩ := DataW.trod_struct hund hf
  have hl5 : cs.toList.length = 5 := by rw [Array.length_toList, hsz, hC]
  obtain ⟨L, hL⟩ : ∃ L, cs.toList = L := ⟨_, rfl⟩
  have hcs2 : cs = L.toArray := by rw [← hL]
  rw [hL] at hl5
  match L, hl5, hL, hcs2 with
  | [c0, c1, c2, c3, c4], _, _, hcs2 =>
    subst hcs2
    have hlen : xs.length = 5 := hlen
    have g : ∀ (i : Nat) (f : Field) (c : Value), _ → ([c0, c1, c2, c3, c4] : List Value)[i]? = some c → ∃ y, DataW.trod enc Try.prog W 0 (fun _ => true) true n f.type [c] = some y := fun i f c hi hc => by
      have h1 := hfd i f hi
      obtain ⟨o, k⟩ := hone_of hone i f hi
      have hi5 : i < 5 := (List.getElem?_eq_some_iff.1 hc).1
      rw [o, k, show ((Value.agg [c0, c1, c2, c3, c4].toArray).cells.toList) = [c0, c1, c2, c3, c4] from rfl, take_one hc, List.getElem?_eq_getElem (by rw [hlen]; exact hi5)] at h1
      exact ⟨_, h1⟩
    obtain ⟨y0, h0⟩ := g 0 _ c0 rfl rfl
    obtain ⟨x, e0, _, w0⟩ := DataW.trod_int Try.underlying3 h0
    simp only [List.cons.injEq, and_true] at e0
    obtain ⟨y1, h1⟩ := g 1 _ c1 rfl rfl
    obtain ⟨y, e1, _, w1⟩ := DataW.trod_int Try.underlying3 h1
    simp only [List.cons.injEq, and_true] at e1
    obtain ⟨y2, h2⟩ := g 2 _ c2 rfl rfl
    obtain ⟨ox, e2, _, w2⟩ := DataW.trod_int Try.underlying3 h2
    simp only [List.cons.injEq, and_true] at e2
    obtain ⟨y3, h3⟩ := g 3 _ c3 rfl rfl
    obtain ⟨oy, e3, _, w3⟩ := DataW.trod_int Try.underlying3 h3
    simp only [List.cons.injEq, and_true] at e3
    obtain ⟨y4, h4⟩ := g 4 _ c4 rfl rfl
    obtain ⟨A, len, cap, ks, zs, e4, hi⟩ := comps_open h4
    subst e0 e1 e2 e3 e4
    exact ⟨x, y, ox, oy, A, len, cap, ks, zs, rfl, hi⟩
theorem par_open {H : Type} {enc : TypeId × Value → H} {W : World} {b0 : Nat} {r : Reach} {v : Value} {d : DataW H} {p : List MemPlace} (hv : Value.okWide Try.prog W r b0 26 v) (h : DataW.Trod enc Try.prog W 0 (fun _ => true) true 26 v d p) :
    ∃ (tx ty lv bw bh pr st od ly : Int) (rc so ep : Bool), v = .agg #[.int .i64 tx, .int .i64 ty, .int .i64 lv, .int .i64 bw, .int .i64 bh, .int .i64 pr, .int .i64 st, .int .i64 od, .int .i64 ly, .bool rc, .bool so, .bool ep] := by
  have hone : oneCellFields Try.prog _ = true := (by kernel_rfl : oneCellFields Try.prog (match Try.prog.underlying 26 with | some (.struct fs) => fs | _ => #[]) = true)
  have hund := Try.underlying26
  rw [hund] at hone
  simp only at hone
  obtain ⟨cs, rfl, hsz⟩ := okWide_struct hund hv
  have hC : Try.prog.cellsOf 26 = 12 := by kernel_rfl
  obtain ⟨fuel, hf⟩ := h
  obtain ⟨xs, n, _, _, hl, hlen, hfd⟩ := DataW.trod_struct hund hf
  have hl5 : cs.toList.length = 12 := by rw [Array.length_toList, hsz, hC]
  obtain ⟨L, hL⟩ : ∃ L, cs.toList = L := ⟨_, rfl⟩
  have hcs2 : cs = L.toArray := by rw [← hL]
  rw [hL] at hl5
  match L, hl5, hL, hcs2 with
  | [c0, c1, c2, c3, c4, c5, c6, c7, c8, c9, c10, c11], _, _, hcs2 =>
    subst hcs2
    have hlen : xs.length = 12 := hlen
    have g : ∀ (i : Nat) (f : Field) (c : Value), _ → ([c0, c1, c2, c3, c4, c5, c6, c7, c8, c9, c10, c11] : List Value)[i]? = some c → ∃ y, DataW.trod enc Try.prog W 0 (fun _ => true) true n f.type [c] = some y := fun i f c hi hc => by
      have h1 := hfd i f hi
      obtain ⟨o, k⟩ := hone_of hone i f hi
      have hi5 : i < 12 := (List.getElem?_eq_some_iff.1 hc).1
      rw [o, k, show ((Value.agg [c0, c1, c2, c3, c4, c5, c6, c7, c8, c9, c10, c11].toArray).cells.toList) = [c0, c1, c2, c3, c4, c5, c6, c7, c8, c9, c10, c11] from rfl, take_one hc, List.getElem?_eq_getElem (by rw [hlen]; exact hi5)] at h1
      exact ⟨_, h1⟩
    obtain ⟨y0, h0⟩ := g 0 _ c0 rfl rfl
    obtain ⟨tx, e0, _, w0⟩ := DataW.trod_int Try.underlying3 h0
    simp only [List.cons.injEq, and_true] at e0
    obtain ⟨y1, h1⟩ := g 1 _ c1 rfl rfl
    obtain ⟨ty, e1, _, w1⟩ := DataW.trod_int Try.underlying3 h1
    simp only [List.cons.injEq, and_true] at e1
    obtain ⟨y2, h2⟩ := g 2 _ c2 rfl rfl
    obtain ⟨lv, e2, _, w2⟩ := DataW.trod_int Try.underlying3 h2
    simp only [List.cons.injEq, and_true] at e2
    obtain ⟨y3, h3⟩ := g 3 _ c3 rfl rfl
    obtain ⟨bw, e3, _, w3⟩ := DataW.trod_int Try.underlying3 h3
    simp only [List.cons.injEq, and_true] at e3
    obtain ⟨y4, h4⟩ := g 4 _ c4 rfl rfl
    obtain ⟨bh, e4, _, w4⟩ := DataW.trod_int Try.underlying3 h4
    simp only [List.cons.injEq, and_true] at e4
    obtain ⟨y5, h5⟩ := g 5 _ c5 rfl rfl
    obtain ⟨pr, e5, _, w5⟩ := DataW.trod_int Try.underlying3 h5
    simp only [List.cons.injEq, and_true] at e5
    obtain ⟨y6, h6⟩ := g 6 _ c6 rfl rfl
    obtain ⟨st, e6, _, w6⟩ := DataW.trod_int Try.underlying3 h6
    simp only [List.cons.injEq, and_true] at e6
    obtain ⟨y7, h7⟩ := g 7 _ c7 rfl rfl
    obtain ⟨od, e7, _, w7⟩ := DataW.trod_int Try.underlying3 h7
    simp only [List.cons.injEq, and_true] at e7
    obtain ⟨y8, h8⟩ := g 8 _ c8 rfl rfl
    obtain ⟨ly, e8, _, w8⟩ := DataW.trod_int Try.underlying3 h8
    simp only [List.cons.injEq, and_true] at e8
    obtain ⟨y9, h9⟩ := g 9 _ c9 rfl rfl
    obtain ⟨rc, e9, _⟩ := DataW.trod_bool Try.underlying4 h9
    simp only [List.cons.injEq, and_true] at e9
    obtain ⟨y10, h10⟩ := g 10 _ c10 rfl rfl
    obtain ⟨so, e10, _⟩ := DataW.trod_bool Try.underlying4 h10
    simp only [List.cons.injEq, and_true] at e10
    obtain ⟨y11, h11⟩ := g 11 _ c11 rfl rfl
    obtain ⟨ep, e11, _⟩ := DataW.trod_bool Try.underlying4 h11
    simp only [List.cons.injEq, and_true] at e11
    subst e0 e1 e2 e3 e4 e5 e6 e7 e8 e9 e10 e11
    exact ⟨tx, ty, lv, bw, bh, pr, st, od, ly, rc, so, ep, rfl⟩
end Go.Proofs.Ythcpmonahmogaaa
