/- Trees: TreeBack's objects side by side, and what they say. -/
import Derived.Test.YthgbnkcbcepjdaaTrSim
import Derived.Test.YthgbnkcbcepjdaaTrRo
set_option linter.unusedVariables false
set_option linter.unusedSimpArgs false
namespace Go.Proofs.Ythgbnkcbcepjdaa
open Go.RowKit
set_option maxRecDepth 100000
/-- A slice of numbers that is j's. -/
def RwO (o : Nat → Nat) (j : Nat) (w : World) (sb n : Nat) (g : Nat → Nat) : Prop := ∃ arr : Array Value, w.heap[sb]? = some (.cells arr 3 (0, 0)) ∧ arr.size = n ∧ (∀ k, k < n → arr[k]? = some (.int .i64 (g k : Int))) ∧ o sb = j
section
variable {o o' : Nat → Nat} {j a x sb n k : Nat} {w w' : World} {g : Nat → Nat}
theorem RwO.lt (h : RwO o j w sb n g) : sb < w.heap.size := by
  obtain ⟨arr, h, _⟩ := h
  exact (Array.getElem?_eq_some_iff.1 h).1
theorem RwO.other (h : RwO o j w sb n g) (hn : Onl o a x w w') (ho : ∀ k, k < w.heap.size → o' k = o k) (ha : j ≠ a) (hx : j ≠ x) : RwO o' j w' sb n g := by
  have hl := h.lt
  obtain ⟨arr, h1, h2, h3, h4⟩ := h
  exact ⟨arr, (hn.at hl (by rw [h4]; exact ha) (by rw [h4]; exact hx)).trans h1, h2, h3, (ho sb hl).trans h4⟩
theorem RwO.below (h : RwO o j w sb n g) (hb : Below w.heap.size w w') (ho : ∀ k, k < w.heap.size → o' k = o k) : RwO o' j w' sb n g := h.other (onl_below (a := j + 1) (x := j + 1) hb) ho (by omega) (by omega)
theorem RwO.cell (h : RwO o j w sb n g) (hk : k < n) : w.cell? ⟨sb, k, none⟩ = some (.int .i64 (g k : Int)) := by
  obtain ⟨arr, h1, h2, h3, h4⟩ := h
  simp only [World.cell?, h1]
  exact h3 k hk
theorem RwO.frozen (h : RwO o j w sb n g) : w.frozen? ⟨sb, k, none⟩ = false := by
  obtain ⟨arr, h1, h2, h3, h4⟩ := h
  simp [World.frozen?, h1]
theorem RwO.set (h : RwO o j w sb n g) (hk : k < n) (v : Nat) : RwO o j (w.setCell ⟨sb, k, none⟩ (.int .i64 (v : Int))) sb n (fun m => if m = k then v else g m) := by
  obtain ⟨arr, h1, h2, h3, h4⟩ := h
  refine ⟨arr.setIfInBounds k (.int .i64 (v : Int)), by simp [World.setCell, Array.getElem?_modify, h1], by simp [h2], fun m hm => ?_, h4⟩
  rw [Array.getElem?_setIfInBounds]
  by_cases e : k = m
  · subst e
    rw [if_pos rfl, if_pos (by omega)]
    simp
  · rw [if_neg e]
    show _ = some (Value.int .i64 ((if m = k then v else g m : Nat) : Int))
    rw [if_neg (by omega)]
    exact h3 m hm
theorem RwO.onl (h : RwO o j w sb n g) (v : Value) : Onl o j j w (w.setCell ⟨sb, k, none⟩ v) := by
  obtain ⟨arr, h1, h2, h3, h4⟩ := h
  exact (Only.refl _ w).setCell (p := ⟨sb, k, none⟩) (fun _ => .inl h4) v
end
structure BkA (o : Nat → Nat) (w0 w : World) (pt pu W H d sb : Nat) (T Tu : TT) (g : Nat → Nat) : Prop where
  t : TrO o 1 w pt W H d T
  u : TrO o 2 w pu W H d Tu
  s : RwO o 3 w sb (W * H) g
  bs : Bs o w0.heap.size
  bel : Below w0.heap.size w0 w
structure BkB (o : Nat → Nat) (w0 w : World) (pt pu W H d sb : Nat) (T Tu : TT) (g : Nat → Nat) (wp : Nat) (bs : List Int) : Prop where
  a : BkA o w0 w pt pu W H d sb T Tu g
  x : WrO o 4 w wp (wrun bs)
structure BkC (o : Nat → Nat) (w0 w : World) (pt pu W H d sb : Nat) (T Tu : TT) (g : Nat → Nat) (wp : Nat) (bs : List Int) (q : Nat) (F : List Int) (s : RS) : Prop where
  b : BkB o w0 w pt pu W H d sb T Tu g wp bs
  r : RdO o 5 w q F s
section
variable {o o' : Nat → Nat} {w0 w w' : World} {pt pu W H d sb wp q k : Nat} {T Tu : TT} {g : Nat → Nat} {bs F : List Int} {s : RS}
theorem BkA.below (h : BkA o w0 w pt pu W H d sb T Tu g) (hb : Below w.heap.size w w') : BkA o w0 w' pt pu W H d sb T Tu g :=
  ⟨h.t.below hb (fun _ _ => rfl), h.u.below hb (fun _ _ => rfl), h.s.below hb (fun _ _ => rfl), h.bs, h.bel.trans (hb.mono h.bel.size)⟩
theorem BkA.new (h : BkA o w0 w pt pu W H d sb T Tu g) (hb : Below w.heap.size w w') (j : Nat) : BkA (onew o w j) w0 w' pt pu W H d sb T Tu g :=
  ⟨h.t.below hb (onew_old o w j), h.u.below hb (onew_old o w j), h.s.below hb (onew_old o w j), h.bs.new h.bel.size j, h.bel.trans (hb.mono h.bel.size)⟩
theorem BkB.below (h : BkB o w0 w pt pu W H d sb T Tu g wp bs) (hb : Below w.heap.size w w') : BkB o w0 w' pt pu W H d sb T Tu g wp bs :=
  ⟨h.a.below hb, h.x.below hb (fun _ _ => rfl)⟩
theorem BkB.new (h : BkB o w0 w pt pu W H d sb T Tu g wp bs) (hb : Below w.heap.size w w') (j : Nat) : BkB (onew o w j) w0 w' pt pu W H d sb T Tu g wp bs :=
  ⟨h.a.new hb j, h.x.below hb (onew_old o w j)⟩
theorem BkC.below (h : BkC o w0 w pt pu W H d sb T Tu g wp bs q F s) (hb : Below w.heap.size w w') : BkC o w0 w' pt pu W H d sb T Tu g wp bs q F s :=
  ⟨h.b.below hb, h.r.below hb (fun _ _ => rfl)⟩
theorem BkA.set (h : BkA o w0 w pt pu W H d sb T Tu g) (hk : k < W * H) (n : Nat) (hn : n ≤ 1000) : Calls Try.prog 20 #[.pointer (some ⟨pt, 0, none⟩), .int .i64 (k : Int), .int .i64 (n : Int)] w fun e w' => e = .returned (.tuple #[]) ∧ BkA (onew o w 1) w0 w' pt pu W H d sb (setM T W H d k (n : Int)) Tu g :=
  (set_o h.t hk n hn).mono fun e w' ⟨he, hT, ho⟩ => ⟨he, hT, h.u.other ho (onew_old o w 1) (by decide) (by decide), h.s.other ho (onew_old o w 1) (by decide) (by decide), h.bs.new h.bel.size 1, h.bel.trans (ho.base h.bs (by decide) (by decide) h.bel.size)⟩
theorem BkA.store (h : BkA o w0 w pt pu W H d sb T Tu g) (hk : k < W * H) (v : Nat) : BkA o w0 (w.setCell ⟨sb, k, none⟩ (.int .i64 (v : Int))) pt pu W H d sb T Tu (fun m => if m = k then v else g m) :=
  ⟨h.t.other (h.s.onl (.int .i64 (v : Int))) (fun _ _ => rfl) (by decide) (by decide), h.u.other (h.s.onl (.int .i64 (v : Int))) (fun _ _ => rfl) (by decide) (by decide), h.s.set hk v, h.bs, h.bel.trans ((h.s.onl (.int .i64 (v : Int))).base h.bs (by decide) (by decide) h.bel.size)⟩
theorem BkB.enc (h : BkB o w0 w pt pu W H d sb T Tu g wp bs) (hk : k < W * H) (b : Nat) (hb : b ≤ 11) (hd : d ≤ 8) (hl : (wrun bs).1.length ≤ 70000) :
    Calls Try.prog 22 #[.pointer (some ⟨pt, 0, none⟩), .pointer (some ⟨wp, 0, none⟩), .int .i64 (k : Int), .int .i64 (b : Int)] w fun e w' => e = .returned (.tuple #[]) ∧ BkB (onew o w 4) w0 w' pt pu W H d sb (encB (b : Int) W d k bs T).2.1 Tu g wp (encB (b : Int) W d k bs T).1 ∧ (wrun (encB (b : Int) W d k bs T).1).1.length ≤ (wrun bs).1.length + 104 := by
  have hdb : d * ((b : Int).toNat + 2) ≤ 8 * 13 := Nat.mul_le_mul hd (by omega)
  have hc := enc_o h.a.t h.x (by decide) hk (b : Int) (by omega) (by omega)
  rw [encM_B] at hc
  refine hc.mono ?_
  rintro e w' ⟨rfl, hT, hW, ho, hlen⟩
  exact ⟨rfl, ⟨⟨hT, h.a.u.other ho (onew_old o w 4) (by decide) (by decide), h.a.s.other ho (onew_old o w 4) (by decide) (by decide), h.a.bs.new h.a.bel.size 4, h.a.bel.trans (ho.base h.a.bs (by decide) (by decide) h.a.bel.size)⟩, hW⟩, by simp only at hlen; omega⟩
theorem BkC.dec (h : BkC o w0 w pt pu W H d sb T Tu g wp bs q F s) (hk : k < W * H) (b : Nat) (hb : b ≤ 11) (hd : d ≤ 8) (hl : F.length ≤ 80000) (hF : ∀ x ∈ F, 0 ≤ x ∧ x ≤ 255) (hsl : s.l ≤ 8) (hn : s.n ≤ 70000) :
    Calls Try.prog 14 #[.pointer (some ⟨pu, 0, none⟩), .pointer (some ⟨q, 0, none⟩), .int .i64 (k : Int), .int .i64 (b : Int)] w fun e w' => e = .returned (.bool (decide (0 ≤ knF (decM F (b : Int) W d k s Tu).2.1 k) && decide (knF (decM F (b : Int) W d k s Tu).2.1 k < (b : Int)))) ∧
      BkC (onew o w 5) w0 w' pt pu W H d sb T (decM F (b : Int) W d k s Tu).2.1 g wp bs q F (decM F (b : Int) W d k s Tu).1 := by
  have hdb : d * ((b : Int).toNat + 2) ≤ 8 * 13 := Nat.mul_le_mul hd (by omega)
  refine (dec_o h.b.a.u h.r (by decide) hk (b : Int) (by omega) hl hF hsl (by omega)).mono ?_
  rintro e w' ⟨rfl, hT, hR, ho⟩
  exact ⟨rfl, ⟨⟨h.b.a.t.other ho (onew_old o w 5) (by decide) (by decide), hT, h.b.a.s.other ho (onew_old o w 5) (by decide) (by decide), h.b.a.bs.new h.b.a.bel.size 5, h.b.a.bel.trans (ho.base h.b.a.bs (by decide) (by decide) h.b.a.bel.size)⟩, h.b.x.other ho (onew_old o w 5) (by decide) (by decide)⟩, hR⟩
theorem BkC.known (h : BkC o w0 w pt pu W H d sb T Tu g wp bs q F s) (hk : k < W * H) :
    Calls Try.prog 16 #[.pointer (some ⟨pu, 0, none⟩), .int .i64 (k : Int)] w fun e w' => e = .returned (.int .i64 (knF Tu k)) ∧ BkC o w0 w' pt pu W H d sb T Tu g wp bs q F s :=
  (known_o h.b.a.u hk).mono fun e w' ⟨he, hb⟩ => ⟨he, h.below hb⟩
theorem BkC.fin (h : BkC o w0 w pt pu W H d sb T Tu g wp bs q F s) (hl : F.length ≤ 90000) (h1 : s.n ≤ 90000) :
    Calls Try.prog 18 #[.pointer (some ⟨q, 0, none⟩)] w fun e w' => e = .returned (.tuple #[.int .i64 (endK F s : Int), .int .i64 (endE F s)]) ∧ BkC o w0 w' pt pu W H d sb T Tu g wp bs q F s := by
  obtain ⟨V, hv, _⟩ := h.r
  exact (rb_end hv.rb hl h1).mono fun e w' ⟨he, n, hw⟩ => ⟨he, by rw [hw]; exact h.below (below_drewN (Below.refl _ w) n)⟩
theorem BkB.bytes (h : BkB o w0 w pt pu W H d sb T Tu g wp bs) (hl : (wrun bs).1.length ≤ 80000) :
    Calls Try.prog 23 #[.pointer (some ⟨wp, 0, none⟩)] w fun e w' => ∃ v, e = .returned v ∧ w'.ownsRow w.heap.size 5 1 v (bytesF (wrun bs).1).length ((bytesF (wrun bs).1).map (Value.int .u8)) ∧ BkB o w0 w' pt pu W H d sb T Tu g wp bs :=
  (bytes_o h.x hl).mono fun e w' ⟨v, he, h1, h2⟩ => ⟨v, he, h1, h.below h2⟩
theorem BkB.rd (h : BkB o w0 w pt pu W H d sb T Tu g wp bs) (hb : Below w.heap.size w w') (hr : Rb w' w.heap.size q F s) : BkC (onew o w 5) w0 w' pt pu W H d sb T Tu g wp bs q F s := by
  obtain ⟨hq, V, h1, h2⟩ := hr
  refine ⟨h.new hb 5, V, ⟨h1, ?_⟩, onew_new o w 5 hq, (Array.getElem?_eq_some_iff.1 h1).1, fun k hk => ⟨onew_new o w 5 (own_lt h2 hk).1, (own_lt h2 hk).2⟩⟩
  exact own_mono h2 (Nat.zero_le _)
end
/-- What was said so far, and the tree. -/
def bitsB (W d : Nat) (kk bb : Nat → Nat) (T : TT) : Nat → List Int × TT
  | 0 => ([], T)
  | i + 1 => ((encB (bb i : Int) W d (kk i) (bitsB W d kk bb T i).1 (bitsB W d kk bb T i).2).1, (encB (bb i : Int) W d (kk i) (bitsB W d kk bb T i).1 (bitsB W d kk bb T i).2).2.1)
theorem bitsB_pre (W d : Nat) (kk bb : Nat → Nat) (T : TT) (i : Nat) : ∀ m, ∃ t, (bitsB W d kk bb T (i + m)).1 = (bitsB W d kk bb T i).1 ++ t := by
  intro m
  induction m with
  | zero => exact ⟨[], by simp⟩
  | succ m ih =>
    obtain ⟨t, ht⟩ := ih
    obtain ⟨e, he⟩ := walkE_pre (bb (i + m) : Int) ((bb (i + m) : Int).toNat + 2) W (kk (i + m) % W) (kk (i + m) / W) d (bitsB W d kk bb T (i + m)).1 (bitsB W d kk bb T (i + m)).2 0
    refine ⟨t ++ e, ?_⟩
    rw [← List.append_assoc, ← ht]
    exact he
theorem bk_step {W H d i n : Nat} {kk bb : Nat → Nat} {T Tu : TT} {F : List Int} (hS : SetOk W H d T) (hW : 1 ≤ W) (hd : 1 ≤ d) (hk : kk i < W * H) (hi : i < n) (hsim : Sim (bitsB W d kk bb T i).2 Tu) (hln : LowNum (bitsB W d kk bb T i).2) (hnum : ∀ l m, ((bitsB W d kk bb T i).2 l m).num = (T l m).num)
    (hF : F = bytesF (wrun (bitsB W d kk bb T n).1).1) :
    (decM F (bb i : Int) W d (kk i) (bat (bitsB W d kk bb T i).1) Tu).1 = bat (bitsB W d kk bb T (i + 1)).1 ∧ Sim (bitsB W d kk bb T (i + 1)).2 (decM F (bb i : Int) W d (kk i) (bat (bitsB W d kk bb T i).1) Tu).2.1 ∧
    LowNum (bitsB W d kk bb T (i + 1)).2 ∧ (∀ l m, ((bitsB W d kk bb T (i + 1)).2 l m).num = (T l m).num) ∧
    (knF (decM F (bb i : Int) W d (kk i) (bat (bitsB W d kk bb T i).1) Tu).2.1 (kk i) = -1 ∧ ¬ (T 0 (kk i)).num < (bb i : Int) ∨ knF (decM F (bb i : Int) W d (kk i) (bat (bitsB W d kk bb T i).1) Tu).2.1 (kk i) = (T 0 (kk i)).num) := by
  obtain ⟨k1, k2, k3⟩ := leaf_in hW hk
  have hix : idx W 0 (kk i % W) (kk i / W) = kk i := by unfold idx; simp [dimF]; exact k3
  obtain ⟨t, ht⟩ := bitsB_pre W d kk bb T (i + 1) (n - (i + 1))
  rw [show i + 1 + (n - (i + 1)) = n by omega] at ht
  have hs := sim_walk hF (bb i : Int) W (kk i % W) (kk i / W) d (bitsB W d kk bb T i).1 (bitsB W d kk bb T i).2 Tu 0 hsim hln (fun l hl => by rw [hnum, hnum]; exact hS.2 _ _ k1 k2 l hl) (Int.le_refl _) (fun l hl => by rw [hnum]; exact (hS.1 _ _).2.2) ⟨t, ht⟩
  obtain ⟨r1, r2, r3, r4, r5⟩ := hs
  have r5 := r5 hd
  rw [hix, hnum] at r5
  refine ⟨r1, r2, r3, fun l m => (r4 l m).trans (hnum l m), ?_⟩
  have hq := r2 0 (kk i)
  have hn0 := (r4 0 (kk i)).trans (hnum 0 (kk i))
  unfold knF
  show (if ((decM F (bb i : Int) W d (kk i) (bat (bitsB W d kk bb T i).1) Tu).2.1 0 (kk i)).said = true then _ else _) = -1 ∧ _ ∨ _
  unfold decM
  rw [hq.2.1]
  cases hsd : ((walkT estepB (bb i : Int) ((bb i : Int).toNat + 2) W (kk i % W) (kk i / W) d ((bitsB W d kk bb T i).1, (bitsB W d kk bb T i).2, 0)).2.1 0 (kk i)).said with
  | true =>
    right
    rw [if_pos rfl, hq.2.2 hsd, hn0]
  | false =>
    left
    rw [if_neg (by simp)]
    refine ⟨rfl, ?_⟩
    rw [hsd] at r5
    intro hlt
    simp [hlt] at r5
end Go.Proofs.Ythgbnkcbcepjdaa
