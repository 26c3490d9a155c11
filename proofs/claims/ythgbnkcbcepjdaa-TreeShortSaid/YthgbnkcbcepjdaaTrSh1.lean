/- Trees: TreeShort's bits and objects. -/
import Derived.Test.YthgbnkcbcepjdaaTrSh0
import Derived.Test.YthgbnkcbcepjdaaTrBk0
set_option linter.unusedVariables false
set_option linter.unusedSimpArgs false
namespace Go.Proofs.Ythgbnkcbcepjdaa
open Go.RowKit
set_option maxRecDepth 100000
theorem TrO.shp {o : Nat → Nat} {j : Nat} {w : World} {p W H d : Nat} {T : TT} (h : TrO o j w p W H d T) : 1 ≤ d ∧ d ≤ 8 ∧ dimF W (d - 1) = 1 ∧ dimF H (d - 1) = 1 ∧ ∀ i, i + 1 < d → 1 < dimF W i ∨ 1 < dimF H i := by
  obtain ⟨L, cl, sh, _, h2, rfl, _⟩ := h
  exact ⟨h2.len.1, h2.len.2, h2.top.1, h2.top.2, h2.mid⟩
/-- What has been written where these leaves were asked for. -/
structure ShP (W H d n : Nat) (T : TT) (bs : List Int) (Lf : Nat → Prop) : Prop where
  sd : Sd W H d n T
  bits : bs = List.replicate n 0 ++ List.replicate (cntS W H T d) 1
  lf : ∀ k, k < W * H → Lf k → ∀ i, i < d → (T i (idx W i (k % W) (k / W))).said = true
theorem cntS_zero {W H : Nat} {T : TT} (h : ∀ i m, (T i m).said = false) : ∀ d, cntS W H T d = 0 := by
  have hr : ∀ i M, rowC T i M = 0 := by
    intro i M
    induction M with
    | zero => rfl
    | succ M ih => rw [rowC, ih, h]; rfl
  intro d
  induction d with
  | zero => rfl
  | succ d ih => rw [cntS, ih, hr]
theorem root_idx {W H d x y : Nat} (hx : x < W) (hy : y < H) (h1 : dimF W (d - 1) = 1) (h2 : dimF H (d - 1) = 1) : idx W (d - 1) x y = 0 := by
  have hx' := dimF_lt W (d - 1) x hx
  have hy' := dimF_lt H (d - 1) y hy
  rw [h1] at hx'
  rw [h2] at hy'
  unfold idx
  rw [Nat.lt_one_iff.1 hx', Nat.lt_one_iff.1 hy']
  simp
/-- The first leaf. -/
theorem sh_first {W H d n k : Nat} {T : TT} (hS : Sd W H d n T) (h0 : ∀ i m, (T i m).low = 0 ∧ (T i m).said = false) (hd : 1 ≤ d) (hW : 1 ≤ W) (hk : k < W * H) :
    ShP W H d n (encB ((n : Int) + 1) W d k [] T).2.1 (encB ((n : Int) + 1) W d k [] T).1 (fun k' => k' = k) := by
  obtain ⟨k1, k2, k3⟩ := leaf_in hW hk
  obtain ⟨j, rfl⟩ : ∃ j, d = j + 1 := ⟨d - 1, by omega⟩
  obtain ⟨s1, s2, s3, s4⟩ := hS j (by omega) _ _ k1 k2
  unfold encB
  rw [walkT]
  simp only
  rw [show k / W / 2 ^ j * dimF W j + k % W / 2 ^ j = idx W j (k % W) (k / W) from rfl, s1, (h0 j _).1, (h0 j _).2]
  have hmx : maxI 0 0 = 0 := rfl
  rw [hmx, loopE _ _ _ _ _ (by omega) (by omega), if_pos (by omega)]
  simp only [Int.sub_zero, Int.toNat_natCast, List.nil_append]
  obtain ⟨c, r1, r2, r3, r4, r5⟩ := walkS (d := j + 1) k1 k2 j (List.replicate n 0 ++ [1]) _ (by omega) (hS.upd (j := j) (x := k % W) (y := k / W))
  have hon : cntS W H (T.upd j (idx W j (k % W) (k / W)) ⟨(n : Int), (n : Int), true⟩) (j + 1) = cntS W H T (j + 1) + 1 :=
    cntS_one (idx_in k1 k2) (h0 j _).2 (by rw [TT.upd_self]) (fun i m h => by rw [TT.upd_ne _ _ _ _ h]) (j + 1) (by omega)
  rw [cntS_zero (fun i m => (h0 i m).2)] at hon
  refine ⟨r3, ?_, ?_⟩
  · rw [r1, r2, hon, List.append_assoc, show 0 + 1 + c = c + 1 by omega, List.replicate_succ]
    rfl
  · intro k' hk' e i hi
    subst e
    by_cases e : i = j
    · subst e; exact r4 i _ (by rw [TT.upd_self])
    · exact r5 i (by omega)
/-- Each further leaf. -/
theorem sh_next {W H d n k k0 : Nat} {T : TT} {bs : List Int} {Lf : Nat → Prop} (h : ShP W H d n T bs Lf) (h0 : k0 < W * H ∧ Lf k0) (hd : 1 ≤ d) (hW : 1 ≤ W) (hk : k < W * H) (ht : dimF W (d - 1) = 1 ∧ dimF H (d - 1) = 1) :
    ShP W H d n (encB ((n : Int) + 1) W d k bs T).2.1 (encB ((n : Int) + 1) W d k bs T).1 (fun k' => Lf k' ∨ k' = k) := by
  obtain ⟨k1, k2, k3⟩ := leaf_in hW hk
  obtain ⟨z1, z2, z3⟩ := leaf_in hW h0.1
  have hroot := h.lf k0 h0.1 h0.2 (d - 1) (by omega)
  rw [root_idx z1 z2 ht.1 ht.2, ← root_idx k1 k2 ht.1 ht.2] at hroot
  obtain ⟨j, rfl⟩ : ∃ j, d = j + 1 := ⟨d - 1, by omega⟩
  simp only [Nat.add_sub_cancel] at hroot
  obtain ⟨s1, s2, s3, s4⟩ := h.sd j (by omega) _ _ k1 k2
  unfold encB
  rw [walkT]
  simp only
  rw [show k / W / 2 ^ j * dimF W j + k % W / 2 ^ j = idx W j (k % W) (k / W) from rfl, s1, s4 hroot, hroot]
  have hmx : maxI (n : Int) 0 = (n : Int) := by unfold maxI; split <;> omega
  rw [hmx, loopE_said]
  simp only
  obtain ⟨c, r1, r2, r3, r4, r5⟩ := walkS (d := j + 1) k1 k2 j bs _ (by omega) (h.sd.upd (j := j) (x := k % W) (y := k / W))
  have hsm : ∀ i m, ((T.upd j (idx W j (k % W) (k / W)) ⟨(n : Int), (n : Int), true⟩) i m).said = (T i m).said := by
    intro i m
    unfold TT.upd
    split
    · rename_i e; rw [e.1, e.2, hroot]
    · rfl
  rw [cntS_same (j + 1) (fun i _ m => hsm i m)] at r2
  refine ⟨r3, ?_, ?_⟩
  · rw [r1, r2, h.bits, List.append_assoc, List.replicate_append_replicate]
  · intro k' hk' e i hi
    rcases e with e | e
    · exact r4 i _ (by rw [hsm]; exact h.lf k' hk' e i hi)
    · subst e
      by_cases e : i = j
      · subst e; exact r4 i _ (by rw [TT.upd_self])
      · exact r5 i (by omega)
theorem ShP.mono {W H d n : Nat} {T : TT} {bs : List Int} {Lf Lg : Nat → Prop} (h : ShP W H d n T bs Lf) (hm : ∀ k, k < W * H → Lg k → Lf k) : ShP W H d n T bs Lg :=
  ⟨h.sd, h.bits, fun k hk hl => h.lf k hk (hm k hk hl)⟩
/-- All nodes have been said. -/
theorem ShP.all {W H d n : Nat} {T : TT} {bs : List Int} (h : ShP W H d n T bs (fun _ => True)) (hW : 1 ≤ W) : bs = List.replicate n 0 ++ List.replicate (cntA W H d) 1 := by
  rw [h.bits, cntS_all d (fun i hi m hm => ?_)]
  have hD : 1 ≤ dimF W i := (dimF_le W i hW).1
  have hmx : m % dimF W i < dimF W i := Nat.mod_lt _ hD
  have hmy : m / dimF W i < dimF H i := Nat.div_lt_of_lt_mul hm
  obtain ⟨x, hx, ex⟩ := dimF_back W i _ hmx
  obtain ⟨y, hy, ey⟩ := dimF_back H i _ hmy
  have hi2 : idx W i x y = m := by
    unfold idx
    rw [ex, ey, Nat.mul_comm]
    exact Nat.div_add_mod m (dimF W i)
  have hk : y * W + x < W * H := by
    have := Nat.mul_le_mul_right W (show y + 1 ≤ H by omega)
    rw [Nat.succ_mul] at this
    rw [Nat.mul_comm W H]
    omega
  have := h.lf (y * W + x) hk trivial i hi
  rw [Nat.mul_comm y W, Nat.mul_add_mod, Nat.mod_eq_of_lt hx, Nat.mul_add_div (by omega), Nat.div_eq_of_lt hx, Nat.add_zero, hi2] at this
  exact this
theorem cntA_le {W H : Nat} (hW : 1 ≤ W ∧ W ≤ 8) (hH : 1 ≤ H ∧ H ≤ 8) : ∀ i, cntA W H i ≤ i * 64 ∧ dimF W i * dimF H i ≤ 64 := by
  intro i
  have hd : ∀ i, dimF W i * dimF H i ≤ 8 * 8 := fun i => Nat.mul_le_mul (Nat.le_trans (dimF_le W i hW.1).2 hW.2) (Nat.le_trans (dimF_le H i hH.1).2 hH.2)
  induction i with
  | zero => exact ⟨Nat.zero_le _, hd 0⟩
  | succ i ih =>
    have := hd i
    refine ⟨?_, hd (i + 1)⟩
    rw [cntA]
    omega
/-- The tree, its Writer, later a Reader. -/
structure ShO (o : Nat → Nat) (w0 w : World) (p W H d wp : Nat) (T : TT) (bs : List Int) : Prop where
  t : TrO o 1 w p W H d T
  x : WrO o 2 w wp (wrun bs)
  bs : Bs o w0.heap.size
  bel : Below w0.heap.size w0 w
structure ShR (o : Nat → Nat) (w0 w : World) (wp : Nat) (bs : List Int) (q : Nat) (F : List Int) (s : RS) : Prop where
  x : WrO o 2 w wp (wrun bs)
  r : RdO o 3 w q F s
  bs : Bs o w0.heap.size
  bel : Below w0.heap.size w0 w
section
variable {o : Nat → Nat} {w0 w w' : World} {p W H d wp q k : Nat} {T : TT} {bs F : List Int} {s : RS}
theorem ShO.set (h : ShO o w0 w p W H d wp T bs) (hk : k < W * H) (n : Nat) (hn : n ≤ 1000) : Calls Try.prog 20 #[.pointer (some ⟨p, 0, none⟩), .int .i64 (k : Int), .int .i64 (n : Int)] w fun e w' => e = .returned (.tuple #[]) ∧ ShO (onew o w 1) w0 w' p W H d wp (setM T W H d k (n : Int)) bs :=
  (set_o h.t hk n hn).mono fun e w' ⟨he, hT, ho⟩ => ⟨he, hT, h.x.other ho (onew_old o w 1) (by decide) (by decide), h.bs.new h.bel.size 1, h.bel.trans (ho.base h.bs (by decide) (by decide) h.bel.size)⟩
theorem ShO.enc (h : ShO o w0 w p W H d wp T bs) (hk : k < W * H) (b : Int) (hb : 0 ≤ b ∧ b ≤ 11) (hd : d ≤ 8) (hl : bs.length ≤ 70000) :
    Calls Try.prog 22 #[.pointer (some ⟨p, 0, none⟩), .pointer (some ⟨wp, 0, none⟩), .int .i64 (k : Int), .int .i64 b] w fun e w' => e = .returned (.tuple #[]) ∧ ShO (onew o w 2) w0 w' p W H d wp (encB b W d k bs T).2.1 (encB b W d k bs T).1 := by
  have hdb : d * (b.toNat + 2) ≤ 8 * 13 := Nat.mul_le_mul hd (by omega)
  have hwl : (wrun bs).1.length ≤ bs.length := by
    have := wfold_len (s := ([], 0)) (by simpa [wrun] using wrun_ok []) bs
    simpa [wrun, wfold] using this
  have hc := enc_o h.t h.x (by decide) hk b (by omega) (by omega)
  rw [encM_B] at hc
  refine hc.mono ?_
  rintro e w' ⟨rfl, hT, hW, ho, hlen⟩
  exact ⟨rfl, hT, hW, h.bs.new h.bel.size 2, h.bel.trans (ho.base h.bs (by decide) (by decide) h.bel.size)⟩
theorem ShO.bytes (h : ShO o w0 w p W H d wp T bs) (hl : (wrun bs).1.length ≤ 80000) :
    Calls Try.prog 23 #[.pointer (some ⟨wp, 0, none⟩)] w fun e w' => ∃ v, e = .returned v ∧ w'.ownsRow w.heap.size 5 1 v (bytesF (wrun bs).1).length ((bytesF (wrun bs).1).map (Value.int .u8)) ∧ ShO o w0 w' p W H d wp T bs :=
  (bytes_o h.x hl).mono fun e w' ⟨v, he, h1, h2⟩ => ⟨v, he, h1, h.t.below h2 (fun _ _ => rfl), h.x.below h2 (fun _ _ => rfl), h.bs, h.bel.trans (h2.mono h.bel.size)⟩
theorem ShO.rd (h : ShO o w0 w p W H d wp T bs) (hb : Below w.heap.size w w') (hr : Rb w' w.heap.size q F s) : ShR (onew o w 3) w0 w' wp bs q F s := by
  obtain ⟨hq, V, h1, h2⟩ := hr
  refine ⟨h.x.below hb (onew_old o w 3), ⟨V, ⟨h1, own_mono h2 (Nat.zero_le _)⟩, onew_new o w 3 hq, (Array.getElem?_eq_some_iff.1 h1).1, fun k hk => ⟨onew_new o w 3 (own_lt h2 hk).1, (own_lt h2 hk).2⟩⟩, h.bs.new h.bel.size 3, h.bel.trans (hb.mono h.bel.size)⟩
theorem ShR.bit (h : ShR o w0 w wp bs q F s) (hl : F.length ≤ 80000) (h1 : s.n ≤ 80000) (h2 : s.l ≤ 8) (hF : ∀ x ∈ F, 0 ≤ x ∧ x ≤ 255) :
    Calls Try.prog 24 #[.pointer (some ⟨q, 0, none⟩)] w fun e w' => e = .returned (.int .i64 (rsbit F s)) ∧ ShR o w0 w' wp bs q F (rsnext F s) := by
  obtain ⟨V, hv, r2, r3, r4⟩ := h.r
  refine (rbv_bit hv (by omega) (by omega) h2 hF).mono ?_
  rintro e w' ⟨rfl, hv', ho⟩
  have hOn : Onl o 3 3 w w' := ho.mono (fun b hb _ => .inl (by rw [hb]; exact r2))
  exact ⟨rfl, h.x.other hOn (fun _ _ => rfl) (by decide) (by decide), ⟨V, hv', r2, Nat.lt_of_lt_of_le r3 ho.size, fun k hk => ⟨(r4 k hk).1, Nat.lt_of_lt_of_le (r4 k hk).2 ho.size⟩⟩, h.bs, h.bel.trans (hOn.base h.bs (by decide) (by decide) h.bel.size)⟩
theorem ShR.fin (h : ShR o w0 w wp bs q F s) (hl : F.length ≤ 90000) (h1 : s.n ≤ 90000) :
    Calls Try.prog 18 #[.pointer (some ⟨q, 0, none⟩)] w fun e w' => e = .returned (.tuple #[.int .i64 (endK F s : Int), .int .i64 (endE F s)]) ∧ ShR o w0 w' wp bs q F s := by
  obtain ⟨V, hv, _⟩ := h.r
  refine (rb_end hv.rb hl h1).mono ?_
  rintro e w' ⟨he, n, hw⟩
  have hb : Below w.heap.size w w' := by rw [hw]; exact below_drewN (Below.refl _ w) n
  exact ⟨he, h.x.below hb (fun _ _ => rfl), h.r.below hb (fun _ _ => rfl), h.bs, h.bel.trans (hb.mono h.bel.size)⟩
theorem ShR.bytes (h : ShR o w0 w wp bs q F s) (hl : (wrun bs).1.length ≤ 80000) :
    Calls Try.prog 23 #[.pointer (some ⟨wp, 0, none⟩)] w fun e w' => ∃ v, e = .returned v ∧ w'.ownsRow w.heap.size 5 1 v (bytesF (wrun bs).1).length ((bytesF (wrun bs).1).map (Value.int .u8)) ∧ Below w0.heap.size w0 w' :=
  (bytes_o h.x hl).mono fun e w' ⟨v, he, h1, h2⟩ => ⟨v, he, h1, h.bel.trans (h2.mono h.bel.size)⟩
end
/-- The bits up to i, and the next. -/
def preB (n i : Nat) : List Int := List.replicate (min i n) 0 ++ List.replicate (i - n) 1
theorem preB_next {n M i : Nat} (h : i < n + M) : ∃ t, List.replicate n 0 ++ List.replicate M 1 = preB n i ++ (if i < n then (0 : Int) else 1) :: t ∧ preB n (i + 1) = preB n i ++ [if i < n then (0 : Int) else 1] := by
  unfold preB
  by_cases hi : i < n
  · refine ⟨List.replicate (n - i - 1) 0 ++ List.replicate M 1, ?_, ?_⟩
    · rw [if_pos hi, show min i n = i by omega, show i - n = 0 by omega]
      conv => lhs; rw [show n = i + ((n - i - 1) + 1) by omega, ← List.replicate_append_replicate, List.replicate_succ]
      simp
    · rw [if_pos hi, show min i n = i by omega, show i - n = 0 by omega, show min (i + 1) n = i + 1 by omega, show i + 1 - n = 0 by omega, List.replicate_succ']
      simp
  · refine ⟨List.replicate (M - (i - n) - 1) 1, ?_, ?_⟩
    · rw [if_neg hi, show min i n = n by omega]
      conv => lhs; rw [show M = (i - n) + ((M - (i - n) - 1) + 1) by omega, ← List.replicate_append_replicate, List.replicate_succ]
      simp
    · rw [if_neg hi, show min i n = n by omega, show min (i + 1) n = n by omega, show i + 1 - n = (i - n) + 1 by omega, List.replicate_succ']
      simp
theorem preB_all (n M : Nat) : preB n (n + M) = List.replicate n 0 ++ List.replicate M 1 := by
  unfold preB
  rw [show min (n + M) n = n by omega, show n + M - n = M by omega]
end Go.Proofs.Ythgbnkcbcepjdaa
