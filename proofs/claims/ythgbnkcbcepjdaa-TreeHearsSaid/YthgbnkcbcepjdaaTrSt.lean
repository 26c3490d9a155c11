/- Trees: Set, of any sides. -/
import Derived.Test.YthgbnkcbcepjdaaTrG
import Derived.Test.YthgbnkcbcepjdaaTrL
import Derived.IntWalk
set_option linter.unusedVariables false
set_option linter.unusedSimpArgs false
namespace Go.Proofs.Ythgbnkcbcepjdaa
open Go.RowKit
set_option maxRecDepth 100000
def leastT (T : TT) (W0 H0 i x y : Nat) : Int := leastG (fun m => (T i m).num) (dimF W0 i) x y (min 2 (dimF W0 i - x)) (T i (y * dimF W0 i + x)).num (min 2 (dimF H0 i - y))
/-- The numbers above a leaf, up to a level. -/
def setUp (T : TT) (W0 H0 x y : Nat) : Nat → TT
  | 0 => T
  | i + 1 => (setUp T W0 H0 x y i).upd (i + 1) (y / 2 ^ (i + 1) * dimF W0 (i + 1) + x / 2 ^ (i + 1))
      ⟨leastT (setUp T W0 H0 x y i) W0 H0 i (2 * (x / 2 ^ (i + 1))) (2 * (y / 2 ^ (i + 1))), (setUp T W0 H0 x y i (i + 1) (y / 2 ^ (i + 1) * dimF W0 (i + 1) + x / 2 ^ (i + 1))).low, (setUp T W0 H0 x y i (i + 1) (y / 2 ^ (i + 1) * dimF W0 (i + 1) + x / 2 ^ (i + 1))).said⟩
def setM (T : TT) (W0 H0 d k : Nat) (n : Int) : TT := setUp (T.upd 0 k ⟨n, (T 0 k).low, (T 0 k).said⟩) W0 H0 (k % W0) (k / W0) (d - 1)
/-- Where a tree's level stands. -/
theorem Shp.at {W0 H0 : Nat} {sh : Sh} (h : Shp W0 H0 sh) {i : Nat} (hi : i < sh.length) : ∃ I, sh[i]? = some (dimF W0 i, dimF H0 i, I) ∧ dimF W0 i ≤ 64 ∧ dimF H0 i ≤ 64 ∧ 1 ≤ dimF W0 i ∧ 1 ≤ dimF H0 i := by
  obtain ⟨⟨W, H, I⟩, e⟩ : ∃ a, sh[i]? = some a := ⟨_, List.getElem?_eq_getElem hi⟩
  obtain ⟨rfl, rfl⟩ := h.dm i W H I e
  have h1 := dimF_le W0 i h.pos.1
  have h2 := dimF_le H0 i h.pos.2.2.1
  have h3 := h.pos
  exact ⟨I, e, by omega⟩
theorem leaf_tr {w : World} {p L cl W0 H0 : Nat} {sh : Sh} {T : TT} (h : Tr w p L cl sh T) (hs : Shp W0 H0 sh) {k : Nat} (hk : k < W0 * H0) :
    Calls Try.prog 31 #[.pointer (some ⟨p, 0, none⟩), .int .i64 (k : Int)] w fun e w' => e = .returned (.tuple #[.int .i64 ((k % W0 : Nat) : Int), .int .i64 ((k / W0 : Nat) : Int), .bool true]) ∧ ∃ nq, w' = w.drewN nq := by
  have hl := hs.len.1
  obtain ⟨I, e, b⟩ := hs.at (i := 0) (by omega)
  obtain ⟨c0, c1, c2⟩ := h.lv 0 _ _ I e
  have hn : W0 * H0 ≤ 64 * 64 := Nat.mul_le_mul hs.pos.2.1 hs.pos.2.2.2
  exact leaf_yes p L sh.length cl W0 (W0 * H0) (W0 * H0) k _ _ (some ⟨I, 0, none⟩) w h.root hl hs.pos.1 c0 c2 hk (by omega) rfl rfl
theorem leaf_in {W0 H0 k : Nat} (hW : 1 ≤ W0) (hk : k < W0 * H0) : k % W0 < W0 ∧ k / W0 < H0 ∧ k / W0 * W0 + k % W0 = k :=
  ⟨Nat.mod_lt _ (by omega), Nat.div_lt_of_lt_mul hk, by rw [Nat.mul_comm]; exact Nat.div_add_mod k W0⟩
theorem half_pow (x i : Nat) : x / 2 ^ i / 2 = x / 2 ^ (i + 1) := by rw [Nat.pow_succ, Nat.div_div_eq_div_mul]

def SS (w0 w : World) (p L cl : Nat) (sh : Sh) (T : TT) : Prop := Tr w p L cl sh T ∧ Only (fun b => TB p L sh b ∨ w0.heap.size ≤ b) w0 w ∧ 1 ≤ sh.length
theorem SS.kept {w0 w w' : World} {p L cl : Nat} {sh : Sh} {T : TT} (h : SS w0 w p L cl sh T) (hb : Below w.heap.size w w') : SS w0 w' p L cl sh T :=
  ⟨h.1.below h.2.2 hb, h.2.1.trans ⟨hb.os, hb.tape, hb.output, hb.size, fun b hb' => hb.block b (by
    rcases Nat.lt_or_ge b w.heap.size with h' | h'
    · exact h'
    · exact absurd (Or.inr (Nat.le_trans h.2.1.size h')) hb')⟩, h.2.2⟩
theorem SS.setNum {w0 w : World} {p L cl : Nat} {sh : Sh} {T : TT} (h : SS w0 w p L cl sh T) {i W H I m : Nat} (hi : sh[i]? = some (W, H, I)) (hm : m < W * H) (v : Int) :
    SS w0 (w.setCell ⟨I, m * 3, none⟩ (.int .i64 v)) p L cl sh (T.upd i m ⟨v, (T i m).low, (T i m).said⟩) :=
  ⟨h.1.setNum hi hm v, h.2.1.setCell (.inl (.inr (.inr ⟨i, _, hi, rfl⟩))) _, h.2.2⟩
theorem SS.setLow {w0 w : World} {p L cl : Nat} {sh : Sh} {T : TT} (h : SS w0 w p L cl sh T) {i W H I m : Nat} (hi : sh[i]? = some (W, H, I)) (hm : m < W * H) (v : Int) :
    SS w0 (w.setCell ⟨I, m * 3 + 1, none⟩ (.int .i64 v)) p L cl sh (T.upd i m ⟨(T i m).num, v, (T i m).said⟩) :=
  ⟨h.1.setLow hi hm v, h.2.1.setCell (.inl (.inr (.inr ⟨i, _, hi, rfl⟩))) _, h.2.2⟩
theorem SS.setSaid {w0 w : World} {p L cl : Nat} {sh : Sh} {T : TT} (h : SS w0 w p L cl sh T) {i W H I m : Nat} (hi : sh[i]? = some (W, H, I)) (hm : m < W * H) (v : Bool) :
    SS w0 (w.setCell ⟨I, m * 3 + 2, none⟩ (.bool v)) p L cl sh (T.upd i m ⟨(T i m).num, (T i m).low, v⟩) :=
  ⟨h.1.setSaid hi hm v, h.2.1.setCell (.inl (.inr (.inr ⟨i, _, hi, rfl⟩))) _, h.2.2⟩
theorem least_tr {w : World} {p L cl W0 H0 : Nat} {sh : Sh} {T : TT} (h : Tr w p L cl sh T) (hl : 1 ≤ sh.length) {i I x y : Nat} (hi : sh[i]? = some (dimF W0 i, dimF H0 i, I)) (hb : dimF W0 i ≤ 64 ∧ dimF H0 i ≤ 64) (hx : x < dimF W0 i) (hy : y < dimF H0 i) :
    Calls Try.prog 37 #[.agg #[.int .i64 (dimF W0 i : Int), .int .i64 (dimF H0 i : Int), .slice (some ⟨I, 0, none⟩) (dimF W0 i * dimF H0 i) (dimF W0 i * dimF H0 i)], .int .i64 (x : Int), .int .i64 (y : Int)] w fun e w' => e = .returned (.int .i64 (leastT T W0 H0 i x y)) ∧ Below w.heap.size w w' :=
  least_any (fun m => (T i m).num) (dimF W0 i) (dimF H0 i) _ x y I _ _ w hb hx hy rfl (h.lt hl (.inr (.inr ⟨i, _, hi, rfl⟩))) (fun m hm => (h.cells hi hm).1) rfl rfl

set_option maxHeartbeats 8000000 in
set_option pp.deepTerms true in
set_option pp.maxSteps 10000000 in
theorem set_tr {w : World} {p Lb cl W0 H0 : Nat} {sh : Sh} {T : TT} (h : Tr w p Lb cl sh T) (hs : Shp W0 H0 sh) {k : Nat} (hk : k < W0 * H0) (n : Nat) (hn : n ≤ 1000) :
    Calls Try.prog 20 #[.pointer (some ⟨p, 0, none⟩), .int .i64 (k : Int), .int .i64 (n : Int)] w fun e w' => e = .returned (.tuple #[]) ∧ Tr w' p Lb cl sh (setM T W0 H0 sh.length k n) ∧ Only (fun b => TB p Lb sh b ∨ w.heap.size ≤ b) w w' := by
  have hl := hs.len
  have HL := Lib.hid (leaf_tr h hs hk)
  obtain ⟨I0, e0, b0⟩ := hs.at (i := 0) (by omega)
  obtain ⟨k1, k2, k3⟩ := leaf_in hs.pos.1 hk
  have HA := Lib.hid (fun W' => tat0 W0 H0 (W0 * H0) (W0 * H0) (k % W0) (k / W0) k I0 W' ⟨hs.pos.2.1, hs.pos.2.2.2⟩ k1 k2 rfl k3)
  obtain ⟨g0, g1, g2⟩ := h.lv 0 _ _ I0 e0
  simp only [Nat.zero_mul, Nat.zero_add, dimF] at g0 g1 g2
  have gr := h.root
  have hL := h.lt hl.1 (.inr (.inl rfl))
  have hI := h.lt hl.1 (.inr (.inr ⟨0, _, e0, rfl⟩))
  have HT := Lib.hid h
  have HS := Lib.hid hs
  have HE0 := Lib.hid e0
  obtain ⟨x, hx⟩ : ∃ x, k % W0 = x := ⟨_, rfl⟩
  obtain ⟨y, hy⟩ : ∃ y, k / W0 = y := ⟨_, rfl⟩
  obtain ⟨d, hd⟩ : ∃ d, sh.length = d := ⟨_, rfl⟩
  rw [hx, hy] at HL
  rw [hx, hy] at HA
  rw [hx] at k1
  rw [hy] at k2
  rw [hd] at gr hl
  have HX := Lib.hid hx
  have HY := Lib.hid hy
  have HD := Lib.hid hd
  have hposW := hs.pos
  have HK := Lib.hid hk
  clear h hs e0 hx hy hd hk k3 b0
  go_enter Try.func20, Try.ntmps20
  go_wp2_with fail
  refine HL.out.mono ?_
  rintro e w1 ⟨rfl, nq, rfl⟩
  go_wp2_with fail
  refine (HA.out _).mono ?_
  rintro e w2 ⟨rfl, hb⟩
  have hbw : Below w.heap.size w w2 := (below_drewN (Below.refl _ w) nq).trans (hb.mono (Nat.le_refl _))
  have HB : Hid (Below w.heap.size w w2) := Lib.hid hbw
  have HT2 : Hid (Tr w2 p Lb cl sh T) := Lib.hid (HT.out.below (by rw [HD.out]; exact hl.1) hbw)
  obtain ⟨ck0, _, _, ckf⟩ := HT2.out.cells HE0.out (by rw [show dimF W0 0 * dimF H0 0 = W0 * H0 from rfl]; exact HK.out)
  have kf : w2.frozen? ⟨I0, k * 3, none⟩ = false := ckf _
  have HT3 : Hid (Tr (w2.setCell ⟨I0, k * 3, none⟩ (.int .i64 (n : Int))) p Lb cl sh (T.upd 0 k ⟨(n : Int), (T 0 k).low, (T 0 k).said⟩)) := Lib.hid (HT2.out.setNum HE0.out (by rw [show dimF W0 0 * dimF H0 0 = W0 * H0 from rfl]; exact HK.out) _)
  have gr3 := HT3.out.root
  rw [HD.out] at gr3
  have HO3 : Hid (Only (fun b => TB p Lb sh b ∨ w.heap.size ≤ b) w (w2.setCell ⟨I0, k * 3, none⟩ (.int .i64 (n : Int)))) := Lib.hid (((Only.refl _ w).trans ⟨hbw.os, hbw.tape, hbw.output, hbw.size, fun b hb' => hbw.block b (by
    rcases Nat.lt_or_ge b w.heap.size with h | h
    · exact h
    · exact absurd (Or.inr h) hb')⟩).setCell (.inl (.inr (.inr ⟨0, _, HE0.out, rfl⟩))) _)
  clear hb hbw g0 g1 g2 gr ckf
  go_wp2_with fail
  clear gr3 kf ck0
  obtain ⟨w3, hw3⟩ : ∃ w3, w2.setCell ⟨I0, k * 3, none⟩ (.int .i64 (n : Int)) = w3 := ⟨_, rfl⟩
  rw [hw3] at HT3 HO3 ⊢
  clear hw3 HB HT2
  obtain ⟨TA, hTA⟩ : ∃ TA, T.upd 0 k ⟨(n : Int), (T 0 k).low, (T 0 k).said⟩ = TA := ⟨_, rfl⟩
  rw [hTA] at HT3
  have HTA := Lib.hid hTA
  clear hTA
  go_loopw [6, 7, 41] (fun a b c wr => ∃ i : Nat, i + 1 ≤ d ∧ c = .int .i64 (i : Int) ∧ a = .int .i64 ((x / 2 ^ i : Nat) : Int) ∧ b = .int .i64 ((y / 2 ^ i : Nat) : Int) ∧ Hid (Tr wr p Lb cl sh (setUp TA W0 H0 x y i)) ∧ Hid (Only (fun b => TB p Lb sh b ∨ w.heap.size ≤ b) w wr)) (fun _ _ c _ => d - (intOf c).toNat)
  case atStart => exact ⟨0, by omega, rfl, by simp, by simp, HT3, HO3⟩
  case round =>
    obtain ⟨i, hi, rfl, rfl, rfl, HTi, HOi⟩ := hrel
    have gri := HTi.out.root
    rw [HD.out] at gri
    by_cases hlt : i + 1 < d
    · obtain ⟨Ia, ea, ba⟩ := HS.out.at (i := i) (by rw [HD.out]; omega)
      obtain ⟨Ib, eb, bb⟩ := HS.out.at (i := i + 1) (by rw [HD.out]; omega)
      have px := half_pow x i
      have py := half_pow y i
      have lx := dimF_lt W0 (i + 1) x k1
      have ly := dimF_lt H0 (i + 1) y k2
      have lxa := dimF_lt W0 i x k1
      have lya := dimF_lt H0 i y k2
      obtain ⟨xa, hxa⟩ : ∃ xa, x / 2 ^ i = xa := ⟨_, rfl⟩
      obtain ⟨ya, hya⟩ : ∃ ya, y / 2 ^ i = ya := ⟨_, rfl⟩
      obtain ⟨xb, hxb⟩ : ∃ xb, x / 2 ^ (i + 1) = xb := ⟨_, rfl⟩
      obtain ⟨yb, hyb⟩ : ∃ yb, y / 2 ^ (i + 1) = yb := ⟨_, rfl⟩
      rw [hxa, hxb] at px
      rw [hya, hyb] at py
      rw [hxb] at lx
      rw [hyb] at ly
      rw [hxa] at lxa ⊢
      rw [hya] at lya ⊢
      have HXb := Lib.hid hxb
      have HYb := Lib.hid hyb
      obtain ⟨Wa, hWa⟩ : ∃ Wa, dimF W0 i = Wa := ⟨_, rfl⟩
      obtain ⟨Ha, hHa⟩ : ∃ Ha, dimF H0 i = Ha := ⟨_, rfl⟩
      obtain ⟨Wb, hWb⟩ : ∃ Wb, dimF W0 (i + 1) = Wb := ⟨_, rfl⟩
      obtain ⟨Hb, hHb⟩ : ∃ Hb, dimF H0 (i + 1) = Hb := ⟨_, rfl⟩
      rw [hWa, hHa] at ea ba
      rw [hWb, hHb] at eb bb
      rw [hWb] at lx
      rw [hHb] at ly
      rw [hWa] at lxa
      rw [hHa] at lya
      have HWa := Lib.hid hWa
      have HHa := Lib.hid hHa
      have HWb := Lib.hid hWb
      have HHb := Lib.hid hHb
      have HEa := Lib.hid ea
      have HEb := Lib.hid eb
      have qx : (xa : Int) / 2 = (xb : Int) := by omega
      have qy : (ya : Int) / 2 = (yb : Int) := by omega
      obtain ⟨Ti, hTi⟩ : ∃ Ti, setUp TA W0 H0 x y i = Ti := ⟨_, rfl⟩
      rw [hTi] at HTi
      have HTE := Lib.hid hTi
      clear hxa hya hxb hyb hWa hHa hWb hHb ea eb hTi
      have HAb := Lib.hid (fun W' => tat0 Wb Hb (Wb * Hb) (Wb * Hb) xb yb (yb * Wb + xb) Ib W' (by omega) lx ly rfl rfl)
      go_wp2_with fail
      clear qx qy
      obtain ⟨i1, hi1⟩ : ∃ i1, i + 1 = i1 := ⟨_, rfl⟩
      obtain ⟨mb, hmb⟩ : ∃ mb, yb * Wb + xb = mb := ⟨_, rfl⟩
      obtain ⟨xd, hxd⟩ : ∃ xd, 2 * xb = xd := ⟨_, rfl⟩
      obtain ⟨yd, hyd⟩ : ∃ yd, 2 * yb = yd := ⟨_, rfl⟩
      have Hmb : Hid (mb < Wb * Hb) := Lib.hid (by rw [← hmb]; exact idx_lt rfl lx ly)
      have hvl := fun (W' : World) (h : Tr W' p Lb cl sh Ti) => least_tr (W0 := W0) (H0 := H0) h (by rw [HD.out]; exact hl.1) (i := i) (I := Ia) (x := xd) (y := yd) (by rw [HWa.out, HHa.out]; exact HEa.out) (by rw [HWa.out, HHa.out]; omega) (by rw [HWa.out]; omega) (by rw [HHa.out]; omega)
      rw [HWa.out, HHa.out] at hvl
      obtain ⟨v, hv⟩ : ∃ v, leastT Ti W0 H0 i xd yd = v := ⟨_, rfl⟩
      rw [hv] at hvl
      have HLe := Lib.hid hvl
      rw [hi1] at HEb HXb HYb HWb HHb
      rw [hmb] at HAb
      have HI1 := Lib.hid hi1
      have HMB := Lib.hid hmb
      have HX2 := Lib.hid hxd
      have HY2 := Lib.hid hyd
      have HV := Lib.hid hv
      have hbd : xb ≤ 64 ∧ yb ≤ 64 := by omega
      have hi1d : (i1 : Int) < (d : Int) := by omega
      have hid : (i : Int) < (d : Int) := by omega
      have s1 : IntKind.i64.wrap ((i : Int) + 1) = (i1 : Int) := by rw [IntWalk.i64_in _ (by omega)]; omega
      have s2 : IntKind.i64.wrap (2 * (xb : Int)) = (xd : Int) := by rw [IntWalk.i64_in _ (by omega)]; omega
      have s3 : IntKind.i64.wrap (2 * (yb : Int)) = (yd : Int) := by rw [IntWalk.i64_in _ (by omega)]; omega
      have HSS : Hid (SS w wr.drew p Lb cl sh Ti) := Lib.hid ⟨HTi.out.keep fun k hk => rfl, only_drewN HOi.out 1, by rw [HD.out]; exact hl.1⟩
      clear hi1 hmb hxd hyd hv hvl HTi HOi gri
      refine (wpIn_wide (n := 9)).1 (regionIn_inv (w := wr) (Inv := fun L a' w' => a' = { tmps := #[.pointer (some ⟨p, 0, none⟩), .int .i64 (k : Int), .int .i64 (n : Int), undef, undef, undef, .int .i64 (xb : Int), .int .i64 (yb : Int), .bool true, .int .i64 (i : Int), .tuple #[.int .i64 (x : Int), .int .i64 (y : Int), .bool true], .pointer (some ⟨p, 0, none⟩), .int .i64 (k : Int), .tuple #[.int .i64 (x : Int), .int .i64 (y : Int), .bool true], .int .i64 (x : Int), .int .i64 (y : Int), .bool true, .bool true, .bool false, .bool false, .int .i64 (n : Int), .bool (decide ((n : Int) < 0)), .bool (decide ((n : Int) < 0)), .pointer (some ⟨p, 0, none⟩), .pointer (some ⟨p, 0, none⟩), .pointer (some ⟨p, 0, none⟩), .slice (some ⟨Lb, 0, none⟩) d cl, .pointer (some ⟨Lb, 0, none⟩), .agg #[.int .i64 (W0 : Int), .int .i64 (H0 : Int), .slice (some ⟨I0, 0, none⟩) (W0 * H0) (W0 * H0)], .int .i64 (x : Int), .int .i64 (y : Int), .pointer (some ⟨I0, k * 3, none⟩), .int .i64 (n : Int), .pointer (some ⟨I0, k * 3, none⟩), .pointer (some ⟨I0, k * 3, none⟩), .pointer (some ⟨p, 0, none⟩), .pointer (some ⟨p, 0, none⟩), .pointer (some ⟨p, 0, none⟩), .slice (some ⟨Lb, 0, none⟩) d cl, .int .i64 (d : Int), .int .i64 ((d : Int) - 1), .int .i64 (i : Int), .bool (decide ((i : Int) < (d : Int) - 1)), .int .i64 (i : Int), .int .i64 (xa : Int), .int .i64 (xb : Int), .int .i64 (ya : Int), .int .i64 (yb : Int), bif L 0 then .pointer (some ⟨p, 0, none⟩) else u48, bif L 1 then .pointer (some ⟨p, 0, none⟩) else u49, bif L 2 then .pointer (some ⟨p, 0, none⟩) else u50, bif L 3 then .slice (some ⟨Lb, 0, none⟩) d cl else u51, bif L 4 then .int .i64 (i : Int) else u52, bif L 5 then .int .i64 (i1 : Int) else u53, bif L 6 then .pointer (some ⟨Lb, i1 * 3, none⟩) else u54, bif L 7 then .agg #[.int .i64 (Wb : Int), .int .i64 (Hb : Int), .slice (some ⟨Ib, 0, none⟩) (Wb * Hb) (Wb * Hb)] else u55, bif L 8 then .int .i64 (xb : Int) else u56, bif L 9 then .int .i64 (yb : Int) else u57, bif L 10 then .pointer (some ⟨Ib, mb * 3, none⟩) else u58, bif L 11 then .pointer (some ⟨p, 0, none⟩) else u59, bif L 12 then .pointer (some ⟨p, 0, none⟩) else u60, bif L 13 then .pointer (some ⟨p, 0, none⟩) else u61, bif L 14 then .slice (some ⟨Lb, 0, none⟩) d cl else u62, bif L 15 then .int .i64 (i : Int) else u63, bif L 16 then .pointer (some ⟨Lb, i * 3, none⟩) else u64, bif L 17 then .agg #[.int .i64 (Wa : Int), .int .i64 (Ha : Int), .slice (some ⟨Ia, 0, none⟩) (Wa * Ha) (Wa * Ha)] else u65, bif L 18 then .int .i64 (xb : Int) else u66, bif L 19 then .int .i64 (xd : Int) else u67, bif L 20 then .int .i64 (yb : Int) else u68, bif L 21 then .int .i64 (yd : Int) else u69, bif L 22 then .int .i64 v else u70, bif L 23 then .pointer (some ⟨Ib, mb * 3, none⟩) else u71, bif L 24 then .pointer (some ⟨Ib, mb * 3, none⟩) else u72, u73], defers := [] } ∧ (bif L 25 then ((SS w w' p Lb cl sh (Ti.upd i1 mb ⟨v, (Ti i1 mb).low, (Ti i1 mb).said⟩))) else (SS w w' p Lb cl sh Ti))) (by kernel_rfl) (by kernel_rfl) ?start ?step ?fin)
      case start => exact ⟨rfl, HSS.out⟩
      case step =>
        intro i hi L a' w' hI hs hu
        obtain ⟨rfl, hph⟩ := hI
        have hL := hu.1
        have hi : i < 26 := hi
        obtain rfl | rfl | rfl | rfl | rfl | rfl | rfl | rfl | rfl | rfl | rfl | rfl | rfl | rfl | rfl | rfl | rfl | rfl | rfl | rfl | rfl | rfl | rfl | rfl | rfl | rfl := (by omega : i = 0 ∨ i = 1 ∨ i = 2 ∨ i = 3 ∨ i = 4 ∨ i = 5 ∨ i = 6 ∨ i = 7 ∨ i = 8 ∨ i = 9 ∨ i = 10 ∨ i = 11 ∨ i = 12 ∨ i = 13 ∨ i = 14 ∨ i = 15 ∨ i = 16 ∨ i = 17 ∨ i = 18 ∨ i = 19 ∨ i = 20 ∨ i = 21 ∨ i = 22 ∨ i = 23 ∨ i = 24 ∨ i = 25)
        · skip
          have n25 : L 25 = false := not_yet hL fun h => shut_at hs 25 0 (by kernel_rfl) (h)
          refine opIn_run (v := .pointer (some ⟨p, 0, none⟩)) (w' := w') rfl rfl (fun c h => by cases h) (fun _ => trivial) ?_ ⟨by simp [Act.put, upd, n25, hL], by simpa [upd] using hph⟩
          simp only [n25, hL, cond_true, cond_false]
          go_simp
        · skip
          have y0 : L 0 = true := up_at hu 0 (by kernel_rfl)
          have n25 : L 25 = false := not_yet hL fun h => shut_at hs 25 1 (by kernel_rfl) (h)
          refine opIn_run (v := .pointer (some ⟨p, 0, none⟩)) (w' := w') rfl rfl (fun c h => by cases h) (fun _ => trivial) ?_ ⟨by simp [Act.put, upd, y0, n25, hL], by simpa [upd] using hph⟩
          simp only [y0, n25, hL, cond_true, cond_false]
          go_simp
        · skip
          have y0 : L 0 = true := shut_at hs 1 0 (by kernel_rfl) (up_at hu 1 (by kernel_rfl))
          have y1 : L 1 = true := up_at hu 1 (by kernel_rfl)
          have n25 : L 25 = false := not_yet hL fun h => shut_at hs 25 2 (by kernel_rfl) (h)
          refine opIn_run (v := .pointer (some ⟨p, 0, none⟩)) (w' := w') rfl rfl (fun c h => by cases h) (fun _ => trivial) ?_ ⟨by simp [Act.put, upd, y0, y1, n25, hL], by simpa [upd] using hph⟩
          simp only [y0, y1, n25, hL, cond_true, cond_false]
          go_simp
        · skip
          have y0 : L 0 = true := shut_at hs 1 0 (by kernel_rfl) (shut_at hs 2 1 (by kernel_rfl) (up_at hu 2 (by kernel_rfl)))
          have y1 : L 1 = true := shut_at hs 2 1 (by kernel_rfl) (up_at hu 2 (by kernel_rfl))
          have y2 : L 2 = true := up_at hu 2 (by kernel_rfl)
          have n25 : L 25 = false := not_yet hL fun h => shut_at hs 25 3 (by kernel_rfl) (h)
          simp only [y0, y1, y2, n25, hL, cond_true, cond_false] at hph
          have k0 := hph.1.root
          rw [HD.out] at k0
          refine opIn_run (v := .slice (some ⟨Lb, 0, none⟩) d cl) (w' := w') rfl rfl (fun c h => by cases h) (fun _ => trivial) ?_ ⟨by simp [Act.put, upd, y0, y1, y2, n25, hL], by simp only [upd, y0, y1, y2, n25, hL]; exact hph⟩
          simp only [y0, y1, y2, n25, hL, cond_true, cond_false]
          go_simp
        · skip
          have n25 : L 25 = false := not_yet hL fun h => shut_at hs 25 4 (by kernel_rfl) (h)
          refine opIn_run (v := .int .i64 (i : Int)) (w' := w') rfl rfl (fun c h => by cases h) (fun _ => trivial) ?_ ⟨by simp [Act.put, upd, n25, hL], by simpa [upd] using hph⟩
          simp only [n25, hL, cond_true, cond_false]
          go_simp
        · skip
          have y4 : L 4 = true := up_at hu 4 (by kernel_rfl)
          have n25 : L 25 = false := not_yet hL fun h => shut_at hs 25 5 (by kernel_rfl) (h)
          refine opIn_run (v := .int .i64 (i1 : Int)) (w' := w') rfl rfl (fun c h => by cases h) (fun _ => trivial) ?_ ⟨by simp [Act.put, upd, y4, n25, hL], by simpa [upd] using hph⟩
          simp only [y4, n25, hL, cond_true, cond_false]
          go_simp
        · skip
          have y0 : L 0 = true := shut_at hs 1 0 (by kernel_rfl) (shut_at hs 2 1 (by kernel_rfl) (shut_at hs 3 2 (by kernel_rfl) (up_at hu 3 (by kernel_rfl))))
          have y1 : L 1 = true := shut_at hs 2 1 (by kernel_rfl) (shut_at hs 3 2 (by kernel_rfl) (up_at hu 3 (by kernel_rfl)))
          have y2 : L 2 = true := shut_at hs 3 2 (by kernel_rfl) (up_at hu 3 (by kernel_rfl))
          have y3 : L 3 = true := up_at hu 3 (by kernel_rfl)
          have y4 : L 4 = true := shut_at hs 5 4 (by kernel_rfl) (up_at hu 5 (by kernel_rfl))
          have y5 : L 5 = true := up_at hu 5 (by kernel_rfl)
          have n25 : L 25 = false := not_yet hL fun h => shut_at hs 25 6 (by kernel_rfl) (h)
          refine opIn_run (v := .pointer (some ⟨Lb, i1 * 3, none⟩)) (w' := w') rfl rfl (fun c h => by cases h) (fun _ => trivial) ?_ ⟨by simp [Act.put, upd, y0, y1, y2, y3, y4, y5, n25, hL], by simpa [upd] using hph⟩
          simp only [y0, y1, y2, y3, y4, y5, n25, hL, cond_true, cond_false]
          go_simp
        · skip
          have y0 : L 0 = true := shut_at hs 1 0 (by kernel_rfl) (shut_at hs 2 1 (by kernel_rfl) (shut_at hs 3 2 (by kernel_rfl) (shut_at hs 6 3 (by kernel_rfl) (up_at hu 6 (by kernel_rfl)))))
          have y1 : L 1 = true := shut_at hs 2 1 (by kernel_rfl) (shut_at hs 3 2 (by kernel_rfl) (shut_at hs 6 3 (by kernel_rfl) (up_at hu 6 (by kernel_rfl))))
          have y2 : L 2 = true := shut_at hs 3 2 (by kernel_rfl) (shut_at hs 6 3 (by kernel_rfl) (up_at hu 6 (by kernel_rfl)))
          have y3 : L 3 = true := shut_at hs 6 3 (by kernel_rfl) (up_at hu 6 (by kernel_rfl))
          have y4 : L 4 = true := shut_at hs 5 4 (by kernel_rfl) (shut_at hs 6 5 (by kernel_rfl) (up_at hu 6 (by kernel_rfl)))
          have y5 : L 5 = true := shut_at hs 6 5 (by kernel_rfl) (up_at hu 6 (by kernel_rfl))
          have y6 : L 6 = true := up_at hu 6 (by kernel_rfl)
          have n25 : L 25 = false := not_yet hL fun h => shut_at hs 25 7 (by kernel_rfl) (h)
          simp only [y0, y1, y2, y3, y4, y5, y6, n25, hL, cond_true, cond_false] at hph
          obtain ⟨b0, b1, b2⟩ := hph.1.lv i1 _ _ Ib HEb.out
          refine opIn_run (v := .agg #[.int .i64 (Wb : Int), .int .i64 (Hb : Int), .slice (some ⟨Ib, 0, none⟩) (Wb * Hb) (Wb * Hb)]) (w' := w') rfl rfl (fun c h => by cases h) (fun _ => trivial) ?_ ⟨by simp [Act.put, upd, y0, y1, y2, y3, y4, y5, y6, n25, hL], by simp only [upd, y0, y1, y2, y3, y4, y5, y6, n25, hL]; exact hph⟩
          simp only [y0, y1, y2, y3, y4, y5, y6, n25, hL, cond_true, cond_false]
          go_simp
        · skip
          have n25 : L 25 = false := not_yet hL fun h => shut_at hs 25 8 (by kernel_rfl) (h)
          refine opIn_run (v := .int .i64 (xb : Int)) (w' := w') rfl rfl (fun c h => by cases h) (fun _ => trivial) ?_ ⟨by simp [Act.put, upd, n25, hL], by simpa [upd] using hph⟩
          simp only [n25, hL, cond_true, cond_false]
          go_simp
        · skip
          have n25 : L 25 = false := not_yet hL fun h => shut_at hs 25 9 (by kernel_rfl) (h)
          refine opIn_run (v := .int .i64 (yb : Int)) (w' := w') rfl rfl (fun c h => by cases h) (fun _ => trivial) ?_ ⟨by simp [Act.put, upd, n25, hL], by simpa [upd] using hph⟩
          simp only [n25, hL, cond_true, cond_false]
          go_simp
        · skip
          have y0 : L 0 = true := shut_at hs 1 0 (by kernel_rfl) (shut_at hs 2 1 (by kernel_rfl) (shut_at hs 3 2 (by kernel_rfl) (shut_at hs 6 3 (by kernel_rfl) (shut_at hs 7 6 (by kernel_rfl) (up_at hu 7 (by kernel_rfl))))))
          have y1 : L 1 = true := shut_at hs 2 1 (by kernel_rfl) (shut_at hs 3 2 (by kernel_rfl) (shut_at hs 6 3 (by kernel_rfl) (shut_at hs 7 6 (by kernel_rfl) (up_at hu 7 (by kernel_rfl)))))
          have y2 : L 2 = true := shut_at hs 3 2 (by kernel_rfl) (shut_at hs 6 3 (by kernel_rfl) (shut_at hs 7 6 (by kernel_rfl) (up_at hu 7 (by kernel_rfl))))
          have y3 : L 3 = true := shut_at hs 6 3 (by kernel_rfl) (shut_at hs 7 6 (by kernel_rfl) (up_at hu 7 (by kernel_rfl)))
          have y4 : L 4 = true := shut_at hs 5 4 (by kernel_rfl) (shut_at hs 6 5 (by kernel_rfl) (shut_at hs 7 6 (by kernel_rfl) (up_at hu 7 (by kernel_rfl))))
          have y5 : L 5 = true := shut_at hs 6 5 (by kernel_rfl) (shut_at hs 7 6 (by kernel_rfl) (up_at hu 7 (by kernel_rfl)))
          have y6 : L 6 = true := shut_at hs 7 6 (by kernel_rfl) (up_at hu 7 (by kernel_rfl))
          have y7 : L 7 = true := up_at hu 7 (by kernel_rfl)
          have y8 : L 8 = true := up_at hu 8 (by kernel_rfl)
          have y9 : L 9 = true := up_at hu 9 (by kernel_rfl)
          have n25 : L 25 = false := not_yet hL fun h => shut_at hs 25 10 (by kernel_rfl) (h)
          simp only [y0, y1, y2, y3, y4, y5, y6, y7, y8, y9, n25, hL, cond_true, cond_false] at hph
          refine opIn_call (f := 32) (args := #[.agg #[.int .i64 (Wb : Int), .int .i64 (Hb : Int), .slice (some ⟨Ib, 0, none⟩) (Wb * Hb) (Wb * Hb)], .int .i64 (xb : Int), .int .i64 (yb : Int)]) (w' := w') rfl rfl (fun c h => by cases h) (fun _ => trivial) rfl ?_ ((callsIn_wide.2 (HAb.out w')).mono ?_)
          · simp only [y0, y1, y2, y3, y4, y5, y6, y7, y8, y9, n25, hL, cond_true, cond_false]
            go_simp
          · rintro e w2 ⟨rfl, hb9⟩
            exact ⟨_, rfl, by simp [Act.put, upd, y0, y1, y2, y3, y4, y5, y6, y7, y8, y9, n25, hL], by simp only [upd, y0, y1, y2, y3, y4, y5, y6, y7, y8, y9, n25, hL]; exact hph.kept hb9⟩
        · skip
          have n25 : L 25 = false := not_yet hL fun h => shut_at hs 25 11 (by kernel_rfl) (h)
          refine opIn_run (v := .pointer (some ⟨p, 0, none⟩)) (w' := w') rfl rfl (fun c h => by cases h) (fun _ => trivial) ?_ ⟨by simp [Act.put, upd, n25, hL], by simpa [upd] using hph⟩
          simp only [n25, hL, cond_true, cond_false]
          go_simp
        · skip
          have y11 : L 11 = true := up_at hu 11 (by kernel_rfl)
          have n25 : L 25 = false := not_yet hL fun h => shut_at hs 25 12 (by kernel_rfl) (h)
          refine opIn_run (v := .pointer (some ⟨p, 0, none⟩)) (w' := w') rfl rfl (fun c h => by cases h) (fun _ => trivial) ?_ ⟨by simp [Act.put, upd, y11, n25, hL], by simpa [upd] using hph⟩
          simp only [y11, n25, hL, cond_true, cond_false]
          go_simp
        · skip
          have y11 : L 11 = true := shut_at hs 12 11 (by kernel_rfl) (up_at hu 12 (by kernel_rfl))
          have y12 : L 12 = true := up_at hu 12 (by kernel_rfl)
          have n25 : L 25 = false := not_yet hL fun h => shut_at hs 25 13 (by kernel_rfl) (h)
          refine opIn_run (v := .pointer (some ⟨p, 0, none⟩)) (w' := w') rfl rfl (fun c h => by cases h) (fun _ => trivial) ?_ ⟨by simp [Act.put, upd, y11, y12, n25, hL], by simpa [upd] using hph⟩
          simp only [y11, y12, n25, hL, cond_true, cond_false]
          go_simp
        · skip
          have y11 : L 11 = true := shut_at hs 12 11 (by kernel_rfl) (shut_at hs 13 12 (by kernel_rfl) (up_at hu 13 (by kernel_rfl)))
          have y12 : L 12 = true := shut_at hs 13 12 (by kernel_rfl) (up_at hu 13 (by kernel_rfl))
          have y13 : L 13 = true := up_at hu 13 (by kernel_rfl)
          have n25 : L 25 = false := not_yet hL fun h => shut_at hs 25 14 (by kernel_rfl) (h)
          simp only [y11, y12, y13, n25, hL, cond_true, cond_false] at hph
          have k0 := hph.1.root
          rw [HD.out] at k0
          refine opIn_run (v := .slice (some ⟨Lb, 0, none⟩) d cl) (w' := w') rfl rfl (fun c h => by cases h) (fun _ => trivial) ?_ ⟨by simp [Act.put, upd, y11, y12, y13, n25, hL], by simp only [upd, y11, y12, y13, n25, hL]; exact hph⟩
          simp only [y11, y12, y13, n25, hL, cond_true, cond_false]
          go_simp
        · skip
          have n25 : L 25 = false := not_yet hL fun h => shut_at hs 25 15 (by kernel_rfl) (h)
          refine opIn_run (v := .int .i64 (i : Int)) (w' := w') rfl rfl (fun c h => by cases h) (fun _ => trivial) ?_ ⟨by simp [Act.put, upd, n25, hL], by simpa [upd] using hph⟩
          simp only [n25, hL, cond_true, cond_false]
          go_simp
        · skip
          have y11 : L 11 = true := shut_at hs 12 11 (by kernel_rfl) (shut_at hs 13 12 (by kernel_rfl) (shut_at hs 14 13 (by kernel_rfl) (up_at hu 14 (by kernel_rfl))))
          have y12 : L 12 = true := shut_at hs 13 12 (by kernel_rfl) (shut_at hs 14 13 (by kernel_rfl) (up_at hu 14 (by kernel_rfl)))
          have y13 : L 13 = true := shut_at hs 14 13 (by kernel_rfl) (up_at hu 14 (by kernel_rfl))
          have y14 : L 14 = true := up_at hu 14 (by kernel_rfl)
          have y15 : L 15 = true := up_at hu 15 (by kernel_rfl)
          have n25 : L 25 = false := not_yet hL fun h => shut_at hs 25 16 (by kernel_rfl) (h)
          refine opIn_run (v := .pointer (some ⟨Lb, i * 3, none⟩)) (w' := w') rfl rfl (fun c h => by cases h) (fun _ => trivial) ?_ ⟨by simp [Act.put, upd, y11, y12, y13, y14, y15, n25, hL], by simpa [upd] using hph⟩
          simp only [y11, y12, y13, y14, y15, n25, hL, cond_true, cond_false]
          go_simp
        · skip
          have y11 : L 11 = true := shut_at hs 12 11 (by kernel_rfl) (shut_at hs 13 12 (by kernel_rfl) (shut_at hs 14 13 (by kernel_rfl) (shut_at hs 16 14 (by kernel_rfl) (up_at hu 16 (by kernel_rfl)))))
          have y12 : L 12 = true := shut_at hs 13 12 (by kernel_rfl) (shut_at hs 14 13 (by kernel_rfl) (shut_at hs 16 14 (by kernel_rfl) (up_at hu 16 (by kernel_rfl))))
          have y13 : L 13 = true := shut_at hs 14 13 (by kernel_rfl) (shut_at hs 16 14 (by kernel_rfl) (up_at hu 16 (by kernel_rfl)))
          have y14 : L 14 = true := shut_at hs 16 14 (by kernel_rfl) (up_at hu 16 (by kernel_rfl))
          have y15 : L 15 = true := shut_at hs 16 15 (by kernel_rfl) (up_at hu 16 (by kernel_rfl))
          have y16 : L 16 = true := up_at hu 16 (by kernel_rfl)
          have n25 : L 25 = false := not_yet hL fun h => shut_at hs 25 17 (by kernel_rfl) (h)
          simp only [y11, y12, y13, y14, y15, y16, n25, hL, cond_true, cond_false] at hph
          obtain ⟨b0, b1, b2⟩ := hph.1.lv i _ _ Ia HEa.out
          refine opIn_run (v := .agg #[.int .i64 (Wa : Int), .int .i64 (Ha : Int), .slice (some ⟨Ia, 0, none⟩) (Wa * Ha) (Wa * Ha)]) (w' := w') rfl rfl (fun c h => by cases h) (fun _ => trivial) ?_ ⟨by simp [Act.put, upd, y11, y12, y13, y14, y15, y16, n25, hL], by simp only [upd, y11, y12, y13, y14, y15, y16, n25, hL]; exact hph⟩
          simp only [y11, y12, y13, y14, y15, y16, n25, hL, cond_true, cond_false]
          go_simp
        · skip
          have n25 : L 25 = false := not_yet hL fun h => shut_at hs 25 18 (by kernel_rfl) (h)
          refine opIn_run (v := .int .i64 (xb : Int)) (w' := w') rfl rfl (fun c h => by cases h) (fun _ => trivial) ?_ ⟨by simp [Act.put, upd, n25, hL], by simpa [upd] using hph⟩
          simp only [n25, hL, cond_true, cond_false]
          go_simp
        · skip
          have y18 : L 18 = true := up_at hu 18 (by kernel_rfl)
          have n25 : L 25 = false := not_yet hL fun h => shut_at hs 25 19 (by kernel_rfl) (h)
          refine opIn_run (v := .int .i64 (xd : Int)) (w' := w') rfl rfl (fun c h => by cases h) (fun _ => trivial) ?_ ⟨by simp [Act.put, upd, y18, n25, hL], by simpa [upd] using hph⟩
          simp only [y18, n25, hL, cond_true, cond_false]
          go_simp
        · skip
          have n25 : L 25 = false := not_yet hL fun h => shut_at hs 25 20 (by kernel_rfl) (h)
          refine opIn_run (v := .int .i64 (yb : Int)) (w' := w') rfl rfl (fun c h => by cases h) (fun _ => trivial) ?_ ⟨by simp [Act.put, upd, n25, hL], by simpa [upd] using hph⟩
          simp only [n25, hL, cond_true, cond_false]
          go_simp
        · skip
          have y20 : L 20 = true := up_at hu 20 (by kernel_rfl)
          have n25 : L 25 = false := not_yet hL fun h => shut_at hs 25 21 (by kernel_rfl) (h)
          refine opIn_run (v := .int .i64 (yd : Int)) (w' := w') rfl rfl (fun c h => by cases h) (fun _ => trivial) ?_ ⟨by simp [Act.put, upd, y20, n25, hL], by simpa [upd] using hph⟩
          simp only [y20, n25, hL, cond_true, cond_false]
          go_simp
        · skip
          have y0 : L 0 = true := shut_at hs 1 0 (by kernel_rfl) (shut_at hs 2 1 (by kernel_rfl) (shut_at hs 3 2 (by kernel_rfl) (shut_at hs 6 3 (by kernel_rfl) (shut_at hs 7 6 (by kernel_rfl) (shut_at hs 10 7 (by kernel_rfl) (up_at hu 10 (by kernel_rfl)))))))
          have y1 : L 1 = true := shut_at hs 2 1 (by kernel_rfl) (shut_at hs 3 2 (by kernel_rfl) (shut_at hs 6 3 (by kernel_rfl) (shut_at hs 7 6 (by kernel_rfl) (shut_at hs 10 7 (by kernel_rfl) (up_at hu 10 (by kernel_rfl))))))
          have y2 : L 2 = true := shut_at hs 3 2 (by kernel_rfl) (shut_at hs 6 3 (by kernel_rfl) (shut_at hs 7 6 (by kernel_rfl) (shut_at hs 10 7 (by kernel_rfl) (up_at hu 10 (by kernel_rfl)))))
          have y3 : L 3 = true := shut_at hs 6 3 (by kernel_rfl) (shut_at hs 7 6 (by kernel_rfl) (shut_at hs 10 7 (by kernel_rfl) (up_at hu 10 (by kernel_rfl))))
          have y4 : L 4 = true := shut_at hs 5 4 (by kernel_rfl) (shut_at hs 6 5 (by kernel_rfl) (shut_at hs 7 6 (by kernel_rfl) (shut_at hs 10 7 (by kernel_rfl) (up_at hu 10 (by kernel_rfl)))))
          have y5 : L 5 = true := shut_at hs 6 5 (by kernel_rfl) (shut_at hs 7 6 (by kernel_rfl) (shut_at hs 10 7 (by kernel_rfl) (up_at hu 10 (by kernel_rfl))))
          have y6 : L 6 = true := shut_at hs 7 6 (by kernel_rfl) (shut_at hs 10 7 (by kernel_rfl) (up_at hu 10 (by kernel_rfl)))
          have y7 : L 7 = true := shut_at hs 10 7 (by kernel_rfl) (up_at hu 10 (by kernel_rfl))
          have y8 : L 8 = true := shut_at hs 10 8 (by kernel_rfl) (up_at hu 10 (by kernel_rfl))
          have y9 : L 9 = true := shut_at hs 10 9 (by kernel_rfl) (up_at hu 10 (by kernel_rfl))
          have y10 : L 10 = true := up_at hu 10 (by kernel_rfl)
          have y11 : L 11 = true := shut_at hs 12 11 (by kernel_rfl) (shut_at hs 13 12 (by kernel_rfl) (shut_at hs 14 13 (by kernel_rfl) (shut_at hs 16 14 (by kernel_rfl) (shut_at hs 17 16 (by kernel_rfl) (up_at hu 17 (by kernel_rfl))))))
          have y12 : L 12 = true := shut_at hs 13 12 (by kernel_rfl) (shut_at hs 14 13 (by kernel_rfl) (shut_at hs 16 14 (by kernel_rfl) (shut_at hs 17 16 (by kernel_rfl) (up_at hu 17 (by kernel_rfl)))))
          have y13 : L 13 = true := shut_at hs 14 13 (by kernel_rfl) (shut_at hs 16 14 (by kernel_rfl) (shut_at hs 17 16 (by kernel_rfl) (up_at hu 17 (by kernel_rfl))))
          have y14 : L 14 = true := shut_at hs 16 14 (by kernel_rfl) (shut_at hs 17 16 (by kernel_rfl) (up_at hu 17 (by kernel_rfl)))
          have y15 : L 15 = true := shut_at hs 16 15 (by kernel_rfl) (shut_at hs 17 16 (by kernel_rfl) (up_at hu 17 (by kernel_rfl)))
          have y16 : L 16 = true := shut_at hs 17 16 (by kernel_rfl) (up_at hu 17 (by kernel_rfl))
          have y17 : L 17 = true := up_at hu 17 (by kernel_rfl)
          have y18 : L 18 = true := shut_at hs 19 18 (by kernel_rfl) (up_at hu 19 (by kernel_rfl))
          have y19 : L 19 = true := up_at hu 19 (by kernel_rfl)
          have y20 : L 20 = true := shut_at hs 21 20 (by kernel_rfl) (up_at hu 21 (by kernel_rfl))
          have y21 : L 21 = true := up_at hu 21 (by kernel_rfl)
          have n25 : L 25 = false := not_yet hL fun h => shut_at hs 25 22 (by kernel_rfl) (h)
          simp only [y0, y1, y2, y3, y4, y5, y6, y7, y8, y9, y10, y11, y12, y13, y14, y15, y16, y17, y18, y19, y20, y21, n25, hL, cond_true, cond_false] at hph
          refine opIn_call (f := 37) (args := #[.agg #[.int .i64 (Wa : Int), .int .i64 (Ha : Int), .slice (some ⟨Ia, 0, none⟩) (Wa * Ha) (Wa * Ha)], .int .i64 (xd : Int), .int .i64 (yd : Int)]) (w' := w') rfl rfl (fun c h => by cases h) (fun _ => trivial) rfl ?_ ((callsIn_wide.2 (HLe.out w' hph.1)).mono ?_)
          · simp only [y0, y1, y2, y3, y4, y5, y6, y7, y8, y9, y10, y11, y12, y13, y14, y15, y16, y17, y18, y19, y20, y21, n25, hL, cond_true, cond_false]
            go_simp
          · rintro e w2 ⟨rfl, hb9⟩
            exact ⟨_, rfl, by simp [Act.put, upd, y0, y1, y2, y3, y4, y5, y6, y7, y8, y9, y10, y11, y12, y13, y14, y15, y16, y17, y18, y19, y20, y21, n25, hL], by simp only [upd, y0, y1, y2, y3, y4, y5, y6, y7, y8, y9, y10, y11, y12, y13, y14, y15, y16, y17, y18, y19, y20, y21, n25, hL]; exact hph.kept hb9⟩
        · skip
          have y0 : L 0 = true := up_at hu 0 (by kernel_rfl)
          have y1 : L 1 = true := up_at hu 1 (by kernel_rfl)
          have y2 : L 2 = true := up_at hu 2 (by kernel_rfl)
          have y3 : L 3 = true := up_at hu 3 (by kernel_rfl)
          have y4 : L 4 = true := up_at hu 4 (by kernel_rfl)
          have y5 : L 5 = true := up_at hu 5 (by kernel_rfl)
          have y6 : L 6 = true := up_at hu 6 (by kernel_rfl)
          have y7 : L 7 = true := up_at hu 7 (by kernel_rfl)
          have y8 : L 8 = true := up_at hu 8 (by kernel_rfl)
          have y9 : L 9 = true := up_at hu 9 (by kernel_rfl)
          have y10 : L 10 = true := up_at hu 10 (by kernel_rfl)
          have y11 : L 11 = true := up_at hu 11 (by kernel_rfl)
          have y12 : L 12 = true := up_at hu 12 (by kernel_rfl)
          have y13 : L 13 = true := up_at hu 13 (by kernel_rfl)
          have y14 : L 14 = true := up_at hu 14 (by kernel_rfl)
          have y15 : L 15 = true := up_at hu 15 (by kernel_rfl)
          have y16 : L 16 = true := up_at hu 16 (by kernel_rfl)
          have y17 : L 17 = true := up_at hu 17 (by kernel_rfl)
          have y18 : L 18 = true := up_at hu 18 (by kernel_rfl)
          have y19 : L 19 = true := up_at hu 19 (by kernel_rfl)
          have y20 : L 20 = true := up_at hu 20 (by kernel_rfl)
          have y21 : L 21 = true := up_at hu 21 (by kernel_rfl)
          have y22 : L 22 = true := up_at hu 22 (by kernel_rfl)
          have n25 : L 25 = false := not_yet hL fun h => shut_at hs 24 23 (by kernel_rfl) (shut_at hs 25 24 (by kernel_rfl) (h))
          refine opIn_run (v := .pointer (some ⟨Ib, mb * 3, none⟩)) (w' := w') rfl rfl (fun c h => by cases h) (fun _ => trivial) ?_ ⟨by simp [Act.put, upd, y0, y1, y2, y3, y4, y5, y6, y7, y8, y9, y10, y11, y12, y13, y14, y15, y16, y17, y18, y19, y20, y21, y22, n25, hL], by simpa [upd] using hph⟩
          simp only [y0, y1, y2, y3, y4, y5, y6, y7, y8, y9, y10, y11, y12, y13, y14, y15, y16, y17, y18, y19, y20, y21, y22, n25, hL, cond_true, cond_false]
          go_simp
        · skip
          have y0 : L 0 = true := up_at hu 0 (by kernel_rfl)
          have y1 : L 1 = true := up_at hu 1 (by kernel_rfl)
          have y2 : L 2 = true := up_at hu 2 (by kernel_rfl)
          have y3 : L 3 = true := up_at hu 3 (by kernel_rfl)
          have y4 : L 4 = true := up_at hu 4 (by kernel_rfl)
          have y5 : L 5 = true := up_at hu 5 (by kernel_rfl)
          have y6 : L 6 = true := up_at hu 6 (by kernel_rfl)
          have y7 : L 7 = true := up_at hu 7 (by kernel_rfl)
          have y8 : L 8 = true := up_at hu 8 (by kernel_rfl)
          have y9 : L 9 = true := up_at hu 9 (by kernel_rfl)
          have y10 : L 10 = true := up_at hu 10 (by kernel_rfl)
          have y11 : L 11 = true := up_at hu 11 (by kernel_rfl)
          have y12 : L 12 = true := up_at hu 12 (by kernel_rfl)
          have y13 : L 13 = true := up_at hu 13 (by kernel_rfl)
          have y14 : L 14 = true := up_at hu 14 (by kernel_rfl)
          have y15 : L 15 = true := up_at hu 15 (by kernel_rfl)
          have y16 : L 16 = true := up_at hu 16 (by kernel_rfl)
          have y17 : L 17 = true := up_at hu 17 (by kernel_rfl)
          have y18 : L 18 = true := up_at hu 18 (by kernel_rfl)
          have y19 : L 19 = true := up_at hu 19 (by kernel_rfl)
          have y20 : L 20 = true := up_at hu 20 (by kernel_rfl)
          have y21 : L 21 = true := up_at hu 21 (by kernel_rfl)
          have y22 : L 22 = true := up_at hu 22 (by kernel_rfl)
          have y23 : L 23 = true := up_at hu 23 (by kernel_rfl)
          have n25 : L 25 = false := not_yet hL fun h => shut_at hs 25 24 (by kernel_rfl) (h)
          refine opIn_run (v := .pointer (some ⟨Ib, mb * 3, none⟩)) (w' := w') rfl rfl (fun c h => by cases h) (fun _ => trivial) ?_ ⟨by simp [Act.put, upd, y0, y1, y2, y3, y4, y5, y6, y7, y8, y9, y10, y11, y12, y13, y14, y15, y16, y17, y18, y19, y20, y21, y22, y23, n25, hL], by simpa [upd] using hph⟩
          simp only [y0, y1, y2, y3, y4, y5, y6, y7, y8, y9, y10, y11, y12, y13, y14, y15, y16, y17, y18, y19, y20, y21, y22, y23, n25, hL, cond_true, cond_false]
          go_simp
        · skip
          have y0 : L 0 = true := up_at hu 0 (by kernel_rfl)
          have y1 : L 1 = true := up_at hu 1 (by kernel_rfl)
          have y2 : L 2 = true := up_at hu 2 (by kernel_rfl)
          have y3 : L 3 = true := up_at hu 3 (by kernel_rfl)
          have y4 : L 4 = true := up_at hu 4 (by kernel_rfl)
          have y5 : L 5 = true := up_at hu 5 (by kernel_rfl)
          have y6 : L 6 = true := up_at hu 6 (by kernel_rfl)
          have y7 : L 7 = true := up_at hu 7 (by kernel_rfl)
          have y8 : L 8 = true := up_at hu 8 (by kernel_rfl)
          have y9 : L 9 = true := up_at hu 9 (by kernel_rfl)
          have y10 : L 10 = true := up_at hu 10 (by kernel_rfl)
          have y11 : L 11 = true := up_at hu 11 (by kernel_rfl)
          have y12 : L 12 = true := up_at hu 12 (by kernel_rfl)
          have y13 : L 13 = true := up_at hu 13 (by kernel_rfl)
          have y14 : L 14 = true := up_at hu 14 (by kernel_rfl)
          have y15 : L 15 = true := up_at hu 15 (by kernel_rfl)
          have y16 : L 16 = true := up_at hu 16 (by kernel_rfl)
          have y17 : L 17 = true := up_at hu 17 (by kernel_rfl)
          have y18 : L 18 = true := up_at hu 18 (by kernel_rfl)
          have y19 : L 19 = true := up_at hu 19 (by kernel_rfl)
          have y20 : L 20 = true := up_at hu 20 (by kernel_rfl)
          have y21 : L 21 = true := up_at hu 21 (by kernel_rfl)
          have y22 : L 22 = true := up_at hu 22 (by kernel_rfl)
          have y23 : L 23 = true := shut_at hs 24 23 (by kernel_rfl) (up_at hu 24 (by kernel_rfl))
          have y24 : L 24 = true := up_at hu 24 (by kernel_rfl)
          simp only [y0, y1, y2, y3, y4, y5, y6, y7, y8, y9, y10, y11, y12, y13, y14, y15, y16, y17, y18, y19, y20, y21, y22, y23, y24, hL, cond_true, cond_false] at hph
          obtain ⟨c0, _, _, cf⟩ := hph.1.cells HEb.out Hmb.out
          have kf := cf (mb * 3)
          refine opIn_skip (w' := w'.setCell ⟨Ib, mb * 3, none⟩ (.int .i64 v)) rfl rfl (fun c h => by cases h) (fun _ => trivial) ?_ ⟨by simp [Act.put, upd, y0, y1, y2, y3, y4, y5, y6, y7, y8, y9, y10, y11, y12, y13, y14, y15, y16, y17, y18, y19, y20, y21, y22, y23, y24, hL], by simp only [upd, y0, y1, y2, y3, y4, y5, y6, y7, y8, y9, y10, y11, y12, y13, y14, y15, y16, y17, y18, y19, y20, y21, y22, y23, y24, hL]; exact hph.setNum HEb.out Hmb.out v⟩
          simp only [y0, y1, y2, y3, y4, y5, y6, y7, y8, y9, y10, y11, y12, y13, y14, y15, y16, y17, y18, y19, y20, y21, y22, y23, y24, hL, cond_true, cond_false]
          go_simp
      case fin =>
        intro L a' w' hall hI
        obtain ⟨rfl, hph⟩ := hI
        have l0 := hall 0 (by decide)
        have l1 := hall 1 (by decide)
        have l2 := hall 2 (by decide)
        have l3 := hall 3 (by decide)
        have l4 := hall 4 (by decide)
        have l5 := hall 5 (by decide)
        have l6 := hall 6 (by decide)
        have l7 := hall 7 (by decide)
        have l8 := hall 8 (by decide)
        have l9 := hall 9 (by decide)
        have l10 := hall 10 (by decide)
        have l11 := hall 11 (by decide)
        have l12 := hall 12 (by decide)
        have l13 := hall 13 (by decide)
        have l14 := hall 14 (by decide)
        have l15 := hall 15 (by decide)
        have l16 := hall 16 (by decide)
        have l17 := hall 17 (by decide)
        have l18 := hall 18 (by decide)
        have l19 := hall 19 (by decide)
        have l20 := hall 20 (by decide)
        have l21 := hall 21 (by decide)
        have l22 := hall 22 (by decide)
        have l23 := hall 23 (by decide)
        have l24 := hall 24 (by decide)
        have l25 := hall 25 (by decide)
        simp only [l0, l1, l2, l3, l4, l5, l6, l7, l8, l9, l10, l11, l12, l13, l14, l15, l16, l17, l18, l19, l20, l21, l22, l23, l24, l25, cond_true] at hph ⊢
        clear l0 l1 l2 l3 l4 l5 l6 l7 l8 l9 l10 l11 l12 l13 l14 l15 l16 l17 l18 l19 l20 l21 l22 l23 l24 l25 hall
        have HS9 := Lib.hid hph
        clear hph s1 s2 s3
        obtain ⟨wf, hwf⟩ : ∃ wf : World, wf = w' := ⟨_, rfl⟩
        rw [← hwf] at HS9 ⊢
        clear hwf
        go_wp2
        go_roundw
        case rel =>
          have hU : setUp TA W0 H0 x y (i + 1) = Ti.upd i1 mb ⟨v, (Ti i1 mb).low, (Ti i1 mb).said⟩ := by
            rw [setUp, HTE.out, HI1.out, HXb.out, HYb.out, HWb.out, HMB.out, HX2.out, HY2.out, HV.out]
          exact ⟨i + 1, by omega, by go_num, by rw [HI1.out, HXb.out], by rw [HI1.out, HYb.out], by rw [hU]; exact Lib.hid HS9.out.1, Lib.hid HS9.out.2.1⟩
        case measure => simp [intOf]; omega
    · obtain rfl : d = i + 1 := by omega
      have hSM : setM T W0 H0 sh.length k n = setUp TA W0 H0 x y i := by
        unfold setM; rw [HTA.out, HX.out, HY.out, HD.out]; rfl
      have HSM := Lib.hid hSM
      clear hSM
      go_wp2
      go_end0
      exact ⟨rfl, by rw [HSM.out]; exact HTi.out, HOi.out⟩
end Go.Proofs.Ythgbnkcbcepjdaa
