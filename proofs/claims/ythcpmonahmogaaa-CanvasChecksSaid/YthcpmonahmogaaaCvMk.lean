/- canvas: Form.Make, said by functions of its numbers; what holds of them. -/
import Derived.Test.YthcpmonahmogaaaCvFm
set_option linter.unusedVariables false
set_option linter.unusedSimpArgs false
namespace Go.Proofs.Ythcpmonahmogaaa
open Go.RowKit
set_option maxRecDepth 100000
/-- A Form's numbers. -/
structure FN where
  x : Int
  y : Int
  ox : Int
  oy : Int
  nc : Int
  dp : Int
  sb : Int
  sg : Bool
  rc : Bool
  so : Bool
  ep : Bool
  tx : Int
  ty : Int
  lv : Int
  bw : Int
  bh : Int
  pr : Int
  st : Int
  od : Int
  ly : Int
@[reducible] def FN.arr (f : FN) (A : Option Addr) (n c : Nat) : Array Value := fmA f.x f.y f.ox f.oy f.nc f.dp f.sb f.sg f.rc f.so f.ep f.tx f.ty f.lv f.bw f.bh f.pr f.st f.od f.ly A n c
/-- A picture's and its params' numbers. -/
structure PN where
  X : Int
  Y : Int
  OX : Int
  OY : Int
  TX : Int
  TY : Int
  LV : Nat
  BW : Nat
  BH : Nat
  PR : Nat
  ST : Int
  OD : Int
  LY : Nat
  RC : Bool
  SO : Bool
  EP : Bool
@[reducible] def PN.img (m : PN) (V : Value) : Array Value := #[.int .i64 m.X, .int .i64 m.Y, .int .i64 m.OX, .int .i64 m.OY, V]
@[reducible] def PN.par (m : PN) : Array Value := #[.int .i64 m.TX, .int .i64 m.TY, .int .i64 (m.LV : Int), .int .i64 (m.BW : Int), .int .i64 (m.BH : Int), .int .i64 (m.PR : Int), .int .i64 m.ST, .int .i64 m.OD, .int .i64 (m.LY : Int), .bool m.RC, .bool m.SO, .bool m.EP]
def mkN (f : FN) : Nat := (1 + f.nc % 4).toNat
def mkDP (f : FN) : Int := 1 + f.dp % 10
def mkPN (f : FN) (side : Nat) : PN where
  X := f.ox % 6 + 1 + f.x % (side : Int)
  Y := f.oy % 6 + 1 + f.y % (side : Int)
  OX := f.ox % 6
  OY := f.oy % 6
  TX := (dblT (f.ox % 6 + 1 + f.x % (side : Int)) (f.oy % 6 + 1 + f.y % (side : Int)) 5 (f.ox % 6 + 1 + f.tx % (side : Int)) (f.oy % 6 + 1 + f.ty % (side : Int))).1
  TY := (dblT (f.ox % 6 + 1 + f.x % (side : Int)) (f.oy % 6 + 1 + f.y % (side : Int)) 5 (f.ox % 6 + 1 + f.tx % (side : Int)) (f.oy % 6 + 1 + f.ty % (side : Int))).2
  LV := (f.lv % 6).toNat
  BW := (2 + f.bw % 3).toNat
  BH := (2 + f.bh % 3).toNat
  PR := (if f.pr % 4 = 0 then (15 : Int) else 1 + f.pr % 5).toNat
  ST := f.st % 64
  OD := f.od % 5
  LY := (1 + f.ly % 4).toNat
  RC := f.rc && (decide (3 ≤ mkN f) && decide (f.sb.tmod 5 ≠ 1))
  SO := f.so
  EP := f.ep
theorem dbl_ge (X Y : Int) : ∀ (k : Nat) (a b : Int), 0 ≤ a → 0 ≤ b → a ≤ (dblT X Y k a b).1 ∧ b ≤ (dblT X Y k a b).2
  | 0, a, b, _, _ => ⟨Int.le_refl _, Int.le_refl _⟩
  | k + 1, a, b, ha, hb => by
    unfold dblT
    split
    · have := dbl_ge X Y k (2 * a) (2 * b) (by omega) (by omega)
      omega
    · exact ⟨Int.le_refl _, Int.le_refl _⟩
/-- What holds of them. -/
structure PN.Ok (m : PN) (s : Int) : Prop where
  ox : 0 ≤ m.OX ∧ m.OX < 6
  oy : 0 ≤ m.OY ∧ m.OY < 6
  x : m.OX < m.X ∧ m.X ≤ m.OX + s
  y : m.OY < m.Y ∧ m.Y ≤ m.OY + s
  tx : m.OX < m.TX
  ty : m.OY < m.TY
  lv : m.LV ≤ 5
  bw : 2 ≤ m.BW ∧ m.BW ≤ 4
  bh : 2 ≤ m.BH ∧ m.BH ≤ 4
  pr : 1 ≤ m.PR ∧ m.PR ≤ 15
  st : 0 ≤ m.ST ∧ m.ST < 64
  od : 0 ≤ m.OD ∧ m.OD < 5
  ly : 1 ≤ m.LY ∧ m.LY ≤ 4
theorem mkPN_ok (f : FN) (side : Nat) (hs : 1 ≤ side) : (mkPN f side).Ok side := by
  have r : ∀ a b : Int, 1 ≤ b → 0 ≤ a % b ∧ a % b < b := fun a b hb => within_rng a b hb
  have h1 := r f.ox 6 (by omega)
  have h2 := r f.oy 6 (by omega)
  have h3 := r f.x side (by omega)
  have h4 := r f.y side (by omega)
  have h5 := r f.tx side (by omega)
  have h6 := r f.ty side (by omega)
  have h7 := r f.lv 6 (by omega)
  have h8 := r f.bw 3 (by omega)
  have h9 := r f.bh 3 (by omega)
  have ha := r f.pr 5 (by omega)
  have hb := r f.st 64 (by omega)
  have hc := r f.od 5 (by omega)
  have hd := r f.ly 4 (by omega)
  have hg := dbl_ge (f.ox % 6 + 1 + f.x % (side : Int)) (f.oy % 6 + 1 + f.y % (side : Int)) 5 (f.ox % 6 + 1 + f.tx % (side : Int)) (f.oy % 6 + 1 + f.ty % (side : Int)) (by omega) (by omega)
  have hpr : 1 ≤ (if f.pr % 4 = 0 then (15 : Int) else 1 + f.pr % 5) ∧ (if f.pr % 4 = 0 then (15 : Int) else 1 + f.pr % 5) ≤ 15 := by split <;> omega
  unfold mkPN
  exact ⟨by dsimp only; omega, by dsimp only; omega, by dsimp only; omega, by dsimp only; omega, by dsimp only; omega, by dsimp only; omega, by dsimp only; omega, by dsimp only; omega, by dsimp only; omega, by dsimp only; omega, by dsimp only; omega, by dsimp only; omega, by dsimp only; omega⟩
theorem make_any (f : FN) (A : Option Addr) (n c : Nat) (zs : List Int) (side : Nat) (w : World) (hs : 1 ≤ side ∧ side ≤ 20) (hrow : IsRow .i64 w A n c zs) (hsb : -9223372036854775808 ≤ f.sb ∧ f.sb ≤ 9223372036854775807) :
    Calls Try.prog 16 #[.agg (f.arr A n c), .int .i64 (side : Int)] w fun e w' => ∃ (A2 : Option Addr) (c2 : Nat) (cs : List Cp), e = .returned (.tuple #[.agg ((mkPN f side).img (.slice A2 (mkN f) c2)), .agg (mkPN f side).par]) ∧ cs.length = mkN f ∧ CRow w.heap.size w' (.slice A2 (mkN f) c2) cs ∧
      (∀ i c, cs[i]? = some c → KeyIs (mkPN f side).X (mkPN f side).Y (mkPN f side).OX (mkPN f side).OY f.sb (mkDP f) f.sg i c) ∧ Below w.heap.size w w' ∧ ((1 ≤ (mkPN f side).TX ∧ (mkPN f side).TX ≤ 832) ∧ (1 ≤ (mkPN f side).TY ∧ (mkPN f side).TY ≤ 832) ∧ cntT (mkPN f side).X (mkPN f side).Y (mkPN f side).TX (mkPN f side).TY ≤ 6) := by
  have r : ∀ a b : Int, 1 ≤ b → 0 ≤ a % b ∧ a % b < b := fun a b hb => within_rng a b hb
  have h7 := r f.lv 6 (by omega)
  have h8 := r f.bw 3 (by omega)
  have h9 := r f.bh 3 (by omega)
  have ha := r f.pr 5 (by omega)
  have hd := r f.ly 4 (by omega)
  have hn4 := r f.nc 4 (by omega)
  have hpr : 1 ≤ (if f.pr % 4 = 0 then (15 : Int) else 1 + f.pr % 5) ∧ (if f.pr % 4 = 0 then (15 : Int) else 1 + f.pr % 5) ≤ 15 := by split <;> omega
  obtain ⟨l1, l2, l3, l4⟩ := row_len hrow
  have hwf : ∀ z ∈ zs, -9223372036854775808 ≤ z ∧ z ≤ 9223372036854775807 := by
    rcases hrow with ⟨_, _, _, rfl⟩ | ⟨_, _, _, _, _, _, h⟩
    · intro z hz; cases hz
    · intro z hz; exact bd_i64 (h z hz)
  have e1 : ((f.lv % 6).toNat : Int) = f.lv % 6 := by omega
  have e2 : ((2 + f.bw % 3).toNat : Int) = 2 + f.bw % 3 := by omega
  have e3 : ((2 + f.bh % 3).toNat : Int) = 2 + f.bh % 3 := by omega
  have e4 : ((if f.pr % 4 = 0 then (15 : Int) else 1 + f.pr % 5).toNat : Int) = (if f.pr % 4 = 0 then (15 : Int) else 1 + f.pr % 5) := by omega
  have e5 : ((1 + f.ly % 4).toNat : Int) = 1 + f.ly % 4 := by omega
  have h := make_walk f.x f.y f.ox f.oy f.nc f.dp f.sb f.tx f.ty f.lv f.bw f.bh f.pr f.st f.od f.ly f.sg f.rc f.so f.ep A n c side w hs
    (f.ox % 6) (f.oy % 6) (f.x % side) (f.y % side) (f.ox % 6 + 1 + f.x % side) (f.oy % 6 + 1 + f.y % side) (f.lv % 6) (f.bw % 3) (f.bh % 3) (f.pr % 5) (f.st % 64) (f.od % 5) (f.ly % 4) (2 + f.bw % 3) (2 + f.bh % 3) (1 + f.pr % 5) (1 + f.ly % 4) (f.tx % side) (f.ty % side)
    (Lib.hid ⟨rfl, rfl, rfl, rfl, rfl, rfl, rfl, rfl, rfl, rfl, rfl, rfl, rfl, rfl, rfl, rfl, rfl, rfl, rfl⟩) (f.dp % 10) (1 + f.dp % 10) (f.nc % 4) (mkN f) (Lib.hid ⟨rfl, rfl, rfl, by unfold mkN; omega⟩) (zs.take n) (mkPN f side).TX (mkPN f side).TY (if f.pr % 4 = 0 then (15 : Int) else 1 + f.pr % 5) (mkPN f side).RC
    (Lib.hid ⟨rfl, rfl, rfl⟩) (Lib.hid ⟨lst_of_row hrow, l1, fun z hz => hwf z (List.mem_of_mem_take hz)⟩) (by unfold maxLen at l3; omega) hsb
  refine h.mono ?_
  rintro e w' ⟨A2, c2, cs, rfl, h1, h2, h3, h4, h5, h6, h7⟩
  refine ⟨A2, c2, cs, ?_, h1, h2, h3, h4, h5, h6, h7⟩
  show Ending.returned (.tuple #[.agg #[.int .i64 (f.ox % 6 + 1 + f.x % side), .int .i64 (f.oy % 6 + 1 + f.y % side), .int .i64 (f.ox % 6), .int .i64 (f.oy % 6), .slice A2 (mkN f) c2], .agg #[.int .i64 (mkPN f side).TX, .int .i64 (mkPN f side).TY, .int .i64 (f.lv % 6), .int .i64 (2 + f.bw % 3), .int .i64 (2 + f.bh % 3), .int .i64 (if f.pr % 4 = 0 then (15 : Int) else 1 + f.pr % 5), .int .i64 (f.st % 64), .int .i64 (f.od % 5), .int .i64 (1 + f.ly % 4), .bool (mkPN f side).RC, .bool f.so, .bool f.ep]]) =
    Ending.returned (.tuple #[.agg #[.int .i64 (f.ox % 6 + 1 + f.x % side), .int .i64 (f.oy % 6 + 1 + f.y % side), .int .i64 (f.ox % 6), .int .i64 (f.oy % 6), .slice A2 (mkN f) c2], .agg #[.int .i64 (mkPN f side).TX, .int .i64 (mkPN f side).TY, .int .i64 ((f.lv % 6).toNat : Int), .int .i64 ((2 + f.bw % 3).toNat : Int), .int .i64 ((2 + f.bh % 3).toNat : Int), .int .i64 ((if f.pr % 4 = 0 then (15 : Int) else 1 + f.pr % 5).toNat : Int), .int .i64 (f.st % 64), .int .i64 (f.od % 5), .int .i64 ((1 + f.ly % 4).toNat : Int), .bool (mkPN f side).RC, .bool f.so, .bool f.ep]])
  rw [e1, e2, e3, e4, e5]
end Go.Proofs.Ythcpmonahmogaaa
