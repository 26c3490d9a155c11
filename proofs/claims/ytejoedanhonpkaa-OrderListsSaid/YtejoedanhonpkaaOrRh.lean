/- Packets in order: the reference's List: a layer of the spots, ranked. -/
import Derived.Test.YtejoedanhonpkaaOrRe
import Derived.Test.YtejoedanhonpkaaOrX1
import Derived.Laws.Rows
import Derived.Deep.QuietTactic
import Derived.BigQuiet
import Derived.Deep.CutRange
import Derived.Deep.CutBlock
import Derived.Deep.LoopGhost
import Derived.Test.YtejoedanhonpkaaOrH
import Derived.Test.YtejoedanhonpkaaOrRc
set_option linter.unusedVariables false
set_option linter.unusedSimpArgs false
namespace Go.Proofs.Ytejoedanhonpkaa
section
section
open Go.RowKit Go.Shelf
set_option maxRecDepth 100000
attribute [local go_sem] Oper.semAt_some
attribute [local go_sem ↓] appSem_eq
def spR (G : GE) (c r : Nat) : List Pk := (List.range r).flatMap fun r => spK G c r (G.wh c r)
theorem spR_succ (G : GE) (c r : Nat) : spR G c (r + 1) = spR G c r ++ spK G c r (G.wh c r) := by simp [spR, List.range_succ]
theorem spR_len (G : GE) (c : Nat) : ∀ r, (spR G c r).length = cntR G c r
  | 0 => rfl
  | r + 1 => by rw [spR_succ, List.length_append, spK_len, cntR_succ, spR_len G c r]
theorem cntR_up (G : GE) (c : Nat) : ∀ {r r' : Nat}, r ≤ r' → cntR G c r ≤ cntR G c r' := fun {r r'} h => by
  induction h with
  | refl => exact Nat.le_refl _
  | step h ih => rw [cntR_succ]; omega
set_option maxHeartbeats 16000000 in
theorem spots_r {u0 u1 u2 u4 u6 u12 u13 u14 u15 u16 u17 u18 u19 u20 u21 u22 u23 u24 u25 u26 u27 u28 u29 u30 u31 u32 u33 u34 u35 u36 u37 u38 u39 u40 u41 u42 u43 u44 u45 u46 u47 u48 u49 u50 u51 u52 u53 u54 u55 u56 u57 u58 u59 u60 u61 u62 u63 u64 u65 u66 u67 u68 u69 u70 u71 u72 u73 u74 u75 u76 u77 u78 u79 u80 u81 u82 u83 u84 u85 u86 u87 u88 u89 u90 u91 u92 u93 u94 u95 u96 u97 u98 u99 u100 u101 u102 u103 u104 u105 u106 u107 u108 u109 u110 u111 : Value} (B pb xb ab LV PR N n0 c : Nat) (X0 Y0 X1 Y1 dp DX DY z0 z1 z2 z3 : Int) (TX TY BW BH STY OD LY : Int) (RC SO EP : Bool) (sg : Bool) (DV : Value) (G : GE) (Va : Option Addr) (Vc : Nat) (ys : List Pk) (W : World)
    (HC : Hid (W.heap[B]? = some (.cells #[.int .i64 X0, .int .i64 Y0, .int .i64 X1, .int .i64 Y1] 38 (0, 0)) ∧ W.heap[pb]? = some (.cells #[.int .i64 TX, .int .i64 TY, .int .i64 (LV : Int), .int .i64 BW, .int .i64 BH, .int .i64 (PR : Int), .int .i64 STY, .int .i64 OD, .int .i64 LY, .bool RC, .bool SO, .bool EP] 30 (0, 0)) ∧ W.heap[xb]? = some (.cells #[.int .i64 dp, .bool sg, .int .i64 DX, .int .i64 DY, DV] 48 (0, 0)) ∧ W.heap[ab]? = some (.cells #[.int .i64 z0, .int .i64 z1, .int .i64 z2, .int .i64 z3] 38 (0, 0))))
    (HO : Hid (W.ownsRow N 75 5 (.slice Va n0 Vc) n0 (ys.flatMap Pk.spv) ∧ N ≤ W.heap.size)) (HGG : Hid ((∀ r, G.wh c r = (pcF (overN (z0, z1, z2, z3) ((2 ^ (LV - r) : Nat) : Int)) ((2 ^ PR : Nat) : Int)).1.toNat * (pcF (overN (z0, z1, z2, z3) ((2 ^ (LV - r) : Nat) : Int)) ((2 ^ PR : Nat) : Int)).2.toNat) ∧ (∀ r k, r ≤ LV → G.pk 0 c r k = ⟨0, (r : Int), (c : Int), (k : Int), spotF Y0 (overN (z0, z1, z2, z3) ((2 ^ (LV - r) : Nat) : Int)).2.1 DY ((2 ^ PR : Nat) : Int) ((2 ^ (PR + LV - r) : Nat) : Int) (k / (pcF (overN (z0, z1, z2, z3) ((2 ^ (LV - r) : Nat) : Int)) ((2 ^ PR : Nat) : Int)).1.toNat), spotF X0 (overN (z0, z1, z2, z3) ((2 ^ (LV - r) : Nat) : Int)).1 DX ((2 ^ PR : Nat) : Int) ((2 ^ (PR + LV - r) : Nat) : Int) (k % (pcF (overN (z0, z1, z2, z3) ((2 ^ (LV - r) : Nat) : Int)) ((2 ^ PR : Nat) : Int)).1.toNat)⟩)))
    (HZZ : Hid (inN (z0, z1, z2, z3) 255 ∧ Ord4 (z0, z1, z2, z3)))
    (hX0 : 0 ≤ X0 ∧ X0 ≤ 255) (hY0 : 0 ≤ Y0 ∧ Y0 ≤ 255) (hDX : 1 ≤ DX ∧ DX ≤ 4) (hDY : 1 ≤ DY ∧ DY ≤ 4) (hlv : LV ≤ 5) (hpr : 1 ≤ PR ∧ PR ≤ 15) (hn0 : n0 + cntR G c (LV + 1) ≤ 10000000) {Q : Exit → Act → World → Prop}
    (hQ : ∀ (v12 v13 v14 v15 v16 v17 v36 v37 v38 v39 v40 v41 v42 v43 v44 v45 v46 v47 v48 v49 v50 v51 v52 v53 v54 v55 v56 v57 v58 v59 v60 v61 v62 v63 v64 v65 v66 v67 v68 v69 v70 v71 v72 v73 v74 v75 v76 v77 v78 v79 v80 v81 v82 v83 v84 v85 v86 v87 v88 v89 v90 v91 v92 v93 v94 v95 v96 v97 v98 v99 v100 v101 v102 v103 v104 v105 v106 v107 v108 v109 v110 : Value) (W' : World) (Va2 : Option Addr) (Vc2 : Nat), Hid (W'.ownsRow N 75 5 (.slice Va2 (n0 + (spR G c (LV + 1)).length) Vc2) (n0 + (spR G c (LV + 1)).length) ((ys ++ spR G c (LV + 1)).flatMap Pk.spv) ∧ KpT 75 W W' ∧ Below N W W') → Q .normal ⟨#[u0, u1, u2, .pointer (some ⟨B, 0, none⟩), u4, .pointer (some ⟨pb, 0, none⟩), u6, .slice Va2 (n0 + (spR G c (LV + 1)).length) Vc2, .int .i64 (c : Int), .pointer (some ⟨xb, 0, none⟩), .pointer (some ⟨ab, 0, none⟩), .int .i64 ((LV + 1 : Nat) : Int), v12, v13, v14, v15, v16, v17, u18, u19, u20, u21, u22, u23, u24, u25, u26, u27, u28, u29, u30, u31, u32, u33, u34, u35, v36, v37, v38, v39, v40, v41, v42, v43, v44, v45, v46, v47, v48, v49, v50, v51, v52, v53, v54, v55, v56, v57, v58, v59, v60, v61, v62, v63, v64, v65, v66, v67, v68, v69, v70, v71, v72, v73, v74, v75, v76, v77, v78, v79, v80, v81, v82, v83, v84, v85, v86, v87, v88, v89, v90, v91, v92, v93, v94, v95, v96, v97, v98, v99, v100, v101, v102, v103, v104, v105, v106, v107, v108, v109, v110, u111], []⟩ W') :
    (blkOf Try.f30 2).wp Try.prog Q ⟨#[u0, u1, u2, .pointer (some ⟨B, 0, none⟩), u4, .pointer (some ⟨pb, 0, none⟩), u6, .slice Va n0 Vc, .int .i64 (c : Int), .pointer (some ⟨xb, 0, none⟩), .pointer (some ⟨ab, 0, none⟩), .int .i64 0, u12, u13, u14, u15, u16, u17, u18, u19, u20, u21, u22, u23, u24, u25, u26, u27, u28, u29, u30, u31, u32, u33, u34, u35, u36, u37, u38, u39, u40, u41, u42, u43, u44, u45, u46, u47, u48, u49, u50, u51, u52, u53, u54, u55, u56, u57, u58, u59, u60, u61, u62, u63, u64, u65, u66, u67, u68, u69, u70, u71, u72, u73, u74, u75, u76, u77, u78, u79, u80, u81, u82, u83, u84, u85, u86, u87, u88, u89, u90, u91, u92, u93, u94, u95, u96, u97, u98, u99, u100, u101, u102, u103, u104, u105, u106, u107, u108, u109, u110, u111], []⟩ W := by
  obtain ⟨o_, ho_⟩ : ∃ o, blkOf Try.f30 2 = o := ⟨_, rfl⟩
  rw [ho_]
  conv at ho_ => lhs; whnf
  subst ho_
  have HQ := Lib.hid hQ
  clear hQ
  go_wp2_with fail
  go_loopg [7, 11] (LV + 1) (fun g a v wr => ∃ (r nn : Nat) (Va : Option Addr) (Vc : Nat) (zs : List Pk), r + g = LV + 1 ∧ a = .slice Va nn Vc ∧ v = .int .i64 (r : Int) ∧ Hid (wr.ownsRow N 75 5 (.slice Va nn Vc) nn (zs.flatMap Pk.spv) ∧ KpT 75 W wr ∧ Below N W wr) ∧ Hid (zs = ys ++ spR G c r ∧ nn = n0 + cntR G c r))
  case atStart => exact ⟨0, n0, Va, Vc, ys, by omega, rfl, rfl, Lib.hid ⟨HO.out.1, KpT.refl _ _, Below.refl _ _⟩, Lib.hid (by simp [spR, cntR])⟩
  case round =>
    obtain ⟨r, nn, Va, Vc, zs, hrg, rfl, rfl, HI, HZ⟩ := hrel
    obtain ⟨wd, hwd⟩ : ∃ wa, wa = wr := ⟨wr, rfl⟩
    subst hwd
    have hpW := HI.out.2.1.k _ _ _ HC.out.2.1 (by decide)
    have j2' : wd.cell? ⟨pb, 2, none⟩ = some (.int .i64 (LV : Int)) := blk_cell hpW 2
    by_cases hrL : r < LV + 1
    · obtain ⟨g2, rfl⟩ : ∃ g0, gk = g0 + 1 := ⟨gk - 1, by omega⟩
      have hrI : (r : Int) ≤ (LV : Int) := by omega
      have haW := HI.out.2.1.k _ _ _ HC.out.2.2.2 (by decide)
      have a0 : wd.cell? ⟨ab, 0, none⟩ = some (.int .i64 z0) := blk_cell haW 0
      have a1 : wd.cell? ⟨ab, 1, none⟩ = some (.int .i64 z1) := blk_cell haW 1
      have a2 : wd.cell? ⟨ab, 2, none⟩ = some (.int .i64 z2) := blk_cell haW 2
      have a3 : wd.cell? ⟨ab, 3, none⟩ = some (.int .i64 z3) := blk_cell haW 3
      have hzi : inN (z0, z1, z2, z3) 1000 := by obtain ⟨h1, h2, h3, h4⟩ := HZZ.out.1; exact ⟨by omega, by omega, by omega, by omega⟩
      have RR := Lib.hid (fun u => rres_any (z0, z1, z2, z3) LV r u hzi (by omega))
      have hin := overN_in (n := ((2 ^ (LV - r) : Nat) : Int)) HZZ.out.1 (two_pos _)
      have hor := overN_ord (n := ((2 ^ (LV - r) : Nat) : Int)) HZZ.out.2 (two_pos _)
      have hwh := HGG.out.1 r
      have hpk := fun k => HGG.out.2 r k (by omega)
      obtain ⟨q, hq⟩ : ∃ q, overN (z0, z1, z2, z3) ((2 ^ (LV - r) : Nat) : Int) = q := ⟨_, rfl⟩
      rw [hq] at hin hor hwh RR
      simp only [hq] at hpk
      have hin1 : inN q 1000 := by obtain ⟨h1, h2, h3, h4⟩ := hin; exact ⟨by omega, by omega, by omega, by omega⟩
      have RP := Lib.hid (fun u => rprec_any q PR u hin1 hor (by omega))
      have hpb := pc_bd (z := q) (m := 255) ((2 ^ PR : Nat) : Int) (two_pos PR) (by omega) hin hor
      obtain ⟨PW, hPW⟩ : ∃ n : Int, (pcF q ((2 ^ PR : Nat) : Int)).1 = n := ⟨_, rfl⟩
      obtain ⟨PH, hPH⟩ : ∃ n : Int, (pcF q ((2 ^ PR : Nat) : Int)).2 = n := ⟨_, rfl⟩
      rw [hPW, hPH] at RP hpb hwh
      simp only [hPW] at hpk
      have WP := w64_pow PR (by omega)
      have hnb : 1 ≤ ((2 ^ PR : Nat) : Int) ∧ ((2 ^ PR : Nat) : Int) ≤ 32768 := by
        have h1 : 2 ^ PR ≤ 2 ^ 15 := Nat.pow_le_pow_right (by omega) (by omega)
        have h3 : 0 < 2 ^ PR := Nat.pow_pos (by omega)
        have h4 : (2 : Nat) ^ 15 = 32768 := by decide
        omega
      obtain ⟨m, hm⟩ : ∃ m, LV - r = m := ⟨_, rfl⟩
      have s2 : (LV : Int) - (r : Int) = (m : Int) := by omega
      have hm5 : m ≤ 5 := by omega
      have hsd : ((2 ^ (PR + LV - r) : Nat) : Int) = ((2 ^ PR : Nat) : Int) * ((2 ^ m : Nat) : Int) := by
        rw [show PR + LV - r = PR + m by omega, Nat.pow_add]; push_cast; rfl
      have hsb : 1 ≤ ((2 ^ (PR + LV - r) : Nat) : Int) ∧ ((2 ^ (PR + LV - r) : Nat) : Int) ≤ 1048576 := by
        have h1 : 2 ^ (PR + LV - r) ≤ 2 ^ 20 := Nat.pow_le_pow_right (by omega) (by omega)
        have h3 : 0 < 2 ^ (PR + LV - r) := Nat.pow_pos (by omega)
        have h4 : (2 : Nat) ^ 20 = 1048576 := by decide
        omega
      obtain ⟨NN, hNN⟩ : ∃ n, ((2 ^ PR : Nat) : Int) = n := ⟨_, rfl⟩
      obtain ⟨SD, hSD⟩ : ∃ n, ((2 ^ (PR + LV - r) : Nat) : Int) = n := ⟨_, rfl⟩
      rw [hNN] at WP hnb hsd
      rw [hSD] at hsd hsb
      simp only [hNN, hSD] at hpk
      have hSP : wrap64 (NN * 2 ^ m) = SD := by
        rw [show NN * 2 ^ m = SD by rw [hsd]; push_cast; rfl]
        exact w64_in (by omega)
      have HWP := Lib.hid WP
      have HSP := Lib.hid hSP
      have HPK := Lib.hid hpk
      have HPB := Lib.hid hpb
      have HWH := Lib.hid hwh
      have HIN := Lib.hid hin
      have s2b : -9223372036854775808 ≤ (m : Int) ∧ (m : Int) ≤ 9223372036854775807 ∧ 0 ≤ (m : Int) := by omega
      have s1 : IntKind.i64.wrap ((LV : Int) - (r : Int)) = (m : Int) := by rw [s2]; exact IntWalk.i64_in _ (by omega)
      have s3 : IntKind.i64.wrap (m : Int) = (m : Int) := IntWalk.i64_in _ (by omega)
      obtain ⟨q0, q1, q2, q3⟩ := q
      simp only [rA] at RR RP
      clear hzi hq hor hin1 hPW hPH hpk hm hNN hSD hsd WP hSP hpb hwh hin haW
      go_wp2_with fail
      refine (RR.out _).mono ?_
      rintro e w1 ⟨rfl, hb1⟩
      have HI1 : Hid (w1.ownsRow N 75 5 (.slice Va nn Vc) nn (zs.flatMap Pk.spv) ∧ KpT 75 W w1 ∧ Below N W w1) := Lib.hid ⟨ownsRow_keep HI.out.1 hb1.size (fun k hk => hb1.block k (own_lt HI.out.1 hk).2), HI.out.2.1.below hb1, HI.out.2.2.trans (hb1.mono (Nat.le_trans HO.out.2 HI.out.2.1.size))⟩
      clear HI a0 a1 a2 a3 j2' hpW
      go_upto_region 11 with fail
      obtain ⟨qb, hqb⟩ : ∃ b, w1.heap.size = b := ⟨_, rfl⟩
      obtain ⟨w2, hw2⟩ : ∃ X, w1.alloc (Obj.cells #[.int .i64 q0, .int .i64 q1, .int .i64 q2, .int .i64 q3] 38) = X := ⟨_, rfl⟩
      rw [hw2, hqb]
      have HQB : Hid (w2.heap[qb]? = some (.cells #[.int .i64 q0, .int .i64 q1, .int .i64 q2, .int .i64 q3] 38 (0, 0)) ∧ Below qb w1 w2 ∧ w1.heap.size = qb) := Lib.hid ⟨by rw [← hw2, ← hqb]; exact World.alloc_heap_new w1 _, by rw [← hw2, ← hqb]; exact (Below.refl _ _).alloc (Nat.le_refl _) _, hqb⟩
      have HI2 : Hid (w2.ownsRow N 75 5 (.slice Va nn Vc) nn (zs.flatMap Pk.spv) ∧ KpT 75 W w2 ∧ Below N W w2) := Lib.hid (by
        have hb : Below w1.heap.size w1 w2 := by rw [HQB.out.2.2]; exact HQB.out.2.1
        exact ⟨ownsRow_keep HI1.out.1 hb.size (fun k hk => hb.block k (own_lt HI1.out.1 hk).2), HI1.out.2.1.below hb, HI1.out.2.2.trans (hb.mono (Nat.le_trans HO.out.2 HI1.out.2.1.size))⟩)
      clear hw2 hqb HI1
      have b0 : w2.cell? ⟨qb, 0, none⟩ = some (.int .i64 q0) := blk_cell HQB.out.1 0
      have b1 : w2.cell? ⟨qb, 1, none⟩ = some (.int .i64 q1) := blk_cell HQB.out.1 1
      have b2 : w2.cell? ⟨qb, 2, none⟩ = some (.int .i64 q2) := blk_cell HQB.out.1 2
      have b3 : w2.cell? ⟨qb, 3, none⟩ = some (.int .i64 q3) := blk_cell HQB.out.1 3
      have hpW := HI2.out.2.1.k _ _ _ HC.out.2.1 (by decide)
      have j5' : w2.cell? ⟨pb, 5, none⟩ = some (.int .i64 (PR : Int)) := blk_cell hpW 5
      go_wp2_with fail
      refine (RP.out _).mono ?_
      rintro e w3 ⟨rfl, hb3⟩
      have HQ3 := Lib.hid ((hb3.block qb (Array.getElem?_eq_some_iff.1 HQB.out.1).1).trans HQB.out.1)
      have HI3 : Hid (w3.ownsRow N 75 5 (.slice Va nn Vc) nn (zs.flatMap Pk.spv) ∧ KpT 75 W w3 ∧ Below N W w3) := Lib.hid ⟨ownsRow_keep HI2.out.1 hb3.size (fun k hk => hb3.block k (own_lt HI2.out.1 hk).2), HI2.out.2.1.below hb3, HI2.out.2.2.trans (hb3.mono (Nat.le_trans HO.out.2 HI2.out.2.1.size))⟩
      clear HI2 HQB b0 b1 b2 b3 hpW j5' RR RP
      have hpW := HI3.out.2.1.k _ _ _ HC.out.2.1 (by decide)
      have j5' : w3.cell? ⟨pb, 5, none⟩ = some (.int .i64 (PR : Int)) := blk_cell hpW 5
      have j2' : w3.cell? ⟨pb, 2, none⟩ = some (.int .i64 (LV : Int)) := blk_cell hpW 2
      go_upto_region 13 with fail
      rw [HWP.out]
      go_upto_block 4 with fail
      rw [HSP.out]
      have HCk : Hid (w3.heap[B]? = some (.cells #[.int .i64 X0, .int .i64 Y0, .int .i64 X1, .int .i64 Y1] 38 (0, 0)) ∧ w3.heap[xb]? = some (.cells #[.int .i64 dp, .bool sg, .int .i64 DX, .int .i64 DY, DV] 48 (0, 0)) ∧ w3.heap[qb]? = some (.cells #[.int .i64 q0, .int .i64 q1, .int .i64 q2, .int .i64 q3] 38 (0, 0))) := Lib.hid ⟨HI3.out.2.1.k _ _ _ HC.out.1 (by decide), HI3.out.2.1.k _ _ _ HC.out.2.2.1 (by decide), HQ3.out⟩
      have HOk : Hid (w3.ownsRow N 75 5 (.slice Va nn Vc) nn (zs.flatMap Pk.spv) ∧ N ≤ w3.heap.size) := Lib.hid ⟨HI3.out.1, Nat.le_trans HO.out.2 HI3.out.2.1.size⟩
      have HWk : Hid ((PW.toNat : Int) = PW ∧ (PH.toNat : Int) = PH ∧ PW.toNat * PH.toNat = G.wh c r) := Lib.hid ⟨Int.toNat_of_nonneg HPB.out.1.1, Int.toNat_of_nonneg HPB.out.2.1, HWH.out.symm⟩
      have HGk : Hid (∀ k, k < G.wh c r → G.pk 0 c r k = ⟨0, (r : Int), (c : Int), (k : Int), spotF Y0 q1 DY NN SD (k / PW.toNat), spotF X0 q0 DX NN SD (k % PW.toNat)⟩) := Lib.hid fun k _ => HPK.out k
      have hq0 : 0 ≤ q0 ∧ q0 ≤ 255 := HIN.out.1
      have hq1 : 0 ≤ q1 ∧ q1 ≤ 255 := HIN.out.2.1
      have hPW1 : PW.toNat ≤ 255 := by have := HPB.out.1; omega
      have hPH1 : PH.toNat ≤ 255 := by have := HPB.out.2; omega
      have hcnt := cntR_succ G c r
      have hcm := cntR_up G c (show r + 1 ≤ LV + 1 by omega)
      have hnn : nn ≤ 10000000 := by have := HZ.out.2; omega
      have HNX : Hid (nn + G.wh c r = n0 + cntR G c (r + 1)) := Lib.hid (by have := HZ.out.2; omega)
      have hnb2 : 1 ≤ NN ∧ NN ≤ 32768 := by omega
      clear hcnt hcm hpW j5' j2' s1 s2 s3 s2b
      refine wp_code (c' := blkOf Try.f30 4) (by kernel_rfl) (spots_k B xb qb PW.toNat PH.toNat (G.wh c r) N nn c r X0 Y0 X1 Y1 dp DX DY q0 q1 q2 q3 PW PH NN SD sg DV G Va Vc zs w3 HCk HOk HWk HGk hX0 hY0 hq0 hq1 hDX hDY hnb2 hsb hPW1 hPH1 hnn ?_)
      intro v65 v66 v67 v68 v69 v70 v71 v72 v73 v74 v75 v76 v77 v78 v79 v80 v81 v82 v83 v84 v85 v86 v87 v88 v89 v90 v91 v92 v93 v94 v95 v96 v97 v98 v99 v100 v101 v102 v103 v104 v105 v106 v107 v108 v109 v110 W' Va3 Vc3 H2
      have HN : Hid (W'.ownsRow N 75 5 (.slice Va3 (nn + G.wh c r) Vc3) (nn + G.wh c r) ((zs ++ spK G c r (G.wh c r)).flatMap Pk.spv) ∧ KpT 75 W W' ∧ Below N W W') := Lib.hid ⟨H2.out.1, HI3.out.2.1.trans H2.out.2.1, HI3.out.2.2.trans H2.out.2.2⟩
      have HZN : Hid (zs ++ spK G c r (G.wh c r) = ys ++ spR G c (r + 1) ∧ nn + G.wh c r = n0 + cntR G c (r + 1)) := Lib.hid ⟨by rw [spR_succ, ← List.append_assoc, ← HZ.out.1], HNX.out⟩
      clear H2 HI3 HCk HOk HWk HGk HQ3 HPK HPB HWH HIN
      go_wp2
      go_roundg g2
      case measure => omega
      case rel => exact ⟨r + 1, _, Va3, Vc3, _, by omega, rfl, by go_num, HN, HZN⟩
    · obtain rfl : LV + 1 = r := by omega
      have hrI : ¬ ((LV + 1 : Nat) : Int) ≤ (LV : Int) := by omega
      have hnn := HZ.out.2
      rw [← spR_len] at hnn
      subst hnn
      go_wp2_with fail
      exact HQ.out _ _ _ _ _ _ _ _ _ _ _ _ _ _ _ _ _ _ _ _ _ _ _ _ _ _ _ _ _ _ _ _ _ _ _ _ _ _ _ _ _ _ _ _ _ _ _ _ _ _ _ _ _ _ _ _ _ _ _ _ _ _ _ _ _ _ _ _ _ _ _ _ _ _ _ _ _ _ _ _ _ wd Va Vc (Lib.hid (by rw [← HZ.out.1]; exact HI.out))
end
section
open Go.RowKit Go.Shelf
set_option maxRecDepth 100000
attribute [local go_sem] Oper.semAt_some
attribute [local go_sem ↓] appSem_eq
def spC (G : GE) (c : Nat) : List Pk := (List.range c).flatMap fun c => spR G c (G.lv + 1)
theorem spC_succ (G : GE) (c : Nat) : spC G (c + 1) = spC G c ++ spR G c (G.lv + 1) := by simp [spC, List.range_succ]
theorem spC_len (G : GE) : ∀ c, (spC G c).length = cntC G c
  | 0 => rfl
  | c + 1 => by rw [spC_succ, List.length_append, spR_len, cntC_succ, spC_len G c]
theorem spC_all (G : GE) : spC G G.nc = G.spots := rfl
theorem cntR_bd (G : GE) (c : Nat) (h : ∀ r, G.wh c r ≤ 65025) : ∀ r, cntR G c r ≤ r * 65025
  | 0 => by simp [cntR]
  | r + 1 => by rw [cntR_succ]; have := cntR_bd G c h r; have := h r; omega
theorem cntC_bd (G : GE) (hl : G.lv ≤ 5) : ∀ c, (∀ c' r, c' < c → G.wh c' r ≤ 65025) → cntC G c ≤ c * 390150
  | 0, _ => by simp [cntC]
  | c + 1, h => by
    rw [cntC_succ]
    have h1 := cntC_bd G hl c (fun c' r hc => h c' r (by omega))
    have h2 := cntR_bd G c (fun r => h c r (by omega)) (G.lv + 1)
    have h3 : (G.lv + 1) * 65025 ≤ 6 * 65025 := Nat.mul_le_mul_right _ (by omega)
    omega
set_option maxHeartbeats 16000000 in
theorem rspots_any (lo : Nat) (X0 Y0 X1 Y1 IX IY IOX IOY : Int) (A2 : Option Addr) (nc C2 : Nat) (cs : List Cp) (TX TY BW BH STY OD LY : Int) (RC SO EP : Bool) (LV PR : Nat) (w : World)
    (ht : inN (X0, Y0, X1, Y1) 255) (hto : Ord4 (X0, Y0, X1, Y1)) (hcs : ∀ (i : Nat) (c : Cp), cs[i]? = some c → (1 ≤ c.dx ∧ c.dx ≤ 4) ∧ (1 ≤ c.dy ∧ c.dy ≤ 4)) (hn4 : nc ≤ 4) (hn : cs.length = nc) (hlv : LV ≤ 5) (hpr : 1 ≤ PR ∧ PR ≤ 15)
    (hcr : CRow lo w (.slice A2 nc C2) cs) (G : GE) (hG : geo (X0, Y0, X1, Y1) (cs.map fun c => (c.dx, c.dy)) LV PR = G) :
    Calls Try.prog 30 #[.agg #[.int .i64 X0, .int .i64 Y0, .int .i64 X1, .int .i64 Y1], .agg #[.int .i64 IX, .int .i64 IY, .int .i64 IOX, .int .i64 IOY, .slice A2 nc C2], .agg #[.int .i64 TX, .int .i64 TY, .int .i64 (LV : Int), .int .i64 BW, .int .i64 BH, .int .i64 (PR : Int), .int .i64 STY, .int .i64 OD, .int .i64 LY, .bool RC, .bool SO, .bool EP]] w fun e w' => ∃ (A : Option Addr) (m c : Nat), e = .returned (.slice A m c) ∧ m = G.spots.length ∧ m ≤ 1560600 ∧ w'.ownsRow w.heap.size 75 5 (.slice A m c) m (G.spots.flatMap Pk.spv) ∧ Below w.heap.size w w' := by
  have hGn : G.nc = nc := by rw [← hG]; show (cs.map fun c => (c.dx, c.dy)).length = nc; rw [List.length_map]; exact hn
  have hGl : G.lv = LV := by rw [← hG]; rfl
  have hda : ∀ (i : Nat) (c : Cp), cs[i]? = some c → dAt (cs.map fun c => (c.dx, c.dy)) i = (c.dx, c.dy) := fun i c hc => by simp [dAt, List.getD, hc]
  have hwhb : ∀ c' r', c' < nc → G.wh c' r' ≤ 65025 := fun c' r' hc' => by
    obtain ⟨c2, hc2⟩ : ∃ c, cs[c']? = some c := ⟨_, List.getElem?_eq_getElem (by omega)⟩
    have hcd2 := hcs c' c2 hc2
    have hdp := geo_pc (ds := cs.map fun c => (c.dx, c.dy)) (lv := LV) (pr := PR) (c := c') (r := r') ht hto (by rw [hda _ _ hc2]; simp only; omega) (by rw [hda _ _ hc2]; simp only; omega)
    rw [← hG]
    exact Nat.mul_le_mul hdp.2.1 hdp.2.2
  have hcb := cntC_bd G (by omega) nc hwhb
  have HG := Lib.hid (show _ ∧ _ ∧ _ from ⟨hG, hGn, hGl⟩)
  have HCB : Hid (∀ c, c ≤ nc → cntC G c ≤ 1560600) := Lib.hid fun c hc => by
    have := cntC_bd G (by omega) c (fun c' r h => hwhb c' r (by omega))
    omega
  have HDA := Lib.hid hda
  have HCS := Lib.hid hcs
  have HTT := Lib.hid (show _ ∧ _ from ⟨ht, hto⟩)
  have hX0 : 0 ≤ X0 ∧ X0 ≤ 255 := ht.1
  have hY0 : 0 ≤ Y0 ∧ Y0 ≤ 255 := ht.2.1
  have hXY1 : (0 ≤ X1 ∧ X1 ≤ 255) ∧ (0 ≤ Y1 ∧ Y1 ≤ 255) := ⟨ht.2.2.1, ht.2.2.2⟩
  have HCR := Lib.hid hcr
  have HN := Lib.hid hn
  clear hG hGn hGl hda hwhb hcb hcs ht hto hcr hn
  go_enter Try.func30, Try.ntmps30
  go_wp2_with fail
  obtain ⟨B, hB⟩ : ∃ B, w.heap.size = B := ⟨_, rfl⟩
  obtain ⟨W3, hW3⟩ : ∃ W3, ((w.alloc (Obj.cells #[.int .i64 X0, .int .i64 Y0, .int .i64 X1, .int .i64 Y1] 38)).alloc (Obj.cells #[.int .i64 IX, .int .i64 IY, .int .i64 IOX, .int .i64 IOY, .slice A2 nc C2] 28)).alloc (Obj.cells #[.int .i64 TX, .int .i64 TY, .int .i64 (LV : Int), .int .i64 BW, .int .i64 BH, .int .i64 (PR : Int), .int .i64 STY, .int .i64 OD, .int .i64 LY, .bool RC, .bool SO, .bool EP] 30) = W3 := ⟨_, rfl⟩
  have HM3 : Hid (MkW w B [(#[.int .i64 X0, .int .i64 Y0, .int .i64 X1, .int .i64 Y1], 38), (#[.int .i64 IX, .int .i64 IY, .int .i64 IOX, .int .i64 IOY, .slice A2 nc C2], 28), (#[.int .i64 TX, .int .i64 TY, .int .i64 (LV : Int), .int .i64 BW, .int .i64 BH, .int .i64 (PR : Int), .int .i64 STY, .int .i64 OD, .int .i64 LY, .bool RC, .bool SO, .bool EP], 30)] W3) := Lib.hid (by
    have h0 : MkW w B [] w := ⟨fun i c e => by simp at e, Below.refl _ _, by simp; omega⟩
    have h1 := ((h0.more (by simp; omega) #[.int .i64 X0, .int .i64 Y0, .int .i64 X1, .int .i64 Y1] 38).more (by simp; omega) #[.int .i64 IX, .int .i64 IY, .int .i64 IOX, .int .i64 IOY, .slice A2 nc C2] 28).more (by simp; omega) #[.int .i64 TX, .int .i64 TY, .int .i64 (LV : Int), .int .i64 BW, .int .i64 BH, .int .i64 (PR : Int), .int .i64 STY, .int .i64 OD, .int .i64 LY, .bool RC, .bool SO, .bool EP] 30
    rw [← hW3]; exact h1)
  rw [hW3, hB]
  have HB := Lib.hid hB
  clear hW3 hB
  go_loopg [7, 8] nc (fun g a v wr => ∃ (c nn : Nat) (Va : Option Addr) (Vc : Nat) (zs : List Pk), c + g = nc ∧ a = .slice Va nn Vc ∧ v = .int .i64 (c : Int) ∧ Hid (wr.ownsRow B 75 5 (.slice Va nn Vc) nn (zs.flatMap Pk.spv) ∧ KpT 75 W3 wr ∧ Below B w wr) ∧ Hid (zs = spC G c ∧ nn = cntC G c))
  case atStart => exact ⟨0, 0, none, 0, [], by omega, rfl, rfl, Lib.hid ⟨World.ownsRow_nil _ _ _ _, KpT.refl _ _, HM3.out.bel⟩, Lib.hid ⟨rfl, rfl⟩⟩
  case round =>
    obtain ⟨c, nn, Va, Vc, zs, hcg, rfl, rfl, HI, HZ⟩ := hrel
    obtain ⟨wa, hwa⟩ : ∃ wa, wa = wr := ⟨wr, rfl⟩
    subst hwa
    have hiW := HI.out.2.1.k (B + 1) _ _ (HM3.out.b 1 _ rfl) (by show 28 ≠ 75; decide)
    have i4' : wa.cell? ⟨B + 1, 4, none⟩ = some (.slice A2 nc C2) := blk_cell hiW 4
    clear hiW
    by_cases hcN : c < nc
    · obtain ⟨g1, rfl⟩ : ∃ g1, gk = g1 + 1 := ⟨gk - 1, by omega⟩
      have hcI : (c : Int) < (nc : Int) := by omega
      have hc0 : ¬ (c : Int) < 0 := by omega
      obtain ⟨x, hx⟩ : ∃ x, cs[c]? = some x := ⟨_, List.getElem?_eq_getElem (by rw [HN.out]; exact hcN)⟩
      have hdx := HCS.out c x hx
      have hda := HDA.out c x hx
      obtain ⟨cg, cap, hV, hg, hgl, _, _, u0, u1, u2, u3, u4⟩ := CRow.cells HCR.out hx
      rw [HN.out] at hV
      injection hV with hA hn hC
      subst hA hC
      have hbw : Below w.heap.size w wa := by rw [HB.out]; exact HI.out.2.2
      have p0 := (hbw.cell (p := ⟨cg, _, none⟩) hgl).trans u0
      have p1 := (hbw.cell (p := ⟨cg, _, none⟩) hgl).trans u1
      have p2 := (hbw.cell (p := ⟨cg, _, none⟩) hgl).trans u2
      have p3 := (hbw.cell (p := ⟨cg, _, none⟩) hgl).trans u3
      have p4 := (hbw.cell (p := ⟨cg, _, none⟩) hgl).trans u4
      obtain ⟨dx, hdxe⟩ : ∃ d, x.dx = d := ⟨_, rfl⟩
      obtain ⟨dy, hdye⟩ : ∃ d, x.dy = d := ⟨_, rfl⟩
      obtain ⟨dp, hdpe⟩ : ∃ d, x.d = d := ⟨_, rfl⟩
      obtain ⟨sg, hsge⟩ : ∃ d, x.sg = d := ⟨_, rfl⟩
      obtain ⟨XA, hXA⟩ : ∃ d, x.A = d := ⟨_, rfl⟩
      obtain ⟨xn, hxn⟩ : ∃ d, x.n = d := ⟨_, rfl⟩
      obtain ⟨xc, hxc⟩ : ∃ d, x.cap = d := ⟨_, rfl⟩
      rw [hdpe] at p0
      rw [hsge] at p1
      rw [hdxe] at p2 hdx hda
      rw [hdye] at p3 hdx hda
      rw [hXA, hxn, hxc] at p4
      have HD := Lib.hid hda
      clear u0 u1 u2 u3 u4 hg hgl hn hbw hx hdxe hdye hdpe hsge hXA hxn hxc hda
      go_upto_region 6 with fail
      obtain ⟨xb, hxb⟩ : ∃ b, wa.heap.size = b := ⟨_, rfl⟩
      obtain ⟨w1, hw1⟩ : ∃ X, wa.alloc (Obj.cells #[.int .i64 dp, .bool sg, .int .i64 dx, .int .i64 dy, .slice XA xn xc] 48) = X := ⟨_, rfl⟩
      rw [hw1, hxb]
      have HXB : Hid (w1.heap[xb]? = some (.cells #[.int .i64 dp, .bool sg, .int .i64 dx, .int .i64 dy, .slice XA xn xc] 48 (0, 0)) ∧ Below wa.heap.size wa w1) := Lib.hid ⟨by rw [← hw1, ← hxb]; exact World.alloc_heap_new wa _, by rw [← hw1]; exact (Below.refl _ _).alloc (Nat.le_refl _) _⟩
      have HBS : Hid (B ≤ wa.heap.size) := Lib.hid (by have := HI.out.2.2.size; have := HB.out; omega)
      have HI1 : Hid (w1.ownsRow B 75 5 (.slice Va nn Vc) nn (zs.flatMap Pk.spv) ∧ KpT 75 W3 w1 ∧ Below B w w1) := Lib.hid (by
        have hb := HXB.out.2
        exact ⟨ownsRow_keep HI.out.1 hb.size (fun k hk => hb.block k (own_lt HI.out.1 hk).2), HI.out.2.1.below hb, HI.out.2.2.trans (hb.mono HBS.out)⟩)
      have tW := HI1.out.2.1.k B _ _ (HM3.out.b 0 _ rfl) (by show 38 ≠ 75; decide)
      have t0 : w1.cell? ⟨B, 0, none⟩ = some (.int .i64 X0) := blk_cell tW 0
      have t1 : w1.cell? ⟨B, 1, none⟩ = some (.int .i64 Y0) := blk_cell tW 1
      have t2 : w1.cell? ⟨B, 2, none⟩ = some (.int .i64 X1) := blk_cell tW 2
      have t3 : w1.cell? ⟨B, 3, none⟩ = some (.int .i64 Y1) := blk_cell tW 3
      have d2 : w1.cell? ⟨xb, 2, none⟩ = some (.int .i64 dx) := blk_cell HXB.out.1 2
      have d3 : w1.cell? ⟨xb, 3, none⟩ = some (.int .i64 dy) := blk_cell HXB.out.1 3
      have PT1 := Lib.hid (fun u => rpart_any X0 Y0 X1 Y1 dx dy u (by omega) (by omega) (by omega) (by omega) (by omega) (by omega))
      clear hw1 hxb tW HI p0 p1 p2 p3 p4 i4'
      go_wp2_with fail
      refine (PT1.out _).mono ?_
      rintro e w2 ⟨rfl, hb2⟩
      have HX2 := Lib.hid ((hb2.block xb (Array.getElem?_eq_some_iff.1 HXB.out.1).1).trans HXB.out.1)
      have HBS1 : Hid (B ≤ w1.heap.size) := Lib.hid (by have := HI1.out.2.2.size; have := HB.out; omega)
      have HI2 : Hid (w2.ownsRow B 75 5 (.slice Va nn Vc) nn (zs.flatMap Pk.spv) ∧ KpT 75 W3 w2 ∧ Below B w w2) := Lib.hid ⟨ownsRow_keep HI1.out.1 hb2.size (fun k hk => hb2.block k (own_lt HI1.out.1 hk).2), HI1.out.2.1.below hb2, HI1.out.2.2.trans (hb2.mono HBS1.out)⟩
      clear hb2 t0 t1 t2 t3 d2 d3 HXB HI1 PT1
      obtain ⟨z0, hz0⟩ : ∃ z, ceilF X0 dx = z := ⟨_, rfl⟩
      obtain ⟨z1, hz1⟩ : ∃ z, ceilF Y0 dy = z := ⟨_, rfl⟩
      obtain ⟨z2, hz2⟩ : ∃ z, ceilF X1 dx = z := ⟨_, rfl⟩
      obtain ⟨z3, hz3⟩ : ∃ z, ceilF Y1 dy = z := ⟨_, rfl⟩
      have hPf : ptF (X0, Y0, X1, Y1) (dx, dy) = (z0, z1, z2, z3) := by rw [← hz0, ← hz1, ← hz2, ← hz3]; rfl
      rw [hz0, hz1, hz2, hz3]
      have P0 := ptF_in (t := (X0, Y0, X1, Y1)) (d := (dx, dy)) HTT.out.1 (by simp only; omega) (by simp only; omega)
      have P1 := ptF_ord (t := (X0, Y0, X1, Y1)) (d := (dx, dy)) HTT.out.2 (by simp only; omega) (by simp only; omega)
      rw [hPf] at P0 P1
      have HZZ := Lib.hid (show _ ∧ _ from ⟨P0, P1⟩)
      have HGG : Hid ((∀ r, G.wh c r = (pcF (overN (z0, z1, z2, z3) ((2 ^ (LV - r) : Nat) : Int)) ((2 ^ PR : Nat) : Int)).1.toNat * (pcF (overN (z0, z1, z2, z3) ((2 ^ (LV - r) : Nat) : Int)) ((2 ^ PR : Nat) : Int)).2.toNat) ∧ (∀ r k, r ≤ LV → G.pk 0 c r k = ⟨0, (r : Int), (c : Int), (k : Int), spotF Y0 (overN (z0, z1, z2, z3) ((2 ^ (LV - r) : Nat) : Int)).2.1 dy ((2 ^ PR : Nat) : Int) ((2 ^ (PR + LV - r) : Nat) : Int) (k / (pcF (overN (z0, z1, z2, z3) ((2 ^ (LV - r) : Nat) : Int)) ((2 ^ PR : Nat) : Int)).1.toNat), spotF X0 (overN (z0, z1, z2, z3) ((2 ^ (LV - r) : Nat) : Int)).1 dx ((2 ^ PR : Nat) : Int) ((2 ^ (PR + LV - r) : Nat) : Int) (k % (pcF (overN (z0, z1, z2, z3) ((2 ^ (LV - r) : Nat) : Int)) ((2 ^ PR : Nat) : Int)).1.toNat)⟩)) := Lib.hid ⟨fun r => by
          rw [← HG.out.1]
          show wdF _ _ LV PR c r * htF _ _ LV PR c r = _
          unfold wdF htF rsF
          rw [HD.out, hPf], fun r k hr => by
          rw [← HG.out.1]
          show (⟨0, (r : Int), (c : Int), (k : Int), spotF Y0 (rsF (X0, Y0, X1, Y1) (dAt _ c) LV r).2.1 (dAt _ c).2 _ _ (k / wdF _ _ LV PR c r), spotF X0 (rsF (X0, Y0, X1, Y1) (dAt _ c) LV r).1 (dAt _ c).1 _ _ (k % wdF _ _ LV PR c r)⟩ : Pk) = _
          unfold wdF rsF
          rw [HD.out, hPf]⟩
      clear hz0 hz1 hz2 hz3 hPf P0 P1
      go_upto_block 2 with fail
      obtain ⟨ab, hab⟩ : ∃ b, w2.heap.size = b := ⟨_, rfl⟩
      obtain ⟨w3, hw3⟩ : ∃ X, w2.alloc (Obj.cells #[.int .i64 z0, .int .i64 z1, .int .i64 z2, .int .i64 z3] 38) = X := ⟨_, rfl⟩
      rw [hw3, hab]
      have HAB : Hid (w3.heap[ab]? = some (.cells #[.int .i64 z0, .int .i64 z1, .int .i64 z2, .int .i64 z3] 38 (0, 0)) ∧ Below w2.heap.size w2 w3) := Lib.hid ⟨by rw [← hw3, ← hab]; exact World.alloc_heap_new w2 _, by rw [← hw3]; exact (Below.refl _ _).alloc (Nat.le_refl _) _⟩
      have HBS2 : Hid (B ≤ w2.heap.size) := Lib.hid (by have := HI2.out.2.2.size; have := HB.out; omega)
      have HI3 : Hid (w3.ownsRow B 75 5 (.slice Va nn Vc) nn (zs.flatMap Pk.spv) ∧ KpT 75 W3 w3 ∧ Below B w w3) := Lib.hid (by
        have hb := HAB.out.2
        exact ⟨ownsRow_keep HI2.out.1 hb.size (fun k hk => hb.block k (own_lt HI2.out.1 hk).2), HI2.out.2.1.below hb, HI2.out.2.2.trans (hb.mono HBS2.out)⟩)
      have HCr : Hid (w3.heap[B]? = some (.cells #[.int .i64 X0, .int .i64 Y0, .int .i64 X1, .int .i64 Y1] 38 (0, 0)) ∧ w3.heap[B + 1 + 1]? = some (.cells #[.int .i64 TX, .int .i64 TY, .int .i64 (LV : Int), .int .i64 BW, .int .i64 BH, .int .i64 (PR : Int), .int .i64 STY, .int .i64 OD, .int .i64 LY, .bool RC, .bool SO, .bool EP] 30 (0, 0)) ∧ w3.heap[xb]? = some (.cells #[.int .i64 dp, .bool sg, .int .i64 dx, .int .i64 dy, .slice XA xn xc] 48 (0, 0)) ∧ w3.heap[ab]? = some (.cells #[.int .i64 z0, .int .i64 z1, .int .i64 z2, .int .i64 z3] 38 (0, 0))) := Lib.hid
        ⟨HI3.out.2.1.k B _ _ (HM3.out.b 0 _ rfl) (by show 38 ≠ 75; decide), HI3.out.2.1.k (B + 2) _ _ (HM3.out.b 2 _ rfl) (by show 30 ≠ 75; decide), (HAB.out.2.block xb (Array.getElem?_eq_some_iff.1 HX2.out).1).trans HX2.out, HAB.out.1⟩
      have HOr : Hid (w3.ownsRow B 75 5 (.slice Va nn Vc) nn (zs.flatMap Pk.spv) ∧ B ≤ w3.heap.size) := Lib.hid ⟨HI3.out.1, by have := HI3.out.2.2.size; have := HB.out; omega⟩
      have hcs1 := cntC_succ G c
      rw [HG.out.2.2] at hcs1
      have hcb := HCB.out (c + 1) (by omega)
      have hn0 : nn + cntR G c (LV + 1) ≤ 10000000 := by have := HZ.out.2; omega
      have HZN : Hid (zs ++ spR G c (LV + 1) = spC G (c + 1) ∧ nn + (spR G c (LV + 1)).length = cntC G (c + 1)) := Lib.hid ⟨by rw [spC_succ, ← HZ.out.1, HG.out.2.2], by rw [spR_len]; have := HZ.out.2; omega⟩
      clear hw3 hab HI2 HAB HX2 hcs1 hcb
      refine wp_code (c' := blkOf Try.f30 2) (by kernel_rfl) (spots_r B (B + 1 + 1) xb ab LV PR B nn c X0 Y0 X1 Y1 dp dx dy z0 z1 z2 z3 TX TY BW BH STY OD LY RC SO EP sg (.slice XA xn xc) G Va Vc zs w3 HCr HOr HGG HZZ hX0 hY0 hdx.1 hdx.2 hlv hpr hn0 ?_)
      intro v12 v13 v14 v15 v16 v17 v36 v37 v38 v39 v40 v41 v42 v43 v44 v45 v46 v47 v48 v49 v50 v51 v52 v53 v54 v55 v56 v57 v58 v59 v60 v61 v62 v63 v64 v65 v66 v67 v68 v69 v70 v71 v72 v73 v74 v75 v76 v77 v78 v79 v80 v81 v82 v83 v84 v85 v86 v87 v88 v89 v90 v91 v92 v93 v94 v95 v96 v97 v98 v99 v100 v101 v102 v103 v104 v105 v106 v107 v108 v109 v110 W' Va3 Vc3 H2
      have HN9 : Hid (W'.ownsRow B 75 5 (.slice Va3 (nn + (spR G c (LV + 1)).length) Vc3) (nn + (spR G c (LV + 1)).length) ((zs ++ spR G c (LV + 1)).flatMap Pk.spv) ∧ KpT 75 W3 W' ∧ Below B w W') := Lib.hid ⟨H2.out.1, HI3.out.2.1.trans H2.out.2.1, HI3.out.2.2.trans (H2.out.2.2.mono (Nat.le_refl _))⟩
      clear H2 HI3 HCr HOr HGG HZZ
      go_wp2
      go_roundg g1
      case measure => omega
      case rel => exact ⟨c + 1, _, Va3, Vc3, _, by omega, rfl, by go_num, HN9, HZN⟩
    · obtain rfl : nc = c := by omega
      have hcI : ¬ (nc : Int) < (nc : Int) := by omega
      have HE : Hid (nn = G.spots.length ∧ nn ≤ 1560600 ∧ wa.ownsRow B 75 5 (.slice Va nn Vc) nn (G.spots.flatMap Pk.spv) ∧ Below B w wa) := Lib.hid (by
        have h1 : zs = G.spots := by rw [HZ.out.1, ← spC_all, HG.out.2.1]
        have h2 : nn = G.spots.length := by rw [HZ.out.2, ← spC_all, spC_len, HG.out.2.1]
        refine ⟨h2, by rw [HZ.out.2]; exact HCB.out _ (Nat.le_refl _), ?_, HI.out.2.2⟩
        rw [← h1]
        exact HI.out.1)
      clear HI HZ
      go_wp2
      go_ret
      exact ⟨Va, nn, Vc, rfl, HE.out.1, HE.out.2.1, by rw [HB.out]; exact HE.out.2.2.1, by rw [HB.out]; exact HE.out.2.2.2⟩
end
end
section
section
open Go.RowKit Go.Shelf
set_option maxRecDepth 100000
theorem srt_one {o : Nat} : ∀ {L : List Pk}, L.length < 2 → Srt o L
  | [], _ => List.Pairwise.nil
  | [a], _ => List.pairwise_singleton _ _
  | _ :: _ :: _, h => by simp at h; omega
theorem RkR.take {o h : Nat} {w : World} {A : Option Addr} {L : List Pk} (H : RkR o w A L) : RkR o w A (L.take h) := fun i x hx => by
  refine H i x ?_
  rw [List.getElem?_take] at hx
  split at hx
  · exact hx
  · cases hx
theorem RkR.drop {o h g q : Nat} {w : World} {L : List Pk} (H : RkR o w (some ⟨g, q, none⟩) L) : RkR o w (some ⟨g, q + h * 10, none⟩) (L.drop h) := fun i x hx => by
  rw [List.getElem?_drop] at hx
  obtain ⟨g', q', h1, h2, h3⟩ := H (h + i) x hx
  injection h1 with h1
  injection h1 with h4 h5 h6
  subst h4 h5
  refine ⟨_, _, rfl, h2, ?_⟩
  rw [show q + h * 10 + i * 10 = q + (h + i) * 10 by rw [Nat.add_mul]; omega]
  exact h3
set_option maxHeartbeats 8000000 in
theorem rsort_any (o : Nat) : ∀ (n : Nat) (XS : List Pk) (pa : Option Addr) (ca : Nat) (u : World), XS.length = n → n ≤ ca → n ≤ 13000000 → RkR o u pa XS →
    Calls Try.prog 32 #[.slice pa n ca] u fun e w' => ∃ (V : Option Addr) (c : Nat) (XZ : List Pk), e = .returned (.slice V n c) ∧ RkR o w' V XZ ∧ XZ.Perm (XS) ∧ Srt o XZ ∧ Below u.heap.size u w' := by
  intro n
  induction n using Nat.strongRecOn with
  | _ n ih =>
  intro XS pa ca u hl hca hn hR
  by_cases h2 : n < 2
  · have hE : Hid (RkR o u pa XS ∧ Srt o XS) := Lib.hid ⟨hR, srt_one (by omega)⟩
    have h2I : (n : Int) < 2 := by omega
    clear hR hl ih
    go_enter Try.func32, Try.ntmps32
    go_wp2
    go_ret
    exact ⟨pa, ca, XS, rfl, hE.out.1, List.Perm.refl _, hE.out.2, Below.refl _ _⟩
  · obtain ⟨h, hh⟩ : ∃ h, n / 2 = h := ⟨_, rfl⟩
    obtain ⟨k, hk⟩ : ∃ k, n - h = k := ⟨_, rfl⟩
    have hq : (n : Int).tdiv 2 = (h : Int) := by rw [Int.tdiv_eq_ediv_of_nonneg (by omega)]; omega
    obtain ⟨x, hx⟩ : ∃ x, XS[0]? = some x := ⟨_, List.getElem?_eq_getElem (by omega)⟩
    obtain ⟨g, q, rfl, hgl, _⟩ := hR 0 x hx
    have S1 : Hid (∀ w, Below u.heap.size u w → Calls Try.prog 32 #[.slice (some ⟨g, q, none⟩) h ca] w fun e w' => ∃ (V : Option Addr) (c : Nat) (XZ : List Pk), e = .returned (.slice V h c) ∧ RkR o w' V XZ ∧ XZ.Perm (XS.take h) ∧ Srt o XZ ∧ Below w.heap.size w w') := Lib.hid (fun w hw => ih h (by omega) (XS.take h) _ ca w (by rw [List.length_take]; omega) (by omega) (by omega) (hR.below hw).take)
    have S2 : Hid (∀ w, Below u.heap.size u w → Calls Try.prog 32 #[.slice (some ⟨g, q + h * 10, none⟩) k (ca - h)] w fun e w' => ∃ (V : Option Addr) (c : Nat) (XZ : List Pk), e = .returned (.slice V k c) ∧ RkR o w' V XZ ∧ XZ.Perm (XS.drop h) ∧ Srt o XZ ∧ Below w.heap.size w w') := Lib.hid (fun w hw => ih k (by omega) (XS.drop h) _ (ca - h) w (by rw [List.length_drop]; omega) (by omega) (by omega) (hR.below hw).drop)
    have M3 : Hid (∀ (V1 V2 : Option Addr) (c1 c2 : Nat) (L1 L2 : List Pk) w, L1.Perm (XS.take h) → L2.Perm (XS.drop h) → Srt o L1 → Srt o L2 → RkR o w V1 L1 → RkR o w V2 L2 → Calls Try.prog 47 #[.slice V1 h c1, .slice V2 k c2] w fun e w' => ∃ (V : Option Addr) (c : Nat) (XZ : List Pk), e = .returned (.slice V n c) ∧ RkR o w' V XZ ∧ XZ.Perm (XS) ∧ Srt o XZ ∧ Below w.heap.size w w') := Lib.hid (fun V1 V2 c1 c2 L1 L2 w p1 p2 s1 s2 r1 r2 => by
      refine (rmerge_any o L1 L2 V1 V2 h k c1 c2 w (by rw [p1.length_eq, List.length_take]; omega) (by rw [p2.length_eq, List.length_drop]; omega) r1 r2 (by omega)).mono ?_
      rintro e w' ⟨V, c, rfl, h1, h3⟩
      refine ⟨V, c, _, by rw [show h + k = n by omega], h1, ?_, mg_srt s1 s2, h3⟩
      refine (List.merge_perm_append _).trans ((p1.append p2).trans ?_)
      rw [List.take_append_drop])
    have hhI : (0 : Int) ≤ (h : Int) ∧ (h : Int) ≤ (n : Int) ∧ (h : Int) ≤ (ca : Int) ∧ (n : Int) ≤ (ca : Int) := by omega
    have hne : ¬ ca = h := by omega
    have hnI : ¬ (n : Int) < 2 ∧ (n : Int) ≤ 13000000 := by omega
    have hhc : h ≤ ca ∧ h ≤ n ∧ n ≤ ca := by omega
    have hkn : n - h = k := hk
    have HLL : Hid (h + k = n) := Lib.hid (by omega)
    have HQ := Lib.hid hq
    clear hR hl ih hx hh hk hgl hq
    go_enter Try.func32, Try.ntmps32
    go_upto_region 3 with fail
    obtain ⟨VL, hVL⟩ : ∃ VL : (Option Addr × Nat × List Pk) × (Option Addr × Nat × List Pk) × (Option Addr × Nat × List Pk) → List (Nat × Nat × Value), VL = fun z => [(0, 7, .slice (some ⟨g, q, none⟩) n ca), (1, 8, .slice (some ⟨g, q, none⟩) n ca), (2, 9, .int .i64 (n : Int)), (3, 10, .int .i64 (h : Int)), (4, 11, .slice (some ⟨g, q, none⟩) h ca), (5, 12, .slice z.1.1 h z.1.2.1), (6, 13, .slice (some ⟨g, q, none⟩) n ca), (7, 14, .slice (some ⟨g, q, none⟩) n ca), (8, 15, .int .i64 (n : Int)), (9, 16, .int .i64 (h : Int)), (10, 17, .slice (some ⟨g, q + h * 10, none⟩) k (ca - h)), (11, 18, .slice z.2.1.1 k z.2.1.2.1), (12, 19, .slice z.2.2.1 n z.2.2.2.1), (13, 2, .slice z.2.2.1 n z.2.2.2.1)] := ⟨_, rfl⟩
    have hok : ∀ z, manyOk 20 (VL z) := fun z => by rw [hVL]; exact okB_ok rfl
    have HVL := Lib.hid hVL
    have hvi : ∀ z, ∀ x ∈ VL z, x.1 < 14 := fun z => by rw [hVL]; exact ltB_ok rfl
    have HOK := Lib.hid hok
    have HVI := Lib.hid hvi
    clear hVL hok hvi
    refine (wpIn_wide (n := 9)).1 (regionIn_many (N := 20) (w := _) VL (fun L z w' => (Below u.heap.size u w' ∧ (L 5 = true → (RkR o w' z.1.1 z.1.2.2 ∧ z.1.2.2.Perm (XS.take h) ∧ Srt o z.1.2.2)) ∧ (L 11 = true → (RkR o w' z.2.1.1 z.2.1.2.2 ∧ z.2.1.2.2.Perm (XS.drop h) ∧ Srt o z.2.1.2.2))) ∧ (bif L 12 then ((RkR o w' z.2.2.1 z.2.2.2.2 ∧ z.2.2.2.2.Perm (XS) ∧ Srt o z.2.2.2.2)) else Hid True)) [(0, .slice (some ⟨g, q, none⟩) n ca)] (by kernel_rfl) (by kernel_rfl) rfl (by simp only [List.forall_mem_cons, List.not_mem_nil, false_imp_iff, implies_true, and_true]; exact rfl) HVI.out ((none, 0, []), (none, 0, []), (none, 0, [])) ?start ?step ?fin)
    case start => exact ⟨⟨(Below.refl _ _).drew, fun h => (by cases h), fun h => (by cases h)⟩, Lib.hid trivial⟩
    case step =>
      intro gg_ hgN hgF ii_ hii_ L z w' hph hs hu
      obtain ⟨hcm, hph⟩ := hph
      have hF0 := hgF (0, .slice (some ⟨g, q, none⟩) n ca) (by simp)
      have hL := hu.1
      have hii_ : ii_ < 14 := hii_
      clear hgF
      obtain rfl | rfl | rfl | rfl | rfl | rfl | rfl | rfl | rfl | rfl | rfl | rfl | rfl | rfl := (by omega : ii_ = 0 ∨ ii_ = 1 ∨ ii_ = 2 ∨ ii_ = 3 ∨ ii_ = 4 ∨ ii_ = 5 ∨ ii_ = 6 ∨ ii_ = 7 ∨ ii_ = 8 ∨ ii_ = 9 ∨ ii_ = 10 ∨ ii_ = 11 ∨ ii_ = 12 ∨ ii_ = 13)
      · skip
        have n5 : L 5 = false := not_yet hL fun h => shut_at hs 4 0 (by kernel_rfl) (shut_at hs 5 4 (by kernel_rfl) (h))
        have n11 : L 11 = false := not_yet hL fun h => shut_at hs 4 0 (by kernel_rfl) (shut_at hs 5 4 (by kernel_rfl) (shut_at hs 11 5 (by kernel_rfl) (h)))
        have n12 : L 12 = false := not_yet hL fun h => shut_at hs 4 0 (by kernel_rfl) (shut_at hs 5 4 (by kernel_rfl) (shut_at hs 12 5 (by kernel_rfl) (h)))
        have n13 : L 13 = false := not_yet hL fun h => shut_at hs 13 0 (by kernel_rfl) (h)
        try simp only [n5, n11, n12, n13, hL, cond_true, cond_false] at hph
        have e0 : (many gg_ L (VL z))[0]?.getD undef = .slice (some ⟨g, q, none⟩) n ca := many_out3 hgN (HOK.out z) (by rw [HVL.out]; rfl) hF0
        refine opIn_run (v := .slice (some ⟨g, q, none⟩) n ca) (w' := w') rfl rfl (fun c h => by cases h) (fun _ => trivial) ?_ ⟨z, by exact many_put3 (HOK.out _) (by rw [HVL.out]; rfl) hL, hcm, by simp only [upd, n5, n11, n12, n13, hL, Nat.reduceBEq, cond_true, cond_false]; exact hph⟩
        go_simp
      · skip
        have n5 : L 5 = false := not_yet hL fun h => shut_at hs 2 1 (by kernel_rfl) (shut_at hs 3 2 (by kernel_rfl) (shut_at hs 4 3 (by kernel_rfl) (shut_at hs 5 4 (by kernel_rfl) (h))))
        have n11 : L 11 = false := not_yet hL fun h => shut_at hs 2 1 (by kernel_rfl) (shut_at hs 3 2 (by kernel_rfl) (shut_at hs 4 3 (by kernel_rfl) (shut_at hs 5 4 (by kernel_rfl) (shut_at hs 11 5 (by kernel_rfl) (h)))))
        have n12 : L 12 = false := not_yet hL fun h => shut_at hs 2 1 (by kernel_rfl) (shut_at hs 3 2 (by kernel_rfl) (shut_at hs 4 3 (by kernel_rfl) (shut_at hs 5 4 (by kernel_rfl) (shut_at hs 12 5 (by kernel_rfl) (h)))))
        have n13 : L 13 = false := not_yet hL fun h => shut_at hs 13 1 (by kernel_rfl) (h)
        try simp only [n5, n11, n12, n13, hL, cond_true, cond_false] at hph
        have e0 : (many gg_ L (VL z))[0]?.getD undef = .slice (some ⟨g, q, none⟩) n ca := many_out3 hgN (HOK.out z) (by rw [HVL.out]; rfl) hF0
        refine opIn_run (v := .slice (some ⟨g, q, none⟩) n ca) (w' := w') rfl rfl (fun c h => by cases h) (fun _ => trivial) ?_ ⟨z, by exact many_put3 (HOK.out _) (by rw [HVL.out]; rfl) hL, hcm, by simp only [upd, n5, n11, n12, n13, hL, Nat.reduceBEq, cond_true, cond_false]; exact hph⟩
        go_simp
      · skip
        have y1 : L 1 = true := up_at hu 1 (by kernel_rfl)
        have n5 : L 5 = false := not_yet hL fun h => shut_at hs 3 2 (by kernel_rfl) (shut_at hs 4 3 (by kernel_rfl) (shut_at hs 5 4 (by kernel_rfl) (h)))
        have n11 : L 11 = false := not_yet hL fun h => shut_at hs 3 2 (by kernel_rfl) (shut_at hs 4 3 (by kernel_rfl) (shut_at hs 5 4 (by kernel_rfl) (shut_at hs 11 5 (by kernel_rfl) (h))))
        have n12 : L 12 = false := not_yet hL fun h => shut_at hs 3 2 (by kernel_rfl) (shut_at hs 4 3 (by kernel_rfl) (shut_at hs 5 4 (by kernel_rfl) (shut_at hs 12 5 (by kernel_rfl) (h))))
        have n13 : L 13 = false := not_yet hL fun h => shut_at hs 13 2 (by kernel_rfl) (h)
        try simp only [y1, n5, n11, n12, n13, hL, cond_true, cond_false] at hph
        have e8 : (many gg_ L (VL z))[8]?.getD undef = .slice (some ⟨g, q, none⟩) n ca := many_eval3 hgN (HOK.out z) (by rw [HVL.out]; rfl) y1
        refine opIn_run (v := .int .i64 (n : Int)) (w' := w') rfl rfl (fun c h => by cases h) (fun _ => trivial) ?_ ⟨z, by exact many_put3 (HOK.out _) (by rw [HVL.out]; rfl) hL, hcm, by simp only [upd, y1, n5, n11, n12, n13, hL, Nat.reduceBEq, cond_true, cond_false]; exact hph⟩
        go_simp
      · skip
        have y2 : L 2 = true := up_at hu 2 (by kernel_rfl)
        have n5 : L 5 = false := not_yet hL fun h => shut_at hs 4 3 (by kernel_rfl) (shut_at hs 5 4 (by kernel_rfl) (h))
        have n11 : L 11 = false := not_yet hL fun h => shut_at hs 4 3 (by kernel_rfl) (shut_at hs 5 4 (by kernel_rfl) (shut_at hs 11 5 (by kernel_rfl) (h)))
        have n12 : L 12 = false := not_yet hL fun h => shut_at hs 4 3 (by kernel_rfl) (shut_at hs 5 4 (by kernel_rfl) (shut_at hs 12 5 (by kernel_rfl) (h)))
        have n13 : L 13 = false := not_yet hL fun h => shut_at hs 13 3 (by kernel_rfl) (h)
        try simp only [y2, n5, n11, n12, n13, hL, cond_true, cond_false] at hph
        have e9 : (many gg_ L (VL z))[9]?.getD undef = .int .i64 (n : Int) := many_eval3 hgN (HOK.out z) (by rw [HVL.out]; rfl) y2
        refine opIn_run (v := .int .i64 (h : Int)) (w' := w') rfl rfl (fun c h => by cases h) (fun _ => trivial) ?_ ⟨z, by exact many_put3 (HOK.out _) (by rw [HVL.out]; rfl) hL, hcm, by simp only [upd, y2, n5, n11, n12, n13, hL, Nat.reduceBEq, cond_true, cond_false]; exact hph⟩
        have hq := HQ.out
        have hb9 : -9223372036854775808 ≤ (h : Int) ∧ (h : Int) ≤ 9223372036854775807 := by omega
        go_simp
        exact IntWalk.i64_in _ hb9
      · skip
        have y0 : L 0 = true := up_at hu 0 (by kernel_rfl)
        have y3 : L 3 = true := up_at hu 3 (by kernel_rfl)
        have n5 : L 5 = false := not_yet hL fun h => shut_at hs 5 4 (by kernel_rfl) (h)
        have n11 : L 11 = false := not_yet hL fun h => shut_at hs 5 4 (by kernel_rfl) (shut_at hs 11 5 (by kernel_rfl) (h))
        have n12 : L 12 = false := not_yet hL fun h => shut_at hs 5 4 (by kernel_rfl) (shut_at hs 12 5 (by kernel_rfl) (h))
        have n13 : L 13 = false := not_yet hL fun h => shut_at hs 13 4 (by kernel_rfl) (h)
        try simp only [y0, y3, n5, n11, n12, n13, hL, cond_true, cond_false] at hph
        have e7 : (many gg_ L (VL z))[7]?.getD undef = .slice (some ⟨g, q, none⟩) n ca := many_eval3 hgN (HOK.out z) (by rw [HVL.out]; rfl) y0
        have e10 : (many gg_ L (VL z))[10]?.getD undef = .int .i64 (h : Int) := many_eval3 hgN (HOK.out z) (by rw [HVL.out]; rfl) y3
        refine opIn_run (v := .slice (some ⟨g, q, none⟩) h ca) (w' := w') rfl rfl (fun c h => by cases h) (fun _ => trivial) ?_ ⟨z, by exact many_put3 (HOK.out _) (by rw [HVL.out]; rfl) hL, hcm, by simp only [upd, y0, y3, n5, n11, n12, n13, hL, Nat.reduceBEq, cond_true, cond_false]; exact hph⟩
        go_simp
      · skip
        have y4 : L 4 = true := up_at hu 4 (by kernel_rfl)
        have n11 : L 11 = false := not_yet hL fun h => shut_at hs 11 5 (by kernel_rfl) (h)
        have n12 : L 12 = false := not_yet hL fun h => shut_at hs 12 5 (by kernel_rfl) (h)
        have n13 : L 13 = false := not_yet hL fun h => shut_at hs 13 5 (by kernel_rfl) (h)
        try simp only [y4, n11, n12, n13, hL, cond_true, cond_false] at hph
        have e11 : (many gg_ L (VL z))[11]?.getD undef = .slice (some ⟨g, q, none⟩) h ca := many_eval3 hgN (HOK.out z) (by rw [HVL.out]; rfl) y4
        refine opIn_call (f := 32) (args := #[.slice (some ⟨g, q, none⟩) h ca]) (w' := w') rfl rfl (fun c h => by cases h) (fun _ => trivial) rfl (by go_simp) ((callsIn_wide.2 (S1.out w' hcm.1)).mono ?_)
        rintro e w2 ⟨V_, c_, L_, rfl, h1_, h2_, h3_, hb⟩
        exact ⟨_, rfl, ((V_, c_, L_), z.2), by rw [show many gg_ L (VL z) = many gg_ L (VL ((V_, c_, L_), z.2)) from by rw [HVL.out]; simp only [many, y4, n11, n12, n13, hL, cond_false, cond_true]]; exact many_put3 (HOK.out _) (by rw [HVL.out]; rfl) hL, ⟨hcm.1.trans (hb.mono hcm.1.size), fun _ => ⟨h1_, h2_, h3_⟩, fun h => ⟨(hcm.2.2 h).1.below hb, (hcm.2.2 h).2⟩⟩, by simp only [upd, y4, n11, n12, n13, hL, Nat.reduceBEq, cond_true, cond_false]; exact hph⟩
      · skip
        have n11 : L 11 = false := not_yet hL fun h => shut_at hs 10 6 (by kernel_rfl) (shut_at hs 11 10 (by kernel_rfl) (h))
        have n12 : L 12 = false := not_yet hL fun h => shut_at hs 10 6 (by kernel_rfl) (shut_at hs 11 10 (by kernel_rfl) (shut_at hs 12 11 (by kernel_rfl) (h)))
        have n13 : L 13 = false := not_yet hL fun h => shut_at hs 13 6 (by kernel_rfl) (h)
        try simp only [n11, n12, n13, hL, cond_true, cond_false] at hph
        have e0 : (many gg_ L (VL z))[0]?.getD undef = .slice (some ⟨g, q, none⟩) n ca := many_out3 hgN (HOK.out z) (by rw [HVL.out]; rfl) hF0
        refine opIn_run (v := .slice (some ⟨g, q, none⟩) n ca) (w' := w') rfl rfl (fun c h => by cases h) (fun _ => trivial) ?_ ⟨z, by exact many_put3 (HOK.out _) (by rw [HVL.out]; rfl) hL, hcm, by simp only [upd, n11, n12, n13, hL, Nat.reduceBEq, cond_true, cond_false]; exact hph⟩
        go_simp
      · skip
        have n11 : L 11 = false := not_yet hL fun h => shut_at hs 8 7 (by kernel_rfl) (shut_at hs 9 8 (by kernel_rfl) (shut_at hs 10 9 (by kernel_rfl) (shut_at hs 11 10 (by kernel_rfl) (h))))
        have n12 : L 12 = false := not_yet hL fun h => shut_at hs 8 7 (by kernel_rfl) (shut_at hs 9 8 (by kernel_rfl) (shut_at hs 10 9 (by kernel_rfl) (shut_at hs 11 10 (by kernel_rfl) (shut_at hs 12 11 (by kernel_rfl) (h)))))
        have n13 : L 13 = false := not_yet hL fun h => shut_at hs 13 7 (by kernel_rfl) (h)
        try simp only [n11, n12, n13, hL, cond_true, cond_false] at hph
        have e0 : (many gg_ L (VL z))[0]?.getD undef = .slice (some ⟨g, q, none⟩) n ca := many_out3 hgN (HOK.out z) (by rw [HVL.out]; rfl) hF0
        refine opIn_run (v := .slice (some ⟨g, q, none⟩) n ca) (w' := w') rfl rfl (fun c h => by cases h) (fun _ => trivial) ?_ ⟨z, by exact many_put3 (HOK.out _) (by rw [HVL.out]; rfl) hL, hcm, by simp only [upd, n11, n12, n13, hL, Nat.reduceBEq, cond_true, cond_false]; exact hph⟩
        go_simp
      · skip
        have y7 : L 7 = true := up_at hu 7 (by kernel_rfl)
        have n11 : L 11 = false := not_yet hL fun h => shut_at hs 9 8 (by kernel_rfl) (shut_at hs 10 9 (by kernel_rfl) (shut_at hs 11 10 (by kernel_rfl) (h)))
        have n12 : L 12 = false := not_yet hL fun h => shut_at hs 9 8 (by kernel_rfl) (shut_at hs 10 9 (by kernel_rfl) (shut_at hs 11 10 (by kernel_rfl) (shut_at hs 12 11 (by kernel_rfl) (h))))
        have n13 : L 13 = false := not_yet hL fun h => shut_at hs 13 8 (by kernel_rfl) (h)
        try simp only [y7, n11, n12, n13, hL, cond_true, cond_false] at hph
        have e14 : (many gg_ L (VL z))[14]?.getD undef = .slice (some ⟨g, q, none⟩) n ca := many_eval3 hgN (HOK.out z) (by rw [HVL.out]; rfl) y7
        refine opIn_run (v := .int .i64 (n : Int)) (w' := w') rfl rfl (fun c h => by cases h) (fun _ => trivial) ?_ ⟨z, by exact many_put3 (HOK.out _) (by rw [HVL.out]; rfl) hL, hcm, by simp only [upd, y7, n11, n12, n13, hL, Nat.reduceBEq, cond_true, cond_false]; exact hph⟩
        go_simp
      · skip
        have y8 : L 8 = true := up_at hu 8 (by kernel_rfl)
        have n11 : L 11 = false := not_yet hL fun h => shut_at hs 10 9 (by kernel_rfl) (shut_at hs 11 10 (by kernel_rfl) (h))
        have n12 : L 12 = false := not_yet hL fun h => shut_at hs 10 9 (by kernel_rfl) (shut_at hs 11 10 (by kernel_rfl) (shut_at hs 12 11 (by kernel_rfl) (h)))
        have n13 : L 13 = false := not_yet hL fun h => shut_at hs 13 9 (by kernel_rfl) (h)
        try simp only [y8, n11, n12, n13, hL, cond_true, cond_false] at hph
        have e15 : (many gg_ L (VL z))[15]?.getD undef = .int .i64 (n : Int) := many_eval3 hgN (HOK.out z) (by rw [HVL.out]; rfl) y8
        refine opIn_run (v := .int .i64 (h : Int)) (w' := w') rfl rfl (fun c h => by cases h) (fun _ => trivial) ?_ ⟨z, by exact many_put3 (HOK.out _) (by rw [HVL.out]; rfl) hL, hcm, by simp only [upd, y8, n11, n12, n13, hL, Nat.reduceBEq, cond_true, cond_false]; exact hph⟩
        have hq := HQ.out
        have hb9 : -9223372036854775808 ≤ (h : Int) ∧ (h : Int) ≤ 9223372036854775807 := by omega
        go_simp
        exact IntWalk.i64_in _ hb9
      · skip
        have y6 : L 6 = true := up_at hu 6 (by kernel_rfl)
        have y9 : L 9 = true := up_at hu 9 (by kernel_rfl)
        have n11 : L 11 = false := not_yet hL fun h => shut_at hs 11 10 (by kernel_rfl) (h)
        have n12 : L 12 = false := not_yet hL fun h => shut_at hs 11 10 (by kernel_rfl) (shut_at hs 12 11 (by kernel_rfl) (h))
        have n13 : L 13 = false := not_yet hL fun h => shut_at hs 13 10 (by kernel_rfl) (h)
        try simp only [y6, y9, n11, n12, n13, hL, cond_true, cond_false] at hph
        have e13 : (many gg_ L (VL z))[13]?.getD undef = .slice (some ⟨g, q, none⟩) n ca := many_eval3 hgN (HOK.out z) (by rw [HVL.out]; rfl) y6
        have e16 : (many gg_ L (VL z))[16]?.getD undef = .int .i64 (h : Int) := many_eval3 hgN (HOK.out z) (by rw [HVL.out]; rfl) y9
        refine opIn_run (v := .slice (some ⟨g, q + h * 10, none⟩) k (ca - h)) (w' := w') rfl rfl (fun c h => by cases h) (fun _ => trivial) ?_ ⟨z, by exact many_put3 (HOK.out _) (by rw [HVL.out]; rfl) hL, hcm, by simp only [upd, y6, y9, n11, n12, n13, hL, Nat.reduceBEq, cond_true, cond_false]; exact hph⟩
        go_simp
      · skip
        have y5 : L 5 = true := up_at hu 5 (by kernel_rfl)
        have y10 : L 10 = true := up_at hu 10 (by kernel_rfl)
        have n12 : L 12 = false := not_yet hL fun h => shut_at hs 12 11 (by kernel_rfl) (h)
        have n13 : L 13 = false := not_yet hL fun h => shut_at hs 13 11 (by kernel_rfl) (h)
        try simp only [y5, y10, n12, n13, hL, cond_true, cond_false] at hph
        have e17 : (many gg_ L (VL z))[17]?.getD undef = .slice (some ⟨g, q + h * 10, none⟩) k (ca - h) := many_eval3 hgN (HOK.out z) (by rw [HVL.out]; rfl) y10
        refine opIn_call (f := 32) (args := #[.slice (some ⟨g, q + h * 10, none⟩) k (ca - h)]) (w' := w') rfl rfl (fun c h => by cases h) (fun _ => trivial) rfl (by go_simp) ((callsIn_wide.2 (S2.out w' hcm.1)).mono ?_)
        rintro e w2 ⟨V_, c_, L_, rfl, h1_, h2_, h3_, hb⟩
        exact ⟨_, rfl, (z.1, (V_, c_, L_), z.2.2), by rw [show many gg_ L (VL z) = many gg_ L (VL (z.1, (V_, c_, L_), z.2.2)) from by rw [HVL.out]; simp only [many, y5, y10, n12, n13, hL, cond_false, cond_true]]; exact many_put3 (HOK.out _) (by rw [HVL.out]; rfl) hL, ⟨hcm.1.trans (hb.mono hcm.1.size), fun h => ⟨(hcm.2.1 h).1.below hb, (hcm.2.1 h).2⟩, fun _ => ⟨h1_, h2_, h3_⟩⟩, by simp only [upd, y5, y10, n12, n13, hL, Nat.reduceBEq, cond_true, cond_false]; exact hph⟩
      · skip
        have y5 : L 5 = true := up_at hu 5 (by kernel_rfl)
        have y11 : L 11 = true := up_at hu 11 (by kernel_rfl)
        have n13 : L 13 = false := not_yet hL fun h => shut_at hs 13 12 (by kernel_rfl) (h)
        try simp only [y5, y11, n13, hL, cond_true, cond_false] at hph
        have e12 : (many gg_ L (VL z))[12]?.getD undef = .slice z.1.1 h z.1.2.1 := many_eval3 hgN (HOK.out z) (by rw [HVL.out]; rfl) y5
        have e18 : (many gg_ L (VL z))[18]?.getD undef = .slice z.2.1.1 k z.2.1.2.1 := many_eval3 hgN (HOK.out z) (by rw [HVL.out]; rfl) y11
        refine opIn_call (f := 47) (args := #[.slice z.1.1 h z.1.2.1, .slice z.2.1.1 k z.2.1.2.1]) (w' := w') rfl rfl (fun c h => by cases h) (fun _ => trivial) rfl (by go_simp) ((callsIn_wide.2 (M3.out z.1.1 z.2.1.1 z.1.2.1 z.2.1.2.1 z.1.2.2 z.2.1.2.2 w' (hcm.2.1 y5).2.1 (hcm.2.2 y11).2.1 (hcm.2.1 y5).2.2 (hcm.2.2 y11).2.2 (hcm.2.1 y5).1 (hcm.2.2 y11).1)).mono ?_)
        rintro e w2 ⟨V_, c_, L_, rfl, h1_, h2_, h3_, hb⟩
        exact ⟨_, rfl, (z.1, z.2.1, (V_, c_, L_)), by rw [show many gg_ L (VL z) = many gg_ L (VL (z.1, z.2.1, (V_, c_, L_))) from by rw [HVL.out]; simp only [many, y5, y11, n13, hL, cond_false, cond_true]]; exact many_put3 (HOK.out _) (by rw [HVL.out]; rfl) hL, ⟨hcm.1.trans (hb.mono hcm.1.size), fun h => ⟨(hcm.2.1 h).1.below hb, (hcm.2.1 h).2⟩, fun h => ⟨(hcm.2.2 h).1.below hb, (hcm.2.2 h).2⟩⟩, by simp only [upd, y5, y11, n13, hL, Nat.reduceBEq, cond_true, cond_false]; exact ⟨h1_, h2_, h3_⟩⟩
      · skip
        have y0 : L 0 = true := up_at hu 0 (by kernel_rfl)
        have y1 : L 1 = true := up_at hu 1 (by kernel_rfl)
        have y2 : L 2 = true := up_at hu 2 (by kernel_rfl)
        have y3 : L 3 = true := up_at hu 3 (by kernel_rfl)
        have y4 : L 4 = true := up_at hu 4 (by kernel_rfl)
        have y5 : L 5 = true := up_at hu 5 (by kernel_rfl)
        have y6 : L 6 = true := up_at hu 6 (by kernel_rfl)
        have y7 : L 7 = true := up_at hu 7 (by kernel_rfl)
        have y8 : L 8 = true := up_at hu 8 (by kernel_rfl)
        have y9 : L 9 = true := up_at hu 9 (by kernel_rfl)
        have y10 : L 10 = true := up_at hu 10 (by kernel_rfl)
        have y11 : L 11 = true := up_at hu 11 (by kernel_rfl)
        have y12 : L 12 = true := up_at hu 12 (by kernel_rfl)
        try simp only [y0, y1, y2, y3, y4, y5, y6, y7, y8, y9, y10, y11, y12, hL, cond_true, cond_false] at hph
        have e19 : (many gg_ L (VL z))[19]?.getD undef = .slice z.2.2.1 n z.2.2.2.1 := many_eval3 hgN (HOK.out z) (by rw [HVL.out]; rfl) y12
        refine opIn_run (v := .slice z.2.2.1 n z.2.2.2.1) (w' := w') rfl rfl (fun c h => by cases h) (fun _ => trivial) ?_ ⟨z, by exact many_put3 (HOK.out _) (by rw [HVL.out]; rfl) hL, hcm, by simp only [upd, y0, y1, y2, y3, y4, y5, y6, y7, y8, y9, y10, y11, y12, hL, Nat.reduceBEq, cond_true, cond_false]; exact hph⟩
        go_simp
    case fin =>
      intro L z w' hall hph
      obtain ⟨hcm, hph⟩ := hph
      have l12 := hall 12 (by decide)
      simp only [l12, cond_true] at hph
      clear l12
      rw [HVL.out]
      dsimp only [manyL, List.set_cons_zero, List.set_cons_succ]
      clear hall HVL HOK HVI
      have HBu := hcm.1
      go_wp2
      go_ret
      exact ⟨z.2.2.1, ⟨z.2.2.2.1, rfl⟩, z.2.2.2.2, hph.1, hph.2.1, hph.2.2, HBu⟩
end
section
open Go.RowKit Go.Shelf
set_option maxRecDepth 100000
attribute [local go_sem] Oper.semAt_some
attribute [local go_sem ↓] appSem_eq
theorem KpT.own {T e : TypeId} {W w : World} {N s n : Nat} {V : Value} {xs : List Value} (h : KpT T W w) (ho : W.ownsRow N e s V n xs) (he : e ≠ T) : w.ownsRow N e s V n xs := by
  refine ⟨ho.1, ?_⟩
  rcases ho.2 with h1 | ⟨g, cap, cur, hv, hg, hh, hr⟩
  · exact .inl h1
  · exact .inr ⟨g, cap, cur, hv, hg, h.k _ _ _ hh he, hr⟩
theorem flat5 : ∀ (L : List Pk) (i : Nat) (x : Pk), L[i]? = some x → (L.flatMap Pk.spv)[i * 5]? = some (.int .i64 x.rs) ∧ (L.flatMap Pk.spv)[i * 5 + 1]? = some (.int .i64 x.cp) ∧ (L.flatMap Pk.spv)[i * 5 + 2]? = some (.int .i64 x.pc) ∧ (L.flatMap Pk.spv)[i * 5 + 3]? = some (.int .i64 x.ac) ∧ (L.flatMap Pk.spv)[i * 5 + 4]? = some (.int .i64 x.dn)
  | [], i, x, h => by simp at h
  | y :: l, 0, x, h => by
    simp at h
    subst h
    exact ⟨rfl, rfl, rfl, rfl, rfl⟩
  | y :: l, i + 1, x, h => by
    have := flat5 l i x (by simpa using h)
    rw [List.flatMap_cons, Nat.succ_mul]
    obtain ⟨a, b, c, d, e⟩ := this
    refine ⟨?_, ?_, ?_, ?_, ?_⟩ <;> (rw [List.getElem?_append_right (by simp)]; simp only [List.length_cons, List.length_nil])
    · rw [show i * 5 + 5 - 5 = i * 5 by omega]; exact a
    · rw [show i * 5 + 5 + 1 - 5 = i * 5 + 1 by omega]; exact b
    · rw [show i * 5 + 5 + 2 - 5 = i * 5 + 2 by omega]; exact c
    · rw [show i * 5 + 5 + 3 - 5 = i * 5 + 3 by omega]; exact d
    · rw [show i * 5 + 5 + 4 - 5 = i * 5 + 4 by omega]; exact e
theorem own_sp {w : World} {B c n : Nat} {A : Option Addr} {L : List Pk} (h : w.ownsRow B 75 5 (.slice A n c) n (L.flatMap Pk.spv)) (hl : L.length = n) {i : Nat} {x : Pk} (e : L[i]? = some x) : ∃ g, A = some ⟨g, 0, none⟩ ∧ w.cell? ⟨g, i * 5, none⟩ = some (.int .i64 x.rs) ∧ w.cell? ⟨g, i * 5 + 1, none⟩ = some (.int .i64 x.cp) ∧ w.cell? ⟨g, i * 5 + 2, none⟩ = some (.int .i64 x.pc) ∧ w.cell? ⟨g, i * 5 + 3, none⟩ = some (.int .i64 x.ac) ∧ w.cell? ⟨g, i * 5 + 4, none⟩ = some (.int .i64 x.dn) := by
  have hi : i < L.length := (List.getElem?_eq_some_iff.1 e).1
  obtain ⟨g, c', hV, _⟩ := own_form h (by omega)
  cases hV
  obtain ⟨k0, k1, k2, k3, k4⟩ := flat5 L i x e
  have f0 := h.cellAt (i * 5) (by omega)
  have f1 := h.cellAt (i * 5 + 1) (by omega)
  have f2 := h.cellAt (i * 5 + 2) (by omega)
  have f3 := h.cellAt (i * 5 + 3) (by omega)
  have f4 := h.cellAt (i * 5 + 4) (by omega)
  exact ⟨g, rfl, f0.trans k0, f1.trans k1, f2.trans k2, f3.trans k3, f4.trans k4⟩
set_option maxHeartbeats 16000000 in
theorem rlist_l {u0 u1 u2 u3 u4 u6 u11 u12 u13 u14 u15 u16 u17 u18 u19 u20 u21 u22 u23 u24 u25 u26 u27 u28 u29 u30 u31 u32 u33 u34 u35 u36 u37 u38 u39 u40 u41 u42 u43 u44 u45 u46 u47 u48 u49 u50 u51 u52 u53 u54 u55 u56 u57 u58 u59 u60 u61 u62 u63 u64 u65 u66 u67 u68 u69 u70 u71 u72 u73 u74 : Value} (pb m N NB n0 l o LV PR LY : Nat) (TX TY BW BH STY : Int) (RC SO EP : Bool) (SA : Option Addr) (SC : Nat) (SP : List Pk) (Va : Option Addr) (Vc : Nat) (ys : List Pk) (W : World)
    (HPB : Hid (W.heap[pb]? = some (.cells #[.int .i64 TX, .int .i64 TY, .int .i64 (LV : Int), .int .i64 BW, .int .i64 BH, .int .i64 (PR : Int), .int .i64 STY, .int .i64 (o : Int), .int .i64 (LY : Int), .bool RC, .bool SO, .bool EP] 30 (0, 0)))) (HS : Hid (W.ownsRow NB 75 5 (.slice SA m SC) m (SP.flatMap Pk.spv) ∧ SP.length = m)) (HO : Hid (W.ownsRow N 78 10 (.slice Va n0 Vc) n0 (ys.flatMap (encK o)) ∧ N ≤ W.heap.size))
    (ho : o < 5) (hm : n0 + m ≤ 13000000) {Q : Exit → Act → World → Prop}
    (hQ : ∀ (v23 v24 v25 v26 v27 v28 v29 v30 v31 v32 v33 v34 v35 v36 v37 v38 v39 v40 v41 v42 v43 v44 v45 v46 v47 v48 v49 v50 v51 v52 v53 v54 v55 v56 v57 : Value) (W' : World) (Va2 : Option Addr) (Vc2 : Nat), Hid (W'.ownsRow N 78 10 (.slice Va2 (n0 + m) Vc2) (n0 + m) ((ys ++ SP.map fun s => s.at l).flatMap (encK o)) ∧ KpT 78 W W' ∧ Below N W W') → Q .normal ⟨#[u0, u1, u2, u3, u4, .pointer (some ⟨pb, 0, none⟩), u6, .slice Va2 (n0 + m) Vc2, .slice SA m SC, .int .i64 (l : Int), .int .i64 (m : Int), u11, u12, u13, u14, u15, u16, u17, u18, u19, u20, u21, u22, v23, v24, v25, v26, v27, v28, v29, v30, v31, v32, v33, v34, v35, v36, v37, v38, v39, v40, v41, v42, v43, v44, v45, v46, v47, v48, v49, v50, v51, v52, v53, v54, v55, v56, v57, u58, u59, u60, u61, u62, u63, u64, u65, u66, u67, u68, u69, u70, u71, u72, u73, u74], []⟩ W') :
    (blkOf Try.f14 2).wp Try.prog Q ⟨#[u0, u1, u2, u3, u4, .pointer (some ⟨pb, 0, none⟩), u6, .slice Va n0 Vc, .slice SA m SC, .int .i64 (l : Int), .int .i64 0, u11, u12, u13, u14, u15, u16, u17, u18, u19, u20, u21, u22, u23, u24, u25, u26, u27, u28, u29, u30, u31, u32, u33, u34, u35, u36, u37, u38, u39, u40, u41, u42, u43, u44, u45, u46, u47, u48, u49, u50, u51, u52, u53, u54, u55, u56, u57, u58, u59, u60, u61, u62, u63, u64, u65, u66, u67, u68, u69, u70, u71, u72, u73, u74], []⟩ W := by
  obtain ⟨o_, ho_⟩ : ∃ o, blkOf Try.f14 2 = o := ⟨_, rfl⟩
  rw [ho_]
  conv at ho_ => lhs; whnf
  subst ho_
  have HQ := Lib.hid hQ
  have HNW : Hid (N ≤ W.heap.size) := Lib.hid HO.out.2
  clear hQ
  go_wp2_with fail
  go_loopg [7, 10] m (fun g a v wr => ∃ (i nn : Nat) (Va : Option Addr) (Vc : Nat) (zs : List Pk), i + g = m ∧ a = .slice Va nn Vc ∧ v = .int .i64 (i : Int) ∧ Hid (wr.ownsRow N 78 10 (.slice Va nn Vc) nn (zs.flatMap (encK o)) ∧ KpT 78 W wr ∧ Below N W wr) ∧ Hid (zs = ys ++ (SP.take i).map (fun s => s.at l) ∧ nn = n0 + i))
  case atStart => exact ⟨0, n0, Va, Vc, ys, by omega, rfl, rfl, Lib.hid ⟨HO.out.1, KpT.refl _ _, Below.refl _ _⟩, Lib.hid ⟨by simp, rfl⟩⟩
  case round =>
    obtain ⟨i, nn, Va, Vc, zs, hig, rfl, rfl, HI, HZ⟩ := hrel
    obtain ⟨wa, hwa⟩ : ∃ wa, wa = wr := ⟨wr, rfl⟩
    subst hwa
    have HNN : Hid (nn ≤ 20000000) := Lib.hid (by have := HZ.out.2; omega)
    by_cases him : i < m
    · obtain ⟨g1, rfl⟩ : ∃ g1, gk = g1 + 1 := ⟨gk - 1, by omega⟩
      have hiI : (i : Int) < (m : Int) := by omega
      obtain ⟨xs, hxs⟩ : ∃ x, SP[i]? = some x := ⟨_, List.getElem?_eq_getElem (by rw [HS.out.2]; exact him)⟩
      obtain ⟨sb, rfl, _⟩ := own_sp HS.out.1 HS.out.2 hxs
      have HZ2 : Hid (zs ++ [xs.at l] = ys ++ (SP.take (i + 1)).map (fun s => s.at l)) := Lib.hid (by rw [List.take_add_one, hxs, HZ.out.1]; simp)
      have hsc : ∀ w', KpT 78 W w' → w'.cell? ⟨sb, i * 5, none⟩ = some (.int .i64 xs.rs) ∧ w'.cell? ⟨sb, i * 5 + 1, none⟩ = some (.int .i64 xs.cp) ∧ w'.cell? ⟨sb, i * 5 + 2, none⟩ = some (.int .i64 xs.pc) ∧ w'.cell? ⟨sb, i * 5 + 3, none⟩ = some (.int .i64 xs.ac) ∧ w'.cell? ⟨sb, i * 5 + 4, none⟩ = some (.int .i64 xs.dn) := fun w' hk => by
        obtain ⟨g, hg, h⟩ := own_sp (hk.own HS.out.1 (by decide)) HS.out.2 hxs
        injection hg with hg
        injection hg with hg
        subst hg
        exact h
      obtain ⟨a0, a1, a2, a3, a4, a5, ha⟩ := rk_six o (xs.at l)
      have hrk : ∀ u, Calls Try.prog 31 #[.int .i64 (o : Int), xs.sp, .int .i64 (l : Int)] u fun e w' => e = .returned (.agg #[.int .i64 a0, .int .i64 a1, .int .i64 a2, .int .i64 a3, .int .i64 a4, .int .i64 a5]) ∧ Below u.heap.size u w' := fun u => by
        have h := rrank_any o ho xs l u
        rw [ha] at h
        exact h
      have hxk := encK_arr ha
      obtain ⟨rs, hrs⟩ : ∃ n, xs.rs = n := ⟨_, rfl⟩
      obtain ⟨cp, hcp⟩ : ∃ n, xs.cp = n := ⟨_, rfl⟩
      obtain ⟨pc, hpc⟩ : ∃ n, xs.pc = n := ⟨_, rfl⟩
      obtain ⟨ac, hac⟩ : ∃ n, xs.ac = n := ⟨_, rfl⟩
      obtain ⟨dn, hdn⟩ : ∃ n, xs.dn = n := ⟨_, rfl⟩
      have hxk2 : (encK o (xs.at l)).toArray = #[.int .i64 (l : Int), .int .i64 rs, .int .i64 cp, .int .i64 pc, .int .i64 a0, .int .i64 a1, .int .i64 a2, .int .i64 a3, .int .i64 a4, .int .i64 a5] := by rw [hxk]; simp only [Pk.at]; rw [hrs, hcp, hpc]
      simp only [hrs, hcp, hpc, hac, hdn] at hsc
      rw [Pk.sp, hrs, hcp, hpc, hac, hdn] at hrk
      have HSC := Lib.hid hsc
      have RK := Lib.hid hrk
      have HXK := Lib.hid hxk2
      clear hxs ha hxk hxk2 hsc hrk hrs hcp hpc hac hdn
      go_upto_region 9 with fail
      obtain ⟨VL, hVL⟩ : ∃ VL : Nat × Option Addr × Nat → List (Nat × Nat × Value), VL = fun z => [(0, 29, .slice Va nn Vc), (1, 30, .int .i64 (l : Int)), (2, 31, .slice (some ⟨sb, 0, none⟩) m SC), (3, 32, .int .i64 (i : Int)), (4, 33, .pointer (some ⟨sb, i * 5, none⟩)), (5, 34, .pointer (some ⟨sb, i * 5, none⟩)), (6, 35, .int .i64 rs), (7, 36, .slice (some ⟨sb, 0, none⟩) m SC), (8, 37, .int .i64 (i : Int)), (9, 38, .pointer (some ⟨sb, i * 5, none⟩)), (10, 39, .pointer (some ⟨sb, i * 5 + 1, none⟩)), (11, 40, .int .i64 cp), (12, 41, .slice (some ⟨sb, 0, none⟩) m SC), (13, 42, .int .i64 (i : Int)), (14, 43, .pointer (some ⟨sb, i * 5, none⟩)), (15, 44, .pointer (some ⟨sb, i * 5 + 2, none⟩)), (16, 45, .int .i64 pc), (17, 46, .agg #[.int .i64 (l : Int), .int .i64 rs, .int .i64 cp, .int .i64 pc]), (18, 47, .pointer (some ⟨pb, 7, none⟩)), (19, 48, .int .i64 (o : Int)), (20, 49, .slice (some ⟨sb, 0, none⟩) m SC), (21, 50, .int .i64 (i : Int)), (22, 51, .pointer (some ⟨sb, i * 5, none⟩)), (23, 52, .agg #[.int .i64 rs, .int .i64 cp, .int .i64 pc, .int .i64 ac, .int .i64 dn]), (24, 53, .int .i64 (l : Int)), (25, 54, .agg #[.int .i64 a0, .int .i64 a1, .int .i64 a2, .int .i64 a3, .int .i64 a4, .int .i64 a5]), (26, 55, .agg #[.int .i64 (l : Int), .int .i64 rs, .int .i64 cp, .int .i64 pc, .int .i64 a0, .int .i64 a1, .int .i64 a2, .int .i64 a3, .int .i64 a4, .int .i64 a5]), (27, 56, .slice (some ⟨z.1, 0, none⟩) 1 1), (28, 57, .slice z.2.1 (nn + 1) z.2.2), (29, 7, .slice z.2.1 (nn + 1) z.2.2)] := ⟨_, rfl⟩
      have hok : ∀ z, manyOk 75 (VL z) := fun z => by rw [hVL]; exact okB_ok rfl
      have HVL := Lib.hid hVL
      have hvi : ∀ z, ∀ x ∈ VL z, x.1 < 30 := fun z => by rw [hVL]; exact ltB_ok rfl
      have HOK := Lib.hid hok
      have HVI := Lib.hid hvi
      clear hVL hok hvi
      refine (wpIn_wide (n := 9)).1 (regionIn_many (N := 75) (w := _) VL (fun L z w' => (KpT 78 W w' ∧ Below N W w') ∧ (bif L 28 then (w'.ownsRow N 78 10 (.slice z.2.1 (nn + 1) z.2.2) (nn + 1) ((zs ++ [xs.at l]).flatMap (encK o))) else (bif L 27 then (w'.ownsRow N 78 10 (.slice Va nn Vc) nn (zs.flatMap (encK o)) ∧ w'.heap[z.1]? = some (.cells #[.int .i64 (l : Int), .int .i64 rs, .int .i64 cp, .int .i64 pc, .int .i64 a0, .int .i64 a1, .int .i64 a2, .int .i64 a3, .int .i64 a4, .int .i64 a5] 78 (0, 0))) else w'.ownsRow N 78 10 (.slice Va nn Vc) nn (zs.flatMap (encK o))))) [(5, .pointer (some ⟨pb, 0, none⟩)), (7, .slice Va nn Vc), (8, .slice (some ⟨sb, 0, none⟩) m SC), (9, .int .i64 (l : Int)), (10, .int .i64 (i : Int))] (by kernel_rfl) (by kernel_rfl) rfl (by simp only [List.forall_mem_cons, List.not_mem_nil, false_imp_iff, implies_true, and_true]; exact ⟨rfl, rfl, rfl, rfl, rfl⟩) HVI.out (0, none, 0) ?start ?step ?fin)
      case start => exact ⟨⟨HI.out.2.1.below (below_drewN (Below.refl _ _) 1), below_drewN HI.out.2.2 1⟩, ownsRow_keep HI.out.1 (Nat.le_refl _) (fun _ _ => rfl)⟩
      case step =>
        intro gg_ hgN hgF ii_ hii_ L z w' hph hs hu
        obtain ⟨hcm, hph⟩ := hph
        have hF5 := hgF (5, .pointer (some ⟨pb, 0, none⟩)) (by simp)
        have hF7 := hgF (7, .slice Va nn Vc) (by simp)
        have hF8 := hgF (8, .slice (some ⟨sb, 0, none⟩) m SC) (by simp)
        have hF9 := hgF (9, .int .i64 (l : Int)) (by simp)
        have hF10 := hgF (10, .int .i64 (i : Int)) (by simp)
        have hL := hu.1
        have hii_ : ii_ < 30 := hii_
        clear hgF
        obtain rfl | rfl | rfl | rfl | rfl | rfl | rfl | rfl | rfl | rfl | rfl | rfl | rfl | rfl | rfl | rfl | rfl | rfl | rfl | rfl | rfl | rfl | rfl | rfl | rfl | rfl | rfl | rfl | rfl | rfl := (by omega : ii_ = 0 ∨ ii_ = 1 ∨ ii_ = 2 ∨ ii_ = 3 ∨ ii_ = 4 ∨ ii_ = 5 ∨ ii_ = 6 ∨ ii_ = 7 ∨ ii_ = 8 ∨ ii_ = 9 ∨ ii_ = 10 ∨ ii_ = 11 ∨ ii_ = 12 ∨ ii_ = 13 ∨ ii_ = 14 ∨ ii_ = 15 ∨ ii_ = 16 ∨ ii_ = 17 ∨ ii_ = 18 ∨ ii_ = 19 ∨ ii_ = 20 ∨ ii_ = 21 ∨ ii_ = 22 ∨ ii_ = 23 ∨ ii_ = 24 ∨ ii_ = 25 ∨ ii_ = 26 ∨ ii_ = 27 ∨ ii_ = 28 ∨ ii_ = 29)
        · skip
          have n28 : L 28 = false := not_yet hL fun h => shut_at hs 28 0 (by kernel_rfl) (h)
          have n29 : L 29 = false := not_yet hL fun h => shut_at hs 29 0 (by kernel_rfl) (h)
          try simp only [n28, n29, hL, cond_true, cond_false] at hph
          have e7 : (many gg_ L (VL z))[7]?.getD undef = .slice Va nn Vc := many_out3' hgN (HOK.out z) (by rw [HVL.out]; rfl) (by assumption) hF7
          refine opIn_run (v := .slice Va nn Vc) (w' := w') rfl rfl (fun c h => by cases h) (fun _ => trivial) ?_ ⟨z, by exact many_put3 (HOK.out _) (by rw [HVL.out]; rfl) hL, hcm, by simp only [upd, n28, n29, hL, Nat.reduceBEq, cond_true, cond_false]; exact hph⟩
          go_simp
        · skip
          have n27 : L 27 = false := not_yet hL fun h => shut_at hs 17 1 (by kernel_rfl) (shut_at hs 26 17 (by kernel_rfl) (shut_at hs 27 26 (by kernel_rfl) (h)))
          have n28 : L 28 = false := not_yet hL fun h => shut_at hs 17 1 (by kernel_rfl) (shut_at hs 26 17 (by kernel_rfl) (shut_at hs 27 26 (by kernel_rfl) (shut_at hs 28 27 (by kernel_rfl) (h))))
          have n29 : L 29 = false := not_yet hL fun h => shut_at hs 29 1 (by kernel_rfl) (h)
          try simp only [n27, n28, n29, hL, cond_true, cond_false] at hph
          have e9 : (many gg_ L (VL z))[9]?.getD undef = .int .i64 (l : Int) := many_out3 hgN (HOK.out z) (by rw [HVL.out]; rfl) hF9
          refine opIn_run (v := .int .i64 (l : Int)) (w' := w') rfl rfl (fun c h => by cases h) (fun _ => trivial) ?_ ⟨z, by exact many_put3 (HOK.out _) (by rw [HVL.out]; rfl) hL, hcm, by simp only [upd, n27, n28, n29, hL, Nat.reduceBEq, cond_true, cond_false]; exact hph⟩
          go_simp
        · skip
          have n27 : L 27 = false := not_yet hL fun h => shut_at hs 4 2 (by kernel_rfl) (shut_at hs 5 4 (by kernel_rfl) (shut_at hs 6 5 (by kernel_rfl) (shut_at hs 17 6 (by kernel_rfl) (shut_at hs 26 17 (by kernel_rfl) (shut_at hs 27 26 (by kernel_rfl) (h))))))
          have n28 : L 28 = false := not_yet hL fun h => shut_at hs 4 2 (by kernel_rfl) (shut_at hs 5 4 (by kernel_rfl) (shut_at hs 6 5 (by kernel_rfl) (shut_at hs 17 6 (by kernel_rfl) (shut_at hs 26 17 (by kernel_rfl) (shut_at hs 27 26 (by kernel_rfl) (shut_at hs 28 27 (by kernel_rfl) (h)))))))
          have n29 : L 29 = false := not_yet hL fun h => shut_at hs 29 2 (by kernel_rfl) (h)
          try simp only [n27, n28, n29, hL, cond_true, cond_false] at hph
          have e8 : (many gg_ L (VL z))[8]?.getD undef = .slice (some ⟨sb, 0, none⟩) m SC := many_out3 hgN (HOK.out z) (by rw [HVL.out]; rfl) hF8
          refine opIn_run (v := .slice (some ⟨sb, 0, none⟩) m SC) (w' := w') rfl rfl (fun c h => by cases h) (fun _ => trivial) ?_ ⟨z, by exact many_put3 (HOK.out _) (by rw [HVL.out]; rfl) hL, hcm, by simp only [upd, n27, n28, n29, hL, Nat.reduceBEq, cond_true, cond_false]; exact hph⟩
          go_simp
        · skip
          have n27 : L 27 = false := not_yet hL fun h => shut_at hs 4 3 (by kernel_rfl) (shut_at hs 5 4 (by kernel_rfl) (shut_at hs 6 5 (by kernel_rfl) (shut_at hs 17 6 (by kernel_rfl) (shut_at hs 26 17 (by kernel_rfl) (shut_at hs 27 26 (by kernel_rfl) (h))))))
          have n28 : L 28 = false := not_yet hL fun h => shut_at hs 4 3 (by kernel_rfl) (shut_at hs 5 4 (by kernel_rfl) (shut_at hs 6 5 (by kernel_rfl) (shut_at hs 17 6 (by kernel_rfl) (shut_at hs 26 17 (by kernel_rfl) (shut_at hs 27 26 (by kernel_rfl) (shut_at hs 28 27 (by kernel_rfl) (h)))))))
          have n29 : L 29 = false := not_yet hL fun h => shut_at hs 29 3 (by kernel_rfl) (h)
          try simp only [n27, n28, n29, hL, cond_true, cond_false] at hph
          have e10 : (many gg_ L (VL z))[10]?.getD undef = .int .i64 (i : Int) := many_out3 hgN (HOK.out z) (by rw [HVL.out]; rfl) hF10
          refine opIn_run (v := .int .i64 (i : Int)) (w' := w') rfl rfl (fun c h => by cases h) (fun _ => trivial) ?_ ⟨z, by exact many_put3 (HOK.out _) (by rw [HVL.out]; rfl) hL, hcm, by simp only [upd, n27, n28, n29, hL, Nat.reduceBEq, cond_true, cond_false]; exact hph⟩
          go_simp
        · skip
          have y2 : L 2 = true := up_at hu 2 (by kernel_rfl)
          have y3 : L 3 = true := up_at hu 3 (by kernel_rfl)
          have n27 : L 27 = false := not_yet hL fun h => shut_at hs 5 4 (by kernel_rfl) (shut_at hs 6 5 (by kernel_rfl) (shut_at hs 17 6 (by kernel_rfl) (shut_at hs 26 17 (by kernel_rfl) (shut_at hs 27 26 (by kernel_rfl) (h)))))
          have n28 : L 28 = false := not_yet hL fun h => shut_at hs 5 4 (by kernel_rfl) (shut_at hs 6 5 (by kernel_rfl) (shut_at hs 17 6 (by kernel_rfl) (shut_at hs 26 17 (by kernel_rfl) (shut_at hs 27 26 (by kernel_rfl) (shut_at hs 28 27 (by kernel_rfl) (h))))))
          have n29 : L 29 = false := not_yet hL fun h => shut_at hs 29 4 (by kernel_rfl) (h)
          try simp only [y2, y3, n27, n28, n29, hL, cond_true, cond_false] at hph
          have e31 : (many gg_ L (VL z))[31]?.getD undef = .slice (some ⟨sb, 0, none⟩) m SC := many_eval3 hgN (HOK.out z) (by rw [HVL.out]; rfl) y2
          have e32 : (many gg_ L (VL z))[32]?.getD undef = .int .i64 (i : Int) := many_eval3 hgN (HOK.out z) (by rw [HVL.out]; rfl) y3
          refine opIn_run (v := .pointer (some ⟨sb, i * 5, none⟩)) (w' := w') rfl rfl (fun c h => by cases h) (fun _ => trivial) ?_ ⟨z, by exact many_put3 (HOK.out _) (by rw [HVL.out]; rfl) hL, hcm, by simp only [upd, y2, y3, n27, n28, n29, hL, Nat.reduceBEq, cond_true, cond_false]; exact hph⟩
          have hj0 : ¬ (i : Int) < 0 := by omega
          go_simp
        · skip
          have y4 : L 4 = true := up_at hu 4 (by kernel_rfl)
          have n27 : L 27 = false := not_yet hL fun h => shut_at hs 6 5 (by kernel_rfl) (shut_at hs 17 6 (by kernel_rfl) (shut_at hs 26 17 (by kernel_rfl) (shut_at hs 27 26 (by kernel_rfl) (h))))
          have n28 : L 28 = false := not_yet hL fun h => shut_at hs 6 5 (by kernel_rfl) (shut_at hs 17 6 (by kernel_rfl) (shut_at hs 26 17 (by kernel_rfl) (shut_at hs 27 26 (by kernel_rfl) (shut_at hs 28 27 (by kernel_rfl) (h)))))
          have n29 : L 29 = false := not_yet hL fun h => shut_at hs 29 5 (by kernel_rfl) (h)
          try simp only [y4, n27, n28, n29, hL, cond_true, cond_false] at hph
          have e33 : (many gg_ L (VL z))[33]?.getD undef = .pointer (some ⟨sb, i * 5, none⟩) := many_eval3 hgN (HOK.out z) (by rw [HVL.out]; rfl) y4
          refine opIn_run (v := .pointer (some ⟨sb, i * 5, none⟩)) (w' := w') rfl rfl (fun c h => by cases h) (fun _ => trivial) ?_ ⟨z, by exact many_put3 (HOK.out _) (by rw [HVL.out]; rfl) hL, hcm, by simp only [upd, y4, n27, n28, n29, hL, Nat.reduceBEq, cond_true, cond_false]; exact hph⟩
          go_simp
        · skip
          have y5 : L 5 = true := up_at hu 5 (by kernel_rfl)
          have n27 : L 27 = false := not_yet hL fun h => shut_at hs 17 6 (by kernel_rfl) (shut_at hs 26 17 (by kernel_rfl) (shut_at hs 27 26 (by kernel_rfl) (h)))
          have n28 : L 28 = false := not_yet hL fun h => shut_at hs 17 6 (by kernel_rfl) (shut_at hs 26 17 (by kernel_rfl) (shut_at hs 27 26 (by kernel_rfl) (shut_at hs 28 27 (by kernel_rfl) (h))))
          have n29 : L 29 = false := not_yet hL fun h => shut_at hs 29 6 (by kernel_rfl) (h)
          try simp only [y5, n27, n28, n29, hL, cond_true, cond_false] at hph
          have hcell : w'.cell? ⟨sb, i * 5, none⟩ = some (.int .i64 rs) := (HSC.out w' hcm.1).1
          have e34 : (many gg_ L (VL z))[34]?.getD undef = .pointer (some ⟨sb, i * 5, none⟩) := many_eval3 hgN (HOK.out z) (by rw [HVL.out]; rfl) y5
          refine opIn_run (v := .int .i64 rs) (w' := w') rfl rfl (fun c h => by cases h) (fun _ => trivial) ?_ ⟨z, by exact many_put3 (HOK.out _) (by rw [HVL.out]; rfl) hL, hcm, by simp only [upd, y5, n27, n28, n29, hL, Nat.reduceBEq, cond_true, cond_false]; exact hph⟩
          go_simp
        · skip
          have n27 : L 27 = false := not_yet hL fun h => shut_at hs 9 7 (by kernel_rfl) (shut_at hs 10 9 (by kernel_rfl) (shut_at hs 11 10 (by kernel_rfl) (shut_at hs 17 11 (by kernel_rfl) (shut_at hs 26 17 (by kernel_rfl) (shut_at hs 27 26 (by kernel_rfl) (h))))))
          have n28 : L 28 = false := not_yet hL fun h => shut_at hs 9 7 (by kernel_rfl) (shut_at hs 10 9 (by kernel_rfl) (shut_at hs 11 10 (by kernel_rfl) (shut_at hs 17 11 (by kernel_rfl) (shut_at hs 26 17 (by kernel_rfl) (shut_at hs 27 26 (by kernel_rfl) (shut_at hs 28 27 (by kernel_rfl) (h)))))))
          have n29 : L 29 = false := not_yet hL fun h => shut_at hs 29 7 (by kernel_rfl) (h)
          try simp only [n27, n28, n29, hL, cond_true, cond_false] at hph
          have e8 : (many gg_ L (VL z))[8]?.getD undef = .slice (some ⟨sb, 0, none⟩) m SC := many_out3 hgN (HOK.out z) (by rw [HVL.out]; rfl) hF8
          refine opIn_run (v := .slice (some ⟨sb, 0, none⟩) m SC) (w' := w') rfl rfl (fun c h => by cases h) (fun _ => trivial) ?_ ⟨z, by exact many_put3 (HOK.out _) (by rw [HVL.out]; rfl) hL, hcm, by simp only [upd, n27, n28, n29, hL, Nat.reduceBEq, cond_true, cond_false]; exact hph⟩
          go_simp
        · skip
          have n27 : L 27 = false := not_yet hL fun h => shut_at hs 9 8 (by kernel_rfl) (shut_at hs 10 9 (by kernel_rfl) (shut_at hs 11 10 (by kernel_rfl) (shut_at hs 17 11 (by kernel_rfl) (shut_at hs 26 17 (by kernel_rfl) (shut_at hs 27 26 (by kernel_rfl) (h))))))
          have n28 : L 28 = false := not_yet hL fun h => shut_at hs 9 8 (by kernel_rfl) (shut_at hs 10 9 (by kernel_rfl) (shut_at hs 11 10 (by kernel_rfl) (shut_at hs 17 11 (by kernel_rfl) (shut_at hs 26 17 (by kernel_rfl) (shut_at hs 27 26 (by kernel_rfl) (shut_at hs 28 27 (by kernel_rfl) (h)))))))
          have n29 : L 29 = false := not_yet hL fun h => shut_at hs 29 8 (by kernel_rfl) (h)
          try simp only [n27, n28, n29, hL, cond_true, cond_false] at hph
          have e10 : (many gg_ L (VL z))[10]?.getD undef = .int .i64 (i : Int) := many_out3 hgN (HOK.out z) (by rw [HVL.out]; rfl) hF10
          refine opIn_run (v := .int .i64 (i : Int)) (w' := w') rfl rfl (fun c h => by cases h) (fun _ => trivial) ?_ ⟨z, by exact many_put3 (HOK.out _) (by rw [HVL.out]; rfl) hL, hcm, by simp only [upd, n27, n28, n29, hL, Nat.reduceBEq, cond_true, cond_false]; exact hph⟩
          go_simp
        · skip
          have y7 : L 7 = true := up_at hu 7 (by kernel_rfl)
          have y8 : L 8 = true := up_at hu 8 (by kernel_rfl)
          have n27 : L 27 = false := not_yet hL fun h => shut_at hs 10 9 (by kernel_rfl) (shut_at hs 11 10 (by kernel_rfl) (shut_at hs 17 11 (by kernel_rfl) (shut_at hs 26 17 (by kernel_rfl) (shut_at hs 27 26 (by kernel_rfl) (h)))))
          have n28 : L 28 = false := not_yet hL fun h => shut_at hs 10 9 (by kernel_rfl) (shut_at hs 11 10 (by kernel_rfl) (shut_at hs 17 11 (by kernel_rfl) (shut_at hs 26 17 (by kernel_rfl) (shut_at hs 27 26 (by kernel_rfl) (shut_at hs 28 27 (by kernel_rfl) (h))))))
          have n29 : L 29 = false := not_yet hL fun h => shut_at hs 29 9 (by kernel_rfl) (h)
          try simp only [y7, y8, n27, n28, n29, hL, cond_true, cond_false] at hph
          have e36 : (many gg_ L (VL z))[36]?.getD undef = .slice (some ⟨sb, 0, none⟩) m SC := many_eval3 hgN (HOK.out z) (by rw [HVL.out]; rfl) y7
          have e37 : (many gg_ L (VL z))[37]?.getD undef = .int .i64 (i : Int) := many_eval3 hgN (HOK.out z) (by rw [HVL.out]; rfl) y8
          refine opIn_run (v := .pointer (some ⟨sb, i * 5, none⟩)) (w' := w') rfl rfl (fun c h => by cases h) (fun _ => trivial) ?_ ⟨z, by exact many_put3 (HOK.out _) (by rw [HVL.out]; rfl) hL, hcm, by simp only [upd, y7, y8, n27, n28, n29, hL, Nat.reduceBEq, cond_true, cond_false]; exact hph⟩
          have hj0 : ¬ (i : Int) < 0 := by omega
          go_simp
        · skip
          have y9 : L 9 = true := up_at hu 9 (by kernel_rfl)
          have n27 : L 27 = false := not_yet hL fun h => shut_at hs 11 10 (by kernel_rfl) (shut_at hs 17 11 (by kernel_rfl) (shut_at hs 26 17 (by kernel_rfl) (shut_at hs 27 26 (by kernel_rfl) (h))))
          have n28 : L 28 = false := not_yet hL fun h => shut_at hs 11 10 (by kernel_rfl) (shut_at hs 17 11 (by kernel_rfl) (shut_at hs 26 17 (by kernel_rfl) (shut_at hs 27 26 (by kernel_rfl) (shut_at hs 28 27 (by kernel_rfl) (h)))))
          have n29 : L 29 = false := not_yet hL fun h => shut_at hs 29 10 (by kernel_rfl) (h)
          try simp only [y9, n27, n28, n29, hL, cond_true, cond_false] at hph
          have e38 : (many gg_ L (VL z))[38]?.getD undef = .pointer (some ⟨sb, i * 5, none⟩) := many_eval3 hgN (HOK.out z) (by rw [HVL.out]; rfl) y9
          refine opIn_run (v := .pointer (some ⟨sb, i * 5 + 1, none⟩)) (w' := w') rfl rfl (fun c h => by cases h) (fun _ => trivial) ?_ ⟨z, by exact many_put3 (HOK.out _) (by rw [HVL.out]; rfl) hL, hcm, by simp only [upd, y9, n27, n28, n29, hL, Nat.reduceBEq, cond_true, cond_false]; exact hph⟩
          go_simp
        · skip
          have y10 : L 10 = true := up_at hu 10 (by kernel_rfl)
          have n27 : L 27 = false := not_yet hL fun h => shut_at hs 17 11 (by kernel_rfl) (shut_at hs 26 17 (by kernel_rfl) (shut_at hs 27 26 (by kernel_rfl) (h)))
          have n28 : L 28 = false := not_yet hL fun h => shut_at hs 17 11 (by kernel_rfl) (shut_at hs 26 17 (by kernel_rfl) (shut_at hs 27 26 (by kernel_rfl) (shut_at hs 28 27 (by kernel_rfl) (h))))
          have n29 : L 29 = false := not_yet hL fun h => shut_at hs 29 11 (by kernel_rfl) (h)
          try simp only [y10, n27, n28, n29, hL, cond_true, cond_false] at hph
          have hcell : w'.cell? ⟨sb, i * 5 + 1, none⟩ = some (.int .i64 cp) := (HSC.out w' hcm.1).2.1
          have e39 : (many gg_ L (VL z))[39]?.getD undef = .pointer (some ⟨sb, i * 5 + 1, none⟩) := many_eval3 hgN (HOK.out z) (by rw [HVL.out]; rfl) y10
          refine opIn_run (v := .int .i64 cp) (w' := w') rfl rfl (fun c h => by cases h) (fun _ => trivial) ?_ ⟨z, by exact many_put3 (HOK.out _) (by rw [HVL.out]; rfl) hL, hcm, by simp only [upd, y10, n27, n28, n29, hL, Nat.reduceBEq, cond_true, cond_false]; exact hph⟩
          go_simp
        · skip
          have n27 : L 27 = false := not_yet hL fun h => shut_at hs 14 12 (by kernel_rfl) (shut_at hs 15 14 (by kernel_rfl) (shut_at hs 16 15 (by kernel_rfl) (shut_at hs 17 16 (by kernel_rfl) (shut_at hs 26 17 (by kernel_rfl) (shut_at hs 27 26 (by kernel_rfl) (h))))))
          have n28 : L 28 = false := not_yet hL fun h => shut_at hs 14 12 (by kernel_rfl) (shut_at hs 15 14 (by kernel_rfl) (shut_at hs 16 15 (by kernel_rfl) (shut_at hs 17 16 (by kernel_rfl) (shut_at hs 26 17 (by kernel_rfl) (shut_at hs 27 26 (by kernel_rfl) (shut_at hs 28 27 (by kernel_rfl) (h)))))))
          have n29 : L 29 = false := not_yet hL fun h => shut_at hs 29 12 (by kernel_rfl) (h)
          try simp only [n27, n28, n29, hL, cond_true, cond_false] at hph
          have e8 : (many gg_ L (VL z))[8]?.getD undef = .slice (some ⟨sb, 0, none⟩) m SC := many_out3 hgN (HOK.out z) (by rw [HVL.out]; rfl) hF8
          refine opIn_run (v := .slice (some ⟨sb, 0, none⟩) m SC) (w' := w') rfl rfl (fun c h => by cases h) (fun _ => trivial) ?_ ⟨z, by exact many_put3 (HOK.out _) (by rw [HVL.out]; rfl) hL, hcm, by simp only [upd, n27, n28, n29, hL, Nat.reduceBEq, cond_true, cond_false]; exact hph⟩
          go_simp
        · skip
          have n27 : L 27 = false := not_yet hL fun h => shut_at hs 14 13 (by kernel_rfl) (shut_at hs 15 14 (by kernel_rfl) (shut_at hs 16 15 (by kernel_rfl) (shut_at hs 17 16 (by kernel_rfl) (shut_at hs 26 17 (by kernel_rfl) (shut_at hs 27 26 (by kernel_rfl) (h))))))
          have n28 : L 28 = false := not_yet hL fun h => shut_at hs 14 13 (by kernel_rfl) (shut_at hs 15 14 (by kernel_rfl) (shut_at hs 16 15 (by kernel_rfl) (shut_at hs 17 16 (by kernel_rfl) (shut_at hs 26 17 (by kernel_rfl) (shut_at hs 27 26 (by kernel_rfl) (shut_at hs 28 27 (by kernel_rfl) (h)))))))
          have n29 : L 29 = false := not_yet hL fun h => shut_at hs 29 13 (by kernel_rfl) (h)
          try simp only [n27, n28, n29, hL, cond_true, cond_false] at hph
          have e10 : (many gg_ L (VL z))[10]?.getD undef = .int .i64 (i : Int) := many_out3 hgN (HOK.out z) (by rw [HVL.out]; rfl) hF10
          refine opIn_run (v := .int .i64 (i : Int)) (w' := w') rfl rfl (fun c h => by cases h) (fun _ => trivial) ?_ ⟨z, by exact many_put3 (HOK.out _) (by rw [HVL.out]; rfl) hL, hcm, by simp only [upd, n27, n28, n29, hL, Nat.reduceBEq, cond_true, cond_false]; exact hph⟩
          go_simp
        · skip
          have y12 : L 12 = true := up_at hu 12 (by kernel_rfl)
          have y13 : L 13 = true := up_at hu 13 (by kernel_rfl)
          have n27 : L 27 = false := not_yet hL fun h => shut_at hs 15 14 (by kernel_rfl) (shut_at hs 16 15 (by kernel_rfl) (shut_at hs 17 16 (by kernel_rfl) (shut_at hs 26 17 (by kernel_rfl) (shut_at hs 27 26 (by kernel_rfl) (h)))))
          have n28 : L 28 = false := not_yet hL fun h => shut_at hs 15 14 (by kernel_rfl) (shut_at hs 16 15 (by kernel_rfl) (shut_at hs 17 16 (by kernel_rfl) (shut_at hs 26 17 (by kernel_rfl) (shut_at hs 27 26 (by kernel_rfl) (shut_at hs 28 27 (by kernel_rfl) (h))))))
          have n29 : L 29 = false := not_yet hL fun h => shut_at hs 29 14 (by kernel_rfl) (h)
          try simp only [y12, y13, n27, n28, n29, hL, cond_true, cond_false] at hph
          have e41 : (many gg_ L (VL z))[41]?.getD undef = .slice (some ⟨sb, 0, none⟩) m SC := many_eval3 hgN (HOK.out z) (by rw [HVL.out]; rfl) y12
          have e42 : (many gg_ L (VL z))[42]?.getD undef = .int .i64 (i : Int) := many_eval3 hgN (HOK.out z) (by rw [HVL.out]; rfl) y13
          refine opIn_run (v := .pointer (some ⟨sb, i * 5, none⟩)) (w' := w') rfl rfl (fun c h => by cases h) (fun _ => trivial) ?_ ⟨z, by exact many_put3 (HOK.out _) (by rw [HVL.out]; rfl) hL, hcm, by simp only [upd, y12, y13, n27, n28, n29, hL, Nat.reduceBEq, cond_true, cond_false]; exact hph⟩
          have hj0 : ¬ (i : Int) < 0 := by omega
          go_simp
        · skip
          have y14 : L 14 = true := up_at hu 14 (by kernel_rfl)
          have n27 : L 27 = false := not_yet hL fun h => shut_at hs 16 15 (by kernel_rfl) (shut_at hs 17 16 (by kernel_rfl) (shut_at hs 26 17 (by kernel_rfl) (shut_at hs 27 26 (by kernel_rfl) (h))))
          have n28 : L 28 = false := not_yet hL fun h => shut_at hs 16 15 (by kernel_rfl) (shut_at hs 17 16 (by kernel_rfl) (shut_at hs 26 17 (by kernel_rfl) (shut_at hs 27 26 (by kernel_rfl) (shut_at hs 28 27 (by kernel_rfl) (h)))))
          have n29 : L 29 = false := not_yet hL fun h => shut_at hs 29 15 (by kernel_rfl) (h)
          try simp only [y14, n27, n28, n29, hL, cond_true, cond_false] at hph
          have e43 : (many gg_ L (VL z))[43]?.getD undef = .pointer (some ⟨sb, i * 5, none⟩) := many_eval3 hgN (HOK.out z) (by rw [HVL.out]; rfl) y14
          refine opIn_run (v := .pointer (some ⟨sb, i * 5 + 2, none⟩)) (w' := w') rfl rfl (fun c h => by cases h) (fun _ => trivial) ?_ ⟨z, by exact many_put3 (HOK.out _) (by rw [HVL.out]; rfl) hL, hcm, by simp only [upd, y14, n27, n28, n29, hL, Nat.reduceBEq, cond_true, cond_false]; exact hph⟩
          go_simp
        · skip
          have y15 : L 15 = true := up_at hu 15 (by kernel_rfl)
          have n27 : L 27 = false := not_yet hL fun h => shut_at hs 17 16 (by kernel_rfl) (shut_at hs 26 17 (by kernel_rfl) (shut_at hs 27 26 (by kernel_rfl) (h)))
          have n28 : L 28 = false := not_yet hL fun h => shut_at hs 17 16 (by kernel_rfl) (shut_at hs 26 17 (by kernel_rfl) (shut_at hs 27 26 (by kernel_rfl) (shut_at hs 28 27 (by kernel_rfl) (h))))
          have n29 : L 29 = false := not_yet hL fun h => shut_at hs 29 16 (by kernel_rfl) (h)
          try simp only [y15, n27, n28, n29, hL, cond_true, cond_false] at hph
          have hcell : w'.cell? ⟨sb, i * 5 + 2, none⟩ = some (.int .i64 pc) := (HSC.out w' hcm.1).2.2.1
          have e44 : (many gg_ L (VL z))[44]?.getD undef = .pointer (some ⟨sb, i * 5 + 2, none⟩) := many_eval3 hgN (HOK.out z) (by rw [HVL.out]; rfl) y15
          refine opIn_run (v := .int .i64 pc) (w' := w') rfl rfl (fun c h => by cases h) (fun _ => trivial) ?_ ⟨z, by exact many_put3 (HOK.out _) (by rw [HVL.out]; rfl) hL, hcm, by simp only [upd, y15, n27, n28, n29, hL, Nat.reduceBEq, cond_true, cond_false]; exact hph⟩
          go_simp
        · skip
          have y1 : L 1 = true := up_at hu 1 (by kernel_rfl)
          have y6 : L 6 = true := up_at hu 6 (by kernel_rfl)
          have y11 : L 11 = true := up_at hu 11 (by kernel_rfl)
          have y16 : L 16 = true := up_at hu 16 (by kernel_rfl)
          have n27 : L 27 = false := not_yet hL fun h => shut_at hs 26 17 (by kernel_rfl) (shut_at hs 27 26 (by kernel_rfl) (h))
          have n28 : L 28 = false := not_yet hL fun h => shut_at hs 26 17 (by kernel_rfl) (shut_at hs 27 26 (by kernel_rfl) (shut_at hs 28 27 (by kernel_rfl) (h)))
          have n29 : L 29 = false := not_yet hL fun h => shut_at hs 29 17 (by kernel_rfl) (h)
          try simp only [y1, y6, y11, y16, n27, n28, n29, hL, cond_true, cond_false] at hph
          have e30 : (many gg_ L (VL z))[30]?.getD undef = .int .i64 (l : Int) := many_eval3 hgN (HOK.out z) (by rw [HVL.out]; rfl) y1
          have e35 : (many gg_ L (VL z))[35]?.getD undef = .int .i64 rs := many_eval3 hgN (HOK.out z) (by rw [HVL.out]; rfl) y6
          have e40 : (many gg_ L (VL z))[40]?.getD undef = .int .i64 cp := many_eval3 hgN (HOK.out z) (by rw [HVL.out]; rfl) y11
          have e45 : (many gg_ L (VL z))[45]?.getD undef = .int .i64 pc := many_eval3 hgN (HOK.out z) (by rw [HVL.out]; rfl) y16
          refine opIn_run (v := .agg #[.int .i64 (l : Int), .int .i64 rs, .int .i64 cp, .int .i64 pc]) (w' := w') rfl rfl (fun c h => by cases h) (fun _ => trivial) ?_ ⟨z, by exact many_put3 (HOK.out _) (by rw [HVL.out]; rfl) hL, hcm, by simp only [upd, y1, y6, y11, y16, n27, n28, n29, hL, Nat.reduceBEq, cond_true, cond_false]; exact hph⟩
          go_simp
        · skip
          have n27 : L 27 = false := not_yet hL fun h => shut_at hs 19 18 (by kernel_rfl) (shut_at hs 25 19 (by kernel_rfl) (shut_at hs 26 25 (by kernel_rfl) (shut_at hs 27 26 (by kernel_rfl) (h))))
          have n28 : L 28 = false := not_yet hL fun h => shut_at hs 19 18 (by kernel_rfl) (shut_at hs 25 19 (by kernel_rfl) (shut_at hs 28 25 (by kernel_rfl) (h)))
          have n29 : L 29 = false := not_yet hL fun h => shut_at hs 29 18 (by kernel_rfl) (h)
          try simp only [n27, n28, n29, hL, cond_true, cond_false] at hph
          have e5 : (many gg_ L (VL z))[5]?.getD undef = .pointer (some ⟨pb, 0, none⟩) := many_out3 hgN (HOK.out z) (by rw [HVL.out]; rfl) hF5
          refine opIn_run (v := .pointer (some ⟨pb, 7, none⟩)) (w' := w') rfl rfl (fun c h => by cases h) (fun _ => trivial) ?_ ⟨z, by exact many_put3 (HOK.out _) (by rw [HVL.out]; rfl) hL, hcm, by simp only [upd, n27, n28, n29, hL, Nat.reduceBEq, cond_true, cond_false]; exact hph⟩
          go_simp
        · skip
          have y18 : L 18 = true := up_at hu 18 (by kernel_rfl)
          have n27 : L 27 = false := not_yet hL fun h => shut_at hs 25 19 (by kernel_rfl) (shut_at hs 26 25 (by kernel_rfl) (shut_at hs 27 26 (by kernel_rfl) (h)))
          have n28 : L 28 = false := not_yet hL fun h => shut_at hs 25 19 (by kernel_rfl) (shut_at hs 28 25 (by kernel_rfl) (h))
          have n29 : L 29 = false := not_yet hL fun h => shut_at hs 29 19 (by kernel_rfl) (h)
          try simp only [y18, n27, n28, n29, hL, cond_true, cond_false] at hph
          have hcell : w'.cell? ⟨pb, 7, none⟩ = some (.int .i64 (o : Int)) := blk_cell (hcm.1.k _ _ _ HPB.out (by decide)) 7
          have e47 : (many gg_ L (VL z))[47]?.getD undef = .pointer (some ⟨pb, 7, none⟩) := many_eval3 hgN (HOK.out z) (by rw [HVL.out]; rfl) y18
          refine opIn_run (v := .int .i64 (o : Int)) (w' := w') rfl rfl (fun c h => by cases h) (fun _ => trivial) ?_ ⟨z, by exact many_put3 (HOK.out _) (by rw [HVL.out]; rfl) hL, hcm, by simp only [upd, y18, n27, n28, n29, hL, Nat.reduceBEq, cond_true, cond_false]; exact hph⟩
          go_simp
        · skip
          have n27 : L 27 = false := not_yet hL fun h => shut_at hs 22 20 (by kernel_rfl) (shut_at hs 23 22 (by kernel_rfl) (shut_at hs 25 23 (by kernel_rfl) (shut_at hs 26 25 (by kernel_rfl) (shut_at hs 27 26 (by kernel_rfl) (h)))))
          have n28 : L 28 = false := not_yet hL fun h => shut_at hs 22 20 (by kernel_rfl) (shut_at hs 23 22 (by kernel_rfl) (shut_at hs 25 23 (by kernel_rfl) (shut_at hs 28 25 (by kernel_rfl) (h))))
          have n29 : L 29 = false := not_yet hL fun h => shut_at hs 29 20 (by kernel_rfl) (h)
          try simp only [n27, n28, n29, hL, cond_true, cond_false] at hph
          have e8 : (many gg_ L (VL z))[8]?.getD undef = .slice (some ⟨sb, 0, none⟩) m SC := many_out3 hgN (HOK.out z) (by rw [HVL.out]; rfl) hF8
          refine opIn_run (v := .slice (some ⟨sb, 0, none⟩) m SC) (w' := w') rfl rfl (fun c h => by cases h) (fun _ => trivial) ?_ ⟨z, by exact many_put3 (HOK.out _) (by rw [HVL.out]; rfl) hL, hcm, by simp only [upd, n27, n28, n29, hL, Nat.reduceBEq, cond_true, cond_false]; exact hph⟩
          go_simp
        · skip
          have n27 : L 27 = false := not_yet hL fun h => shut_at hs 22 21 (by kernel_rfl) (shut_at hs 23 22 (by kernel_rfl) (shut_at hs 25 23 (by kernel_rfl) (shut_at hs 26 25 (by kernel_rfl) (shut_at hs 27 26 (by kernel_rfl) (h)))))
          have n28 : L 28 = false := not_yet hL fun h => shut_at hs 22 21 (by kernel_rfl) (shut_at hs 23 22 (by kernel_rfl) (shut_at hs 25 23 (by kernel_rfl) (shut_at hs 28 25 (by kernel_rfl) (h))))
          have n29 : L 29 = false := not_yet hL fun h => shut_at hs 29 21 (by kernel_rfl) (h)
          try simp only [n27, n28, n29, hL, cond_true, cond_false] at hph
          have e10 : (many gg_ L (VL z))[10]?.getD undef = .int .i64 (i : Int) := many_out3 hgN (HOK.out z) (by rw [HVL.out]; rfl) hF10
          refine opIn_run (v := .int .i64 (i : Int)) (w' := w') rfl rfl (fun c h => by cases h) (fun _ => trivial) ?_ ⟨z, by exact many_put3 (HOK.out _) (by rw [HVL.out]; rfl) hL, hcm, by simp only [upd, n27, n28, n29, hL, Nat.reduceBEq, cond_true, cond_false]; exact hph⟩
          go_simp
        · skip
          have y20 : L 20 = true := up_at hu 20 (by kernel_rfl)
          have y21 : L 21 = true := up_at hu 21 (by kernel_rfl)
          have n27 : L 27 = false := not_yet hL fun h => shut_at hs 23 22 (by kernel_rfl) (shut_at hs 25 23 (by kernel_rfl) (shut_at hs 26 25 (by kernel_rfl) (shut_at hs 27 26 (by kernel_rfl) (h))))
          have n28 : L 28 = false := not_yet hL fun h => shut_at hs 23 22 (by kernel_rfl) (shut_at hs 25 23 (by kernel_rfl) (shut_at hs 28 25 (by kernel_rfl) (h)))
          have n29 : L 29 = false := not_yet hL fun h => shut_at hs 29 22 (by kernel_rfl) (h)
          try simp only [y20, y21, n27, n28, n29, hL, cond_true, cond_false] at hph
          have e49 : (many gg_ L (VL z))[49]?.getD undef = .slice (some ⟨sb, 0, none⟩) m SC := many_eval3 hgN (HOK.out z) (by rw [HVL.out]; rfl) y20
          have e50 : (many gg_ L (VL z))[50]?.getD undef = .int .i64 (i : Int) := many_eval3 hgN (HOK.out z) (by rw [HVL.out]; rfl) y21
          refine opIn_run (v := .pointer (some ⟨sb, i * 5, none⟩)) (w' := w') rfl rfl (fun c h => by cases h) (fun _ => trivial) ?_ ⟨z, by exact many_put3 (HOK.out _) (by rw [HVL.out]; rfl) hL, hcm, by simp only [upd, y20, y21, n27, n28, n29, hL, Nat.reduceBEq, cond_true, cond_false]; exact hph⟩
          have hj0 : ¬ (i : Int) < 0 := by omega
          go_simp
        · skip
          have y22 : L 22 = true := up_at hu 22 (by kernel_rfl)
          have n27 : L 27 = false := not_yet hL fun h => shut_at hs 25 23 (by kernel_rfl) (shut_at hs 26 25 (by kernel_rfl) (shut_at hs 27 26 (by kernel_rfl) (h)))
          have n28 : L 28 = false := not_yet hL fun h => shut_at hs 25 23 (by kernel_rfl) (shut_at hs 28 25 (by kernel_rfl) (h))
          have n29 : L 29 = false := not_yet hL fun h => shut_at hs 29 23 (by kernel_rfl) (h)
          try simp only [y22, n27, n28, n29, hL, cond_true, cond_false] at hph
          obtain ⟨g0_, g1_, g2_, g3_, g4_⟩ := HSC.out w' hcm.1
          have e51 : (many gg_ L (VL z))[51]?.getD undef = .pointer (some ⟨sb, i * 5, none⟩) := many_eval3 hgN (HOK.out z) (by rw [HVL.out]; rfl) y22
          refine opIn_run (v := .agg #[.int .i64 rs, .int .i64 cp, .int .i64 pc, .int .i64 ac, .int .i64 dn]) (w' := w') rfl rfl (fun c h => by cases h) (fun _ => trivial) ?_ ⟨z, by exact many_put3 (HOK.out _) (by rw [HVL.out]; rfl) hL, hcm, by simp only [upd, y22, n27, n28, n29, hL, Nat.reduceBEq, cond_true, cond_false]; exact hph⟩
          go_simp
        · skip
          have n27 : L 27 = false := not_yet hL fun h => shut_at hs 25 24 (by kernel_rfl) (shut_at hs 26 25 (by kernel_rfl) (shut_at hs 27 26 (by kernel_rfl) (h)))
          have n28 : L 28 = false := not_yet hL fun h => shut_at hs 25 24 (by kernel_rfl) (shut_at hs 28 25 (by kernel_rfl) (h))
          have n29 : L 29 = false := not_yet hL fun h => shut_at hs 29 24 (by kernel_rfl) (h)
          try simp only [n27, n28, n29, hL, cond_true, cond_false] at hph
          have e9 : (many gg_ L (VL z))[9]?.getD undef = .int .i64 (l : Int) := many_out3 hgN (HOK.out z) (by rw [HVL.out]; rfl) hF9
          refine opIn_run (v := .int .i64 (l : Int)) (w' := w') rfl rfl (fun c h => by cases h) (fun _ => trivial) ?_ ⟨z, by exact many_put3 (HOK.out _) (by rw [HVL.out]; rfl) hL, hcm, by simp only [upd, n27, n28, n29, hL, Nat.reduceBEq, cond_true, cond_false]; exact hph⟩
          go_simp
        · skip
          have y19 : L 19 = true := up_at hu 19 (by kernel_rfl)
          have y23 : L 23 = true := up_at hu 23 (by kernel_rfl)
          have y24 : L 24 = true := up_at hu 24 (by kernel_rfl)
          have n27 : L 27 = false := not_yet hL fun h => shut_at hs 26 25 (by kernel_rfl) (shut_at hs 27 26 (by kernel_rfl) (h))
          have n28 : L 28 = false := not_yet hL fun h => shut_at hs 28 25 (by kernel_rfl) (h)
          have n29 : L 29 = false := not_yet hL fun h => shut_at hs 29 25 (by kernel_rfl) (h)
          try simp only [y19, y23, y24, n27, n28, n29, hL, cond_true, cond_false] at hph
          have e48 : (many gg_ L (VL z))[48]?.getD undef = .int .i64 (o : Int) := many_eval3 hgN (HOK.out z) (by rw [HVL.out]; rfl) y19
          have e52 : (many gg_ L (VL z))[52]?.getD undef = .agg #[.int .i64 rs, .int .i64 cp, .int .i64 pc, .int .i64 ac, .int .i64 dn] := many_eval3 hgN (HOK.out z) (by rw [HVL.out]; rfl) y23
          have e53 : (many gg_ L (VL z))[53]?.getD undef = .int .i64 (l : Int) := many_eval3 hgN (HOK.out z) (by rw [HVL.out]; rfl) y24
          refine opIn_call (f := 31) (args := #[.int .i64 (o : Int), .agg #[.int .i64 rs, .int .i64 cp, .int .i64 pc, .int .i64 ac, .int .i64 dn], .int .i64 (l : Int)]) (w' := w') rfl rfl (fun c h => by cases h) (fun _ => trivial) rfl (by go_simp) ((callsIn_wide.2 (RK.out w')).mono ?_)
          rintro e w2 ⟨rfl, hb⟩
          exact ⟨_, rfl, z, by exact many_put3 (HOK.out _) (by rw [HVL.out]; rfl) hL, ⟨hcm.1.below hb, hcm.2.trans (hb.mono (Nat.le_trans HNW.out hcm.1.size))⟩, by simp only [upd, y19, y23, y24, n27, n28, n29, hL, Nat.reduceBEq, cond_true, cond_false]; exact ownsRow_keep hph hb.size (fun k_ hk_ => hb.block k_ (own_lt hph hk_).2)⟩
        · skip
          have y17 : L 17 = true := up_at hu 17 (by kernel_rfl)
          have y25 : L 25 = true := up_at hu 25 (by kernel_rfl)
          have n27 : L 27 = false := not_yet hL fun h => shut_at hs 27 26 (by kernel_rfl) (h)
          have n28 : L 28 = false := not_yet hL fun h => shut_at hs 27 26 (by kernel_rfl) (shut_at hs 28 27 (by kernel_rfl) (h))
          have n29 : L 29 = false := not_yet hL fun h => shut_at hs 29 26 (by kernel_rfl) (h)
          try simp only [y17, y25, n27, n28, n29, hL, cond_true, cond_false] at hph
          have e46 : (many gg_ L (VL z))[46]?.getD undef = .agg #[.int .i64 (l : Int), .int .i64 rs, .int .i64 cp, .int .i64 pc] := many_eval3 hgN (HOK.out z) (by rw [HVL.out]; rfl) y17
          have e54 : (many gg_ L (VL z))[54]?.getD undef = .agg #[.int .i64 a0, .int .i64 a1, .int .i64 a2, .int .i64 a3, .int .i64 a4, .int .i64 a5] := many_eval3 hgN (HOK.out z) (by rw [HVL.out]; rfl) y25
          refine opIn_run (v := .agg #[.int .i64 (l : Int), .int .i64 rs, .int .i64 cp, .int .i64 pc, .int .i64 a0, .int .i64 a1, .int .i64 a2, .int .i64 a3, .int .i64 a4, .int .i64 a5]) (w' := w') rfl rfl (fun c h => by cases h) (fun _ => trivial) ?_ ⟨z, by exact many_put3 (HOK.out _) (by rw [HVL.out]; rfl) hL, hcm, by simp only [upd, y17, y25, n27, n28, n29, hL, Nat.reduceBEq, cond_true, cond_false]; exact hph⟩
          go_simp
        · skip
          have y26 : L 26 = true := up_at hu 26 (by kernel_rfl)
          have n28 : L 28 = false := not_yet hL fun h => shut_at hs 28 27 (by kernel_rfl) (h)
          have n29 : L 29 = false := not_yet hL fun h => shut_at hs 29 27 (by kernel_rfl) (h)
          try simp only [y26, n28, n29, hL, cond_true, cond_false] at hph
          have e55 : (many gg_ L (VL z))[55]?.getD undef = .agg #[.int .i64 (l : Int), .int .i64 rs, .int .i64 cp, .int .i64 pc, .int .i64 a0, .int .i64 a1, .int .i64 a2, .int .i64 a3, .int .i64 a4, .int .i64 a5] := many_eval3 hgN (HOK.out z) (by rw [HVL.out]; rfl) y26
          refine opIn_run (v := (.slice (some ⟨w'.heap.size, 0, none⟩) 1 1)) (w' := w'.alloc (.cells #[.int .i64 (l : Int), .int .i64 rs, .int .i64 cp, .int .i64 pc, .int .i64 a0, .int .i64 a1, .int .i64 a2, .int .i64 a3, .int .i64 a4, .int .i64 a5] 78)) rfl rfl (fun c h => by cases h) (fun _ => trivial) ?_ ⟨(w'.heap.size, z.2), by rw [show many gg_ L (VL z) = many gg_ L (VL (w'.heap.size, z.2)) from by rw [HVL.out]; simp only [many, y26, n28, n29, hL, cond_false, cond_true]]; exact many_put3 (HOK.out _) (by rw [HVL.out]; rfl) hL, ⟨hcm.1.below ((Below.refl _ _).alloc (Nat.le_refl _) _), hcm.2.alloc (Nat.le_trans HNW.out hcm.1.size) _⟩, by simp only [upd, y26, n28, n29, hL, Nat.reduceBEq, cond_true, cond_false]; exact ⟨ownsRow_keep hph (by simp) (fun k_ hk_ => Below.heap_alloc _ _ _ (own_lt hph hk_).2), World.alloc_heap_new w' _⟩⟩
          clear hph
          go_simp
        · skip
          have y0 : L 0 = true := up_at hu 0 (by kernel_rfl)
          have y25 : L 25 = true := up_at hu 25 (by kernel_rfl)
          have y27 : L 27 = true := up_at hu 27 (by kernel_rfl)
          have n29 : L 29 = false := not_yet hL fun h => shut_at hs 29 28 (by kernel_rfl) (h)
          try simp only [y0, y25, y27, n29, hL, cond_true, cond_false] at hph
          have hz_ := hph.2
          rw [← HXK.out] at hz_
          obtain ⟨U, w2, hr, h1, h2⟩ := app_rk hph.1 hz_ (Nat.le_trans HNW.out hcm.1.size) (by have := HNN.out; omega)
          obtain ⟨UA, UC, hU, _⟩ := own_any h1
          subst hU
          have hk2_ := hcm.1.grown hph.1 h2
          have hb2_ := hcm.2.grown h2 (Nat.le_trans HNW.out hcm.1.size) (fun k_ e_ => (own_lt hph.1 e_).1)
          clear hz_
          have e29 : (many gg_ L (VL z))[29]?.getD undef = .slice Va nn Vc := many_eval3 hgN (HOK.out z) (by rw [HVL.out]; rfl) y0
          have e56 : (many gg_ L (VL z))[56]?.getD undef = .slice (some ⟨z.1, 0, none⟩) 1 1 := many_eval3 hgN (HOK.out z) (by rw [HVL.out]; rfl) y27
          refine opIn_run (v := (.slice UA (nn + 1) UC)) (w' := w2) rfl rfl (fun c h => by cases h) (fun _ => trivial) ?_ ⟨(z.1, UA, UC), by rw [show many gg_ L (VL z) = many gg_ L (VL (z.1, UA, UC)) from by rw [HVL.out]; simp only [many, y0, y25, y27, n29, hL, cond_false, cond_true]]; exact many_put3 (HOK.out _) (by rw [HVL.out]; rfl) hL, ⟨hk2_, hb2_⟩, by simp only [upd, y0, y25, y27, n29, hL, Nat.reduceBEq, cond_true, cond_false]; exact (by rw [List.flatMap_append, List.flatMap_singleton]; exact h1)⟩
          clear h1 h2 hk2_ hb2_ hph
          go_simp
        · skip
          have y0 : L 0 = true := up_at hu 0 (by kernel_rfl)
          have y1 : L 1 = true := up_at hu 1 (by kernel_rfl)
          have y2 : L 2 = true := up_at hu 2 (by kernel_rfl)
          have y3 : L 3 = true := up_at hu 3 (by kernel_rfl)
          have y4 : L 4 = true := up_at hu 4 (by kernel_rfl)
          have y5 : L 5 = true := up_at hu 5 (by kernel_rfl)
          have y6 : L 6 = true := up_at hu 6 (by kernel_rfl)
          have y7 : L 7 = true := up_at hu 7 (by kernel_rfl)
          have y8 : L 8 = true := up_at hu 8 (by kernel_rfl)
          have y9 : L 9 = true := up_at hu 9 (by kernel_rfl)
          have y10 : L 10 = true := up_at hu 10 (by kernel_rfl)
          have y11 : L 11 = true := up_at hu 11 (by kernel_rfl)
          have y12 : L 12 = true := up_at hu 12 (by kernel_rfl)
          have y13 : L 13 = true := up_at hu 13 (by kernel_rfl)
          have y14 : L 14 = true := up_at hu 14 (by kernel_rfl)
          have y15 : L 15 = true := up_at hu 15 (by kernel_rfl)
          have y16 : L 16 = true := up_at hu 16 (by kernel_rfl)
          have y17 : L 17 = true := up_at hu 17 (by kernel_rfl)
          have y18 : L 18 = true := up_at hu 18 (by kernel_rfl)
          have y19 : L 19 = true := up_at hu 19 (by kernel_rfl)
          have y20 : L 20 = true := up_at hu 20 (by kernel_rfl)
          have y21 : L 21 = true := up_at hu 21 (by kernel_rfl)
          have y22 : L 22 = true := up_at hu 22 (by kernel_rfl)
          have y23 : L 23 = true := up_at hu 23 (by kernel_rfl)
          have y24 : L 24 = true := up_at hu 24 (by kernel_rfl)
          have y25 : L 25 = true := up_at hu 25 (by kernel_rfl)
          have y26 : L 26 = true := up_at hu 26 (by kernel_rfl)
          have y27 : L 27 = true := up_at hu 27 (by kernel_rfl)
          have y28 : L 28 = true := up_at hu 28 (by kernel_rfl)
          try simp only [y0, y1, y2, y3, y4, y5, y6, y7, y8, y9, y10, y11, y12, y13, y14, y15, y16, y17, y18, y19, y20, y21, y22, y23, y24, y25, y26, y27, y28, hL, cond_true, cond_false] at hph
          have e57 : (many gg_ L (VL z))[57]?.getD undef = .slice z.2.1 (nn + 1) z.2.2 := many_eval3 hgN (HOK.out z) (by rw [HVL.out]; rfl) y28
          refine opIn_run (v := .slice z.2.1 (nn + 1) z.2.2) (w' := w') rfl rfl (fun c h => by cases h) (fun _ => trivial) ?_ ⟨z, by exact many_put3 (HOK.out _) (by rw [HVL.out]; rfl) hL, hcm, by simp only [upd, y0, y1, y2, y3, y4, y5, y6, y7, y8, y9, y10, y11, y12, y13, y14, y15, y16, y17, y18, y19, y20, y21, y22, y23, y24, y25, y26, y27, y28, hL, Nat.reduceBEq, cond_true, cond_false]; exact hph⟩
          go_simp
      case fin =>
        intro L z w' hall hph
        obtain ⟨hcm, hph⟩ := hph
        have l27 := hall 27 (by decide)
        have l28 := hall 28 (by decide)
        simp only [l27, l28, cond_true] at hph
        clear l27 l28
        rw [HVL.out]
        dsimp only [manyL, List.set_cons_zero, List.set_cons_succ]
        clear hall HVL HOK HVI
        obtain ⟨zb, UA, UC⟩ := z
        simp only at hph hcm
        have HN2 : Hid (w'.ownsRow N 78 10 (.slice UA (nn + 1) UC) (nn + 1) ((zs ++ [xs.at l]).flatMap (encK o)) ∧ KpT 78 W w' ∧ Below N W w') := Lib.hid ⟨hph, hcm.1, hcm.2⟩
        clear hph hcm HI
        go_wp2
        go_roundg g1
        case measure => omega
        case rel => exact ⟨i + 1, nn + 1, UA, UC, _, by omega, rfl, by go_num, HN2, Lib.hid ⟨HZ2.out, by have := HZ.out.2; omega⟩⟩
    · obtain rfl : m = i := by omega
      have hlc : ¬ (m : Int) < (m : Int) := by omega
      have hz := HZ.out.1
      rw [List.take_of_length_le (by rw [HS.out.2]; exact Nat.le_refl _)] at hz
      have hnk := HZ.out.2
      subst hnk hz
      go_wp2_with fail
      exact HQ.out _ _ _ _ _ _ _ _ _ _ _ _ _ _ _ _ _ _ _ _ _ _ _ _ _ _ _ _ _ _ _ _ _ _ _ wa Va Vc HI
end
end
end Go.Proofs.Ytejoedanhonpkaa
