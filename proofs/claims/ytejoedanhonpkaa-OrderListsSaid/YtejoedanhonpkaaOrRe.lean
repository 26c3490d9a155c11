/- Packets in order: the reference's spots: a resolution's precincts. -/
import Derived.Test.YtejoedanhonpkaaOrU0
import Derived.Test.YtejoedanhonpkaaOrG
import Derived.Test.YtejoedanhonpkaaOrRc
import Derived.Test.YtejoedanhonpkaaCvN2
import Derived.Laws.Rows
import Derived.Deep.QuietTactic
import Derived.BigQuiet
import Derived.Deep.CutRange
import Derived.Deep.CutBlock
import Derived.Deep.LoopGhost
set_option linter.unusedVariables false
set_option linter.unusedSimpArgs false
namespace Go.Proofs.Ytejoedanhonpkaa
open Go.RowKit Go.Shelf
set_option maxRecDepth 100000
attribute [local go_sem] Oper.semAt_some
attribute [local go_sem ↓] appSem_eq
/-- Blocks of other types than T stay. -/
structure KpT (T : TypeId) (W w : World) : Prop where
  size : W.heap.size ≤ w.heap.size
  k : ∀ (b : Nat) (cs : Array Value) (t : TypeId), W.heap[b]? = some (.cells cs t (0, 0)) → t ≠ T → w.heap[b]? = some (.cells cs t (0, 0))
theorem KpT.refl (T : TypeId) (W : World) : KpT T W W := ⟨Nat.le_refl _, fun _ _ _ h _ => h⟩
section
variable {T : TypeId} {W w w' : World}
theorem KpT.below (h : KpT T W w) (hb : Below w.heap.size w w') : KpT T W w' :=
  ⟨Nat.le_trans h.size hb.size, fun b cs t h1 h2 => (hb.block b (Array.getElem?_eq_some_iff.1 (h.k b cs t h1 h2)).1).trans (h.k b cs t h1 h2)⟩
theorem KpT.trans (h : KpT T W w) (h' : KpT T w w') : KpT T W w' := ⟨Nat.le_trans h.size h'.size, fun b cs t h1 h2 => h'.k b cs t (h.k b cs t h1 h2) h2⟩
theorem KpT.grown {N s n : Nat} {V : Value} {xs : List Value} (h : KpT T W w) (ho : w.ownsRow N T s V n xs) (hg : w.grownBy w' V.ownBlock) : KpT T W w' :=
  ⟨Nat.le_trans h.size hg.size, fun b cs t h1 h2 => by
    have h3 := h.k b cs t h1 h2
    exact (hg.block b (Array.getElem?_eq_some_iff.1 h3).1 (fun e => blk_not_row h3 h2 ho e.symm)).trans h3⟩
end
@[reducible] def Pk.spv (x : Pk) : List Value := [.int .i64 x.rs, .int .i64 x.cp, .int .i64 x.pc, .int .i64 x.ac, .int .i64 x.dn]
theorem infoSp : (Try.prog.info? 75).map (fun i => (i.zero, i.size, i.bytes)) = some (some (.agg #[.int .i64 0, .int .i64 0, .int .i64 0, .int .i64 0, .int .i64 0]), 5, 40) := by kernel_rfl
theorem app_sp {w : World} {base m z : Nat} {v : Value} {xs : List Value} {x : Pk} (hown : w.ownsRow base 75 5 v m xs) (hz : w.heap[z]? = some (.cells #[.int .i64 x.rs, .int .i64 x.cp, .int .i64 x.pc, .int .i64 x.ac, .int .i64 x.dn] 75 (0, 0))) (hb : base ≤ w.heap.size) (hm : m ≤ 20000000) :
    ∃ v' w', (appSem #[72, 72] 72 #[v, .slice (some ⟨z, 0, none⟩) 1 1]).run Try.prog w = .ok v' w' ∧ w'.ownsRow base 75 5 v' (m + 1) (xs ++ x.spv) ∧ w.grownBy w' v.ownBlock := by
  obtain ⟨i0, hi, hzz⟩ := Option.map_eq_some_iff.1 infoSp
  simp only [Prod.mk.injEq] at hzz
  obtain ⟨hz0, hz1, hz2⟩ := hzz
  obtain ⟨v', w', hr, hown', hg, _, hat⟩ := run_append_own_at (P := Try.prog) w base 72 72 75 i0 _ 5 40 (by kernel_rfl) hi hz0 hz1 hz2 rfl (by decide) v m xs hown ⟨z, 0, none⟩ 1 1 x.spv rfl (fun j u hu => by
    rcases j with _ | _ | _ | _ | _ | j
    · simp at hu; subst hu; simp [World.cell?, Addr.add, hz]
    · simp at hu; subst hu; simp [World.cell?, Addr.add, hz]
    · simp at hu; subst hu; simp [World.cell?, Addr.add, hz]
    · simp at hu; subst hu; simp [World.cell?, Addr.add, hz]
    · simp at hu; subst hu; simp [World.cell?, Addr.add, hz]
    · simp at hu) (fun u hu => by
    simp at hu
    rcases hu with rfl | rfl | rfl | rfl | rfl <;> rfl) (by unfold maxLen; omega) (by omega) hb
  exact ⟨v', w', hr, hown', hg⟩
def spK (G : GE) (c r k : Nat) : List Pk := (List.range k).map fun k => G.pk 0 c r k
theorem spK_succ (G : GE) (c r k : Nat) : spK G c r (k + 1) = spK G c r k ++ [G.pk 0 c r k] := by simp [spK, List.range_succ]
theorem spK_len (G : GE) (c r k : Nat) : (spK G c r k).length = k := by simp [spK]
set_option maxHeartbeats 16000000 in
theorem spots_k {u0 u1 u2 u4 u5 u6 u10 u18 u19 u20 u21 u22 u23 u24 u25 u26 u27 u28 u29 u30 u31 u32 u33 u34 u35 u36 u37 u38 u39 u40 u41 u42 u43 u44 u45 u46 u47 u48 u49 u50 u51 u52 u53 u54 u55 u56 u57 u58 u59 u60 u61 u62 u63 u64 u65 u66 u67 u68 u69 u70 u71 u72 u73 u74 u75 u76 u77 u78 u79 u80 u81 u82 u83 u84 u85 u86 u87 u88 u89 u90 u91 u92 u93 u94 u95 u96 u97 u98 u99 u100 u101 u102 u103 u104 u105 u106 u107 u108 u109 u110 u111 : Value} (B xb qb wd ht wh N n0 c r : Nat) (X0 Y0 X1 Y1 dp DX DY q0 q1 q2 q3 wI hI NN SD : Int) (sg : Bool) (DV : Value) (G : GE) (Va : Option Addr) (Vc : Nat) (ys : List Pk) (W : World)
    (HC : Hid (W.heap[B]? = some (.cells #[.int .i64 X0, .int .i64 Y0, .int .i64 X1, .int .i64 Y1] 38 (0, 0)) ∧ W.heap[xb]? = some (.cells #[.int .i64 dp, .bool sg, .int .i64 DX, .int .i64 DY, DV] 48 (0, 0)) ∧ W.heap[qb]? = some (.cells #[.int .i64 q0, .int .i64 q1, .int .i64 q2, .int .i64 q3] 38 (0, 0))))
    (HO : Hid (W.ownsRow N 75 5 (.slice Va n0 Vc) n0 (ys.flatMap Pk.spv) ∧ N ≤ W.heap.size)) (HW : Hid ((wd : Int) = wI ∧ (ht : Int) = hI ∧ wd * ht = wh))
    (HG : Hid (∀ k, k < wh → G.pk 0 c r k = ⟨0, (r : Int), (c : Int), (k : Int), spotF Y0 q1 DY NN SD (k / wd), spotF X0 q0 DX NN SD (k % wd)⟩))
    (hX0 : 0 ≤ X0 ∧ X0 ≤ 255) (hY0 : 0 ≤ Y0 ∧ Y0 ≤ 255) (hq0 : 0 ≤ q0 ∧ q0 ≤ 255) (hq1 : 0 ≤ q1 ∧ q1 ≤ 255) (hDX : 1 ≤ DX ∧ DX ≤ 4) (hDY : 1 ≤ DY ∧ DY ≤ 4) (hNN : 1 ≤ NN ∧ NN ≤ 32768) (hSD : 1 ≤ SD ∧ SD ≤ 1048576)
    (hwd : wd ≤ 255) (hht : ht ≤ 255) (hn0 : n0 ≤ 10000000) {Q : Exit → Act → World → Prop}
    (hQ : ∀ (v65 v66 v67 v68 v69 v70 v71 v72 v73 v74 v75 v76 v77 v78 v79 v80 v81 v82 v83 v84 v85 v86 v87 v88 v89 v90 v91 v92 v93 v94 v95 v96 v97 v98 v99 v100 v101 v102 v103 v104 v105 v106 v107 v108 v109 v110 : Value) (W' : World) (Va2 : Option Addr) (Vc2 : Nat), Hid (W'.ownsRow N 75 5 (.slice Va2 (n0 + wh) Vc2) (n0 + wh) ((ys ++ spK G c r wh).flatMap Pk.spv) ∧ KpT 75 W W' ∧ Below N W W') → Q .normal ⟨#[u0, u1, u2, .pointer (some ⟨B, 0, none⟩), u4, u5, u6, .slice Va2 (n0 + wh) Vc2, .int .i64 (c : Int), .pointer (some ⟨xb, 0, none⟩), u10, .int .i64 (r : Int), .pointer (some ⟨qb, 0, none⟩), .int .i64 wI, .int .i64 hI, .int .i64 NN, .int .i64 SD, .int .i64 (wh : Int), u18, u19, u20, u21, u22, u23, u24, u25, u26, u27, u28, u29, u30, u31, u32, u33, u34, u35, u36, u37, u38, u39, u40, u41, u42, u43, u44, u45, u46, u47, u48, u49, u50, u51, u52, u53, u54, u55, u56, u57, u58, u59, u60, u61, u62, u63, u64, v65, v66, v67, v68, v69, v70, v71, v72, v73, v74, v75, v76, v77, v78, v79, v80, v81, v82, v83, v84, v85, v86, v87, v88, v89, v90, v91, v92, v93, v94, v95, v96, v97, v98, v99, v100, v101, v102, v103, v104, v105, v106, v107, v108, v109, v110, u111], []⟩ W') :
    (blkOf Try.f30 4).wp Try.prog Q ⟨#[u0, u1, u2, .pointer (some ⟨B, 0, none⟩), u4, u5, u6, .slice Va n0 Vc, .int .i64 (c : Int), .pointer (some ⟨xb, 0, none⟩), u10, .int .i64 (r : Int), .pointer (some ⟨qb, 0, none⟩), .int .i64 wI, .int .i64 hI, .int .i64 NN, .int .i64 SD, .int .i64 0, u18, u19, u20, u21, u22, u23, u24, u25, u26, u27, u28, u29, u30, u31, u32, u33, u34, u35, u36, u37, u38, u39, u40, u41, u42, u43, u44, u45, u46, u47, u48, u49, u50, u51, u52, u53, u54, u55, u56, u57, u58, u59, u60, u61, u62, u63, u64, u65, u66, u67, u68, u69, u70, u71, u72, u73, u74, u75, u76, u77, u78, u79, u80, u81, u82, u83, u84, u85, u86, u87, u88, u89, u90, u91, u92, u93, u94, u95, u96, u97, u98, u99, u100, u101, u102, u103, u104, u105, u106, u107, u108, u109, u110, u111], []⟩ W := by
  obtain ⟨o_, ho_⟩ : ∃ o, blkOf Try.f30 4 = o := ⟨_, rfl⟩
  rw [ho_]
  conv at ho_ => lhs; whnf
  subst ho_
  have HQ := Lib.hid hQ
  have hwh : wh ≤ 65025 := by rw [← HW.out.2.2]; exact Nat.le_trans (Nat.mul_le_mul hwd hht) (by decide)
  have hm1 : wI * hI = (wh : Int) := by rw [← HW.out.1, ← HW.out.2.1, ← HW.out.2.2]; push_cast; rfl
  have HNW : Hid (N ≤ W.heap.size) := Lib.hid HO.out.2
  have hb1 : -9223372036854775808 ≤ (wh : Int) ∧ (wh : Int) ≤ 9223372036854775807 := by omega
  clear hQ
  go_wp2_with fail
  go_loopg [7, 17] wh (fun g a v wr => ∃ (k nn : Nat) (Va : Option Addr) (Vc : Nat) (zs : List Pk), k + g = wh ∧ nn = n0 + k ∧ a = .slice Va nn Vc ∧ v = .int .i64 (k : Int) ∧ Hid (wr.ownsRow N 75 5 (.slice Va nn Vc) nn (zs.flatMap Pk.spv) ∧ KpT 75 W wr ∧ Below N W wr) ∧ Hid (zs = ys ++ spK G c r k))
  case atStart => exact ⟨0, n0, Va, Vc, ys, by omega, rfl, rfl, rfl, Lib.hid ⟨HO.out.1, KpT.refl _ _, Below.refl _ _⟩, Lib.hid (by simp [spK])⟩
  case round =>
    obtain ⟨k, nn, Va, Vc, zs, hkg, hnk, rfl, rfl, HI, HZ⟩ := hrel
    obtain ⟨wa, hwa⟩ : ∃ wa, wa = wr := ⟨wr, rfl⟩
    subst hwa
    have HNN : Hid (nn ≤ 20000000) := Lib.hid (by omega)
    have HNK := Lib.hid hnk
    clear hnk
    by_cases hkm : k < wh
    · obtain ⟨g1, rfl⟩ : ∃ g1, gk = g1 + 1 := ⟨gk - 1, by omega⟩
      have hkI : (k : Int) < (wh : Int) := by omega
      have hwp : 0 < wd := by
        rcases Nat.eq_zero_or_pos wd with h | h
        · exfalso; have := HW.out.2.2; rw [h, Nat.zero_mul] at this; omega
        · exact h
      obtain ⟨a, ha⟩ : ∃ a, k % wd = a := ⟨_, rfl⟩
      obtain ⟨d, hd⟩ : ∃ d, k / wd = d := ⟨_, rfl⟩
      have hal : a < wd := by rw [← ha]; exact Nat.mod_lt _ hwp
      have hdl : d < ht := by rw [← hd]; exact Nat.div_lt_of_lt_mul (by have := HW.out.2.2; omega)
      obtain ⟨A1, hA1⟩ : ∃ i, q0 / NN = i := ⟨_, rfl⟩
      obtain ⟨A3, hA3⟩ : ∃ i, q1 / NN = i := ⟨_, rfl⟩
      have hA1b : 0 ≤ A1 ∧ A1 ≤ 255 := by
        have h1 : 0 ≤ q0 / NN := Int.ediv_nonneg (by omega) (by omega)
        have h2 : q0 / NN ≤ q0 := Int.ediv_le_self _ (by omega)
        omega
      have hA3b : 0 ≤ A3 ∧ A3 ≤ 255 := by
        have h1 : 0 ≤ q1 / NN := Int.ediv_nonneg (by omega) (by omega)
        have h2 : q1 / NN ≤ q1 := Int.ediv_le_self _ (by omega)
        omega
      obtain ⟨A2, hA2⟩ : ∃ i : Int, (a : Int) = i := ⟨_, rfl⟩
      obtain ⟨A4, hA4⟩ : ∃ i : Int, (d : Int) = i := ⟨_, rfl⟩
      obtain ⟨E0, hE0⟩ : ∃ e, A1 + A2 = e := ⟨_, rfl⟩
      obtain ⟨E1, hE1⟩ : ∃ e, A3 + A4 = e := ⟨_, rfl⟩
      have hE0b : 0 ≤ E0 ∧ E0 ≤ 510 := by omega
      have hE1b : 0 ≤ E1 ∧ E1 ≤ 510 := by omega
      have p0b : 0 ≤ SD * DX ∧ SD * DX ≤ 1048576 * 4 := ⟨Int.mul_nonneg (by omega) (by omega), Int.mul_le_mul (by omega) (by omega) (by omega) (by omega)⟩
      have p1b : 0 ≤ SD * DY ∧ SD * DY ≤ 1048576 * 4 := ⟨Int.mul_nonneg (by omega) (by omega), Int.mul_le_mul (by omega) (by omega) (by omega) (by omega)⟩
      obtain ⟨P0, hP0⟩ : ∃ f, SD * DX = f := ⟨_, rfl⟩
      obtain ⟨P1, hP1⟩ : ∃ f, SD * DY = f := ⟨_, rfl⟩
      rw [hP0] at p0b
      rw [hP1] at p1b
      have r0b : 0 ≤ P0 * E0 ∧ P0 * E0 ≤ 1048576 * 4 * 510 := ⟨Int.mul_nonneg (by omega) (by omega), Int.mul_le_mul (by omega) (by omega) (by omega) (by omega)⟩
      have r1b : 0 ≤ P1 * E1 ∧ P1 * E1 ≤ 1048576 * 4 * 510 := ⟨Int.mul_nonneg (by omega) (by omega), Int.mul_le_mul (by omega) (by omega) (by omega) (by omega)⟩
      obtain ⟨R0, hR0⟩ : ∃ f, P0 * E0 = f := ⟨_, rfl⟩
      obtain ⟨R1, hR1⟩ : ∃ f, P1 * E1 = f := ⟨_, rfl⟩
      rw [hR0] at r0b
      rw [hR1] at r1b
      obtain ⟨AC, hAC⟩ : ∃ A : Int, (if X0 < R0 then R0 else X0) = A := ⟨_, rfl⟩
      obtain ⟨DN, hDN⟩ : ∃ A : Int, (if Y0 < R1 then R1 else Y0) = A := ⟨_, rfl⟩
      have HPK : Hid (G.pk 0 c r k = ⟨0, (r : Int), (c : Int), (k : Int), DN, AC⟩) := Lib.hid (by
        rw [HG.out k hkm]
        unfold spotF maxJ
        rw [ha, hd, hA1, hA3, hA2, hA4, hE0, hE1, show E0 * DX * SD = R0 by rw [← hR0, ← hP0, Int.mul_comm E0, Int.mul_comm (DX * E0), Int.mul_assoc], show E1 * DY * SD = R1 by rw [← hR1, ← hP1, Int.mul_comm E1, Int.mul_comm (DY * E1), Int.mul_assoc], hAC, hDN])
      have HEQ : Hid (SD * DX = P0 ∧ q0.tdiv NN = A1 ∧ (k : Int).tmod wI = A2 ∧ A1 + A2 = E0 ∧ P0 * E0 = R0 ∧ SD * DY = P1 ∧ q1.tdiv NN = A3 ∧ (k : Int).tdiv wI = A4 ∧ A3 + A4 = E1 ∧ P1 * E1 = R1) := Lib.hid
        ⟨hP0, by rw [Int.tdiv_eq_ediv_of_nonneg (by omega), hA1], by rw [← HW.out.1, Int.tmod_eq_emod_of_nonneg (by omega), ← hA2, ← ha]; rfl, hE0, hR0, hP1, by rw [Int.tdiv_eq_ediv_of_nonneg (by omega), hA3], by rw [← HW.out.1, Int.tdiv_eq_ediv_of_nonneg (by omega), ← hA4, ← hd]; rfl, hE1, hR1⟩
      have HMX : Hid (max X0 R0 = AC ∧ max Y0 R1 = DN) := Lib.hid ⟨by rw [← hAC, Int.max_def]; split <;> split <;> omega, by rw [← hDN, Int.max_def]; split <;> split <;> omega⟩
      have HBD : Hid ((-9223372036854775808 ≤ P0 ∧ P0 ≤ 9223372036854775807) ∧ (-9223372036854775808 ≤ A1 ∧ A1 ≤ 9223372036854775807) ∧ (-9223372036854775808 ≤ A2 ∧ A2 ≤ 9223372036854775807) ∧ (-9223372036854775808 ≤ E0 ∧ E0 ≤ 9223372036854775807) ∧ (-9223372036854775808 ≤ R0 ∧ R0 ≤ 9223372036854775807) ∧ (-9223372036854775808 ≤ P1 ∧ P1 ≤ 9223372036854775807) ∧ (-9223372036854775808 ≤ A3 ∧ A3 ≤ 9223372036854775807) ∧ (-9223372036854775808 ≤ A4 ∧ A4 ≤ 9223372036854775807) ∧ (-9223372036854775808 ≤ E1 ∧ E1 ≤ 9223372036854775807) ∧ (-9223372036854775808 ≤ R1 ∧ R1 ≤ 9223372036854775807)) := Lib.hid (by omega)
      have hnz : ¬ NN = 0 ∧ ¬ wI = 0 := by have := HW.out.1; omega
      have HZ2 : Hid (zs ++ [(⟨0, (r : Int), (c : Int), (k : Int), DN, AC⟩ : Pk)] = ys ++ spK G c r (k + 1)) := Lib.hid (by rw [spK_succ, ← List.append_assoc, ← HZ.out, HPK.out])
      clear ha hd hA1 hA3 hA2 hA4 hE0 hE1 hP0 hP1 hR0 hR1 hAC hDN HPK hal hdl hA1b hA3b hE0b hE1b p0b p1b r0b r1b
      go_upto_region 17 with fail
      obtain ⟨VL, hVL⟩ : ∃ VL : Nat × Option Addr × Nat → List (Nat × Nat × Value), VL = fun z => [(0, 72, .slice Va nn Vc), (1, 73, .int .i64 (r : Int)), (2, 74, .int .i64 (c : Int)), (3, 75, .int .i64 (k : Int)), (4, 76, .pointer (some ⟨B, 0, none⟩)), (5, 77, .int .i64 X0), (6, 78, .int .i64 SD), (7, 79, .pointer (some ⟨xb, 2, none⟩)), (8, 80, .int .i64 DX), (9, 81, .int .i64 P0), (10, 82, .pointer (some ⟨qb, 0, none⟩)), (11, 83, .int .i64 q0), (12, 84, .int .i64 NN), (13, 85, .int .i64 A1), (14, 86, .int .i64 (k : Int)), (15, 87, .int .i64 wI), (16, 88, .int .i64 A2), (17, 89, .int .i64 E0), (18, 90, .int .i64 R0), (19, 91, .int .i64 AC), (20, 92, .pointer (some ⟨B, 1, none⟩)), (21, 93, .int .i64 Y0), (22, 94, .int .i64 SD), (23, 95, .pointer (some ⟨xb, 3, none⟩)), (24, 96, .int .i64 DY), (25, 97, .int .i64 P1), (26, 98, .pointer (some ⟨qb, 1, none⟩)), (27, 99, .int .i64 q1), (28, 100, .int .i64 NN), (29, 101, .int .i64 A3), (30, 102, .int .i64 (k : Int)), (31, 103, .int .i64 wI), (32, 104, .int .i64 A4), (33, 105, .int .i64 E1), (34, 106, .int .i64 R1), (35, 107, .int .i64 DN), (36, 108, .agg #[.int .i64 (r : Int), .int .i64 (c : Int), .int .i64 (k : Int), .int .i64 AC, .int .i64 DN]), (37, 109, .slice (some ⟨z.1, 0, none⟩) 1 1), (38, 110, .slice z.2.1 (nn + 1) z.2.2), (39, 7, .slice z.2.1 (nn + 1) z.2.2)] := ⟨_, rfl⟩
      have hok : ∀ z, manyOk 112 (VL z) := fun z => by rw [hVL]; exact okB_ok rfl
      have HVL := Lib.hid hVL
      have hvi : ∀ z, ∀ x ∈ VL z, x.1 < 40 := fun z => by rw [hVL]; exact ltB_ok rfl
      have HOK := Lib.hid hok
      have HVI := Lib.hid hvi
      clear hVL hok hvi
      refine (wpIn_wide (n := 9)).1 (regionIn_many (N := 112) (w := _) VL (fun L z w' => (KpT 75 W w' ∧ Below N W w') ∧ (bif L 38 then (w'.ownsRow N 75 5 (.slice z.2.1 (nn + 1) z.2.2) (nn + 1) ((zs ++ [(⟨0, (r : Int), (c : Int), (k : Int), DN, AC⟩ : Pk)]).flatMap Pk.spv)) else (bif L 37 then (w'.ownsRow N 75 5 (.slice Va nn Vc) nn (zs.flatMap Pk.spv) ∧ w'.heap[z.1]? = some (.cells #[.int .i64 (r : Int), .int .i64 (c : Int), .int .i64 (k : Int), .int .i64 AC, .int .i64 DN] 75 (0, 0))) else w'.ownsRow N 75 5 (.slice Va nn Vc) nn (zs.flatMap Pk.spv)))) [(3, .pointer (some ⟨B, 0, none⟩)), (7, .slice Va nn Vc), (8, .int .i64 (c : Int)), (9, .pointer (some ⟨xb, 0, none⟩)), (11, .int .i64 (r : Int)), (12, .pointer (some ⟨qb, 0, none⟩)), (13, .int .i64 wI), (15, .int .i64 NN), (16, .int .i64 SD), (17, .int .i64 (k : Int))] (by kernel_rfl) (by kernel_rfl) rfl (by simp only [List.forall_mem_cons, List.not_mem_nil, false_imp_iff, implies_true, and_true]; exact ⟨rfl, rfl, rfl, rfl, rfl, rfl, rfl, rfl, rfl, rfl⟩) HVI.out (0, none, 0) ?start ?step ?fin)
      case start => exact ⟨⟨HI.out.2.1.below (below_drewN (Below.refl _ _) 1), below_drewN HI.out.2.2 1⟩, ownsRow_keep HI.out.1 (Nat.le_refl _) (fun _ _ => rfl)⟩
      case step =>
        intro gg_ hgN hgF ii_ hii_ L z w' hph hs hu
        obtain ⟨hcm, hph⟩ := hph
        have hF3 := hgF (3, .pointer (some ⟨B, 0, none⟩)) (by simp)
        have hF7 := hgF (7, .slice Va nn Vc) (by simp)
        have hF8 := hgF (8, .int .i64 (c : Int)) (by simp)
        have hF9 := hgF (9, .pointer (some ⟨xb, 0, none⟩)) (by simp)
        have hF11 := hgF (11, .int .i64 (r : Int)) (by simp)
        have hF12 := hgF (12, .pointer (some ⟨qb, 0, none⟩)) (by simp)
        have hF13 := hgF (13, .int .i64 wI) (by simp)
        have hF15 := hgF (15, .int .i64 NN) (by simp)
        have hF16 := hgF (16, .int .i64 SD) (by simp)
        have hF17 := hgF (17, .int .i64 (k : Int)) (by simp)
        have hL := hu.1
        have hii_ : ii_ < 40 := hii_
        clear hgF
        obtain rfl | rfl | rfl | rfl | rfl | rfl | rfl | rfl | rfl | rfl | rfl | rfl | rfl | rfl | rfl | rfl | rfl | rfl | rfl | rfl | rfl | rfl | rfl | rfl | rfl | rfl | rfl | rfl | rfl | rfl | rfl | rfl | rfl | rfl | rfl | rfl | rfl | rfl | rfl | rfl := (by omega : ii_ = 0 ∨ ii_ = 1 ∨ ii_ = 2 ∨ ii_ = 3 ∨ ii_ = 4 ∨ ii_ = 5 ∨ ii_ = 6 ∨ ii_ = 7 ∨ ii_ = 8 ∨ ii_ = 9 ∨ ii_ = 10 ∨ ii_ = 11 ∨ ii_ = 12 ∨ ii_ = 13 ∨ ii_ = 14 ∨ ii_ = 15 ∨ ii_ = 16 ∨ ii_ = 17 ∨ ii_ = 18 ∨ ii_ = 19 ∨ ii_ = 20 ∨ ii_ = 21 ∨ ii_ = 22 ∨ ii_ = 23 ∨ ii_ = 24 ∨ ii_ = 25 ∨ ii_ = 26 ∨ ii_ = 27 ∨ ii_ = 28 ∨ ii_ = 29 ∨ ii_ = 30 ∨ ii_ = 31 ∨ ii_ = 32 ∨ ii_ = 33 ∨ ii_ = 34 ∨ ii_ = 35 ∨ ii_ = 36 ∨ ii_ = 37 ∨ ii_ = 38 ∨ ii_ = 39)
        · skip
          have n38 : L 38 = false := not_yet hL fun h => shut_at hs 38 0 (by kernel_rfl) (h)
          have n39 : L 39 = false := not_yet hL fun h => shut_at hs 39 0 (by kernel_rfl) (h)
          try simp only [n38, n39, hL, cond_true, cond_false] at hph
          have e7 : (many gg_ L (VL z))[7]?.getD undef = .slice Va nn Vc := many_out3' hgN (HOK.out z) (by rw [HVL.out]; rfl) (by assumption) hF7
          refine opIn_run (v := .slice Va nn Vc) (w' := w') rfl rfl (fun c h => by cases h) (fun _ => trivial) ?_ ⟨z, by exact many_put3 (HOK.out _) (by rw [HVL.out]; rfl) hL, hcm, by simp only [upd, n38, n39, hL, Nat.reduceBEq, cond_true, cond_false]; exact hph⟩
          go_simp
        · skip
          have n37 : L 37 = false := not_yet hL fun h => shut_at hs 36 1 (by kernel_rfl) (shut_at hs 37 36 (by kernel_rfl) (h))
          have n38 : L 38 = false := not_yet hL fun h => shut_at hs 36 1 (by kernel_rfl) (shut_at hs 37 36 (by kernel_rfl) (shut_at hs 38 37 (by kernel_rfl) (h)))
          have n39 : L 39 = false := not_yet hL fun h => shut_at hs 39 1 (by kernel_rfl) (h)
          try simp only [n37, n38, n39, hL, cond_true, cond_false] at hph
          have e11 : (many gg_ L (VL z))[11]?.getD undef = .int .i64 (r : Int) := many_out3 hgN (HOK.out z) (by rw [HVL.out]; rfl) hF11
          refine opIn_run (v := .int .i64 (r : Int)) (w' := w') rfl rfl (fun c h => by cases h) (fun _ => trivial) ?_ ⟨z, by exact many_put3 (HOK.out _) (by rw [HVL.out]; rfl) hL, hcm, by simp only [upd, n37, n38, n39, hL, Nat.reduceBEq, cond_true, cond_false]; exact hph⟩
          go_simp
        · skip
          have n37 : L 37 = false := not_yet hL fun h => shut_at hs 36 2 (by kernel_rfl) (shut_at hs 37 36 (by kernel_rfl) (h))
          have n38 : L 38 = false := not_yet hL fun h => shut_at hs 36 2 (by kernel_rfl) (shut_at hs 37 36 (by kernel_rfl) (shut_at hs 38 37 (by kernel_rfl) (h)))
          have n39 : L 39 = false := not_yet hL fun h => shut_at hs 39 2 (by kernel_rfl) (h)
          try simp only [n37, n38, n39, hL, cond_true, cond_false] at hph
          have e8 : (many gg_ L (VL z))[8]?.getD undef = .int .i64 (c : Int) := many_out3 hgN (HOK.out z) (by rw [HVL.out]; rfl) hF8
          refine opIn_run (v := .int .i64 (c : Int)) (w' := w') rfl rfl (fun c h => by cases h) (fun _ => trivial) ?_ ⟨z, by exact many_put3 (HOK.out _) (by rw [HVL.out]; rfl) hL, hcm, by simp only [upd, n37, n38, n39, hL, Nat.reduceBEq, cond_true, cond_false]; exact hph⟩
          go_simp
        · skip
          have n37 : L 37 = false := not_yet hL fun h => shut_at hs 36 3 (by kernel_rfl) (shut_at hs 37 36 (by kernel_rfl) (h))
          have n38 : L 38 = false := not_yet hL fun h => shut_at hs 36 3 (by kernel_rfl) (shut_at hs 37 36 (by kernel_rfl) (shut_at hs 38 37 (by kernel_rfl) (h)))
          have n39 : L 39 = false := not_yet hL fun h => shut_at hs 39 3 (by kernel_rfl) (h)
          try simp only [n37, n38, n39, hL, cond_true, cond_false] at hph
          have e17 : (many gg_ L (VL z))[17]?.getD undef = .int .i64 (k : Int) := many_out3 hgN (HOK.out z) (by rw [HVL.out]; rfl) hF17
          refine opIn_run (v := .int .i64 (k : Int)) (w' := w') rfl rfl (fun c h => by cases h) (fun _ => trivial) ?_ ⟨z, by exact many_put3 (HOK.out _) (by rw [HVL.out]; rfl) hL, hcm, by simp only [upd, n37, n38, n39, hL, Nat.reduceBEq, cond_true, cond_false]; exact hph⟩
          go_simp
        · skip
          have n37 : L 37 = false := not_yet hL fun h => shut_at hs 5 4 (by kernel_rfl) (shut_at hs 19 5 (by kernel_rfl) (shut_at hs 36 19 (by kernel_rfl) (shut_at hs 37 36 (by kernel_rfl) (h))))
          have n38 : L 38 = false := not_yet hL fun h => shut_at hs 5 4 (by kernel_rfl) (shut_at hs 19 5 (by kernel_rfl) (shut_at hs 36 19 (by kernel_rfl) (shut_at hs 37 36 (by kernel_rfl) (shut_at hs 38 37 (by kernel_rfl) (h)))))
          have n39 : L 39 = false := not_yet hL fun h => shut_at hs 39 4 (by kernel_rfl) (h)
          try simp only [n37, n38, n39, hL, cond_true, cond_false] at hph
          have e3 : (many gg_ L (VL z))[3]?.getD undef = .pointer (some ⟨B, 0, none⟩) := many_out3 hgN (HOK.out z) (by rw [HVL.out]; rfl) hF3
          refine opIn_run (v := .pointer (some ⟨B, 0, none⟩)) (w' := w') rfl rfl (fun c h => by cases h) (fun _ => trivial) ?_ ⟨z, by exact many_put3 (HOK.out _) (by rw [HVL.out]; rfl) hL, hcm, by simp only [upd, n37, n38, n39, hL, Nat.reduceBEq, cond_true, cond_false]; exact hph⟩
          go_simp
        · skip
          have y4 : L 4 = true := up_at hu 4 (by kernel_rfl)
          have n37 : L 37 = false := not_yet hL fun h => shut_at hs 19 5 (by kernel_rfl) (shut_at hs 36 19 (by kernel_rfl) (shut_at hs 37 36 (by kernel_rfl) (h)))
          have n38 : L 38 = false := not_yet hL fun h => shut_at hs 19 5 (by kernel_rfl) (shut_at hs 36 19 (by kernel_rfl) (shut_at hs 37 36 (by kernel_rfl) (shut_at hs 38 37 (by kernel_rfl) (h))))
          have n39 : L 39 = false := not_yet hL fun h => shut_at hs 39 5 (by kernel_rfl) (h)
          try simp only [y4, n37, n38, n39, hL, cond_true, cond_false] at hph
          have hcell : w'.cell? ⟨B, 0, none⟩ = some (.int .i64 X0) := blk_cell (hcm.1.k _ _ _ HC.out.1 (by decide)) 0
          have e76 : (many gg_ L (VL z))[76]?.getD undef = .pointer (some ⟨B, 0, none⟩) := many_eval3 hgN (HOK.out z) (by rw [HVL.out]; rfl) y4
          refine opIn_run (v := .int .i64 X0) (w' := w') rfl rfl (fun c h => by cases h) (fun _ => trivial) ?_ ⟨z, by exact many_put3 (HOK.out _) (by rw [HVL.out]; rfl) hL, hcm, by simp only [upd, y4, n37, n38, n39, hL, Nat.reduceBEq, cond_true, cond_false]; exact hph⟩
          go_simp
        · skip
          have n37 : L 37 = false := not_yet hL fun h => shut_at hs 9 6 (by kernel_rfl) (shut_at hs 18 9 (by kernel_rfl) (shut_at hs 19 18 (by kernel_rfl) (shut_at hs 36 19 (by kernel_rfl) (shut_at hs 37 36 (by kernel_rfl) (h)))))
          have n38 : L 38 = false := not_yet hL fun h => shut_at hs 9 6 (by kernel_rfl) (shut_at hs 18 9 (by kernel_rfl) (shut_at hs 19 18 (by kernel_rfl) (shut_at hs 36 19 (by kernel_rfl) (shut_at hs 37 36 (by kernel_rfl) (shut_at hs 38 37 (by kernel_rfl) (h))))))
          have n39 : L 39 = false := not_yet hL fun h => shut_at hs 39 6 (by kernel_rfl) (h)
          try simp only [n37, n38, n39, hL, cond_true, cond_false] at hph
          have e16 : (many gg_ L (VL z))[16]?.getD undef = .int .i64 SD := many_out3 hgN (HOK.out z) (by rw [HVL.out]; rfl) hF16
          refine opIn_run (v := .int .i64 SD) (w' := w') rfl rfl (fun c h => by cases h) (fun _ => trivial) ?_ ⟨z, by exact many_put3 (HOK.out _) (by rw [HVL.out]; rfl) hL, hcm, by simp only [upd, n37, n38, n39, hL, Nat.reduceBEq, cond_true, cond_false]; exact hph⟩
          go_simp
        · skip
          have n37 : L 37 = false := not_yet hL fun h => shut_at hs 8 7 (by kernel_rfl) (shut_at hs 9 8 (by kernel_rfl) (shut_at hs 18 9 (by kernel_rfl) (shut_at hs 19 18 (by kernel_rfl) (shut_at hs 36 19 (by kernel_rfl) (shut_at hs 37 36 (by kernel_rfl) (h))))))
          have n38 : L 38 = false := not_yet hL fun h => shut_at hs 8 7 (by kernel_rfl) (shut_at hs 9 8 (by kernel_rfl) (shut_at hs 18 9 (by kernel_rfl) (shut_at hs 19 18 (by kernel_rfl) (shut_at hs 36 19 (by kernel_rfl) (shut_at hs 37 36 (by kernel_rfl) (shut_at hs 38 37 (by kernel_rfl) (h)))))))
          have n39 : L 39 = false := not_yet hL fun h => shut_at hs 39 7 (by kernel_rfl) (h)
          try simp only [n37, n38, n39, hL, cond_true, cond_false] at hph
          have e9 : (many gg_ L (VL z))[9]?.getD undef = .pointer (some ⟨xb, 0, none⟩) := many_out3 hgN (HOK.out z) (by rw [HVL.out]; rfl) hF9
          refine opIn_run (v := .pointer (some ⟨xb, 2, none⟩)) (w' := w') rfl rfl (fun c h => by cases h) (fun _ => trivial) ?_ ⟨z, by exact many_put3 (HOK.out _) (by rw [HVL.out]; rfl) hL, hcm, by simp only [upd, n37, n38, n39, hL, Nat.reduceBEq, cond_true, cond_false]; exact hph⟩
          go_simp
        · skip
          have y7 : L 7 = true := up_at hu 7 (by kernel_rfl)
          have n37 : L 37 = false := not_yet hL fun h => shut_at hs 9 8 (by kernel_rfl) (shut_at hs 18 9 (by kernel_rfl) (shut_at hs 19 18 (by kernel_rfl) (shut_at hs 36 19 (by kernel_rfl) (shut_at hs 37 36 (by kernel_rfl) (h)))))
          have n38 : L 38 = false := not_yet hL fun h => shut_at hs 9 8 (by kernel_rfl) (shut_at hs 18 9 (by kernel_rfl) (shut_at hs 19 18 (by kernel_rfl) (shut_at hs 36 19 (by kernel_rfl) (shut_at hs 37 36 (by kernel_rfl) (shut_at hs 38 37 (by kernel_rfl) (h))))))
          have n39 : L 39 = false := not_yet hL fun h => shut_at hs 39 8 (by kernel_rfl) (h)
          try simp only [y7, n37, n38, n39, hL, cond_true, cond_false] at hph
          have hcell : w'.cell? ⟨xb, 2, none⟩ = some (.int .i64 DX) := blk_cell (hcm.1.k _ _ _ HC.out.2.1 (by decide)) 2
          have e79 : (many gg_ L (VL z))[79]?.getD undef = .pointer (some ⟨xb, 2, none⟩) := many_eval3 hgN (HOK.out z) (by rw [HVL.out]; rfl) y7
          refine opIn_run (v := .int .i64 DX) (w' := w') rfl rfl (fun c h => by cases h) (fun _ => trivial) ?_ ⟨z, by exact many_put3 (HOK.out _) (by rw [HVL.out]; rfl) hL, hcm, by simp only [upd, y7, n37, n38, n39, hL, Nat.reduceBEq, cond_true, cond_false]; exact hph⟩
          go_simp
        · skip
          have y6 : L 6 = true := up_at hu 6 (by kernel_rfl)
          have y8 : L 8 = true := up_at hu 8 (by kernel_rfl)
          have n37 : L 37 = false := not_yet hL fun h => shut_at hs 18 9 (by kernel_rfl) (shut_at hs 19 18 (by kernel_rfl) (shut_at hs 36 19 (by kernel_rfl) (shut_at hs 37 36 (by kernel_rfl) (h))))
          have n38 : L 38 = false := not_yet hL fun h => shut_at hs 18 9 (by kernel_rfl) (shut_at hs 19 18 (by kernel_rfl) (shut_at hs 36 19 (by kernel_rfl) (shut_at hs 37 36 (by kernel_rfl) (shut_at hs 38 37 (by kernel_rfl) (h)))))
          have n39 : L 39 = false := not_yet hL fun h => shut_at hs 39 9 (by kernel_rfl) (h)
          try simp only [y6, y8, n37, n38, n39, hL, cond_true, cond_false] at hph
          have e78 : (many gg_ L (VL z))[78]?.getD undef = .int .i64 SD := many_eval3 hgN (HOK.out z) (by rw [HVL.out]; rfl) y6
          have e80 : (many gg_ L (VL z))[80]?.getD undef = .int .i64 DX := many_eval3 hgN (HOK.out z) (by rw [HVL.out]; rfl) y8
          refine opIn_run (v := .int .i64 P0) (w' := w') rfl rfl (fun c h => by cases h) (fun _ => trivial) ?_ ⟨z, by exact many_put3 (HOK.out _) (by rw [HVL.out]; rfl) hL, hcm, by simp only [upd, y6, y8, n37, n38, n39, hL, Nat.reduceBEq, cond_true, cond_false]; exact hph⟩
          have q1_ := HEQ.out.1
          have hb9 := HBD.out.1
          go_simp
          first | done | exact IntWalk.i64_in _ hb9 | (rw [q1_]; exact IntWalk.i64_in _ hb9)
        · skip
          have n37 : L 37 = false := not_yet hL fun h => shut_at hs 11 10 (by kernel_rfl) (shut_at hs 13 11 (by kernel_rfl) (shut_at hs 17 13 (by kernel_rfl) (shut_at hs 18 17 (by kernel_rfl) (shut_at hs 19 18 (by kernel_rfl) (shut_at hs 36 19 (by kernel_rfl) (shut_at hs 37 36 (by kernel_rfl) (h)))))))
          have n38 : L 38 = false := not_yet hL fun h => shut_at hs 11 10 (by kernel_rfl) (shut_at hs 13 11 (by kernel_rfl) (shut_at hs 17 13 (by kernel_rfl) (shut_at hs 18 17 (by kernel_rfl) (shut_at hs 19 18 (by kernel_rfl) (shut_at hs 36 19 (by kernel_rfl) (shut_at hs 37 36 (by kernel_rfl) (shut_at hs 38 37 (by kernel_rfl) (h))))))))
          have n39 : L 39 = false := not_yet hL fun h => shut_at hs 39 10 (by kernel_rfl) (h)
          try simp only [n37, n38, n39, hL, cond_true, cond_false] at hph
          have e12 : (many gg_ L (VL z))[12]?.getD undef = .pointer (some ⟨qb, 0, none⟩) := many_out3 hgN (HOK.out z) (by rw [HVL.out]; rfl) hF12
          refine opIn_run (v := .pointer (some ⟨qb, 0, none⟩)) (w' := w') rfl rfl (fun c h => by cases h) (fun _ => trivial) ?_ ⟨z, by exact many_put3 (HOK.out _) (by rw [HVL.out]; rfl) hL, hcm, by simp only [upd, n37, n38, n39, hL, Nat.reduceBEq, cond_true, cond_false]; exact hph⟩
          go_simp
        · skip
          have y10 : L 10 = true := up_at hu 10 (by kernel_rfl)
          have n37 : L 37 = false := not_yet hL fun h => shut_at hs 13 11 (by kernel_rfl) (shut_at hs 17 13 (by kernel_rfl) (shut_at hs 18 17 (by kernel_rfl) (shut_at hs 19 18 (by kernel_rfl) (shut_at hs 36 19 (by kernel_rfl) (shut_at hs 37 36 (by kernel_rfl) (h))))))
          have n38 : L 38 = false := not_yet hL fun h => shut_at hs 13 11 (by kernel_rfl) (shut_at hs 17 13 (by kernel_rfl) (shut_at hs 18 17 (by kernel_rfl) (shut_at hs 19 18 (by kernel_rfl) (shut_at hs 36 19 (by kernel_rfl) (shut_at hs 37 36 (by kernel_rfl) (shut_at hs 38 37 (by kernel_rfl) (h)))))))
          have n39 : L 39 = false := not_yet hL fun h => shut_at hs 39 11 (by kernel_rfl) (h)
          try simp only [y10, n37, n38, n39, hL, cond_true, cond_false] at hph
          have hcell : w'.cell? ⟨qb, 0, none⟩ = some (.int .i64 q0) := blk_cell (hcm.1.k _ _ _ HC.out.2.2 (by decide)) 0
          have e82 : (many gg_ L (VL z))[82]?.getD undef = .pointer (some ⟨qb, 0, none⟩) := many_eval3 hgN (HOK.out z) (by rw [HVL.out]; rfl) y10
          refine opIn_run (v := .int .i64 q0) (w' := w') rfl rfl (fun c h => by cases h) (fun _ => trivial) ?_ ⟨z, by exact many_put3 (HOK.out _) (by rw [HVL.out]; rfl) hL, hcm, by simp only [upd, y10, n37, n38, n39, hL, Nat.reduceBEq, cond_true, cond_false]; exact hph⟩
          go_simp
        · skip
          have n37 : L 37 = false := not_yet hL fun h => shut_at hs 13 12 (by kernel_rfl) (shut_at hs 17 13 (by kernel_rfl) (shut_at hs 18 17 (by kernel_rfl) (shut_at hs 19 18 (by kernel_rfl) (shut_at hs 36 19 (by kernel_rfl) (shut_at hs 37 36 (by kernel_rfl) (h))))))
          have n38 : L 38 = false := not_yet hL fun h => shut_at hs 13 12 (by kernel_rfl) (shut_at hs 17 13 (by kernel_rfl) (shut_at hs 18 17 (by kernel_rfl) (shut_at hs 19 18 (by kernel_rfl) (shut_at hs 36 19 (by kernel_rfl) (shut_at hs 37 36 (by kernel_rfl) (shut_at hs 38 37 (by kernel_rfl) (h)))))))
          have n39 : L 39 = false := not_yet hL fun h => shut_at hs 39 12 (by kernel_rfl) (h)
          try simp only [n37, n38, n39, hL, cond_true, cond_false] at hph
          have e15 : (many gg_ L (VL z))[15]?.getD undef = .int .i64 NN := many_out3 hgN (HOK.out z) (by rw [HVL.out]; rfl) hF15
          refine opIn_run (v := .int .i64 NN) (w' := w') rfl rfl (fun c h => by cases h) (fun _ => trivial) ?_ ⟨z, by exact many_put3 (HOK.out _) (by rw [HVL.out]; rfl) hL, hcm, by simp only [upd, n37, n38, n39, hL, Nat.reduceBEq, cond_true, cond_false]; exact hph⟩
          go_simp
        · skip
          have y11 : L 11 = true := up_at hu 11 (by kernel_rfl)
          have y12 : L 12 = true := up_at hu 12 (by kernel_rfl)
          have n37 : L 37 = false := not_yet hL fun h => shut_at hs 17 13 (by kernel_rfl) (shut_at hs 18 17 (by kernel_rfl) (shut_at hs 19 18 (by kernel_rfl) (shut_at hs 36 19 (by kernel_rfl) (shut_at hs 37 36 (by kernel_rfl) (h)))))
          have n38 : L 38 = false := not_yet hL fun h => shut_at hs 17 13 (by kernel_rfl) (shut_at hs 18 17 (by kernel_rfl) (shut_at hs 19 18 (by kernel_rfl) (shut_at hs 36 19 (by kernel_rfl) (shut_at hs 37 36 (by kernel_rfl) (shut_at hs 38 37 (by kernel_rfl) (h))))))
          have n39 : L 39 = false := not_yet hL fun h => shut_at hs 39 13 (by kernel_rfl) (h)
          try simp only [y11, y12, n37, n38, n39, hL, cond_true, cond_false] at hph
          have e83 : (many gg_ L (VL z))[83]?.getD undef = .int .i64 q0 := many_eval3 hgN (HOK.out z) (by rw [HVL.out]; rfl) y11
          have e84 : (many gg_ L (VL z))[84]?.getD undef = .int .i64 NN := many_eval3 hgN (HOK.out z) (by rw [HVL.out]; rfl) y12
          refine opIn_run (v := .int .i64 A1) (w' := w') rfl rfl (fun c h => by cases h) (fun _ => trivial) ?_ ⟨z, by exact many_put3 (HOK.out _) (by rw [HVL.out]; rfl) hL, hcm, by simp only [upd, y11, y12, n37, n38, n39, hL, Nat.reduceBEq, cond_true, cond_false]; exact hph⟩
          have q1_ := HEQ.out.2.1
          have hb9 := HBD.out.2.1
          go_simp
          first | done | exact IntWalk.i64_in _ hb9 | (rw [q1_]; exact IntWalk.i64_in _ hb9)
        · skip
          have n37 : L 37 = false := not_yet hL fun h => shut_at hs 16 14 (by kernel_rfl) (shut_at hs 17 16 (by kernel_rfl) (shut_at hs 18 17 (by kernel_rfl) (shut_at hs 19 18 (by kernel_rfl) (shut_at hs 36 19 (by kernel_rfl) (shut_at hs 37 36 (by kernel_rfl) (h))))))
          have n38 : L 38 = false := not_yet hL fun h => shut_at hs 16 14 (by kernel_rfl) (shut_at hs 17 16 (by kernel_rfl) (shut_at hs 18 17 (by kernel_rfl) (shut_at hs 19 18 (by kernel_rfl) (shut_at hs 36 19 (by kernel_rfl) (shut_at hs 37 36 (by kernel_rfl) (shut_at hs 38 37 (by kernel_rfl) (h)))))))
          have n39 : L 39 = false := not_yet hL fun h => shut_at hs 39 14 (by kernel_rfl) (h)
          try simp only [n37, n38, n39, hL, cond_true, cond_false] at hph
          have e17 : (many gg_ L (VL z))[17]?.getD undef = .int .i64 (k : Int) := many_out3 hgN (HOK.out z) (by rw [HVL.out]; rfl) hF17
          refine opIn_run (v := .int .i64 (k : Int)) (w' := w') rfl rfl (fun c h => by cases h) (fun _ => trivial) ?_ ⟨z, by exact many_put3 (HOK.out _) (by rw [HVL.out]; rfl) hL, hcm, by simp only [upd, n37, n38, n39, hL, Nat.reduceBEq, cond_true, cond_false]; exact hph⟩
          go_simp
        · skip
          have n37 : L 37 = false := not_yet hL fun h => shut_at hs 16 15 (by kernel_rfl) (shut_at hs 17 16 (by kernel_rfl) (shut_at hs 18 17 (by kernel_rfl) (shut_at hs 19 18 (by kernel_rfl) (shut_at hs 36 19 (by kernel_rfl) (shut_at hs 37 36 (by kernel_rfl) (h))))))
          have n38 : L 38 = false := not_yet hL fun h => shut_at hs 16 15 (by kernel_rfl) (shut_at hs 17 16 (by kernel_rfl) (shut_at hs 18 17 (by kernel_rfl) (shut_at hs 19 18 (by kernel_rfl) (shut_at hs 36 19 (by kernel_rfl) (shut_at hs 37 36 (by kernel_rfl) (shut_at hs 38 37 (by kernel_rfl) (h)))))))
          have n39 : L 39 = false := not_yet hL fun h => shut_at hs 39 15 (by kernel_rfl) (h)
          try simp only [n37, n38, n39, hL, cond_true, cond_false] at hph
          have e13 : (many gg_ L (VL z))[13]?.getD undef = .int .i64 wI := many_out3 hgN (HOK.out z) (by rw [HVL.out]; rfl) hF13
          refine opIn_run (v := .int .i64 wI) (w' := w') rfl rfl (fun c h => by cases h) (fun _ => trivial) ?_ ⟨z, by exact many_put3 (HOK.out _) (by rw [HVL.out]; rfl) hL, hcm, by simp only [upd, n37, n38, n39, hL, Nat.reduceBEq, cond_true, cond_false]; exact hph⟩
          go_simp
        · skip
          have y14 : L 14 = true := up_at hu 14 (by kernel_rfl)
          have y15 : L 15 = true := up_at hu 15 (by kernel_rfl)
          have n37 : L 37 = false := not_yet hL fun h => shut_at hs 17 16 (by kernel_rfl) (shut_at hs 18 17 (by kernel_rfl) (shut_at hs 19 18 (by kernel_rfl) (shut_at hs 36 19 (by kernel_rfl) (shut_at hs 37 36 (by kernel_rfl) (h)))))
          have n38 : L 38 = false := not_yet hL fun h => shut_at hs 17 16 (by kernel_rfl) (shut_at hs 18 17 (by kernel_rfl) (shut_at hs 19 18 (by kernel_rfl) (shut_at hs 36 19 (by kernel_rfl) (shut_at hs 37 36 (by kernel_rfl) (shut_at hs 38 37 (by kernel_rfl) (h))))))
          have n39 : L 39 = false := not_yet hL fun h => shut_at hs 39 16 (by kernel_rfl) (h)
          try simp only [y14, y15, n37, n38, n39, hL, cond_true, cond_false] at hph
          have e86 : (many gg_ L (VL z))[86]?.getD undef = .int .i64 (k : Int) := many_eval3 hgN (HOK.out z) (by rw [HVL.out]; rfl) y14
          have e87 : (many gg_ L (VL z))[87]?.getD undef = .int .i64 wI := many_eval3 hgN (HOK.out z) (by rw [HVL.out]; rfl) y15
          refine opIn_run (v := .int .i64 A2) (w' := w') rfl rfl (fun c h => by cases h) (fun _ => trivial) ?_ ⟨z, by exact many_put3 (HOK.out _) (by rw [HVL.out]; rfl) hL, hcm, by simp only [upd, y14, y15, n37, n38, n39, hL, Nat.reduceBEq, cond_true, cond_false]; exact hph⟩
          have q1_ := HEQ.out.2.2.1
          have hb9 := HBD.out.2.2.1
          go_simp
          first | done | exact IntWalk.i64_in _ hb9 | (rw [q1_]; exact IntWalk.i64_in _ hb9)
        · skip
          have y13 : L 13 = true := up_at hu 13 (by kernel_rfl)
          have y16 : L 16 = true := up_at hu 16 (by kernel_rfl)
          have n37 : L 37 = false := not_yet hL fun h => shut_at hs 18 17 (by kernel_rfl) (shut_at hs 19 18 (by kernel_rfl) (shut_at hs 36 19 (by kernel_rfl) (shut_at hs 37 36 (by kernel_rfl) (h))))
          have n38 : L 38 = false := not_yet hL fun h => shut_at hs 18 17 (by kernel_rfl) (shut_at hs 19 18 (by kernel_rfl) (shut_at hs 36 19 (by kernel_rfl) (shut_at hs 37 36 (by kernel_rfl) (shut_at hs 38 37 (by kernel_rfl) (h)))))
          have n39 : L 39 = false := not_yet hL fun h => shut_at hs 39 17 (by kernel_rfl) (h)
          try simp only [y13, y16, n37, n38, n39, hL, cond_true, cond_false] at hph
          have e85 : (many gg_ L (VL z))[85]?.getD undef = .int .i64 A1 := many_eval3 hgN (HOK.out z) (by rw [HVL.out]; rfl) y13
          have e88 : (many gg_ L (VL z))[88]?.getD undef = .int .i64 A2 := many_eval3 hgN (HOK.out z) (by rw [HVL.out]; rfl) y16
          refine opIn_run (v := .int .i64 E0) (w' := w') rfl rfl (fun c h => by cases h) (fun _ => trivial) ?_ ⟨z, by exact many_put3 (HOK.out _) (by rw [HVL.out]; rfl) hL, hcm, by simp only [upd, y13, y16, n37, n38, n39, hL, Nat.reduceBEq, cond_true, cond_false]; exact hph⟩
          have q1_ := HEQ.out.2.2.2.1
          have hb9 := HBD.out.2.2.2.1
          go_simp
          first | done | exact IntWalk.i64_in _ hb9 | (rw [q1_]; exact IntWalk.i64_in _ hb9)
        · skip
          have y9 : L 9 = true := up_at hu 9 (by kernel_rfl)
          have y17 : L 17 = true := up_at hu 17 (by kernel_rfl)
          have n37 : L 37 = false := not_yet hL fun h => shut_at hs 19 18 (by kernel_rfl) (shut_at hs 36 19 (by kernel_rfl) (shut_at hs 37 36 (by kernel_rfl) (h)))
          have n38 : L 38 = false := not_yet hL fun h => shut_at hs 19 18 (by kernel_rfl) (shut_at hs 36 19 (by kernel_rfl) (shut_at hs 37 36 (by kernel_rfl) (shut_at hs 38 37 (by kernel_rfl) (h))))
          have n39 : L 39 = false := not_yet hL fun h => shut_at hs 39 18 (by kernel_rfl) (h)
          try simp only [y9, y17, n37, n38, n39, hL, cond_true, cond_false] at hph
          have e81 : (many gg_ L (VL z))[81]?.getD undef = .int .i64 P0 := many_eval3 hgN (HOK.out z) (by rw [HVL.out]; rfl) y9
          have e89 : (many gg_ L (VL z))[89]?.getD undef = .int .i64 E0 := many_eval3 hgN (HOK.out z) (by rw [HVL.out]; rfl) y17
          refine opIn_run (v := .int .i64 R0) (w' := w') rfl rfl (fun c h => by cases h) (fun _ => trivial) ?_ ⟨z, by exact many_put3 (HOK.out _) (by rw [HVL.out]; rfl) hL, hcm, by simp only [upd, y9, y17, n37, n38, n39, hL, Nat.reduceBEq, cond_true, cond_false]; exact hph⟩
          have q1_ := HEQ.out.2.2.2.2.1
          have hb9 := HBD.out.2.2.2.2.1
          go_simp
          first | done | exact IntWalk.i64_in _ hb9 | (rw [q1_]; exact IntWalk.i64_in _ hb9)
        · skip
          have y5 : L 5 = true := up_at hu 5 (by kernel_rfl)
          have y18 : L 18 = true := up_at hu 18 (by kernel_rfl)
          have n37 : L 37 = false := not_yet hL fun h => shut_at hs 36 19 (by kernel_rfl) (shut_at hs 37 36 (by kernel_rfl) (h))
          have n38 : L 38 = false := not_yet hL fun h => shut_at hs 36 19 (by kernel_rfl) (shut_at hs 37 36 (by kernel_rfl) (shut_at hs 38 37 (by kernel_rfl) (h)))
          have n39 : L 39 = false := not_yet hL fun h => shut_at hs 39 19 (by kernel_rfl) (h)
          try simp only [y5, y18, n37, n38, n39, hL, cond_true, cond_false] at hph
          have e77 : (many gg_ L (VL z))[77]?.getD undef = .int .i64 X0 := many_eval3 hgN (HOK.out z) (by rw [HVL.out]; rfl) y5
          have e90 : (many gg_ L (VL z))[90]?.getD undef = .int .i64 R0 := many_eval3 hgN (HOK.out z) (by rw [HVL.out]; rfl) y18
          refine opIn_run (v := .int .i64 AC) (w' := w') rfl rfl (fun c h => by cases h) (fun _ => trivial) ?_ ⟨z, by exact many_put3 (HOK.out _) (by rw [HVL.out]; rfl) hL, hcm, by simp only [upd, y5, y18, n37, n38, n39, hL, Nat.reduceBEq, cond_true, cond_false]; exact hph⟩
          go_simp
          exact HMX.out.1
        · skip
          have n37 : L 37 = false := not_yet hL fun h => shut_at hs 21 20 (by kernel_rfl) (shut_at hs 35 21 (by kernel_rfl) (shut_at hs 36 35 (by kernel_rfl) (shut_at hs 37 36 (by kernel_rfl) (h))))
          have n38 : L 38 = false := not_yet hL fun h => shut_at hs 21 20 (by kernel_rfl) (shut_at hs 35 21 (by kernel_rfl) (shut_at hs 36 35 (by kernel_rfl) (shut_at hs 37 36 (by kernel_rfl) (shut_at hs 38 37 (by kernel_rfl) (h)))))
          have n39 : L 39 = false := not_yet hL fun h => shut_at hs 39 20 (by kernel_rfl) (h)
          try simp only [n37, n38, n39, hL, cond_true, cond_false] at hph
          have e3 : (many gg_ L (VL z))[3]?.getD undef = .pointer (some ⟨B, 0, none⟩) := many_out3 hgN (HOK.out z) (by rw [HVL.out]; rfl) hF3
          refine opIn_run (v := .pointer (some ⟨B, 1, none⟩)) (w' := w') rfl rfl (fun c h => by cases h) (fun _ => trivial) ?_ ⟨z, by exact many_put3 (HOK.out _) (by rw [HVL.out]; rfl) hL, hcm, by simp only [upd, n37, n38, n39, hL, Nat.reduceBEq, cond_true, cond_false]; exact hph⟩
          go_simp
        · skip
          have y20 : L 20 = true := up_at hu 20 (by kernel_rfl)
          have n37 : L 37 = false := not_yet hL fun h => shut_at hs 35 21 (by kernel_rfl) (shut_at hs 36 35 (by kernel_rfl) (shut_at hs 37 36 (by kernel_rfl) (h)))
          have n38 : L 38 = false := not_yet hL fun h => shut_at hs 35 21 (by kernel_rfl) (shut_at hs 36 35 (by kernel_rfl) (shut_at hs 37 36 (by kernel_rfl) (shut_at hs 38 37 (by kernel_rfl) (h))))
          have n39 : L 39 = false := not_yet hL fun h => shut_at hs 39 21 (by kernel_rfl) (h)
          try simp only [y20, n37, n38, n39, hL, cond_true, cond_false] at hph
          have hcell : w'.cell? ⟨B, 1, none⟩ = some (.int .i64 Y0) := blk_cell (hcm.1.k _ _ _ HC.out.1 (by decide)) 1
          have e92 : (many gg_ L (VL z))[92]?.getD undef = .pointer (some ⟨B, 1, none⟩) := many_eval3 hgN (HOK.out z) (by rw [HVL.out]; rfl) y20
          refine opIn_run (v := .int .i64 Y0) (w' := w') rfl rfl (fun c h => by cases h) (fun _ => trivial) ?_ ⟨z, by exact many_put3 (HOK.out _) (by rw [HVL.out]; rfl) hL, hcm, by simp only [upd, y20, n37, n38, n39, hL, Nat.reduceBEq, cond_true, cond_false]; exact hph⟩
          go_simp
        · skip
          have n37 : L 37 = false := not_yet hL fun h => shut_at hs 25 22 (by kernel_rfl) (shut_at hs 34 25 (by kernel_rfl) (shut_at hs 35 34 (by kernel_rfl) (shut_at hs 36 35 (by kernel_rfl) (shut_at hs 37 36 (by kernel_rfl) (h)))))
          have n38 : L 38 = false := not_yet hL fun h => shut_at hs 25 22 (by kernel_rfl) (shut_at hs 34 25 (by kernel_rfl) (shut_at hs 35 34 (by kernel_rfl) (shut_at hs 36 35 (by kernel_rfl) (shut_at hs 37 36 (by kernel_rfl) (shut_at hs 38 37 (by kernel_rfl) (h))))))
          have n39 : L 39 = false := not_yet hL fun h => shut_at hs 39 22 (by kernel_rfl) (h)
          try simp only [n37, n38, n39, hL, cond_true, cond_false] at hph
          have e16 : (many gg_ L (VL z))[16]?.getD undef = .int .i64 SD := many_out3 hgN (HOK.out z) (by rw [HVL.out]; rfl) hF16
          refine opIn_run (v := .int .i64 SD) (w' := w') rfl rfl (fun c h => by cases h) (fun _ => trivial) ?_ ⟨z, by exact many_put3 (HOK.out _) (by rw [HVL.out]; rfl) hL, hcm, by simp only [upd, n37, n38, n39, hL, Nat.reduceBEq, cond_true, cond_false]; exact hph⟩
          go_simp
        · skip
          have n37 : L 37 = false := not_yet hL fun h => shut_at hs 24 23 (by kernel_rfl) (shut_at hs 25 24 (by kernel_rfl) (shut_at hs 34 25 (by kernel_rfl) (shut_at hs 35 34 (by kernel_rfl) (shut_at hs 36 35 (by kernel_rfl) (shut_at hs 37 36 (by kernel_rfl) (h))))))
          have n38 : L 38 = false := not_yet hL fun h => shut_at hs 24 23 (by kernel_rfl) (shut_at hs 25 24 (by kernel_rfl) (shut_at hs 34 25 (by kernel_rfl) (shut_at hs 35 34 (by kernel_rfl) (shut_at hs 36 35 (by kernel_rfl) (shut_at hs 37 36 (by kernel_rfl) (shut_at hs 38 37 (by kernel_rfl) (h)))))))
          have n39 : L 39 = false := not_yet hL fun h => shut_at hs 39 23 (by kernel_rfl) (h)
          try simp only [n37, n38, n39, hL, cond_true, cond_false] at hph
          have e9 : (many gg_ L (VL z))[9]?.getD undef = .pointer (some ⟨xb, 0, none⟩) := many_out3 hgN (HOK.out z) (by rw [HVL.out]; rfl) hF9
          refine opIn_run (v := .pointer (some ⟨xb, 3, none⟩)) (w' := w') rfl rfl (fun c h => by cases h) (fun _ => trivial) ?_ ⟨z, by exact many_put3 (HOK.out _) (by rw [HVL.out]; rfl) hL, hcm, by simp only [upd, n37, n38, n39, hL, Nat.reduceBEq, cond_true, cond_false]; exact hph⟩
          go_simp
        · skip
          have y23 : L 23 = true := up_at hu 23 (by kernel_rfl)
          have n37 : L 37 = false := not_yet hL fun h => shut_at hs 25 24 (by kernel_rfl) (shut_at hs 34 25 (by kernel_rfl) (shut_at hs 35 34 (by kernel_rfl) (shut_at hs 36 35 (by kernel_rfl) (shut_at hs 37 36 (by kernel_rfl) (h)))))
          have n38 : L 38 = false := not_yet hL fun h => shut_at hs 25 24 (by kernel_rfl) (shut_at hs 34 25 (by kernel_rfl) (shut_at hs 35 34 (by kernel_rfl) (shut_at hs 36 35 (by kernel_rfl) (shut_at hs 37 36 (by kernel_rfl) (shut_at hs 38 37 (by kernel_rfl) (h))))))
          have n39 : L 39 = false := not_yet hL fun h => shut_at hs 39 24 (by kernel_rfl) (h)
          try simp only [y23, n37, n38, n39, hL, cond_true, cond_false] at hph
          have hcell : w'.cell? ⟨xb, 3, none⟩ = some (.int .i64 DY) := blk_cell (hcm.1.k _ _ _ HC.out.2.1 (by decide)) 3
          have e95 : (many gg_ L (VL z))[95]?.getD undef = .pointer (some ⟨xb, 3, none⟩) := many_eval3 hgN (HOK.out z) (by rw [HVL.out]; rfl) y23
          refine opIn_run (v := .int .i64 DY) (w' := w') rfl rfl (fun c h => by cases h) (fun _ => trivial) ?_ ⟨z, by exact many_put3 (HOK.out _) (by rw [HVL.out]; rfl) hL, hcm, by simp only [upd, y23, n37, n38, n39, hL, Nat.reduceBEq, cond_true, cond_false]; exact hph⟩
          go_simp
        · skip
          have y22 : L 22 = true := up_at hu 22 (by kernel_rfl)
          have y24 : L 24 = true := up_at hu 24 (by kernel_rfl)
          have n37 : L 37 = false := not_yet hL fun h => shut_at hs 34 25 (by kernel_rfl) (shut_at hs 35 34 (by kernel_rfl) (shut_at hs 36 35 (by kernel_rfl) (shut_at hs 37 36 (by kernel_rfl) (h))))
          have n38 : L 38 = false := not_yet hL fun h => shut_at hs 34 25 (by kernel_rfl) (shut_at hs 35 34 (by kernel_rfl) (shut_at hs 36 35 (by kernel_rfl) (shut_at hs 37 36 (by kernel_rfl) (shut_at hs 38 37 (by kernel_rfl) (h)))))
          have n39 : L 39 = false := not_yet hL fun h => shut_at hs 39 25 (by kernel_rfl) (h)
          try simp only [y22, y24, n37, n38, n39, hL, cond_true, cond_false] at hph
          have e94 : (many gg_ L (VL z))[94]?.getD undef = .int .i64 SD := many_eval3 hgN (HOK.out z) (by rw [HVL.out]; rfl) y22
          have e96 : (many gg_ L (VL z))[96]?.getD undef = .int .i64 DY := many_eval3 hgN (HOK.out z) (by rw [HVL.out]; rfl) y24
          refine opIn_run (v := .int .i64 P1) (w' := w') rfl rfl (fun c h => by cases h) (fun _ => trivial) ?_ ⟨z, by exact many_put3 (HOK.out _) (by rw [HVL.out]; rfl) hL, hcm, by simp only [upd, y22, y24, n37, n38, n39, hL, Nat.reduceBEq, cond_true, cond_false]; exact hph⟩
          have q1_ := HEQ.out.2.2.2.2.2.1
          have hb9 := HBD.out.2.2.2.2.2.1
          go_simp
          first | done | exact IntWalk.i64_in _ hb9 | (rw [q1_]; exact IntWalk.i64_in _ hb9)
        · skip
          have n37 : L 37 = false := not_yet hL fun h => shut_at hs 27 26 (by kernel_rfl) (shut_at hs 29 27 (by kernel_rfl) (shut_at hs 33 29 (by kernel_rfl) (shut_at hs 34 33 (by kernel_rfl) (shut_at hs 35 34 (by kernel_rfl) (shut_at hs 36 35 (by kernel_rfl) (shut_at hs 37 36 (by kernel_rfl) (h)))))))
          have n38 : L 38 = false := not_yet hL fun h => shut_at hs 27 26 (by kernel_rfl) (shut_at hs 29 27 (by kernel_rfl) (shut_at hs 33 29 (by kernel_rfl) (shut_at hs 34 33 (by kernel_rfl) (shut_at hs 35 34 (by kernel_rfl) (shut_at hs 36 35 (by kernel_rfl) (shut_at hs 37 36 (by kernel_rfl) (shut_at hs 38 37 (by kernel_rfl) (h))))))))
          have n39 : L 39 = false := not_yet hL fun h => shut_at hs 39 26 (by kernel_rfl) (h)
          try simp only [n37, n38, n39, hL, cond_true, cond_false] at hph
          have e12 : (many gg_ L (VL z))[12]?.getD undef = .pointer (some ⟨qb, 0, none⟩) := many_out3 hgN (HOK.out z) (by rw [HVL.out]; rfl) hF12
          refine opIn_run (v := .pointer (some ⟨qb, 1, none⟩)) (w' := w') rfl rfl (fun c h => by cases h) (fun _ => trivial) ?_ ⟨z, by exact many_put3 (HOK.out _) (by rw [HVL.out]; rfl) hL, hcm, by simp only [upd, n37, n38, n39, hL, Nat.reduceBEq, cond_true, cond_false]; exact hph⟩
          go_simp
        · skip
          have y26 : L 26 = true := up_at hu 26 (by kernel_rfl)
          have n37 : L 37 = false := not_yet hL fun h => shut_at hs 29 27 (by kernel_rfl) (shut_at hs 33 29 (by kernel_rfl) (shut_at hs 34 33 (by kernel_rfl) (shut_at hs 35 34 (by kernel_rfl) (shut_at hs 36 35 (by kernel_rfl) (shut_at hs 37 36 (by kernel_rfl) (h))))))
          have n38 : L 38 = false := not_yet hL fun h => shut_at hs 29 27 (by kernel_rfl) (shut_at hs 33 29 (by kernel_rfl) (shut_at hs 34 33 (by kernel_rfl) (shut_at hs 35 34 (by kernel_rfl) (shut_at hs 36 35 (by kernel_rfl) (shut_at hs 37 36 (by kernel_rfl) (shut_at hs 38 37 (by kernel_rfl) (h)))))))
          have n39 : L 39 = false := not_yet hL fun h => shut_at hs 39 27 (by kernel_rfl) (h)
          try simp only [y26, n37, n38, n39, hL, cond_true, cond_false] at hph
          have hcell : w'.cell? ⟨qb, 1, none⟩ = some (.int .i64 q1) := blk_cell (hcm.1.k _ _ _ HC.out.2.2 (by decide)) 1
          have e98 : (many gg_ L (VL z))[98]?.getD undef = .pointer (some ⟨qb, 1, none⟩) := many_eval3 hgN (HOK.out z) (by rw [HVL.out]; rfl) y26
          refine opIn_run (v := .int .i64 q1) (w' := w') rfl rfl (fun c h => by cases h) (fun _ => trivial) ?_ ⟨z, by exact many_put3 (HOK.out _) (by rw [HVL.out]; rfl) hL, hcm, by simp only [upd, y26, n37, n38, n39, hL, Nat.reduceBEq, cond_true, cond_false]; exact hph⟩
          go_simp
        · skip
          have n37 : L 37 = false := not_yet hL fun h => shut_at hs 29 28 (by kernel_rfl) (shut_at hs 33 29 (by kernel_rfl) (shut_at hs 34 33 (by kernel_rfl) (shut_at hs 35 34 (by kernel_rfl) (shut_at hs 36 35 (by kernel_rfl) (shut_at hs 37 36 (by kernel_rfl) (h))))))
          have n38 : L 38 = false := not_yet hL fun h => shut_at hs 29 28 (by kernel_rfl) (shut_at hs 33 29 (by kernel_rfl) (shut_at hs 34 33 (by kernel_rfl) (shut_at hs 35 34 (by kernel_rfl) (shut_at hs 36 35 (by kernel_rfl) (shut_at hs 37 36 (by kernel_rfl) (shut_at hs 38 37 (by kernel_rfl) (h)))))))
          have n39 : L 39 = false := not_yet hL fun h => shut_at hs 39 28 (by kernel_rfl) (h)
          try simp only [n37, n38, n39, hL, cond_true, cond_false] at hph
          have e15 : (many gg_ L (VL z))[15]?.getD undef = .int .i64 NN := many_out3 hgN (HOK.out z) (by rw [HVL.out]; rfl) hF15
          refine opIn_run (v := .int .i64 NN) (w' := w') rfl rfl (fun c h => by cases h) (fun _ => trivial) ?_ ⟨z, by exact many_put3 (HOK.out _) (by rw [HVL.out]; rfl) hL, hcm, by simp only [upd, n37, n38, n39, hL, Nat.reduceBEq, cond_true, cond_false]; exact hph⟩
          go_simp
        · skip
          have y27 : L 27 = true := up_at hu 27 (by kernel_rfl)
          have y28 : L 28 = true := up_at hu 28 (by kernel_rfl)
          have n37 : L 37 = false := not_yet hL fun h => shut_at hs 33 29 (by kernel_rfl) (shut_at hs 34 33 (by kernel_rfl) (shut_at hs 35 34 (by kernel_rfl) (shut_at hs 36 35 (by kernel_rfl) (shut_at hs 37 36 (by kernel_rfl) (h)))))
          have n38 : L 38 = false := not_yet hL fun h => shut_at hs 33 29 (by kernel_rfl) (shut_at hs 34 33 (by kernel_rfl) (shut_at hs 35 34 (by kernel_rfl) (shut_at hs 36 35 (by kernel_rfl) (shut_at hs 37 36 (by kernel_rfl) (shut_at hs 38 37 (by kernel_rfl) (h))))))
          have n39 : L 39 = false := not_yet hL fun h => shut_at hs 39 29 (by kernel_rfl) (h)
          try simp only [y27, y28, n37, n38, n39, hL, cond_true, cond_false] at hph
          have e99 : (many gg_ L (VL z))[99]?.getD undef = .int .i64 q1 := many_eval3 hgN (HOK.out z) (by rw [HVL.out]; rfl) y27
          have e100 : (many gg_ L (VL z))[100]?.getD undef = .int .i64 NN := many_eval3 hgN (HOK.out z) (by rw [HVL.out]; rfl) y28
          refine opIn_run (v := .int .i64 A3) (w' := w') rfl rfl (fun c h => by cases h) (fun _ => trivial) ?_ ⟨z, by exact many_put3 (HOK.out _) (by rw [HVL.out]; rfl) hL, hcm, by simp only [upd, y27, y28, n37, n38, n39, hL, Nat.reduceBEq, cond_true, cond_false]; exact hph⟩
          have q1_ := HEQ.out.2.2.2.2.2.2.1
          have hb9 := HBD.out.2.2.2.2.2.2.1
          go_simp
          first | done | exact IntWalk.i64_in _ hb9 | (rw [q1_]; exact IntWalk.i64_in _ hb9)
        · skip
          have n37 : L 37 = false := not_yet hL fun h => shut_at hs 32 30 (by kernel_rfl) (shut_at hs 33 32 (by kernel_rfl) (shut_at hs 34 33 (by kernel_rfl) (shut_at hs 35 34 (by kernel_rfl) (shut_at hs 36 35 (by kernel_rfl) (shut_at hs 37 36 (by kernel_rfl) (h))))))
          have n38 : L 38 = false := not_yet hL fun h => shut_at hs 32 30 (by kernel_rfl) (shut_at hs 33 32 (by kernel_rfl) (shut_at hs 34 33 (by kernel_rfl) (shut_at hs 35 34 (by kernel_rfl) (shut_at hs 36 35 (by kernel_rfl) (shut_at hs 37 36 (by kernel_rfl) (shut_at hs 38 37 (by kernel_rfl) (h)))))))
          have n39 : L 39 = false := not_yet hL fun h => shut_at hs 39 30 (by kernel_rfl) (h)
          try simp only [n37, n38, n39, hL, cond_true, cond_false] at hph
          have e17 : (many gg_ L (VL z))[17]?.getD undef = .int .i64 (k : Int) := many_out3 hgN (HOK.out z) (by rw [HVL.out]; rfl) hF17
          refine opIn_run (v := .int .i64 (k : Int)) (w' := w') rfl rfl (fun c h => by cases h) (fun _ => trivial) ?_ ⟨z, by exact many_put3 (HOK.out _) (by rw [HVL.out]; rfl) hL, hcm, by simp only [upd, n37, n38, n39, hL, Nat.reduceBEq, cond_true, cond_false]; exact hph⟩
          go_simp
        · skip
          have n37 : L 37 = false := not_yet hL fun h => shut_at hs 32 31 (by kernel_rfl) (shut_at hs 33 32 (by kernel_rfl) (shut_at hs 34 33 (by kernel_rfl) (shut_at hs 35 34 (by kernel_rfl) (shut_at hs 36 35 (by kernel_rfl) (shut_at hs 37 36 (by kernel_rfl) (h))))))
          have n38 : L 38 = false := not_yet hL fun h => shut_at hs 32 31 (by kernel_rfl) (shut_at hs 33 32 (by kernel_rfl) (shut_at hs 34 33 (by kernel_rfl) (shut_at hs 35 34 (by kernel_rfl) (shut_at hs 36 35 (by kernel_rfl) (shut_at hs 37 36 (by kernel_rfl) (shut_at hs 38 37 (by kernel_rfl) (h)))))))
          have n39 : L 39 = false := not_yet hL fun h => shut_at hs 39 31 (by kernel_rfl) (h)
          try simp only [n37, n38, n39, hL, cond_true, cond_false] at hph
          have e13 : (many gg_ L (VL z))[13]?.getD undef = .int .i64 wI := many_out3 hgN (HOK.out z) (by rw [HVL.out]; rfl) hF13
          refine opIn_run (v := .int .i64 wI) (w' := w') rfl rfl (fun c h => by cases h) (fun _ => trivial) ?_ ⟨z, by exact many_put3 (HOK.out _) (by rw [HVL.out]; rfl) hL, hcm, by simp only [upd, n37, n38, n39, hL, Nat.reduceBEq, cond_true, cond_false]; exact hph⟩
          go_simp
        · skip
          have y30 : L 30 = true := up_at hu 30 (by kernel_rfl)
          have y31 : L 31 = true := up_at hu 31 (by kernel_rfl)
          have n37 : L 37 = false := not_yet hL fun h => shut_at hs 33 32 (by kernel_rfl) (shut_at hs 34 33 (by kernel_rfl) (shut_at hs 35 34 (by kernel_rfl) (shut_at hs 36 35 (by kernel_rfl) (shut_at hs 37 36 (by kernel_rfl) (h)))))
          have n38 : L 38 = false := not_yet hL fun h => shut_at hs 33 32 (by kernel_rfl) (shut_at hs 34 33 (by kernel_rfl) (shut_at hs 35 34 (by kernel_rfl) (shut_at hs 36 35 (by kernel_rfl) (shut_at hs 37 36 (by kernel_rfl) (shut_at hs 38 37 (by kernel_rfl) (h))))))
          have n39 : L 39 = false := not_yet hL fun h => shut_at hs 39 32 (by kernel_rfl) (h)
          try simp only [y30, y31, n37, n38, n39, hL, cond_true, cond_false] at hph
          have e102 : (many gg_ L (VL z))[102]?.getD undef = .int .i64 (k : Int) := many_eval3 hgN (HOK.out z) (by rw [HVL.out]; rfl) y30
          have e103 : (many gg_ L (VL z))[103]?.getD undef = .int .i64 wI := many_eval3 hgN (HOK.out z) (by rw [HVL.out]; rfl) y31
          refine opIn_run (v := .int .i64 A4) (w' := w') rfl rfl (fun c h => by cases h) (fun _ => trivial) ?_ ⟨z, by exact many_put3 (HOK.out _) (by rw [HVL.out]; rfl) hL, hcm, by simp only [upd, y30, y31, n37, n38, n39, hL, Nat.reduceBEq, cond_true, cond_false]; exact hph⟩
          have q1_ := HEQ.out.2.2.2.2.2.2.2.1
          have hb9 := HBD.out.2.2.2.2.2.2.2.1
          go_simp
          first | done | exact IntWalk.i64_in _ hb9 | (rw [q1_]; exact IntWalk.i64_in _ hb9)
        · skip
          have y29 : L 29 = true := up_at hu 29 (by kernel_rfl)
          have y32 : L 32 = true := up_at hu 32 (by kernel_rfl)
          have n37 : L 37 = false := not_yet hL fun h => shut_at hs 34 33 (by kernel_rfl) (shut_at hs 35 34 (by kernel_rfl) (shut_at hs 36 35 (by kernel_rfl) (shut_at hs 37 36 (by kernel_rfl) (h))))
          have n38 : L 38 = false := not_yet hL fun h => shut_at hs 34 33 (by kernel_rfl) (shut_at hs 35 34 (by kernel_rfl) (shut_at hs 36 35 (by kernel_rfl) (shut_at hs 37 36 (by kernel_rfl) (shut_at hs 38 37 (by kernel_rfl) (h)))))
          have n39 : L 39 = false := not_yet hL fun h => shut_at hs 39 33 (by kernel_rfl) (h)
          try simp only [y29, y32, n37, n38, n39, hL, cond_true, cond_false] at hph
          have e101 : (many gg_ L (VL z))[101]?.getD undef = .int .i64 A3 := many_eval3 hgN (HOK.out z) (by rw [HVL.out]; rfl) y29
          have e104 : (many gg_ L (VL z))[104]?.getD undef = .int .i64 A4 := many_eval3 hgN (HOK.out z) (by rw [HVL.out]; rfl) y32
          refine opIn_run (v := .int .i64 E1) (w' := w') rfl rfl (fun c h => by cases h) (fun _ => trivial) ?_ ⟨z, by exact many_put3 (HOK.out _) (by rw [HVL.out]; rfl) hL, hcm, by simp only [upd, y29, y32, n37, n38, n39, hL, Nat.reduceBEq, cond_true, cond_false]; exact hph⟩
          have q1_ := HEQ.out.2.2.2.2.2.2.2.2.1
          have hb9 := HBD.out.2.2.2.2.2.2.2.2.1
          go_simp
          first | done | exact IntWalk.i64_in _ hb9 | (rw [q1_]; exact IntWalk.i64_in _ hb9)
        · skip
          have y25 : L 25 = true := up_at hu 25 (by kernel_rfl)
          have y33 : L 33 = true := up_at hu 33 (by kernel_rfl)
          have n37 : L 37 = false := not_yet hL fun h => shut_at hs 35 34 (by kernel_rfl) (shut_at hs 36 35 (by kernel_rfl) (shut_at hs 37 36 (by kernel_rfl) (h)))
          have n38 : L 38 = false := not_yet hL fun h => shut_at hs 35 34 (by kernel_rfl) (shut_at hs 36 35 (by kernel_rfl) (shut_at hs 37 36 (by kernel_rfl) (shut_at hs 38 37 (by kernel_rfl) (h))))
          have n39 : L 39 = false := not_yet hL fun h => shut_at hs 39 34 (by kernel_rfl) (h)
          try simp only [y25, y33, n37, n38, n39, hL, cond_true, cond_false] at hph
          have e97 : (many gg_ L (VL z))[97]?.getD undef = .int .i64 P1 := many_eval3 hgN (HOK.out z) (by rw [HVL.out]; rfl) y25
          have e105 : (many gg_ L (VL z))[105]?.getD undef = .int .i64 E1 := many_eval3 hgN (HOK.out z) (by rw [HVL.out]; rfl) y33
          refine opIn_run (v := .int .i64 R1) (w' := w') rfl rfl (fun c h => by cases h) (fun _ => trivial) ?_ ⟨z, by exact many_put3 (HOK.out _) (by rw [HVL.out]; rfl) hL, hcm, by simp only [upd, y25, y33, n37, n38, n39, hL, Nat.reduceBEq, cond_true, cond_false]; exact hph⟩
          have q1_ := HEQ.out.2.2.2.2.2.2.2.2.2
          have hb9 := HBD.out.2.2.2.2.2.2.2.2.2
          go_simp
          first | done | exact IntWalk.i64_in _ hb9 | (rw [q1_]; exact IntWalk.i64_in _ hb9)
        · skip
          have y21 : L 21 = true := up_at hu 21 (by kernel_rfl)
          have y34 : L 34 = true := up_at hu 34 (by kernel_rfl)
          have n37 : L 37 = false := not_yet hL fun h => shut_at hs 36 35 (by kernel_rfl) (shut_at hs 37 36 (by kernel_rfl) (h))
          have n38 : L 38 = false := not_yet hL fun h => shut_at hs 36 35 (by kernel_rfl) (shut_at hs 37 36 (by kernel_rfl) (shut_at hs 38 37 (by kernel_rfl) (h)))
          have n39 : L 39 = false := not_yet hL fun h => shut_at hs 39 35 (by kernel_rfl) (h)
          try simp only [y21, y34, n37, n38, n39, hL, cond_true, cond_false] at hph
          have e93 : (many gg_ L (VL z))[93]?.getD undef = .int .i64 Y0 := many_eval3 hgN (HOK.out z) (by rw [HVL.out]; rfl) y21
          have e106 : (many gg_ L (VL z))[106]?.getD undef = .int .i64 R1 := many_eval3 hgN (HOK.out z) (by rw [HVL.out]; rfl) y34
          refine opIn_run (v := .int .i64 DN) (w' := w') rfl rfl (fun c h => by cases h) (fun _ => trivial) ?_ ⟨z, by exact many_put3 (HOK.out _) (by rw [HVL.out]; rfl) hL, hcm, by simp only [upd, y21, y34, n37, n38, n39, hL, Nat.reduceBEq, cond_true, cond_false]; exact hph⟩
          go_simp
          exact HMX.out.2
        · skip
          have y1 : L 1 = true := up_at hu 1 (by kernel_rfl)
          have y2 : L 2 = true := up_at hu 2 (by kernel_rfl)
          have y3 : L 3 = true := up_at hu 3 (by kernel_rfl)
          have y19 : L 19 = true := up_at hu 19 (by kernel_rfl)
          have y35 : L 35 = true := up_at hu 35 (by kernel_rfl)
          have n37 : L 37 = false := not_yet hL fun h => shut_at hs 37 36 (by kernel_rfl) (h)
          have n38 : L 38 = false := not_yet hL fun h => shut_at hs 37 36 (by kernel_rfl) (shut_at hs 38 37 (by kernel_rfl) (h))
          have n39 : L 39 = false := not_yet hL fun h => shut_at hs 39 36 (by kernel_rfl) (h)
          try simp only [y1, y2, y3, y19, y35, n37, n38, n39, hL, cond_true, cond_false] at hph
          have e73 : (many gg_ L (VL z))[73]?.getD undef = .int .i64 (r : Int) := many_eval3 hgN (HOK.out z) (by rw [HVL.out]; rfl) y1
          have e74 : (many gg_ L (VL z))[74]?.getD undef = .int .i64 (c : Int) := many_eval3 hgN (HOK.out z) (by rw [HVL.out]; rfl) y2
          have e75 : (many gg_ L (VL z))[75]?.getD undef = .int .i64 (k : Int) := many_eval3 hgN (HOK.out z) (by rw [HVL.out]; rfl) y3
          have e91 : (many gg_ L (VL z))[91]?.getD undef = .int .i64 AC := many_eval3 hgN (HOK.out z) (by rw [HVL.out]; rfl) y19
          have e107 : (many gg_ L (VL z))[107]?.getD undef = .int .i64 DN := many_eval3 hgN (HOK.out z) (by rw [HVL.out]; rfl) y35
          refine opIn_run (v := .agg #[.int .i64 (r : Int), .int .i64 (c : Int), .int .i64 (k : Int), .int .i64 AC, .int .i64 DN]) (w' := w') rfl rfl (fun c h => by cases h) (fun _ => trivial) ?_ ⟨z, by exact many_put3 (HOK.out _) (by rw [HVL.out]; rfl) hL, hcm, by simp only [upd, y1, y2, y3, y19, y35, n37, n38, n39, hL, Nat.reduceBEq, cond_true, cond_false]; exact hph⟩
          go_simp
        · skip
          have y36 : L 36 = true := up_at hu 36 (by kernel_rfl)
          have n38 : L 38 = false := not_yet hL fun h => shut_at hs 38 37 (by kernel_rfl) (h)
          have n39 : L 39 = false := not_yet hL fun h => shut_at hs 39 37 (by kernel_rfl) (h)
          try simp only [y36, n38, n39, hL, cond_true, cond_false] at hph
          have e108 : (many gg_ L (VL z))[108]?.getD undef = .agg #[.int .i64 (r : Int), .int .i64 (c : Int), .int .i64 (k : Int), .int .i64 AC, .int .i64 DN] := many_eval3 hgN (HOK.out z) (by rw [HVL.out]; rfl) y36
          refine opIn_run (v := (.slice (some ⟨w'.heap.size, 0, none⟩) 1 1)) (w' := w'.alloc (.cells #[.int .i64 (r : Int), .int .i64 (c : Int), .int .i64 (k : Int), .int .i64 AC, .int .i64 DN] 75)) rfl rfl (fun c h => by cases h) (fun _ => trivial) ?_ ⟨(w'.heap.size, z.2), by rw [show many gg_ L (VL z) = many gg_ L (VL (w'.heap.size, z.2)) from by rw [HVL.out]; simp only [many, y36, n38, n39, hL, cond_false, cond_true]]; exact many_put3 (HOK.out _) (by rw [HVL.out]; rfl) hL, ⟨hcm.1.below ((Below.refl _ _).alloc (Nat.le_refl _) _), hcm.2.alloc (Nat.le_trans HNW.out hcm.1.size) _⟩, by simp only [upd, y36, n38, n39, hL, Nat.reduceBEq, cond_true, cond_false]; exact ⟨ownsRow_keep hph (by simp) (fun k_ hk_ => Below.heap_alloc _ _ _ (own_lt hph hk_).2), World.alloc_heap_new w' _⟩⟩
          clear hph
          go_simp
        · skip
          have y0 : L 0 = true := up_at hu 0 (by kernel_rfl)
          have y37 : L 37 = true := up_at hu 37 (by kernel_rfl)
          have n39 : L 39 = false := not_yet hL fun h => shut_at hs 39 38 (by kernel_rfl) (h)
          try simp only [y0, y37, n39, hL, cond_true, cond_false] at hph
          obtain ⟨U, w2, hr, h1, h2⟩ := app_sp (x := ⟨0, (r : Int), (c : Int), (k : Int), DN, AC⟩) hph.1 hph.2 (Nat.le_trans HNW.out hcm.1.size) (by have := HNN.out; omega)
          obtain ⟨UA, UC, hU, _⟩ := own_any h1
          subst hU
          have hk2_ := hcm.1.grown hph.1 h2
          have hb2_ := hcm.2.grown h2 (Nat.le_trans HNW.out hcm.1.size) (fun k_ e_ => (own_lt hph.1 e_).1)
          have e72 : (many gg_ L (VL z))[72]?.getD undef = .slice Va nn Vc := many_eval3 hgN (HOK.out z) (by rw [HVL.out]; rfl) y0
          have e109 : (many gg_ L (VL z))[109]?.getD undef = .slice (some ⟨z.1, 0, none⟩) 1 1 := many_eval3 hgN (HOK.out z) (by rw [HVL.out]; rfl) y37
          refine opIn_run (v := (.slice UA (nn + 1) UC)) (w' := w2) rfl rfl (fun c h => by cases h) (fun _ => trivial) ?_ ⟨(z.1, UA, UC), by rw [show many gg_ L (VL z) = many gg_ L (VL (z.1, UA, UC)) from by rw [HVL.out]; simp only [many, y0, y37, n39, hL, cond_false, cond_true]]; exact many_put3 (HOK.out _) (by rw [HVL.out]; rfl) hL, ⟨hk2_, hb2_⟩, by simp only [upd, y0, y37, n39, hL, Nat.reduceBEq, cond_true, cond_false]; exact (by simpa using h1)⟩
          clear h1 h2 hk2_ hb2_ hph
          go_simp
        · skip
          have y0 : L 0 = true := up_at hu 0 (by kernel_rfl)
          have y1 : L 1 = true := up_at hu 1 (by kernel_rfl)
          have y2 : L 2 = true := up_at hu 2 (by kernel_rfl)
          have y3 : L 3 = true := up_at hu 3 (by kernel_rfl)
          have y4 : L 4 = true := up_at hu 4 (by kernel_rfl)
          have y5 : L 5 = true := up_at hu 5 (by kernel_rfl)
          have y6 : L 6 = true := up_at hu 6 (by kernel_rfl)
          have y7 : L 7 = true := up_at hu 7 (by kernel_rfl)
          have y8 : L 8 = true := up_at hu 8 (by kernel_rfl)
          have y9 : L 9 = true := up_at hu 9 (by kernel_rfl)
          have y10 : L 10 = true := up_at hu 10 (by kernel_rfl)
          have y11 : L 11 = true := up_at hu 11 (by kernel_rfl)
          have y12 : L 12 = true := up_at hu 12 (by kernel_rfl)
          have y13 : L 13 = true := up_at hu 13 (by kernel_rfl)
          have y14 : L 14 = true := up_at hu 14 (by kernel_rfl)
          have y15 : L 15 = true := up_at hu 15 (by kernel_rfl)
          have y16 : L 16 = true := up_at hu 16 (by kernel_rfl)
          have y17 : L 17 = true := up_at hu 17 (by kernel_rfl)
          have y18 : L 18 = true := up_at hu 18 (by kernel_rfl)
          have y19 : L 19 = true := up_at hu 19 (by kernel_rfl)
          have y20 : L 20 = true := up_at hu 20 (by kernel_rfl)
          have y21 : L 21 = true := up_at hu 21 (by kernel_rfl)
          have y22 : L 22 = true := up_at hu 22 (by kernel_rfl)
          have y23 : L 23 = true := up_at hu 23 (by kernel_rfl)
          have y24 : L 24 = true := up_at hu 24 (by kernel_rfl)
          have y25 : L 25 = true := up_at hu 25 (by kernel_rfl)
          have y26 : L 26 = true := up_at hu 26 (by kernel_rfl)
          have y27 : L 27 = true := up_at hu 27 (by kernel_rfl)
          have y28 : L 28 = true := up_at hu 28 (by kernel_rfl)
          have y29 : L 29 = true := up_at hu 29 (by kernel_rfl)
          have y30 : L 30 = true := up_at hu 30 (by kernel_rfl)
          have y31 : L 31 = true := up_at hu 31 (by kernel_rfl)
          have y32 : L 32 = true := up_at hu 32 (by kernel_rfl)
          have y33 : L 33 = true := up_at hu 33 (by kernel_rfl)
          have y34 : L 34 = true := up_at hu 34 (by kernel_rfl)
          have y35 : L 35 = true := up_at hu 35 (by kernel_rfl)
          have y36 : L 36 = true := up_at hu 36 (by kernel_rfl)
          have y37 : L 37 = true := up_at hu 37 (by kernel_rfl)
          have y38 : L 38 = true := up_at hu 38 (by kernel_rfl)
          try simp only [y0, y1, y2, y3, y4, y5, y6, y7, y8, y9, y10, y11, y12, y13, y14, y15, y16, y17, y18, y19, y20, y21, y22, y23, y24, y25, y26, y27, y28, y29, y30, y31, y32, y33, y34, y35, y36, y37, y38, hL, cond_true, cond_false] at hph
          have e110 : (many gg_ L (VL z))[110]?.getD undef = .slice z.2.1 (nn + 1) z.2.2 := many_eval3 hgN (HOK.out z) (by rw [HVL.out]; rfl) y38
          refine opIn_run (v := .slice z.2.1 (nn + 1) z.2.2) (w' := w') rfl rfl (fun c h => by cases h) (fun _ => trivial) ?_ ⟨z, by exact many_put3 (HOK.out _) (by rw [HVL.out]; rfl) hL, hcm, by simp only [upd, y0, y1, y2, y3, y4, y5, y6, y7, y8, y9, y10, y11, y12, y13, y14, y15, y16, y17, y18, y19, y20, y21, y22, y23, y24, y25, y26, y27, y28, y29, y30, y31, y32, y33, y34, y35, y36, y37, y38, hL, Nat.reduceBEq, cond_true, cond_false]; exact hph⟩
          go_simp
      case fin =>
        intro L z w' hall hph
        obtain ⟨hcm, hph⟩ := hph
        have l37 := hall 37 (by decide)
        have l38 := hall 38 (by decide)
        simp only [l37, l38, cond_true] at hph
        clear l37 l38
        rw [HVL.out]
        dsimp only [manyL, List.set_cons_zero, List.set_cons_succ]
        clear hall HVL HOK HVI
        obtain ⟨zb, UA, UC⟩ := z
        simp only at hph hcm
        have HN2 : Hid (w'.ownsRow N 75 5 (.slice UA (nn + 1) UC) (nn + 1) ((zs ++ [(⟨0, (r : Int), (c : Int), (k : Int), DN, AC⟩ : Pk)]).flatMap Pk.spv) ∧ KpT 75 W w' ∧ Below N W w') := Lib.hid ⟨hph, hcm.1, hcm.2⟩
        clear hph hcm HI
        go_wp2
        go_roundg g1
        case measure => omega
        case rel => exact ⟨k + 1, nn + 1, UA, UC, _, by omega, by have := HNK.out; omega, rfl, by go_num, HN2, HZ2⟩
    · obtain rfl : wh = k := by omega
      have hlc : ¬ (wh : Int) < (wh : Int) := by omega
      have hnk := HNK.out
      subst hnk
      go_wp2_with fail
      exact HQ.out _ _ _ _ _ _ _ _ _ _ _ _ _ _ _ _ _ _ _ _ _ _ _ _ _ _ _ _ _ _ _ _ _ _ _ _ _ _ _ _ _ _ _ _ _ _ wa Va Vc (Lib.hid (by rw [← HZ.out]; exact HI.out))
end Go.Proofs.Ytejoedanhonpkaa
