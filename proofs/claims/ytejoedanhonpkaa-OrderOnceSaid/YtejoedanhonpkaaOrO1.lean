/- Packets in order: OrderOnce: the list is gone through. -/
import Derived.Test.YtejoedanhonpkaaOrB
import Derived.Test.YtejoedanhonpkaaOrX1
import Derived.Test.YtejoedanhonpkaaReg4
import Derived.Laws.Rows
import Derived.Deep.QuietTactic
import Derived.BigQuiet
import Derived.Deep.CutRange
import Derived.Deep.CutBlock
import Derived.Deep.LoopGhost
set_option linter.unusedVariables false
set_option linter.unusedSimpArgs false
namespace Go.Proofs.Ytejoedanhonpkaa
section
open Go.RowKit
/-- Which places were met among the first k of M. -/
def SeenB (M : List Pk) (c r n k : Nat) (V : Nat → Bool) : Prop :=
  ∀ x : Nat, V x = true ↔ ∃ (j : Nat) (a : Pk), j < k ∧ M[j]? = some a ∧ a.cp = (c : Int) ∧ a.rs = (r : Int) ∧ a.pc * (n : Int) + a.ly = (x : Int)
theorem seenB0 (M : List Pk) (c r n : Nat) : SeenB M c r n 0 fun _ => false := fun x =>
  ⟨fun h => (by cases h), fun ⟨j, _, h, _⟩ => (by omega)⟩
section
variable {M : List Pk} {c r n k : Nat} {V : Nat → Bool}
theorem seenB_skip (h : SeenB M c r n k V) {a : Pk} (ha : M[k]? = some a) (hs : a.cp ≠ (c : Int) ∨ a.rs ≠ (r : Int)) : SeenB M c r n (k + 1) V := fun x => by
  rw [h x]
  constructor
  · rintro ⟨j, b, h1, h2, h3⟩
    exact ⟨j, b, by omega, h2, h3⟩
  · rintro ⟨j, b, h1, h2, h3, h4, h5⟩
    rcases (by omega : j < k ∨ j = k) with hj | hj
    · exact ⟨j, b, hj, h2, h3, h4, h5⟩
    · subst hj
      rw [ha] at h2
      injection h2 with h2
      subst h2
      rcases hs with hs | hs
      · exact absurd h3 hs
      · exact absurd h4 hs
theorem seenB_put (h : SeenB M c r n k V) {a : Pk} (ha : M[k]? = some a) (h1 : a.cp = (c : Int)) (h2 : a.rs = (r : Int)) {y : Nat} (hy : a.pc * (n : Int) + a.ly = (y : Int)) : SeenB M c r n (k + 1) (putV V y) := fun x => by
  unfold putV
  rw [Bool.or_eq_true, h x]
  constructor
  · rintro (⟨j, b, g1, g2, g3⟩ | g)
    · exact ⟨j, b, by omega, g2, g3⟩
    · have := Nat.eq_of_beq_eq_true g
      subst this
      exact ⟨k, a, by omega, ha, h1, h2, hy⟩
  · rintro ⟨j, b, g1, g2, g3, g4, g5⟩
    rcases (by omega : j < k ∨ j = k) with hj | hj
    · exact .inl ⟨j, b, hj, g2, g3, g4, g5⟩
    · subst hj
      rw [ha] at g2
      injection g2 with g2
      subst g2
      right
      have : x = y := by omega
      subst this
      exact Nat.beq_refl x
theorem seenB_new {G : GE} {o : Nat} (hM : OL G n o M) (h : SeenB M c r n k V) {a : Pk} (ha : M[k]? = some a) (h1 : a.cp = (c : Int)) (h2 : a.rs = (r : Int)) :
    ∃ l p : Nat, a.ly = (l : Int) ∧ a.pc = (p : Int) ∧ l < n ∧ p < G.wh c r ∧ p * n + l < G.wh c r * n ∧ V (p * n + l) = false := by
  obtain ⟨l, p, g1, g2, g3, g4, g5⟩ := hM.once ha c r h1 h2
  refine ⟨l, p, g1, g2, g3, g4, ?_, ?_⟩
  · have := Nat.mul_le_mul_right n (show p + 1 ≤ G.wh c r by omega)
    rw [Nat.succ_mul] at this
    omega
  · cases hv : V (p * n + l) with
    | false => rfl
    | true =>
      obtain ⟨j, b, q1, q2, q3, q4, q5⟩ := (h _).1 hv
      refine absurd ?_ (g5 j b q1 q2 q3 q4)
      rw [q5, g1, g2]
      push_cast
      rfl
end
theorem cntR_mono (G : GE) (c : Nat) : ∀ {r r' : Nat}, r ≤ r' → cntR G c r ≤ cntR G c r' := fun {r r'} h => by
  induction h with
  | refl => exact Nat.le_refl _
  | step h ih => rw [cntR_succ]; omega
theorem cntC_mono (G : GE) : ∀ {c c' : Nat}, c ≤ c' → cntC G c ≤ cntC G c' := fun {c c'} h => by
  induction h with
  | refl => exact Nat.le_refl _
  | step h ih => rw [cntC_succ]; omega
end
section
open Go.RowKit
set_option maxRecDepth 100000
theorem cell_keep {a b : World} {sg : Nat} (h : a.grownBy b (some sg)) {p : Addr} (hp : p.block < a.heap.size) (hn : p.block ≠ sg) : b.cell? p = a.cell? p := by
  have := h.block p.block hp (fun e => hn (Option.some.inj e))
  simp [World.cell?, this]
set_option maxHeartbeats 16000000 in
theorem once_list {u0 u1 u2 u3 u4 u5 u7 u8 u10 u12 u14 u15 u18 u19 u20 u21 u22 u23 u24 u25 u26 u27 u28 u29 u30 u31 u32 u33 u34 u35 u36 u37 u38 u39 u40 u41 u42 u43 u44 u45 u46 u47 u48 u49 u50 u51 u52 u53 u54 u55 u56 u57 u58 u59 u60 u61 u62 u63 u64 u65 u66 u67 u68 u69 u70 u71 u72 u73 u74 u75 u76 u77 u78 u79 u80 u81 u82 u83 u84 u85 u86 u87 u88 u89 u90 u91 u92 u93 u94 u95 u96 u97 u98 u99 u100 u101 u102 u103 u104 u105 u106 u107 u108 u109 u110 u111 u112 u113 u114 u115 u116 u117 u118 u119 u120 u121 u122 u123 u124 u125 u126 u127 u128 u129 u130 u131 u132 u133 u134 u135 u136 u137 u138 u139 u140 u141 u142 u143 u144 u145 u146 u147 u148 u149 u150 u151 u152 u153 u154 u155 u156 u157 u158 u159 u160 u161 u162 u163 u164 u165 u166 u167 u168 u169 u170 u171 : Value} (pb sg m KC qn LY c r o : Nat) (KA : Option Addr) (G : GE) (M : List Pk) (W : World)
    (HP : Hid (pb < W.heap.size ∧ pb ≠ sg ∧ W.cell? ⟨pb, 8, none⟩ = some (.int .i64 (LY : Int)))) (HK : Hid (M.length = m ∧ ∀ (i : Nat) (x : Pk), M[i]? = some x → ∃ g o, KA = some ⟨g, o, none⟩ ∧ g < W.heap.size ∧ g ≠ sg ∧ W.cell? ⟨g, o + i * 4, none⟩ = some (.int .i64 x.ly) ∧ W.cell? ⟨g, o + i * 4 + 1, none⟩ = some (.int .i64 x.rs) ∧ W.cell? ⟨g, o + i * 4 + 2, none⟩ = some (.int .i64 x.cp) ∧ W.cell? ⟨g, o + i * 4 + 3, none⟩ = some (.int .i64 x.pc)))
    (HS : Hid (W.heap[sg]? = some (.cells (bA qn fun _ => false) 4 (0, 0)))) (HO : Hid (OL G LY o M ∧ G.wh c r * LY = qn))
    (hm : m ≤ 13000000) (hqn : qn ≤ 600000) (hLY : LY ≤ 8) {Q : Exit → Act → World → Prop}
    (hQ : ∀ (v4 v18 v93 v94 v95 v96 v97 v98 v99 v100 v101 v102 v103 v104 v105 v106 v107 v108 v109 v110 v111 v112 v113 v114 v115 v116 v117 v118 v119 v120 v121 v122 v123 v124 v125 v126 v127 v128 v129 v130 v131 v132 v133 v134 v135 v136 v137 v138 v139 v140 v141 v142 v143 v144 v145 v146 v147 v148 v149 v150 v151 v152 v153 v154 v155 v156 v157 v158 v159 v160 v161 v162 v163 : Value) (W' : World), Hid (W.grownBy W' (some sg)) → Q .normal ⟨#[u0, u1, u2, u3, v4, u5, .pointer (some ⟨pb, 0, none⟩), u7, u8, .slice KA m KC, u10, .int .i64 (c : Int), u12, .int .i64 (r : Int), u14, u15, .slice (some ⟨sg, 0, none⟩) qn qn, .int .i64 (m : Int), v18, u19, u20, u21, u22, u23, u24, u25, u26, u27, u28, u29, u30, u31, u32, u33, u34, u35, u36, u37, u38, u39, u40, u41, u42, u43, u44, u45, u46, u47, u48, u49, u50, u51, u52, u53, u54, u55, u56, u57, u58, u59, u60, u61, u62, u63, u64, u65, u66, u67, u68, u69, u70, u71, u72, u73, u74, u75, u76, u77, u78, u79, u80, u81, u82, u83, u84, u85, u86, u87, u88, u89, u90, u91, u92, v93, v94, v95, v96, v97, v98, v99, v100, v101, v102, v103, v104, v105, v106, v107, v108, v109, v110, v111, v112, v113, v114, v115, v116, v117, v118, v119, v120, v121, v122, v123, v124, v125, v126, v127, v128, v129, v130, v131, v132, v133, v134, v135, v136, v137, v138, v139, v140, v141, v142, v143, v144, v145, v146, v147, v148, v149, v150, v151, v152, v153, v154, v155, v156, v157, v158, v159, v160, v161, v162, v163, u164, u165, u166, u167, u168, u169, u170, u171], []⟩ W') :
    (blkOf Try.f4 6).wp Try.prog Q ⟨#[u0, u1, u2, u3, u4, u5, .pointer (some ⟨pb, 0, none⟩), u7, u8, .slice KA m KC, u10, .int .i64 (c : Int), u12, .int .i64 (r : Int), u14, u15, .slice (some ⟨sg, 0, none⟩) qn qn, .int .i64 0, u18, u19, u20, u21, u22, u23, u24, u25, u26, u27, u28, u29, u30, u31, u32, u33, u34, u35, u36, u37, u38, u39, u40, u41, u42, u43, u44, u45, u46, u47, u48, u49, u50, u51, u52, u53, u54, u55, u56, u57, u58, u59, u60, u61, u62, u63, u64, u65, u66, u67, u68, u69, u70, u71, u72, u73, u74, u75, u76, u77, u78, u79, u80, u81, u82, u83, u84, u85, u86, u87, u88, u89, u90, u91, u92, u93, u94, u95, u96, u97, u98, u99, u100, u101, u102, u103, u104, u105, u106, u107, u108, u109, u110, u111, u112, u113, u114, u115, u116, u117, u118, u119, u120, u121, u122, u123, u124, u125, u126, u127, u128, u129, u130, u131, u132, u133, u134, u135, u136, u137, u138, u139, u140, u141, u142, u143, u144, u145, u146, u147, u148, u149, u150, u151, u152, u153, u154, u155, u156, u157, u158, u159, u160, u161, u162, u163, u164, u165, u166, u167, u168, u169, u170, u171], []⟩ W := by
  obtain ⟨o_, ho_⟩ : ∃ o, blkOf Try.f4 6 = o := ⟨_, rfl⟩
  rw [ho_]
  conv at ho_ => lhs; whnf
  subst ho_
  have HQ := Lib.hid hQ
  clear hQ
  go_wp2_with fail
  go_loopg [17] m (fun g v wr => ∃ (k : Nat) (V : Nat → Bool), k + g = m ∧ v = .int .i64 (k : Int) ∧ Hid (W.grownBy wr (some sg) ∧ wr.heap[sg]? = some (.cells (bA qn V) 4 (0, 0)) ∧ SeenB M c r LY k V))
  case atStart => exact ⟨0, fun _ => false, by omega, rfl, Lib.hid ⟨grown_refl _ _, HS.out, seenB0 _ _ _ _⟩⟩
  case round =>
    obtain ⟨k, V, hkg, rfl, HI⟩ := hrel
    obtain ⟨wa, hwa⟩ : ∃ wa, wa = wr := ⟨wr, rfl⟩
    subst hwa
    by_cases hkm : k < m
    · obtain ⟨g1, rfl⟩ : ∃ g1, gk = g1 + 1 := ⟨gk - 1, by omega⟩
      have hkI : (k : Int) < (m : Int) ∧ (0 : Int) ≤ (k : Int) := by omega
      obtain ⟨a, ha⟩ : ∃ a, M[k]? = some a := ⟨_, List.getElem?_eq_getElem (by rw [HK.out.1]; exact hkm)⟩
      obtain ⟨g5, o5, rfl, hg5, hgs, q0, q1, q2, q3⟩ := HK.out.2 k a ha
      have k2 : wa.cell? ⟨g5, o5 + k * 4 + 2, none⟩ = some (.int .i64 a.cp) := (cell_keep HI.out.1 (p := ⟨g5, _, none⟩) hg5 hgs).trans q2
      have k1 : wa.cell? ⟨g5, o5 + k * 4 + 1, none⟩ = some (.int .i64 a.rs) := (cell_keep HI.out.1 (p := ⟨g5, _, none⟩) hg5 hgs).trans q1
      have k3 : wa.cell? ⟨g5, o5 + k * 4 + 3, none⟩ = some (.int .i64 a.pc) := (cell_keep HI.out.1 (p := ⟨g5, _, none⟩) hg5 hgs).trans q3
      have k0 : wa.cell? ⟨g5, o5 + k * 4, none⟩ = some (.int .i64 a.ly) := (cell_keep HI.out.1 (p := ⟨g5, _, none⟩) hg5 hgs).trans q0
      clear q0 q1 q2 q3
      have HA := Lib.hid ha
      clear ha
      by_cases hcr : a.cp = (c : Int) ∧ a.rs = (r : Int)
      · obtain ⟨hc1, hr1⟩ := hcr
        obtain ⟨l, p, hl, hp, hln, hpw, hat, hV⟩ := seenB_new HO.out.1 HI.out.2.2 HA.out hc1 hr1
        obtain ⟨at_, hat_⟩ : ∃ x, p * LY + l = x := ⟨_, rfl⟩
        rw [HO.out.2] at hat
        rw [hat_] at hat hV
        obtain ⟨pl, hpl⟩ : ∃ x, p * LY = x := ⟨_, rfl⟩
        have e1 : (p : Int) * (LY : Int) = (pl : Int) := by rw [← hpl]; push_cast; rfl
        have HN : Hid (SeenB M c r LY (k + 1) (putV V at_)) := Lib.hid (seenB_put HI.out.2.2 HA.out hc1 hr1 (by rw [hp, hl, e1]; omega))
        have HE : Hid ((p : Int) * (LY : Int) = (pl : Int) ∧ (pl : Int) + (l : Int) = (at_ : Int)) := Lib.hid ⟨e1, by omega⟩
        rw [hc1] at k2
        rw [hr1] at k1
        rw [hp] at k3
        rw [hl] at k0
        have p8 : wa.cell? ⟨pb, 8, none⟩ = some (.int .i64 (LY : Int)) := (cell_keep HI.out.1 (p := ⟨pb, _, none⟩) HP.out.1 HP.out.2.1).trans HP.out.2.2
        have s0 : wa.cell? ⟨sg, at_, none⟩ = some (.bool false) := by rw [blk_cell HI.out.2.1, bA_get hat, hV]
        have f0 : wa.frozen? ⟨sg, at_, none⟩ = false := by simp [World.frozen?, HI.out.2.1]
        have HG : Hid (∀ q : Nat, W.grownBy ((wa.drewN q).setCell ⟨sg, at_, none⟩ (.bool true)) (some sg) ∧ ((wa.drewN q).setCell ⟨sg, at_, none⟩ (.bool true)).heap[sg]? = some (.cells (bA qn (putV V at_)) 4 (0, 0)) ∧ SeenB M c r LY (k + 1) (putV V at_)) := Lib.hid fun q => by
          have hd : wa.grownBy (wa.drewN q) (some sg) := grown_of (below_drewN (Below.refl _ _) q) (Nat.le_refl _)
          refine ⟨grown_two HI.out.1 (grown_two hd (grown_put _ _ _ _)), ?_, HN.out⟩
          have := blk_put (show (wa.drewN q).heap[sg]? = _ from HI.out.2.1) at_ (.bool true)
          rw [this, bA_put hat]
        have hlI : ¬ (l : Int) < 0 ∧ ¬ (LY : Int) ≤ (l : Int) := by omega
        have hatI : (at_ : Int) < (qn : Int) ∧ (0 : Int) ≤ (at_ : Int) ∧ ¬ (at_ : Int) < 0 ∧ ¬ (qn : Int) ≤ (at_ : Int) := by omega
        have hW : Hid (IntKind.i64.wrap ((p : Int) * (LY : Int)) = (pl : Int) ∧ IntKind.i64.wrap ((pl : Int) + (l : Int)) = (at_ : Int)) := Lib.hid (by
          rw [HE.out.1, HE.out.2]
          exact ⟨IntWalk.i64_in _ (by omega), IntWalk.i64_in _ (by omega)⟩)
        clear hat hat_ hV hpl e1 hc1 hr1 hl hp hln hpw HI HN
        go_upto_region 24 with fail
        obtain ⟨w1, w2⟩ := hW.out
        go_quiet (fail)
        clear w1 w2
        go_upto_region 25 with fail
        go_quiet (fail)
        go_wp2
        go_roundg g1
        case measure => omega
        case rel => exact ⟨k + 1, putV V at_, by omega, by go_num, Lib.hid (HG.out _)⟩
      · have HN : Hid (SeenB M c r LY (k + 1) V) := Lib.hid (seenB_skip HI.out.2.2 HA.out (by
          by_cases h : a.cp = (c : Int)
          · exact .inr fun h2 => hcr ⟨h, h2⟩
          · exact .inl h))
        obtain ⟨p, hp⟩ : ∃ p, a.cp = p := ⟨_, rfl⟩
        obtain ⟨q, hq⟩ : ∃ p, a.rs = p := ⟨_, rfl⟩
        rw [hp] at k2 hcr
        rw [hq] at k1 hcr
        clear hp hq k0 k3
        by_cases hpc : p = (c : Int)
        · have hqr : ¬ q = (r : Int) := fun h => hcr ⟨hpc, h⟩
          subst hpc
          clear hcr
          go_wp2_with fail
          go_roundg g1
          case measure => omega
          case rel => exact ⟨k + 1, V, by omega, by go_num, Lib.hid ⟨HI.out.1, HI.out.2.1, HN.out⟩⟩
        · clear hcr
          go_wp2_with fail
          go_roundg g1
          case measure => omega
          case rel => exact ⟨k + 1, V, by omega, by go_num, Lib.hid ⟨HI.out.1, HI.out.2.1, HN.out⟩⟩
    · obtain rfl : m = k := by omega
      have hlc : ¬ (m : Int) < (m : Int) := by omega
      go_wp2_with fail
      exact HQ.out _ _ _ _ _ _ _ _ _ _ _ _ _ _ _ _ _ _ _ _ _ _ _ _ _ _ _ _ _ _ _ _ _ _ _ _ _ _ _ _ _ _ _ _ _ _ _ _ _ _ _ _ _ _ _ _ _ _ _ _ _ _ _ _ _ _ _ _ _ _ _ _ _ wa (Lib.hid HI.out.1)
end
end Go.Proofs.Ytejoedanhonpkaa
