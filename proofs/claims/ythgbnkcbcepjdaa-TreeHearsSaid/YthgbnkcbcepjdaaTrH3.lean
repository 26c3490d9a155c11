/- The reference's tree: Decode. -/
import Derived.Test.YthgbnkcbcepjdaaTrH2
import Derived.Test.YthgbnkcbcepjdaaBitNe
import Derived.StillTailTactics
import Derived.Deep.LoopGhost
set_option linter.unusedVariables false
set_option linter.unusedSimpArgs false
namespace Go.Proofs.Ythgbnkcbcepjdaa
open Go.RowKit
set_option maxRecDepth 100000
/-- The reference's question to a node. -/
def rqstep (F : List Int) (s : RS) (nd : Nd) : Bool × Nd × RS := (decide (rsbit F s = 1), if rsbit F s = 1 then ⟨nd.low, nd.low, nd.said⟩ else nd, rsnext F s)
def rdecM (F : List Int) (bound : Int) (W0 d k : Nat) (s : RS) (T : TT) : RS × TT × Int := walkT (rqstep F) bound (bound.toNat + 2) W0 (k % W0) (k / W0) d (s, T, 0)
/-- What Decode may write. -/
def PR (r L B : Nat) : Nat → Prop := fun k => k = r ∨ k = L ∨ B ≤ k
theorem qr_keep {w w' : World} {r : Nat} {a0 : Option Addr} {cap0 : Nat} {F : List Int} {s : RS} (h : Qr w r a0 cap0 F s) (hk : w'.heap[r]? = w.heap[r]?) : Qr w' r a0 cap0 F s := by
  unfold Qr at h ⊢
  exact hk.trans h
/-- A copy of a node. -/
def Nx (w : World) (z : Nat) (nn nl : Int) (ns : Bool) (u : Int) : Prop := w.heap[z]? = some (.cells #[.int .i64 nn, .int .i64 nl, .bool ns, .int .i64 u] 66 (0, 0))
theorem Nx.cells {w : World} {z : Nat} {nn nl : Int} {ns : Bool} {u : Int} (h : Nx w z nn nl ns u) : w.cell? ⟨z, 0, none⟩ = some (.int .i64 nn) ∧ w.cell? ⟨z, 1, none⟩ = some (.int .i64 nl) ∧ w.cell? ⟨z, 2, none⟩ = some (.bool ns) ∧ w.cell? ⟨z, 3, none⟩ = some (.int .i64 u) ∧ ∀ o, w.frozen? ⟨z, o, none⟩ = false := by
  unfold Nx at h
  refine ⟨?_, ?_, ?_, ?_, ?_⟩ <;> simp [World.cell?, World.frozen?, h]
theorem Nx.setL {w : World} {z : Nat} {nn nl : Int} {ns : Bool} {u : Int} (h : Nx w z nn nl ns u) (x : Int) : Nx (w.setCell ⟨z, 1, none⟩ (.int .i64 x)) z nn x ns u := by
  unfold Nx at h ⊢
  simp [World.setCell, Array.getElem?_modify, h]
theorem Nx.setN {w : World} {z : Nat} {nn nl : Int} {ns : Bool} {u : Int} (h : Nx w z nn nl ns u) (x : Int) : Nx (w.setCell ⟨z, 0, none⟩ (.int .i64 x)) z x nl ns u := by
  unfold Nx at h ⊢
  simp [World.setCell, Array.getElem?_modify, h]
theorem Nx.setS {w : World} {z : Nat} {nn nl : Int} {ns : Bool} {u : Int} (h : Nx w z nn nl ns u) (x : Bool) : Nx (w.setCell ⟨z, 2, none⟩ (.bool x)) z nn nl x u := by
  unfold Nx at h ⊢
  simp [World.setCell, Array.getElem?_modify, h]
theorem nx_new {w : World} {z : Nat} {nn nl : Int} {ns : Bool} {u : Int} {a b c e : Value} (h : w.heap[z]? = some (.cells #[a, b, c, e] 66 (0, 0))) : Nx ((((w.setCell ⟨z, 0, none⟩ (.int .i64 nn)).setCell ⟨z, 1, none⟩ (.int .i64 nl)).setCell ⟨z, 2, none⟩ (.bool ns)).setCell ⟨z, 3, none⟩ (.int .i64 u)) z nn nl ns u := by
  unfold Nx
  simp [World.setCell, Array.getElem?_modify, h]
/-- All that Decode has in hand between two nodes. -/
structure RD (w0 w : World) (q L tot cap W H d : Nat) (fr : Bool) (T : TT) (r : Nat) (a0 : Option Addr) (cap0 : Nat) (F : List Int) (s : RS) (B A x y B0 : Nat) : Prop where
  tr : RTr w q L tot cap W H d fr T
  rd : Qr w r a0 cap0 F s
  ls : Lst w B0 a0 (F.map (Value.int .u8))
  wy : ∀ i, i < d → w.cell? ⟨A, i, none⟩ = some (.int .i64 (wayI W H x y (d - 1 - i) : Int))
  on : Only (PR r L B) w0 w
  nn : q < B ∧ L < B ∧ r < B ∧ A < B ∧ B ≤ w.heap.size ∧ B0 ≤ B ∧ B0 ≤ r ∧ B0 ≤ L ∧ B0 ≤ q ∧ q ≠ r ∧ L ≠ r ∧ A ≠ L ∧ A ≠ r ∧ A ≠ q
section
variable {w0 w w' : World} {q L tot cap W H d : Nat} {fr : Bool} {T : TT} {r : Nat} {a0 : Option Addr} {cap0 : Nat} {F : List Int} {s : RS} {B A x y B0 : Nat}
theorem RD.below (h : RD w0 w q L tot cap W H d fr T r a0 cap0 F s B A x y B0) (hb : Below B w w') : RD w0 w' q L tot cap W H d fr T r a0 cap0 F s B A x y B0 := by
  have hn := h.nn
  refine ⟨h.tr.keep (hb.block _ (by omega)) (hb.block _ (by omega)), qr_keep h.rd (hb.block _ (by omega)), h.ls.keep fun p hp => hb.cell (by omega), fun i hi => (hb.cell (p := ⟨A, i, none⟩) (by show A < B; omega)).trans (h.wy i hi), h.on.trans ⟨hb.os, hb.tape, hb.output, hb.size, fun k hk => hb.block k (by
    rcases Nat.lt_or_ge k B with e | e
    · exact e
    · exact absurd (.inr (.inr e)) hk)⟩, ?_⟩
  have := hb.size
  omega
theorem RD.rdr (h : RD w0 w q L tot cap W H d fr T r a0 cap0 F s B A x y B0) {s' : RS} (hr : Qr w' r a0 cap0 F s') (ho : Only (· = r) w w') : RD w0 w' q L tot cap W H d fr T r a0 cap0 F s' B A x y B0 := by
  have hn := h.nn
  refine ⟨h.tr.keep (ho.block _ (by omega)) (ho.block _ (by omega)), hr, h.ls.keep fun p hp => ho.cell (by intro e; have e : p.block = r := e; omega), fun i hi => (ho.cell (p := ⟨A, i, none⟩) (by show ¬ A = r; omega)).trans (h.wy i hi), h.on.trans (ho.mono fun k e => .inl e), ?_⟩
  have := ho.size
  omega
theorem RD.set (h : RD w0 w q L tot cap W H d fr T r a0 cap0 F s B A x y B0) {i m : Nat} (hi : i < d) (hm : m < cntF W H i) (n : Nd) :
    RD w0 ((((w.setCell ⟨L, (offF W H i + m) * 4, none⟩ (.int .i64 n.num)).setCell ⟨L, (offF W H i + m) * 4 + 1, none⟩ (.int .i64 n.low)).setCell ⟨L, (offF W H i + m) * 4 + 2, none⟩ (.bool n.said)).setCell ⟨L, (offF W H i + m) * 4 + 3, none⟩ (.int .i64 (upI W H d i m))) q L tot cap W H d fr (T.upd i m n) r a0 cap0 F s B A x y B0 := by
  have hn := h.nn
  have hP : PR r L B L := .inr (.inl rfl)
  have hO : Only (fun k => k = L) w ((((w.setCell ⟨L, (offF W H i + m) * 4, none⟩ (.int .i64 n.num)).setCell ⟨L, (offF W H i + m) * 4 + 1, none⟩ (.int .i64 n.low)).setCell ⟨L, (offF W H i + m) * 4 + 2, none⟩ (.bool n.said)).setCell ⟨L, (offF W H i + m) * 4 + 3, none⟩ (.int .i64 (upI W H d i m))) :=
    ((((Only.refl (fun k => k = L) w).setCell (p := ⟨L, (offF W H i + m) * 4, none⟩) (show L = L from rfl) _).setCell (p := ⟨L, (offF W H i + m) * 4 + 1, none⟩) (show L = L from rfl) _).setCell (p := ⟨L, (offF W H i + m) * 4 + 2, none⟩) (show L = L from rfl) _).setCell (p := ⟨L, (offF W H i + m) * 4 + 3, none⟩) (show L = L from rfl) _
  refine ⟨h.tr.set hi hm n, qr_keep h.rd (hO.block _ (by omega)), h.ls.keep fun p hp => hO.cell (by intro e; have e : p.block = L := e; omega), fun j hj => (hO.cell (p := ⟨A, j, none⟩) (by show ¬ A = L; omega)).trans (h.wy j hj), h.on.trans (hO.mono fun k e => .inr (.inl e)), ?_⟩
  have := hO.size
  omega
end
set_option maxHeartbeats 16000000 in
set_option pp.deepTerms true in
set_option pp.maxSteps 10000000 in
theorem rtdec_any {w : World} {q LB tot cap W H d k r cap0 B0 : Nat} {fr : Bool} {T : TT} {a0 : Option Addr} {F : List Int} {s : RS} (h : RTr w q LB tot cap W H d fr T) (hR : Qr w r a0 cap0 F s) (hL : Lst w B0 a0 (F.map (Value.int .u8))) (hB0 : B0 ≤ r ∧ B0 ≤ q ∧ B0 ≤ LB) (hne : q ≠ r ∧ LB ≠ r)
    (hWH : W ≤ 64 ∧ H ≤ 64) (hd : 1 ≤ d ∧ d ≤ 8) (hk : k < W * H) (bound : Int) (hb : -1 ≤ bound ∧ bound ≤ 500) (hT : LowOk T) (hl : F.length ≤ 90000) (hF : ∀ x ∈ F, 0 ≤ x ∧ x ≤ 255) (hsl : s.l ≤ 8) (hn : s.n + d * (bound.toNat + 2) ≤ 80000) :
    Calls Try.prog 15 #[.pointer (some ⟨q, 0, none⟩), .pointer (some ⟨r, 0, none⟩), .int .i64 (k : Int), .int .i64 bound] w fun e w' =>
      e = .returned (.bool (((rdecM F bound W d k s T).2.1 0 k).said && decide (((rdecM F bound W d k s T).2.1 0 k).num < bound))) ∧ RTr w' q LB tot cap W H d fr (rdecM F bound W d k s T).2.1 ∧ Qr w' r a0 cap0 F (rdecM F bound W d k s T).1 ∧ Only (PR r LB w.heap.size) w w' ∧
      LowOk (rdecM F bound W d k s T).2.1 ∧ (rdecM F bound W d k s T).1.l ≤ 8 ∧ (rdecM F bound W d k s T).1.n ≤ s.n + d * (bound.toNat + 2) := by
  have hWp : 0 < W := by
    rcases Nat.eq_zero_or_pos W with e | e
    · rw [e, Nat.zero_mul] at hk; omega
    · exact e
  have hWHm : W * H ≤ 4096 := Nat.mul_le_mul hWH.1 hWH.2
  obtain ⟨x, hx⟩ : ∃ x, k % W = x := ⟨_, rfl⟩
  obtain ⟨y, hy⟩ : ∃ y, k / W = y := ⟨_, rfl⟩
  have hxl : x < W := by rw [← hx]; exact Nat.mod_lt _ hWp
  have hyl : y < H := by rw [← hy]; exact Nat.div_lt_of_lt_mul hk
  have WY := Lib.hid (rtway_any h hWH hd hk)
  rw [hx, hy] at WY
  obtain ⟨Fu, hFu⟩ : ∃ Fu, bound.toNat + 2 = Fu := ⟨_, rfl⟩
  obtain ⟨R, hRR⟩ : ∃ R, rdecM F bound W d k s T = R := ⟨_, rfl⟩
  have hwk : walkT (rqstep F) bound Fu W x y d (s, T, 0) = R := by rw [← hRR, ← hx, ← hy, ← hFu]; rfl
  rw [hRR, hFu]
  rw [hFu] at hn
  obtain ⟨N, hN⟩ : ∃ N, W * H = N := ⟨_, rfl⟩
  have HW := Lib.hid hwk
  have HFu := Lib.hid hFu
  have HTL := Lib.hid hT
  have HFF := Lib.hid hF
  have HTR := Lib.hid h
  have HRR := Lib.hid hR
  have HLL := Lib.hid hL
  obtain ⟨r0, r1⟩ := h.root
  have hlt := h.lt
  have hrl : r < w.heap.size := blk_lt (by unfold Qr at hR; exact hR)
  rw [hN] at r1 hk hWHm
  have HN := Lib.hid hN
  have hk2 : (k : Int) < (N : Int) := by omega
  have e0 : decide ((k : Int) < 0) = false := by simp
  have e1 : ¬ (N : Int) ≤ (k : Int) := by omega
  have e2 : decide ((N : Int) ≤ (k : Int)) = false := by simp; omega
  have HK := Lib.hid (And.intro hx hy)
  clear hx hy hwk hRR hFu hT hF h hR hL hN
  go_enter Try.func15, Try.ntmps15
  go_wp2_with fail
  refine WY.out.mono ?_
  rintro e w1 ⟨A, cA, rfl, ⟨hA1, hA2, hA3⟩, hAc, hb1⟩
  have hs1 := hb1.size
  have HD1 : Hid (RD w1 w1 q LB tot cap W H d fr T r a0 cap0 F s w1.heap.size A x y B0) := Lib.hid ⟨HTR.out.below hb1, qr_keep HRR.out (hb1.block _ hrl), HLL.out.keep fun p hp => hb1.cell (by omega), hAc, Only.refl _ _, by omega⟩
  have HB1 := Lib.hid hb1
  clear hAc hb1 WY HTR HRR HLL r0 r1 e0 e1 e2
  go_wp2_with fail
  obtain ⟨B1, hB1⟩ : ∃ B1, w1.heap.size = B1 := ⟨_, rfl⟩
  rw [hB1] at HD1
  go_loopg [10, 11] d (fun g v10 v11 wr => ∃ (i : Nat) (lo : Int) (s1 : RS) (T1 : TT), i + g = d ∧ v10 = .int .i64 lo ∧ v11 = .int .i64 (i : Int) ∧ 0 ≤ lo ∧ lo ≤ 1000 ∧ Hid (walkT (rqstep F) bound Fu W x y g (s1, T1, lo) = R) ∧ Hid (RD w1 wr q LB tot cap W H d fr T1 r a0 cap0 F s1 B1 A x y B0) ∧ Hid (LowOk T1) ∧ s1.l ≤ 8 ∧ Hid (s1.n ≤ s.n + i * Fu))
  case atStart => exact ⟨0, 0, s, T, by omega, rfl, rfl, by omega, by omega, HW, HD1, HTL, hsl, Lib.hid (by omega)⟩
  case round =>
    obtain ⟨i, lo, s1, T1, hig, rfl, rfl, hlo0, hlo1, HWi, HDi, HLi, hsl1, HNi⟩ := hrel
    clear HW HD1 HTL hsl
    by_cases hlt2 : i < d
    · obtain ⟨j, rfl⟩ : ∃ j, gk = j + 1 := ⟨gk - 1, by omega⟩
      have hij : d - 1 - i = j := by omega
      have hjd : j < d := by omega
      have hm := wayM_lt (i := j) hxl hyl
      obtain ⟨m, hmm⟩ : ∃ m, wayM W x y j = m := ⟨_, rfl⟩
      rw [hmm] at hm
      obtain ⟨t, ht⟩ : ∃ t, offF W H j + m = t := ⟨_, rfl⟩
      have hwt : wayI W H x y j = t := by unfold wayI; rw [hmm, ht]
      have htl : t < tot := by have := (HDi.out.tr.cells hjd hm).2.2.2.2.2; rw [ht] at this; exact this
      have htl2 : (t : Int) < (tot : Int) ∧ (0 : Int) ≤ (t : Int) := by omega
      have hil : (i : Int) < (d : Int) ∧ (0 : Int) ≤ (i : Int) := by omega
      obtain ⟨wX, hwX⟩ : ∃ wX, wr.drew = wX := ⟨_, rfl⟩
      have HDX : Hid (RD w1 wX q LB tot cap W H d fr T1 r a0 cap0 F s1 B1 A x y B0) := Lib.hid (by rw [← hwX]; exact HDi.out.below (below_drewN (Below.refl _ _) 1))
      obtain ⟨z, hz⟩ : ∃ z, wX.heap.size = z := ⟨_, rfl⟩
      have hzB : B1 ≤ z := by rw [← hz]; exact HDX.out.nn.2.2.2.2.1
      have HMT := Lib.hid (And.intro hij (And.intro hmm (And.intro ht hwt)))
      have HM2 := Lib.hid hm
      have HX := Lib.hid hwX
      have HZ := Lib.hid hz
      have HBB := Lib.hid hB1
      clear hij hmm ht hwt hm hwX hz hB1 HDi
      go_wp2_with fail
      obtain ⟨r0X, r1X⟩ := HDX.out.tr.root
      obtain ⟨n0X, n1X, n2X, n3X, nfX, _⟩ := HDX.out.tr.cells hjd HM2.out
      have wyX := HDX.out.wy i hlt2
      rw [HMT.out.1, HMT.out.2.2.2] at wyX
      rw [HMT.out.2.2.1] at n0X n1X n2X n3X
      obtain ⟨tn, htn⟩ : ∃ tn, (T1 j m).num = tn := ⟨_, rfl⟩
      obtain ⟨tl, htl⟩ : ∃ tl, (T1 j m).low = tl := ⟨_, rfl⟩
      obtain ⟨ts, hts⟩ : ∃ ts, (T1 j m).said = ts := ⟨_, rfl⟩
      obtain ⟨u, hu⟩ : ∃ u, upI W H d j m = u := ⟨_, rfl⟩
      rw [htn] at n0X
      rw [htl] at n1X
      rw [hts] at n2X
      rw [hu] at n3X
      have HTN := Lib.hid (And.intro htn (And.intro htl (And.intro hts hu)))
      have hnX := HDX.out.nn
      have HFX : Hid (wX.cell? ⟨q, 0, none⟩ = some (.slice (some ⟨LB, 0, none⟩) tot cap) ∧ wX.cell? ⟨A, i, none⟩ = some (.int .i64 (t : Int)) ∧ wX.cell? ⟨LB, t * 4, none⟩ = some (.int .i64 tn) ∧ wX.cell? ⟨LB, t * 4 + 1, none⟩ = some (.int .i64 tl) ∧ wX.cell? ⟨LB, t * 4 + 2, none⟩ = some (.bool ts) ∧ wX.cell? ⟨LB, t * 4 + 3, none⟩ = some (.int .i64 u)) := Lib.hid ⟨r0X, wyX, n0X, n1X, n2X, n3X⟩
      clear r0X r1X n0X n1X n2X n3X nfX wyX htn htl hts hu
      have htlb : 0 ≤ tl ∧ tl ≤ 1000 := by rw [← HTN.out.2.1]; exact HLi.out j m
      have hdec : (i : Int) < (d : Int) := by omega
      refine (wpIn_wide (n := 9)).1 (regionIn_inv (w := wr) (Inv := fun L a' w' => a' = { tmps := #[.pointer (some ⟨q, 0, none⟩), .pointer (some ⟨r, 0, none⟩), .int .i64 (k : Int), .int .i64 bound, undef, undef, undef, undef, .bool false, .slice (some ⟨A, 0, none⟩) d cA, .int .i64 lo, .int .i64 (i : Int), bif L 10 then .pointer (some ⟨z, 0, none⟩) else u12, .int .i64 (k : Int), .bool false, .bool false, .int .i64 (k : Int), .pointer (some ⟨q, 0, none⟩), .pointer (some ⟨q, 0, none⟩), .pointer (some ⟨q, 1, none⟩), .int .i64 (N : Int), .bool false, .bool false, .pointer (some ⟨q, 0, none⟩), .int .i64 (k : Int), .slice (some ⟨A, 0, none⟩) d cA, .int .i64 (i : Int), .slice (some ⟨A, 0, none⟩) d cA, .int .i64 (d : Int), .bool true, u30, u31, bif L 0 then .pointer (some ⟨q, 0, none⟩) else u32, bif L 1 then .pointer (some ⟨q, 0, none⟩) else u33, bif L 2 then .pointer (some ⟨q, 0, none⟩) else u34, bif L 3 then .slice (some ⟨LB, 0, none⟩) tot cap else u35, bif L 4 then .slice (some ⟨A, 0, none⟩) d cA else u36, bif L 5 then .int .i64 (i : Int) else u37, bif L 6 then .pointer (some ⟨A, i, none⟩) else u38, bif L 7 then .int .i64 (t : Int) else u39, bif L 8 then .pointer (some ⟨LB, t * 4, none⟩) else u40, bif L 9 then .agg #[.int .i64 tn, .int .i64 tl, .bool ts, .int .i64 u] else u41, u42, u43, u44, u45, u46, u47, u48, u49, u50, u51, u52, u53, u54, u55, u56, u57, u58, u59, u60, u61, u62, u63, u64, u65, u66, u67, u68, u69, u70, u71, u72, u73, u74, u75, u76, u77, u78, undef, undef, undef, undef, undef, undef, undef, undef, undef, undef, undef, undef, undef, undef, undef, undef, undef, undef, undef, undef], defers := [] } ∧ (Below B1 wX w') ∧ (bif L 11 then (Nx w' z tn tl ts u) else (bif L 10 then (w' = wX.alloc (Obj.cells #[.int .i64 0, .int .i64 0, .bool false, .int .i64 0] 66)) else w' = wX))) (by kernel_rfl) (by kernel_rfl) ?start8 ?step8 ?fin8)
      case start8 => exact ⟨rfl, (by rw [HX.out]; exact Below.refl _ _), HX.out⟩
      case step8 =>
        intro i hi L a' w' hI hs hu
        obtain ⟨rfl, hcm, hph⟩ := hI
        have hL := hu.1
        have hi : i < 12 := hi
        obtain rfl | rfl | rfl | rfl | rfl | rfl | rfl | rfl | rfl | rfl | rfl | rfl := (by omega : i = 0 ∨ i = 1 ∨ i = 2 ∨ i = 3 ∨ i = 4 ∨ i = 5 ∨ i = 6 ∨ i = 7 ∨ i = 8 ∨ i = 9 ∨ i = 10 ∨ i = 11)
        · skip
          have n11 : L 11 = false := not_yet hL fun h => shut_at hs 11 0 (by kernel_rfl) (h)
          refine opIn_run (v := .pointer (some ⟨q, 0, none⟩)) (w' := w') rfl rfl (fun c h => by cases h) (fun _ => trivial) ?_ ⟨by simp [Act.put, upd, n11, hL], hcm, by simpa [upd] using hph⟩
          simp only [n11, hL, cond_true, cond_false]
          go_simp
        · skip
          have y0 : L 0 = true := up_at hu 0 (by kernel_rfl)
          have n11 : L 11 = false := not_yet hL fun h => shut_at hs 11 1 (by kernel_rfl) (h)
          refine opIn_run (v := .pointer (some ⟨q, 0, none⟩)) (w' := w') rfl rfl (fun c h => by cases h) (fun _ => trivial) ?_ ⟨by simp [Act.put, upd, y0, n11, hL], hcm, by simpa [upd] using hph⟩
          simp only [y0, n11, hL, cond_true, cond_false]
          go_simp
        · skip
          have y0 : L 0 = true := shut_at hs 1 0 (by kernel_rfl) (up_at hu 1 (by kernel_rfl))
          have y1 : L 1 = true := up_at hu 1 (by kernel_rfl)
          have n11 : L 11 = false := not_yet hL fun h => shut_at hs 11 2 (by kernel_rfl) (h)
          refine opIn_run (v := .pointer (some ⟨q, 0, none⟩)) (w' := w') rfl rfl (fun c h => by cases h) (fun _ => trivial) ?_ ⟨by simp [Act.put, upd, y0, y1, n11, hL], hcm, by simpa [upd] using hph⟩
          simp only [y0, y1, n11, hL, cond_true, cond_false]
          go_simp
        · skip
          have y0 : L 0 = true := shut_at hs 1 0 (by kernel_rfl) (shut_at hs 2 1 (by kernel_rfl) (up_at hu 2 (by kernel_rfl)))
          have y1 : L 1 = true := shut_at hs 2 1 (by kernel_rfl) (up_at hu 2 (by kernel_rfl))
          have y2 : L 2 = true := up_at hu 2 (by kernel_rfl)
          have n11 : L 11 = false := not_yet hL fun h => shut_at hs 11 3 (by kernel_rfl) (h)
          simp only [y0, y1, y2, n11, hL, cond_true, cond_false] at hph
          have x0 : w'.cell? ⟨q, 0, none⟩ = some (.slice (some ⟨LB, 0, none⟩) tot cap) := (hcm.cell (p := ⟨q, 0, none⟩) (by show q < B1; omega)).trans HFX.out.1
          refine opIn_run (v := .slice (some ⟨LB, 0, none⟩) tot cap) (w' := w') rfl rfl (fun c h => by cases h) (fun _ => trivial) ?_ ⟨by simp [Act.put, upd, y0, y1, y2, n11, hL], hcm, by simp only [upd, y0, y1, y2, n11, hL]; exact hph⟩
          simp only [y0, y1, y2, n11, hL, cond_true, cond_false]
          go_simp
        · skip
          have n11 : L 11 = false := not_yet hL fun h => shut_at hs 11 4 (by kernel_rfl) (h)
          refine opIn_run (v := .slice (some ⟨A, 0, none⟩) d cA) (w' := w') rfl rfl (fun c h => by cases h) (fun _ => trivial) ?_ ⟨by simp [Act.put, upd, n11, hL], hcm, by simpa [upd] using hph⟩
          simp only [n11, hL, cond_true, cond_false]
          go_simp
        · skip
          have n11 : L 11 = false := not_yet hL fun h => shut_at hs 11 5 (by kernel_rfl) (h)
          refine opIn_run (v := .int .i64 (i : Int)) (w' := w') rfl rfl (fun c h => by cases h) (fun _ => trivial) ?_ ⟨by simp [Act.put, upd, n11, hL], hcm, by simpa [upd] using hph⟩
          simp only [n11, hL, cond_true, cond_false]
          go_simp
        · skip
          have y4 : L 4 = true := up_at hu 4 (by kernel_rfl)
          have y5 : L 5 = true := up_at hu 5 (by kernel_rfl)
          have n11 : L 11 = false := not_yet hL fun h => shut_at hs 11 6 (by kernel_rfl) (h)
          refine opIn_run (v := .pointer (some ⟨A, i, none⟩)) (w' := w') rfl rfl (fun c h => by cases h) (fun _ => trivial) ?_ ⟨by simp [Act.put, upd, y4, y5, n11, hL], hcm, by simpa [upd] using hph⟩
          simp only [y4, y5, n11, hL, cond_true, cond_false]
          go_simp
        · skip
          have y4 : L 4 = true := shut_at hs 6 4 (by kernel_rfl) (up_at hu 6 (by kernel_rfl))
          have y5 : L 5 = true := shut_at hs 6 5 (by kernel_rfl) (up_at hu 6 (by kernel_rfl))
          have y6 : L 6 = true := up_at hu 6 (by kernel_rfl)
          have n11 : L 11 = false := not_yet hL fun h => shut_at hs 11 7 (by kernel_rfl) (h)
          simp only [y4, y5, y6, n11, hL, cond_true, cond_false] at hph
          have x0 : w'.cell? ⟨A, i, none⟩ = some (.int .i64 (t : Int)) := (hcm.cell (p := ⟨A, i, none⟩) (by show A < B1; omega)).trans HFX.out.2.1
          refine opIn_run (v := .int .i64 (t : Int)) (w' := w') rfl rfl (fun c h => by cases h) (fun _ => trivial) ?_ ⟨by simp [Act.put, upd, y4, y5, y6, n11, hL], hcm, by simp only [upd, y4, y5, y6, n11, hL]; exact hph⟩
          simp only [y4, y5, y6, n11, hL, cond_true, cond_false]
          go_simp
        · skip
          have y0 : L 0 = true := shut_at hs 1 0 (by kernel_rfl) (shut_at hs 2 1 (by kernel_rfl) (shut_at hs 3 2 (by kernel_rfl) (up_at hu 3 (by kernel_rfl))))
          have y1 : L 1 = true := shut_at hs 2 1 (by kernel_rfl) (shut_at hs 3 2 (by kernel_rfl) (up_at hu 3 (by kernel_rfl)))
          have y2 : L 2 = true := shut_at hs 3 2 (by kernel_rfl) (up_at hu 3 (by kernel_rfl))
          have y3 : L 3 = true := up_at hu 3 (by kernel_rfl)
          have y4 : L 4 = true := shut_at hs 6 4 (by kernel_rfl) (shut_at hs 7 6 (by kernel_rfl) (up_at hu 7 (by kernel_rfl)))
          have y5 : L 5 = true := shut_at hs 6 5 (by kernel_rfl) (shut_at hs 7 6 (by kernel_rfl) (up_at hu 7 (by kernel_rfl)))
          have y6 : L 6 = true := shut_at hs 7 6 (by kernel_rfl) (up_at hu 7 (by kernel_rfl))
          have y7 : L 7 = true := up_at hu 7 (by kernel_rfl)
          have n11 : L 11 = false := not_yet hL fun h => shut_at hs 11 8 (by kernel_rfl) (h)
          refine opIn_run (v := .pointer (some ⟨LB, t * 4, none⟩)) (w' := w') rfl rfl (fun c h => by cases h) (fun _ => trivial) ?_ ⟨by simp [Act.put, upd, y0, y1, y2, y3, y4, y5, y6, y7, n11, hL], hcm, by simpa [upd] using hph⟩
          simp only [y0, y1, y2, y3, y4, y5, y6, y7, n11, hL, cond_true, cond_false]
          go_simp
        · skip
          have y0 : L 0 = true := shut_at hs 1 0 (by kernel_rfl) (shut_at hs 2 1 (by kernel_rfl) (shut_at hs 3 2 (by kernel_rfl) (shut_at hs 8 3 (by kernel_rfl) (up_at hu 8 (by kernel_rfl)))))
          have y1 : L 1 = true := shut_at hs 2 1 (by kernel_rfl) (shut_at hs 3 2 (by kernel_rfl) (shut_at hs 8 3 (by kernel_rfl) (up_at hu 8 (by kernel_rfl))))
          have y2 : L 2 = true := shut_at hs 3 2 (by kernel_rfl) (shut_at hs 8 3 (by kernel_rfl) (up_at hu 8 (by kernel_rfl)))
          have y3 : L 3 = true := shut_at hs 8 3 (by kernel_rfl) (up_at hu 8 (by kernel_rfl))
          have y4 : L 4 = true := shut_at hs 6 4 (by kernel_rfl) (shut_at hs 7 6 (by kernel_rfl) (shut_at hs 8 7 (by kernel_rfl) (up_at hu 8 (by kernel_rfl))))
          have y5 : L 5 = true := shut_at hs 6 5 (by kernel_rfl) (shut_at hs 7 6 (by kernel_rfl) (shut_at hs 8 7 (by kernel_rfl) (up_at hu 8 (by kernel_rfl))))
          have y6 : L 6 = true := shut_at hs 7 6 (by kernel_rfl) (shut_at hs 8 7 (by kernel_rfl) (up_at hu 8 (by kernel_rfl)))
          have y7 : L 7 = true := shut_at hs 8 7 (by kernel_rfl) (up_at hu 8 (by kernel_rfl))
          have y8 : L 8 = true := up_at hu 8 (by kernel_rfl)
          have n11 : L 11 = false := not_yet hL fun h => shut_at hs 11 9 (by kernel_rfl) (h)
          simp only [y0, y1, y2, y3, y4, y5, y6, y7, y8, n11, hL, cond_true, cond_false] at hph
          have x0 : w'.cell? ⟨LB, t * 4, none⟩ = some (.int .i64 tn) := (hcm.cell (p := ⟨LB, t * 4, none⟩) (by show LB < B1; omega)).trans HFX.out.2.2.1
          have x1 : w'.cell? ⟨LB, t * 4 + 1, none⟩ = some (.int .i64 tl) := (hcm.cell (p := ⟨LB, t * 4 + 1, none⟩) (by show LB < B1; omega)).trans HFX.out.2.2.2.1
          have x2 : w'.cell? ⟨LB, t * 4 + 2, none⟩ = some (.bool ts) := (hcm.cell (p := ⟨LB, t * 4 + 2, none⟩) (by show LB < B1; omega)).trans HFX.out.2.2.2.2.1
          have x3 : w'.cell? ⟨LB, t * 4 + 3, none⟩ = some (.int .i64 u) := (hcm.cell (p := ⟨LB, t * 4 + 3, none⟩) (by show LB < B1; omega)).trans HFX.out.2.2.2.2.2
          refine opIn_run (v := .agg #[.int .i64 tn, .int .i64 tl, .bool ts, .int .i64 u]) (w' := w') rfl rfl (fun c h => by cases h) (fun _ => trivial) ?_ ⟨by simp [Act.put, upd, y0, y1, y2, y3, y4, y5, y6, y7, y8, n11, hL], hcm, by simp only [upd, y0, y1, y2, y3, y4, y5, y6, y7, y8, n11, hL]; exact hph⟩
          simp only [y0, y1, y2, y3, y4, y5, y6, y7, y8, n11, hL, cond_true, cond_false]
          go_simp
        · skip
          have n11 : L 11 = false := not_yet hL fun h => shut_at hs 11 10 (by kernel_rfl) (h)
          simp only [n11, hL, cond_true, cond_false] at hph
          refine opIn_run (v := .pointer (some ⟨z, 0, none⟩)) (w' := wX.alloc (Obj.cells #[.int .i64 0, .int .i64 0, .bool false, .int .i64 0] 66)) rfl rfl (fun c h => by cases h) (fun _ => trivial) ?_ ⟨by simp [Act.put, upd, n11, hL], ((Below.refl B1 wX).alloc (by rw [HZ.out]; exact hzB) _), by simp [upd, n11, hL]⟩
          simp only [n11, hL, cond_true, cond_false]
          rw [hph]
          have hzz := HZ.out
          go_simp
        · skip
          have y0 : L 0 = true := up_at hu 0 (by kernel_rfl)
          have y1 : L 1 = true := up_at hu 1 (by kernel_rfl)
          have y2 : L 2 = true := up_at hu 2 (by kernel_rfl)
          have y3 : L 3 = true := up_at hu 3 (by kernel_rfl)
          have y4 : L 4 = true := up_at hu 4 (by kernel_rfl)
          have y5 : L 5 = true := up_at hu 5 (by kernel_rfl)
          have y6 : L 6 = true := up_at hu 6 (by kernel_rfl)
          have y7 : L 7 = true := up_at hu 7 (by kernel_rfl)
          have y8 : L 8 = true := up_at hu 8 (by kernel_rfl)
          have y9 : L 9 = true := up_at hu 9 (by kernel_rfl)
          have y10 : L 10 = true := up_at hu 10 (by kernel_rfl)
          simp only [y0, y1, y2, y3, y4, y5, y6, y7, y8, y9, y10, hL, cond_true, cond_false] at hph
          have hbz : w'.heap[z]? = some (.cells #[.int .i64 0, .int .i64 0, .bool false, .int .i64 0] 66 (0, 0)) := by rw [hph, ← HZ.out]; exact World.alloc_heap_new wX _
          have z0 : w'.cell? ⟨z, 0, none⟩ = some (.int .i64 0) := by simp [World.cell?, hbz]
          have z1 : w'.cell? ⟨z, 1, none⟩ = some (.int .i64 0) := by simp [World.cell?, hbz]
          have z2 : w'.cell? ⟨z, 2, none⟩ = some (.bool false) := by simp [World.cell?, hbz]
          have z3 : w'.cell? ⟨z, 3, none⟩ = some (.int .i64 0) := by simp [World.cell?, hbz]
          have zf : ∀ o, w'.frozen? ⟨z, o, none⟩ = false := fun o => by simp [World.frozen?, hbz]
          refine opIn_skip (w' := (((w'.setCell ⟨z, 0, none⟩ (.int .i64 tn)).setCell ⟨z, 1, none⟩ (.int .i64 tl)).setCell ⟨z, 2, none⟩ (.bool ts)).setCell ⟨z, 3, none⟩ (.int .i64 u)) rfl rfl (fun c h => by cases h) (fun _ => trivial) ?_ ⟨by simp [Act.put, upd, y0, y1, y2, y3, y4, y5, y6, y7, y8, y9, y10, hL], ((((hcm.setCell (p := ⟨z, 0, none⟩) hzB _).setCell (p := ⟨z, 1, none⟩) hzB _).setCell (p := ⟨z, 2, none⟩) hzB _).setCell (p := ⟨z, 3, none⟩) hzB _), by simp only [upd, y0, y1, y2, y3, y4, y5, y6, y7, y8, y9, y10, hL]; exact (nx_new (by rw [hph, ← HZ.out]; exact World.alloc_heap_new wX _))⟩
          simp only [y0, y1, y2, y3, y4, y5, y6, y7, y8, y9, y10, hL, cond_true, cond_false]
          clear hph hbz
          go_simp
      case fin8 =>
        intro L a' w' hall hI
        obtain ⟨rfl, hcm, hph⟩ := hI
        have l0 := hall 0 (by decide)
        have l1 := hall 1 (by decide)
        have l2 := hall 2 (by decide)
        have l3 := hall 3 (by decide)
        have l4 := hall 4 (by decide)
        have l5 := hall 5 (by decide)
        have l6 := hall 6 (by decide)
        have l7 := hall 7 (by decide)
        have l8 := hall 8 (by decide)
        have l9 := hall 9 (by decide)
        have l10 := hall 10 (by decide)
        have l11 := hall 11 (by decide)
        simp only [l0, l1, l2, l3, l4, l5, l6, l7, l8, l9, l10, l11, cond_true] at hph ⊢
        clear l0 l1 l2 l3 l4 l5 l6 l7 l8 l9 l10 l11 hall
        have HDW : Hid (RD w1 w' q LB tot cap W H d fr T1 r a0 cap0 F s1 B1 A x y B0) := Lib.hid (HDX.out.below hcm)
        have HNX := Lib.hid hph
        obtain ⟨x0, x1, x2, x3, xf⟩ := hph.cells
        obtain ⟨l1, hl1⟩ : ∃ l1, maxI tl lo = l1 := ⟨_, rfl⟩
        have hmax : (if tl < lo then lo else tl) = l1 := hl1
        have hl1b : 0 ≤ l1 ∧ l1 ≤ 1000 := by rw [← hl1]; unfold maxI; split <;> omega
        obtain ⟨LN, hLN⟩ : ∃ LN, loopN (rqstep F) bound Fu (s1, ⟨tn, l1, ts⟩) = LN := ⟨_, rfl⟩
        have HW2 : Hid (walkT (rqstep F) bound Fu W x y j (LN.1, T1.upd j m LN.2, LN.2.low) = R) := Lib.hid (by
          have h := HWi.out
          rw [walkT] at h
          have e : y / 2 ^ j * dimF W j + x / 2 ^ j = m := HMT.out.2.1
          rw [e] at h
          simp only [HTN.out.1, HTN.out.2.1, HTN.out.2.2.1, hl1, hLN] at h
          exact h)
        have HLN0 := Lib.hid hLN
        have HD4 : Hid (RD w1 (w'.setCell ⟨z, 1, none⟩ (.int .i64 l1)) q LB tot cap W H d fr T1 r a0 cap0 F s1 B1 A x y B0) := Lib.hid (HDW.out.below ((Below.refl _ _).setCell (p := ⟨z, 1, none⟩) hzB _))
        have HN4 := Lib.hid (hph.setL l1)
        clear hph hcm hl1 hLN HFX HX HZ HDX HWi
        go_wp2_with fail
        clear hmax x0 x1 x2 x3 xf HDW HNX
        obtain ⟨wq, hwq⟩ : ∃ wq : World, w'.setCell ⟨z, 1, none⟩ (.int .i64 l1) = wq := ⟨_, rfl⟩
        rw [hwq] at HD4 HN4 ⊢
        clear hwq
        have hFuB := HFu.out
        go_loopg [48] Fu (fun g v wv => ∃ (s2 : RS) (nn nl : Int) (ns : Bool), 0 ≤ nl ∧ nl ≤ 1000 ∧ Hid (nl < bound ∧ ns = false → (bound - nl).toNat + 1 ≤ g) ∧ Hid (loopN (rqstep F) bound g (s2, ⟨nn, nl, ns⟩) = LN) ∧ Hid (RD w1 wv q LB tot cap W H d fr T1 r a0 cap0 F s2 B1 A x y B0) ∧ Hid (Nx wv z nn nl ns u) ∧ s2.l ≤ 8 ∧ Hid (s2.n + g ≤ s1.n + Fu))
        case atStart => exact ⟨s1, tn, l1, ts, hl1b.1, hl1b.2, Lib.hid (by intro h; omega), HLN0, HD4, HN4, hsl1, Lib.hid (by omega)⟩
        case round =>
          obtain ⟨s2, nn, nl, ns, hn0, hn1, HG, HLN, HDq, HNq, hsl2, HGn⟩ := hrel
          clear HD4 HN4 HLN0 hsl1
          by_cases hc : nl < bound ∧ ns = false
          · have hg := HG.out hc
            obtain ⟨hc1, rfl⟩ := hc
            obtain ⟨g', hg'⟩ : ∃ g', gk = g' + 1 := ⟨gk - 1, by omega⟩
            subst hg'
            have e1 : decide (nl < bound) = true := by simp; omega
            have HST := Lib.hid (loopN_go (step := rqstep F) (bound := bound) (x := (s2, (⟨nn, nl, false⟩ : Nd))) ⟨hc1, rfl⟩ g')
            have hsn : s2.n ≤ 80000 := by
              have h1 := HGn.out
              have h2 := HNi.out
              have h3 : (i + 1) * Fu ≤ d * Fu := Nat.mul_le_mul_right Fu (by omega)
              rw [Nat.succ_mul] at h3
              omega
            have hrng := rsnext_rng F s2 hsl2
            have hnq := HDq.out.nn
            have CB := Lib.hid (qb_bit HDq.out.rd HDq.out.ls (by omega) (by omega) (by omega) hsl2 HFF.out)
            obtain ⟨x0, x1, x2, x3, xf⟩ := HNq.out.cells
            clear x3 xf
            by_cases hb1 : rsbit F s2 = 1
            · rw [hb1] at CB
              have hnx : nxt (rqstep F) (s2, ⟨nn, nl, false⟩) = (rsnext F s2, ⟨nl, nl, true⟩) := by simp [nxt, rqstep, hb1]
              have hln := HLN.out
              rw [HST.out, hnx] at hln
              have HLN2 := Lib.hid hln
              clear hnx hln hb1
              go_wp2_with fail
              refine CB.out.mono ?_
              rintro e w3 ⟨rfl, hv, ho⟩
              have HD5 := Lib.hid (HDq.out.rdr hv ho)
              have hN5 : Nx w3 z nn nl false u := by
                have h := HNq.out
                unfold Nx at h ⊢
                exact (ho.block z (by omega)).trans h
              obtain ⟨y0, y1, y2, y3, yf⟩ := hN5.cells
              have HN6 := Lib.hid ((hN5.setS true).setN nl)
              have HD6 : Hid (RD w1 ((w3.setCell ⟨z, 2, none⟩ (.bool true)).setCell ⟨z, 0, none⟩ (.int .i64 nl)) q LB tot cap W H d fr T1 r a0 cap0 F (rsnext F s2) B1 A x y B0) := Lib.hid (HD5.out.below (((Below.refl _ _).setCell (p := ⟨z, 2, none⟩) hzB _).setCell (p := ⟨z, 0, none⟩) hzB _))
              clear hv ho hN5 CB x0 x1 x2
              go_wp2
              go_roundg g'
              case rel => exact ⟨rsnext F s2, nl, nl, true, hn0, hn1, Lib.hid (by simp), HLN2, HD6, HN6, by omega, Lib.hid (by have := HGn.out; omega)⟩
              case measure => omega
            · have hrb := rsbit_rng F s2
              have hb0 : rsbit F s2 = 0 := by omega
              rw [hb0] at CB
              have hnx : nxt (rqstep F) (s2, ⟨nn, nl, false⟩) = (rsnext F s2, ⟨nn, nl + 1, false⟩) := by simp [nxt, rqstep, hb0]
              have hln := HLN.out
              rw [HST.out, hnx] at hln
              have HLN2 := Lib.hid hln
              clear hnx hln hb1 hb0 hrb
              go_wp2_with fail
              refine CB.out.mono ?_
              rintro e w3 ⟨rfl, hv, ho⟩
              have HD5 := Lib.hid (HDq.out.rdr hv ho)
              have hN5 : Nx w3 z nn nl false u := by
                have h := HNq.out
                unfold Nx at h ⊢
                exact (ho.block z (by omega)).trans h
              obtain ⟨y0, y1, y2, y3, yf⟩ := hN5.cells
              have HN6 := Lib.hid (hN5.setL (nl + 1))
              have HD6 : Hid (RD w1 (w3.setCell ⟨z, 1, none⟩ (.int .i64 (nl + 1))) q LB tot cap W H d fr T1 r a0 cap0 F (rsnext F s2) B1 A x y B0) := Lib.hid (HD5.out.below ((Below.refl _ _).setCell (p := ⟨z, 1, none⟩) hzB _))
              clear hv ho hN5 CB x0 x1 x2
              go_wp2
              go_roundg g'
              case rel => exact ⟨rsnext F s2, nn, nl + 1, false, by omega, by omega, Lib.hid (by intro h; omega), HLN2, HD6, HN6, by omega, Lib.hid (by have := HGn.out; omega)⟩
              case measure => omega
          · have HST := Lib.hid hc
            have hw : ¬ nl < bound ∨ (nl < bound ∧ ns = true) := by
              rcases Int.lt_or_le nl bound with e | e
              · refine .inr ⟨e, ?_⟩
                cases ns with
                | true => rfl
                | false => exact absurd ⟨e, rfl⟩ hc
              · exact .inl (by omega)
            rcases hw with e9 | ⟨e9, rfl⟩
            · have e1 : decide (nl < bound) = false := by simp; omega
              clear hc
              have hnx := HDq.out.nn
              have HDY : Hid (RD w1 wr.drew q LB tot cap W H d fr T1 r a0 cap0 F s2 B1 A x y B0) := Lib.hid (HDq.out.below (below_drewN (Below.refl _ _) 1))
              obtain ⟨r0, r1⟩ := HDq.out.tr.root
              obtain ⟨n0, n1, n2, n3, nf, _⟩ := HDq.out.tr.cells hjd HM2.out
              have wyq := HDq.out.wy i hlt2
              rw [HMT.out.1, HMT.out.2.2.2] at wyq
              rw [HMT.out.2.2.1] at n0 n1 n2 n3
              obtain ⟨x0, x1, x2, x3, xf⟩ := HNq.out.cells
              clear xf
              go_wp2_with fail
              refine wp_region_still_tail 9 (by kernel_rfl) (by kernel_rfl) ?_
              simp only [List.take_succ_cons, List.take_zero, List.drop_succ_cons, List.drop_zero]
              repeat still_step
              refine wpStill_nil ?_
              change wpList _ _ _ _ _ wr.drew
              clear r0 r1 n0 n1 n2 n3 nf wyq x0 x1 x2 x3
              have HNY : Hid (Nx wr.drew z nn nl ns u) := Lib.hid HNq.out
              generalize wr.drew = wy at *
              obtain ⟨n0, n1, n2, n3, nf, _⟩ := HDY.out.tr.cells hjd HM2.out
              rw [HMT.out.2.2.1] at n0 n1 n2 n3
              have HDS := Lib.hid (HDY.out.set hjd HM2.out ⟨nn, nl, ns⟩)
              rw [HMT.out.2.2.1, HTN.out.2.2.2] at HDS
              have hzb := HDY.out.nn
              obtain ⟨x0, x1, x2, x3, xf⟩ := HNY.out.cells
              obtain ⟨wS, hwS⟩ : ∃ wS, (((wy.setCell ⟨LB, t * 4, none⟩ (.int .i64 nn)).setCell ⟨LB, t * 4 + 1, none⟩ (.int .i64 nl)).setCell ⟨LB, t * 4 + 2, none⟩ (.bool ns)).setCell ⟨LB, t * 4 + 3, none⟩ (.int .i64 u) = wS := ⟨_, rfl⟩
              have hns : Nx wS z nn nl ns u := by
                have hne : z ≠ LB := by omega
                have ks : ∀ (V : World) (k : Nat) (v : Value), (V.setCell ⟨LB, k, none⟩ v).heap[z]? = V.heap[z]? := fun V k v => Below.heap_setCell _ _ _ _ (by simpa using hne)
                have h := HNY.out
                unfold Nx at h ⊢
                rw [← hwS, ks, ks, ks, ks]
                exact h
              rw [hwS] at HDS
              obtain ⟨y0, y1, y2, y3, yf⟩ := hns.cells
              clear x0 x1 x2 x3 xf yf
              go_wp2_with fail
              have hLNq := HLN.out
              rw [loopN_stop (x := (s2, (⟨nn, nl, ns⟩ : Nd))) HST.out] at hLNq
              have hW3 := HW2.out
              rw [← hLNq] at hW3
              simp only at hW3
              have HW3 := Lib.hid hW3
              have HL3 : Hid (LowOk (T1.upd j m ⟨nn, nl, ns⟩)) := Lib.hid (HLi.out.upd j m ⟨hn0, hn1⟩)
              have HN3 : Hid (s2.n ≤ s.n + (i + 1) * Fu) := Lib.hid (by
                have h1 := HGn.out
                have h2 := HNi.out
                rw [Nat.succ_mul]
                omega)
              clear hLNq hW3 hwS hns hnx hzb n0 n1 n2 n3 nf y0 y1 y2 y3
              go_wp2
              go_roundg j
              case rel => exact ⟨i + 1, nl, s2, _, by omega, rfl, rfl, hn0, hn1, HW3, HDS, HL3, hsl2, HN3⟩
              case measure => omega
            · have e1 : decide (nl < bound) = true := by simp; omega
              clear hc
              have hnx := HDq.out.nn
              have HDY : Hid (RD w1 wr.drew q LB tot cap W H d fr T1 r a0 cap0 F s2 B1 A x y B0) := Lib.hid (HDq.out.below (below_drewN (Below.refl _ _) 1))
              obtain ⟨r0, r1⟩ := HDq.out.tr.root
              obtain ⟨n0, n1, n2, n3, nf, _⟩ := HDq.out.tr.cells hjd HM2.out
              have wyq := HDq.out.wy i hlt2
              rw [HMT.out.1, HMT.out.2.2.2] at wyq
              rw [HMT.out.2.2.1] at n0 n1 n2 n3
              obtain ⟨x0, x1, x2, x3, xf⟩ := HNq.out.cells
              clear xf
              go_wp2_with fail
              refine wp_region_still_tail 9 (by kernel_rfl) (by kernel_rfl) ?_
              simp only [List.take_succ_cons, List.take_zero, List.drop_succ_cons, List.drop_zero]
              repeat still_step
              refine wpStill_nil ?_
              change wpList _ _ _ _ _ wr.drew
              clear r0 r1 n0 n1 n2 n3 nf wyq x0 x1 x2 x3
              have HNY : Hid (Nx wr.drew z nn nl true u) := Lib.hid HNq.out
              generalize wr.drew = wy at *
              obtain ⟨n0, n1, n2, n3, nf, _⟩ := HDY.out.tr.cells hjd HM2.out
              rw [HMT.out.2.2.1] at n0 n1 n2 n3
              have HDS := Lib.hid (HDY.out.set hjd HM2.out ⟨nn, nl, true⟩)
              rw [HMT.out.2.2.1, HTN.out.2.2.2] at HDS
              have hzb := HDY.out.nn
              obtain ⟨x0, x1, x2, x3, xf⟩ := HNY.out.cells
              obtain ⟨wS, hwS⟩ : ∃ wS, (((wy.setCell ⟨LB, t * 4, none⟩ (.int .i64 nn)).setCell ⟨LB, t * 4 + 1, none⟩ (.int .i64 nl)).setCell ⟨LB, t * 4 + 2, none⟩ (.bool true)).setCell ⟨LB, t * 4 + 3, none⟩ (.int .i64 u) = wS := ⟨_, rfl⟩
              have htrue : Nx wS z nn nl true u := by
                have hne : z ≠ LB := by omega
                have ks : ∀ (V : World) (k : Nat) (v : Value), (V.setCell ⟨LB, k, none⟩ v).heap[z]? = V.heap[z]? := fun V k v => Below.heap_setCell _ _ _ _ (by simpa using hne)
                have h := HNY.out
                unfold Nx at h ⊢
                rw [← hwS, ks, ks, ks, ks]
                exact h
              rw [hwS] at HDS
              obtain ⟨y0, y1, y2, y3, yf⟩ := htrue.cells
              clear x0 x1 x2 x3 xf yf
              go_wp2_with fail
              have hLNq := HLN.out
              rw [loopN_stop (x := (s2, (⟨nn, nl, true⟩ : Nd))) HST.out] at hLNq
              have hW3 := HW2.out
              rw [← hLNq] at hW3
              simp only at hW3
              have HW3 := Lib.hid hW3
              have HL3 : Hid (LowOk (T1.upd j m ⟨nn, nl, true⟩)) := Lib.hid (HLi.out.upd j m ⟨hn0, hn1⟩)
              have HN3 : Hid (s2.n ≤ s.n + (i + 1) * Fu) := Lib.hid (by
                have h1 := HGn.out
                have h2 := HNi.out
                rw [Nat.succ_mul]
                omega)
              clear hLNq hW3 hwS htrue hnx hzb n0 n1 n2 n3 nf y0 y1 y2 y3
              go_wp2
              go_roundg j
              case rel => exact ⟨i + 1, nl, s2, _, by omega, rfl, rfl, hn0, hn1, HW3, HDS, HL3, hsl2, HN3⟩
              case measure => omega
    · obtain rfl : i = d := by omega
      obtain rfl : gk = 0 := by omega
      have hR := HWi.out
      rw [walkT] at hR
      obtain ⟨r0, r1⟩ := HDi.out.tr.root
      obtain ⟨n0, n1, n2, n3, nf, ntl⟩ := HDi.out.tr.cells (i := 0) (m := k) (by omega) (by show k < W * H; rw [HN.out]; exact hk)
      have h0 : offF W H 0 + k = k := Nat.zero_add k
      rw [h0] at n0 n2 ntl
      have hT1 : R.2.1 = T1 := by rw [← hR]
      have hS1 : R.1 = s1 := by rw [← hR]
      obtain ⟨tn, htn⟩ : ∃ tn, (R.2.1 0 k).num = tn := ⟨_, rfl⟩
      obtain ⟨ts, hts⟩ : ∃ ts, (R.2.1 0 k).said = ts := ⟨_, rfl⟩
      rw [← hT1, htn] at n0
      rw [← hT1, hts] at n2
      have HTS := Lib.hid (And.intro hts htn)
      have hktl : (k : Int) < (tot : Int) ∧ (0 : Int) ≤ (k : Int) := by omega
      have hOn : Only (PR r LB w.heap.size) w wr := (Only.refl _ w).trans ((⟨HB1.out.os, HB1.out.tape, HB1.out.output, HB1.out.size, fun k hk => HB1.out.block k (by
        rcases Nat.lt_or_ge k w.heap.size with e | e
        · exact e
        · exact absurd (.inr (.inr e)) hk)⟩ : Only (PR r LB w.heap.size) w w1).trans (HDi.out.on.mono fun k e => by
          rcases e with e | e | e
          · exact .inl e
          · exact .inr (.inl e)
          · exact .inr (.inr (by omega))))
      have HZ : Hid (RTr wr q LB tot cap W H i fr R.2.1 ∧ Qr wr r a0 cap0 F R.1 ∧ Only (PR r LB w.heap.size) w wr ∧ LowOk R.2.1 ∧ R.1.l ≤ 8 ∧ R.1.n ≤ s.n + i * Fu) := Lib.hid (by rw [hT1, hS1]; exact ⟨HDi.out.tr, HDi.out.rd, hOn, HLi.out, hsl1, HNi.out⟩)
      clear n1 n3 nf h0 hOn HDi HLi HNi HWi hR hig hT1 hS1 hts htn
      cases ts with
      | true =>
        by_cases hcb : tn < bound
        · have e1 : decide (tn < bound) = true := by simp [hcb]
          go_wp2
          go_ret
          exact ⟨ret_bool (by rw [HTS.out.1, HTS.out.2, e1]; rfl), HZ.out⟩
        · have e1 : decide (tn < bound) = false := by simp; omega
          go_wp2
          go_ret
          exact ⟨ret_bool (by rw [HTS.out.1, HTS.out.2, e1]; rfl), HZ.out⟩
      | false =>
        go_wp2
        go_ret
        exact ⟨ret_bool (by rw [HTS.out.1]; rfl), HZ.out⟩

end Go.Proofs.Ythgbnkcbcepjdaa
