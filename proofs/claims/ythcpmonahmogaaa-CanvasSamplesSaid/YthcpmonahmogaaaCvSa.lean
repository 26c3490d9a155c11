/- canvas: as many samples as places, each within its bounds (CanvasSamples). -/
import Derived.Test.YthcpmonahmogaaaCvSa0
import Derived.Test.YthcpmonahmogaaaCvTu
import Derived.Test.YthcpmonahmogaaaAnyRk
set_option linter.unusedVariables false
set_option linter.unusedSimpArgs false
namespace Go.Proofs.Ythcpmonahmogaaa
open Go.RowKit
attribute [local go_sem ↓] appSem_eq
set_option maxRecDepth 100000
set_option maxHeartbeats 32000000 in
set_option pp.deepTerms true in
set_option pp.maxSteps 10000000 in
theorem walk_canvasSamples (a0 : Int) (a1 : Int) (a2 : Int) (a3 : Int) (a4 : Int) (a5 : Bool) (a6 : Int) (w : World) (w0 : (Lit.int .i64 a0).wf = true) (w1 : (Lit.int .i64 a1).wf = true) (w2 : (Lit.int .i64 a2).wf = true) (w3 : (Lit.int .i64 a3).wf = true) (w4 : (Lit.int .i64 a4).wf = true) (w6 : (Lit.int .i64 a6).wf = true) :
    Calls Try.prog 8 #[.int .i64 a0, .int .i64 a1, .int .i64 a2, .int .i64 a3, .int .i64 a4, .bool a5, .int .i64 a6] w fun e w' => e = .returned (.bool true) ∧ Below w.heap.size w w' := by
  have hbd0 := bd_i64 w0
  have hbd1 := bd_i64 w1
  have hbd2 := bd_i64 w2
  have hbd3 := bd_i64 w3
  have hbd4 := bd_i64 w4
  have hbd6 := bd_i64 w6
  clear w0 w1 w2 w3 w4 w6
  have K := Lib.hid (fun u => known12 u)
  go_enter Try.func8, Try.ntmps8
  go_wp2_with fail
  refine (K.out _).mono ?_
  rintro e u0 ⟨rfl, hb⟩
  have HB0 := Lib.hid hb
  clear hb
  go_wp2_with fail
  refine (some12 a0 20 _ (by omega) (by omega)).mono ?_
  rintro e w' ⟨r, rfl, hr0, hr1, rfl⟩
  obtain ⟨x, hx⟩ : ∃ x : Int, (1 : Int) + r = x := ⟨_, rfl⟩
  have hxb : 1 ≤ x ∧ x ≤ 20 := by omega
  go_wp2_with fail
  clear hr0 hr1
  refine (some12 a1 20 _ (by omega) (by omega)).mono ?_
  rintro e w' ⟨r1, rfl, hr0, hr1, rfl⟩
  obtain ⟨y, hy⟩ : ∃ y : Int, (1 : Int) + r1 = y := ⟨_, rfl⟩
  have hyb : 1 ≤ y ∧ y ≤ 20 := by omega
  go_wp2_with fail
  clear hr0 hr1 hx hy
  refine (one_any x y 0 0 u0).mono ?_
  rintro e u1 ⟨cb, rfl, hcb, hcc, hb⟩
  have HB1 := Lib.hid (HB0.out.trans (hb.mono HB0.out.size))
  have HC1 := Lib.hid hcc
  have hcw : w.heap.size ≤ cb := Nat.le_trans HB0.out.size hcb
  have hcu : cb < u1.heap.size := (Array.getElem?_eq_some_iff.1 hcc).1
  clear hb hcc
  go_upto_region 4 with fail
  obtain ⟨bm, hbm⟩ : ∃ bm, u1.heap.size = bm := ⟨_, rfl⟩
  obtain ⟨W6, hW6⟩ : ∃ W6, (u1.alloc (Obj.cells #[.int .i64 x, .int .i64 y, .int .i64 0, .int .i64 0, .slice (some ⟨cb, 0, none⟩) 1 1] 24)).alloc (Obj.cells #[.int .i64 64, .int .i64 64, .int .i64 2, .int .i64 4, .int .i64 4, .int .i64 15, .int .i64 0, .int .i64 0, .int .i64 1, .bool false, .bool false, .bool false] 26) = W6 := ⟨_, rfl⟩
  have q0 : W6.heap[bm]? = some (.cells #[.int .i64 x, .int .i64 y, .int .i64 0, .int .i64 0, .slice (some ⟨cb, 0, none⟩) 1 1] 24 (0, 0)) := by
    rw [← hW6, Below.heap_alloc _ _ _ (by simp; omega), ← hbm]; exact World.alloc_heap_new u1 _
  have q1 : W6.heap[bm + 1]? = some (.cells #[.int .i64 64, .int .i64 64, .int .i64 2, .int .i64 4, .int .i64 4, .int .i64 15, .int .i64 0, .int .i64 0, .int .i64 1, .bool false, .bool false, .bool false] 26 (0, 0)) := by
    rw [← hW6, show bm + 1 = (u1.alloc (Obj.cells #[.int .i64 x, .int .i64 y, .int .i64 0, .int .i64 0, .slice (some ⟨cb, 0, none⟩) 1 1] 24)).heap.size by simp; omega]; exact World.alloc_heap_new _ _
  have q2 : W6.heap[cb]? = some (.cells #[.int .i64 8, .bool false, .int .i64 1, .int .i64 1, .slice none 0 0] 39 (0, 0)) := by
    rw [← hW6, Below.heap_alloc _ _ _ (by simp; omega), Below.heap_alloc _ _ _ hcu]; exact HC1.out
  have hB6 : Below w.heap.size w W6 := by rw [← hW6]; exact (HB1.out.alloc HB1.out.size _).alloc (by have := HB1.out.size; simp; omega) _
  have hs6 : W6.heap.size = bm + 2 := by rw [← hW6]; simp; omega
  rw [hW6]
  rw [hbm]
  have hne : cb < bm ∧ w.heap.size ≤ bm := by have := HB1.out.size; omega
  have HB6 := Lib.hid hB6
  have HQ0 := Lib.hid q0
  have HQ1 := Lib.hid q1
  have HQ2 := Lib.hid q2
  have g4 : W6.cell? ⟨bm, 4, none⟩ = some (.slice (some ⟨cb, 0, none⟩) 1 1) := by simp [World.cell?, q0]
  clear hW6 q0 q1 q2 hB6 hcu hcb hbm
  go_wp2_with fail
  refine (some12 a2 4 _ (by omega) (by omega)).mono ?_
  rintro e w' ⟨r2, rfl, hr0, hr1, rfl⟩
  obtain ⟨dx, hdx⟩ : ∃ dx : Int, (1 : Int) + r2 = dx := ⟨_, rfl⟩
  have hdxb : 1 ≤ dx ∧ dx ≤ 4 := by omega
  go_wp2_with fail
  clear hr0 hr1
  refine (some12 a3 4 _ (by omega) (by omega)).mono ?_
  rintro e w' ⟨r3, rfl, hr0, hr1, rfl⟩
  obtain ⟨dy, hdy⟩ : ∃ dy : Int, (1 : Int) + r3 = dy := ⟨_, rfl⟩
  have hdyb : 1 ≤ dy ∧ dy ≤ 4 := by omega
  go_wp2_with fail
  clear hr0 hr1
  refine (some12 a4 16 _ (by omega) (by omega)).mono ?_
  rintro e w' ⟨r4, rfl, hr0, hr1, rfl⟩
  obtain ⟨d, hd⟩ : ∃ d : Nat, (1 : Int) + r4 = (d : Int) := ⟨(1 + r4).toNat, by omega⟩
  have hdb : 1 ≤ d ∧ d ≤ 16 := by omega
  have c0 : W6.cell? ⟨cb, 0, none⟩ = some (.int .i64 8) := by have := HQ2.out; simp [World.cell?, this]
  have c1 : W6.cell? ⟨cb, 1, none⟩ = some (.bool false) := by have := HQ2.out; simp [World.cell?, this]
  have c2 : W6.cell? ⟨cb, 2, none⟩ = some (.int .i64 1) := by have := HQ2.out; simp [World.cell?, this]
  have c3 : W6.cell? ⟨cb, 3, none⟩ = some (.int .i64 1) := by have := HQ2.out; simp [World.cell?, this]
  have cf : ∀ o, W6.frozen? ⟨cb, o, none⟩ = false := by intro o; have := HQ2.out; simp [World.frozen?, this]
  clear hr0 hr1
  go_upto_region 6 with fail
  obtain ⟨W7, hW7⟩ : ∃ W7, (((W6.setCell ⟨cb, 2, none⟩ (.int .i64 dx)).setCell ⟨cb, 3, none⟩ (.int .i64 dy)).setCell ⟨cb, 0, none⟩ (.int .i64 (d : Int))).setCell ⟨cb, 1, none⟩ (.bool a5) = W7 := ⟨_, rfl⟩
  have ks : ∀ (V : World) (i : Nat) (u : Value) (k : Nat), k ≠ cb → (V.setCell ⟨cb, i, none⟩ u).heap[k]? = V.heap[k]? := fun V i u k hk => Below.heap_setCell _ _ _ _ (by simpa using hk)
  have b7 : W7.heap[cb]? = some (.cells #[.int .i64 (d : Int), .bool a5, .int .i64 dx, .int .i64 dy, .slice none 0 0] 39 (0, 0)) := by
    have := HQ2.out
    rw [← hW7]
    simp [World.setCell, Array.getElem?_modify, this]
  have b7m : W7.heap[bm]? = W6.heap[bm]? := by rw [← hW7, ks _ _ _ _ (by omega), ks _ _ _ _ (by omega), ks _ _ _ _ (by omega), ks _ _ _ _ (by omega)]
  have b7p : W7.heap[bm + 1]? = W6.heap[bm + 1]? := by rw [← hW7, ks _ _ _ _ (by omega), ks _ _ _ _ (by omega), ks _ _ _ _ (by omega), ks _ _ _ _ (by omega)]
  have B7 : Hid (Below w.heap.size w W7) := Lib.hid (by rw [← hW7]; exact (((HB6.out.setCell (p := ⟨cb, 2, none⟩) hcw _).setCell (p := ⟨cb, 3, none⟩) hcw _).setCell (p := ⟨cb, 0, none⟩) hcw _).setCell (p := ⟨cb, 1, none⟩) hcw _)
  have hs7 : W7.heap.size = bm + 2 := by rw [← hW7]; simpa [World.setCell] using hs6
  rw [hW7]
  have P7 : Hid (W7.heap[bm]? = some (.cells #[.int .i64 x, .int .i64 y, .int .i64 0, .int .i64 0, .slice (some ⟨cb, 0, none⟩) 1 1] 24 (0, 0)) ∧ W7.heap[bm + 1]? = some (.cells #[.int .i64 64, .int .i64 64, .int .i64 2, .int .i64 4, .int .i64 4, .int .i64 15, .int .i64 0, .int .i64 0, .int .i64 1, .bool false, .bool false, .bool false] 26 (0, 0)) ∧ W7.heap[cb]? = some (.cells #[.int .i64 (d : Int), .bool a5, .int .i64 dx, .int .i64 dy, .slice none 0 0] 39 (0, 0))) := Lib.hid ⟨b7m.trans HQ0.out, b7p.trans HQ1.out, b7⟩
  clear hW7 ks b7 b7m b7p HB6 HQ0 HQ1 HQ2 g4 c0 c1 c2 c3 cf hs6 hd hdx hdy
  have c0 : W7.cell? ⟨cb, 0, none⟩ = some (.int .i64 (d : Int)) := by have := P7.out.2.2; simp [World.cell?, this]
  have c2 : W7.cell? ⟨cb, 2, none⟩ = some (.int .i64 dx) := by have := P7.out.2.2; simp [World.cell?, this]
  have c3 : W7.cell? ⟨cb, 3, none⟩ = some (.int .i64 dy) := by have := P7.out.2.2; simp [World.cell?, this]
  have m0 : W7.cell? ⟨bm, 0, none⟩ = some (.int .i64 x) := by have := P7.out.1; simp [World.cell?, this]
  have m1 : W7.cell? ⟨bm, 1, none⟩ = some (.int .i64 y) := by have := P7.out.1; simp [World.cell?, this]
  obtain ⟨nx, hnx⟩ : ∃ nx : Nat, ceilF x dx = (nx : Int) := ⟨(ceilF x dx).toNat, by have := (ceil_bd x dx (by omega) (by omega)).1; omega⟩
  obtain ⟨ny, hny⟩ : ∃ ny : Nat, ceilF y dy = (ny : Int) := ⟨(ceilF y dy).toNat, by have := (ceil_bd y dy (by omega) (by omega)).1; omega⟩
  have bnx : 1 ≤ nx ∧ nx ≤ 20 := by have := (ceil_bd x dx (by omega) (by omega)).2; have := sa_pos x dx (by omega) (by omega); omega
  have bny : 1 ≤ ny ∧ ny ≤ 20 := by have := (ceil_bd y dy (by omega) (by omega)).2; have := sa_pos y dy (by omega) (by omega); omega
  obtain ⟨N, hN⟩ : ∃ N : Nat, nx * ny = N := ⟨_, rfl⟩
  have hNb : 1 ≤ N ∧ N ≤ 400 := by
    rw [← hN]
    exact ⟨Nat.mul_pos bnx.1 bny.1, Nat.mul_le_mul bnx.2 bny.2⟩
  have hNI : (nx : Int) * (ny : Int) = (N : Int) := by rw [← hN]; simp
  have s1 : IntKind.i64.wrap (x + dx) = x + dx := IntWalk.i64_in _ (by omega)
  have s2 : IntKind.i64.wrap (x + dx - 1) = x + dx - 1 := IntWalk.i64_in _ (by omega)
  have s3 : IntKind.i64.wrap ((x + dx - 1).tdiv dx) = (nx : Int) := by rw [sa_ceil x dx (by omega) hdxb, hnx]; exact IntWalk.i64_in _ (by omega)
  have s4 : IntKind.i64.wrap (y + dy) = y + dy := IntWalk.i64_in _ (by omega)
  have s5 : IntKind.i64.wrap (y + dy - 1) = y + dy - 1 := IntWalk.i64_in _ (by omega)
  have s6 : IntKind.i64.wrap ((y + dy - 1).tdiv dy) = (ny : Int) := by rw [sa_ceil y dy (by omega) hdyb, hny]; exact IntWalk.i64_in _ (by omega)
  have s7 : IntKind.i64.wrap ((nx : Int) * (ny : Int)) = (N : Int) := by rw [hNI]; exact IntWalk.i64_in _ (by omega)
  have z1 : ¬ dx = 0 := by omega
  have z2 : ¬ dy = 0 := by omega
  have HNX := Lib.hid (And.intro hnx (And.intro hny hNI))
  clear hnx hny hN hNI
  go_wp2
  go_quiet (fail)
  obtain ⟨V1, hV1⟩ : ∃ V1, W7.drewN nq = V1 := ⟨_, rfl⟩
  have P8 : Hid (V1.heap[bm]? = some (.cells #[.int .i64 x, .int .i64 y, .int .i64 0, .int .i64 0, .slice (some ⟨cb, 0, none⟩) 1 1] 24 (0, 0)) ∧ V1.heap[bm + 1]? = some (.cells #[.int .i64 64, .int .i64 64, .int .i64 2, .int .i64 4, .int .i64 4, .int .i64 15, .int .i64 0, .int .i64 0, .int .i64 1, .bool false, .bool false, .bool false] 26 (0, 0)) ∧ V1.heap[cb]? = some (.cells #[.int .i64 (d : Int), .bool a5, .int .i64 dx, .int .i64 dy, .slice none 0 0] 39 (0, 0))) := by rw [← hV1]; exact P7
  have B8 : Hid (Below w.heap.size w V1) := Lib.hid (by rw [← hV1]; exact below_drewN B7.out nq)
  have hs8 : V1.heap.size = bm + 2 := by rw [← hV1]; exact hs7
  rw [hV1]
  clear hV1 s1 s2 s3 s4 s5 s6 s7 z1 z2 c0 c2 c3 m0 m1 P7 B7 hs7
  have c0 : V1.cell? ⟨cb, 0, none⟩ = some (.int .i64 (d : Int)) := by have := P8.out.2.2; simp [World.cell?, this]
  obtain ⟨P, hP⟩ : ∃ P : Int, (2 : Int) ^ d = P := ⟨_, rfl⟩
  obtain ⟨P1, hP1⟩ : ∃ P1 : Int, (2 : Int) ^ (d - 1) = P1 := ⟨_, rfl⟩
  obtain ⟨q, hq⟩ : ∃ q, d - 1 = q := ⟨_, rfl⟩
  have hdq : (d : Int) - 1 = (q : Int) := by omega
  have bP : 1 ≤ P ∧ P ≤ 274877906944 := by rw [← hP]; exact pow_bd (by omega)
  have bP1 : 1 ≤ P1 ∧ P1 ≤ 274877906944 := by rw [← hP1]; exact pow_bd (by omega)
  have HP := Lib.hid (And.intro hP hP1)
  rw [hq] at hP1
  have wP : IntKind.i64.wrap P = P := IntWalk.i64_in _ (by omega)
  have wP2 : IntKind.i64.wrap (P - 1) = P - 1 := IntWalk.i64_in _ (by omega)
  have wQ : IntKind.i64.wrap P1 = P1 := IntWalk.i64_in _ (by omega)
  have wQ2 : IntKind.i64.wrap (P1 - 1) = P1 - 1 := IntWalk.i64_in _ (by omega)
  have wQ3 : IntKind.i64.wrap (0 - P1) = 0 - P1 := IntWalk.i64_in _ (by omega)
  clear hq
  go_wp2
  go_quiet (fail)
  obtain ⟨V2, hV2⟩ : ∃ V2, V1.drewN nq = V2 := ⟨_, rfl⟩
  have P9 : Hid (V2.heap[bm]? = some (.cells #[.int .i64 x, .int .i64 y, .int .i64 0, .int .i64 0, .slice (some ⟨cb, 0, none⟩) 1 1] 24 (0, 0)) ∧ V2.heap[bm + 1]? = some (.cells #[.int .i64 64, .int .i64 64, .int .i64 2, .int .i64 4, .int .i64 4, .int .i64 15, .int .i64 0, .int .i64 0, .int .i64 1, .bool false, .bool false, .bool false] 26 (0, 0)) ∧ V2.heap[cb]? = some (.cells #[.int .i64 (d : Int), .bool a5, .int .i64 dx, .int .i64 dy, .slice none 0 0] 39 (0, 0))) := by rw [← hV2]; exact P8
  have B9 : Hid (Below w.heap.size w V2) := Lib.hid (by rw [← hV2]; exact below_drewN B8.out nq)
  have hs9 : V2.heap.size = bm + 2 := by rw [← hV2]; exact hs8
  rw [hV2]
  clear hV2 c0 P8 B8 hs8
  have c0 : V2.cell? ⟨cb, 0, none⟩ = some (.int .i64 (d : Int)) := by have := P9.out.2.2; simp [World.cell?, this]
  have hlh : -65536 ≤ leastF d a5 ∧ leastF d a5 ≤ 0 ∧ 0 ≤ mostF d a5 ∧ mostF d a5 ≤ 65536 := sa_bds d a5 hdb
  go_upto_if 93 with fail
  go_cut [19, 20] from 94 to 109 (fun u v wx => u = .int .i64 (leastF d a5) ∧ v = .int .i64 (mostF d a5) ∧ ∃ k, wx = V2.drewN k)
  case first =>
    cases a5 with
    | false =>
      go_wp2
      go_meet
      exact ⟨rfl, by unfold mostF; rw [HP.out.1]; rfl, 0, rfl⟩
    | true =>
      go_wp2
      go_quiet (fail)
      go_wp2
      go_meet
      exact ⟨by unfold leastF; rw [HP.out.2]; simp, by unfold mostF; rw [HP.out.2]; rfl, nq, rfl⟩
  case rest =>
    obtain ⟨rfl, rfl, k9, hk9⟩ := hcut
    obtain ⟨LO, hLO⟩ : ∃ LO, leastF d a5 = LO := ⟨_, rfl⟩
    obtain ⟨HI, hHI⟩ : ∃ HI, mostF d a5 = HI := ⟨_, rfl⟩
    have HLH := Lib.hid (And.intro hLO hHI)
    rw [hLO, hHI] at hlh ⊢
    have PA : Hid (wc.heap[bm]? = some (.cells #[.int .i64 x, .int .i64 y, .int .i64 0, .int .i64 0, .slice (some ⟨cb, 0, none⟩) 1 1] 24 (0, 0)) ∧ wc.heap[bm + 1]? = some (.cells #[.int .i64 64, .int .i64 64, .int .i64 2, .int .i64 4, .int .i64 4, .int .i64 15, .int .i64 0, .int .i64 0, .int .i64 1, .bool false, .bool false, .bool false] 26 (0, 0)) ∧ wc.heap[cb]? = some (.cells #[.int .i64 (d : Int), .bool a5, .int .i64 dx, .int .i64 dy, .slice none 0 0] 39 (0, 0))) := by rw [hk9]; exact P9
    have BA : Hid (Below w.heap.size w wc) := Lib.hid (by rw [hk9]; exact below_drewN B9.out k9)
    have hsA : wc.heap.size = bm + 2 := by rw [hk9]; exact hs9
    clear hk9 hLO hHI c0 P9 B9 hs9 hP hP1 wP wP2 wQ wQ2 wQ3 hdq bP bP1
    have c4 : wc.cell? ⟨cb, 4, none⟩ = some (.slice none 0 0) := by have := PA.out.2.2; simp [World.cell?, this]
    have cf : ∀ o, wc.frozen? ⟨cb, o, none⟩ = false := by intro o; have := PA.out.2.2; simp [World.frozen?, this]
    have hmk2 := hmkI wc N (by omega)
    have S0 : Hid (SA w wc bm cb x y (d : Int) dx dy a5 (.slice none 0 0)) := Lib.hid ⟨PA.out.1, PA.out.2.1, PA.out.2.2, BA.out, hcw, hne.1⟩
    have cf3 : ∀ o, (wc.alloc (Obj.cells (madeCells #[.int .i64 0] N) 3)).frozen? ⟨cb, o, none⟩ = false := (S0.out.alloc _).cells.2.2.2.2.2
    have cf4 : (wc.alloc (Obj.cells (madeCells #[.int .i64 0] N) 3)).cell? ⟨cb, 4, none⟩ = some (.slice none 0 0) := (S0.out.alloc _).cells.2.2.2.2.1
    go_upto_region 11 with fail
    try rw [hsA]
    obtain ⟨WD, hWD⟩ : ∃ WD, (wc.alloc (Obj.cells (madeCells #[.int .i64 0] N) 3)).setCell ⟨cb, 4, none⟩ (.slice (some ⟨bm + 2, 0, none⟩) N N) = WD := ⟨_, rfl⟩
    have SD : Hid (SA w WD bm cb x y (d : Int) dx dy a5 (.slice (some ⟨bm + 2, 0, none⟩) N N)) := Lib.hid (by rw [← hWD]; exact (S0.out.alloc _).setV _)
    have BD : Hid (BlkI WD (bm + 2) (List.replicate N 0)) := Lib.hid (by
      rw [← hWD]
      have h := blk_made wc N
      rw [hsA] at h
      exact h.keep (Below.heap_setCell _ _ _ _ (by simp; omega)))
    have hsD : WD.heap.size = bm + 3 := by rw [← hWD]; simp [World.setCell, hsA]
    rw [hWD]
    clear hWD PA BA hmk2 S0 c4 cf hsA cf3 cf4
    have HNE := Lib.hid hne
    go_wp2_with fail
    refine (some12 a6 6 _ (by omega) (by omega)).mono ?_
    rintro e w' ⟨r, rfl, hr0, hr1, rfl⟩
    obtain ⟨c0, c1, c2, c3, c4, cf⟩ := SD.out.cells
    obtain rfl | rfl | rfl | rfl | rfl | rfl := (by omega : r = 0 ∨ r = 1 ∨ r = 2 ∨ r = 3 ∨ r = 4 ∨ r = 5)
    · skip
      have hrow := blk_row BD.out (by simp : (List.replicate N (0 : Int)).length = N) (by omega)
      obtain ⟨v', w', hr, ho, hg, _⟩ := app_int (w := WD.alloc (Obj.cells #[.int .i64 0] 3)) (z := WD.heap.size) (x := 0) (hrow.alloc _) (World.alloc_heap_new WD _) (by simp; omega) (by omega)
      obtain ⟨gb, cc, rfl, hgb, hgl, hcc1, hcc2⟩ := own_form ho (by omega)
      have hg' : (WD.alloc (Obj.cells #[.int .i64 0] 3)).grownBy w' (some (bm + 2)) := hg
      have SA1 := (SD.out.alloc (Obj.cells #[.int .i64 0] 3)).grown (nb := bm + 2) (by omega) hg'
      have SE := Lib.hid (SA1.setV (.slice (some ⟨gb, 0, none⟩) (N + 1) cc))
      have cf2 : ∀ o, w'.frozen? ⟨cb, o, none⟩ = false := SA1.cells.2.2.2.2.2
      have c4' : (WD.alloc (Obj.cells #[.int .i64 0] 3)).cell? ⟨cb, 4, none⟩ = some (.slice (some ⟨bm + 2, 0, none⟩) N N) := (SD.out.alloc _).cells.2.2.2.2.1
      have c4'' : w'.cell? ⟨cb, 4, none⟩ = some (.slice (some ⟨bm + 2, 0, none⟩) N N) := SA1.cells.2.2.2.2.1
      have hne2 : gb ≠ cb := by omega
      have LE : Hid (Lst (w'.setCell ⟨cb, 4, none⟩ (.slice (some ⟨gb, 0, none⟩) (N + 1) cc)) (w'.setCell ⟨cb, 4, none⟩ (.slice (some ⟨gb, 0, none⟩) (N + 1) cc)).heap.size (some ⟨gb, 0, none⟩) ((List.replicate N (0 : Int) ++ [0]).map (Value.int .i64)) ∧ (List.replicate N (0 : Int) ++ [0]).length = N + 1) := Lib.hid ⟨by
        have h := Lst.own (ownsRow_setCell_other ho (a := ⟨cb, 4, none⟩) (by simp [Value.ownBlock]; exact hne2) (.slice (some ⟨gb, 0, none⟩) (N + 1) cc))
        rw [List.map_append]
        exact h, by simp⟩
      have VE : Hid (smpF d a5 (N + 1) 0 0 nx ny (List.replicate N (0 : Int) ++ [0]) = 7) := Lib.hid (sa_size HNX.out.2.2 (by omega))
      clear hrow ho hg hg' hsD SA1 hgb hgl
      obtain ⟨WE, hWE⟩ : ∃ WE, w'.setCell ⟨cb, 4, none⟩ (.slice (some ⟨gb, 0, none⟩) (N + 1) cc) = WE := ⟨_, rfl⟩
      rw [hWE] at SE LE
      obtain ⟨g0, g1, g2, g3, g4⟩ := img_cells SE.out.m
      obtain ⟨k0, k1, k2, k3, k4, k5, k6, k7, k8, k9, k10, k11⟩ := par_cells SE.out.p
      have CK := Lib.hid (sa_chk SE.out.c LE.out.1 LE.out.2 (by omega) hxb hyb hdb hdxb hdyb HNX.out.1 HNX.out.2.1)
      have HB := Lib.hid SE.out.bel
      rw [VE.out] at CK
      clear SE LE SD BD
      go_wp2_with fail
      refine CK.out.mono ?_
      rintro e w2 ⟨rfl, hb⟩
      have HB2 := Lib.hid (HB.out.trans (hb.mono HB.out.size))
      clear hb CK g0 g1 g2 g3 g4 k0 k1 k2 k3 k4 k5 k6 k7 k8 k9 k10 k11
      go_wp2
      go_ret
      exact ⟨rfl, HB2.out⟩
    · skip
      obtain ⟨M, hM⟩ : ∃ M : Nat, (N : Int) - 1 = (M : Int) := ⟨N - 1, by omega⟩
      have hsl : (0 : Int) ≤ (M : Int) ∧ (M : Int) ≤ (N : Int) ∧ M ≤ N := by omega
      have SE := Lib.hid (SD.out.setV (.slice (some ⟨bm + 2, 0, none⟩) M N))
      have LE : Hid (Lst (WD.setCell ⟨cb, 4, none⟩ (.slice (some ⟨bm + 2, 0, none⟩) M N)) (WD.setCell ⟨cb, 4, none⟩ (.slice (some ⟨bm + 2, 0, none⟩) M N)).heap.size (some ⟨bm + 2, 0, none⟩) (((List.replicate N (0 : Int)).take M).map (Value.int .i64)) ∧ ((List.replicate N (0 : Int)).take M).length = M) := Lib.hid ⟨by
        rw [List.map_take]
        exact ((BD.out.keep (Below.heap_setCell _ _ _ _ (by simp; omega))).lst).take M, by simp; omega⟩
      have VE : Hid (smpF d a5 M 0 0 nx ny ((List.replicate N (0 : Int)).take M) = 7) := Lib.hid (sa_size HNX.out.2.2 (by omega))
      obtain ⟨WE, hWE⟩ : ∃ WE, WD.setCell ⟨cb, 4, none⟩ (.slice (some ⟨bm + 2, 0, none⟩) M N) = WE := ⟨_, rfl⟩
      rw [hWE] at SE LE
      obtain ⟨g0, g1, g2, g3, g4⟩ := img_cells SE.out.m
      obtain ⟨k0, k1, k2, k3, k4, k5, k6, k7, k8, k9, k10, k11⟩ := par_cells SE.out.p
      have CK := Lib.hid (sa_chk SE.out.c LE.out.1 LE.out.2 (by omega) hxb hyb hdb hdxb hdyb HNX.out.1 HNX.out.2.1)
      have HB := Lib.hid SE.out.bel
      rw [VE.out] at CK
      clear SE LE SD BD
      go_wp2_with fail
      refine CK.out.mono ?_
      rintro e w2 ⟨rfl, hb⟩
      have HB2 := Lib.hid (HB.out.trans (hb.mono HB.out.size))
      clear hb CK g0 g1 g2 g3 g4 k0 k1 k2 k3 k4 k5 k6 k7 k8 k9 k10 k11
      go_wp2
      go_ret
      exact ⟨rfl, HB2.out⟩
    · skip
      obtain ⟨M, hM⟩ : ∃ M : Nat, (N : Int) - 1 = (M : Int) := ⟨N - 1, by omega⟩
      have hMb : (M : Int) < (N : Int) ∧ (0 : Int) ≤ (M : Int) := by omega
      have nf := BD.out.frozen
      have nc : WD.cell? ⟨bm + 2, M, none⟩ = some (.int .i64 0) := BD.out.cell (by rw [List.getElem?_replicate, if_pos (by omega)])
      have SE := Lib.hid (SD.out.setN (nb := bm + 2) (by omega) M (.int .i64 (HI + 1)))
      have LE : Hid (Lst (WD.setCell ⟨bm + 2, M, none⟩ (.int .i64 (HI + 1))) (WD.setCell ⟨bm + 2, M, none⟩ (.int .i64 (HI + 1))).heap.size (some ⟨bm + 2, 0, none⟩) (((List.replicate N (0 : Int)).set M (HI + 1)).map (Value.int .i64)) ∧ ((List.replicate N (0 : Int)).set M (HI + 1)).length = N) := Lib.hid ⟨(BD.out.set M (HI + 1)).lst, by simp⟩
      have VE : Hid (smpF d a5 N 0 0 nx ny ((List.replicate N (0 : Int)).set M (HI + 1)) = 11) := Lib.hid (sa_out HNX.out.2.2 (List.mem_set (by simp; omega) _) (by rw [HLH.out.2]; omega))
      obtain ⟨WE, hWE⟩ : ∃ WE, WD.setCell ⟨bm + 2, M, none⟩ (.int .i64 (HI + 1)) = WE := ⟨_, rfl⟩
      rw [hWE] at SE LE
      obtain ⟨g0, g1, g2, g3, g4⟩ := img_cells SE.out.m
      obtain ⟨k0, k1, k2, k3, k4, k5, k6, k7, k8, k9, k10, k11⟩ := par_cells SE.out.p
      have CK := Lib.hid (sa_chk SE.out.c LE.out.1 LE.out.2 (by omega) hxb hyb hdb hdxb hdyb HNX.out.1 HNX.out.2.1)
      have HB := Lib.hid SE.out.bel
      rw [VE.out] at CK
      clear SE LE SD BD
      go_wp2_with fail
      refine CK.out.mono ?_
      rintro e w2 ⟨rfl, hb⟩
      have HB2 := Lib.hid (HB.out.trans (hb.mono HB.out.size))
      clear hb CK g0 g1 g2 g3 g4 k0 k1 k2 k3 k4 k5 k6 k7 k8 k9 k10 k11
      go_wp2
      go_ret
      exact ⟨rfl, HB2.out⟩
    · skip
      have hMb : (0 : Int) < (N : Int) := by omega
      have nf := BD.out.frozen
      have nc : WD.cell? ⟨bm + 2, 0, none⟩ = some (.int .i64 0) := BD.out.cell (by rw [List.getElem?_replicate, if_pos (by omega)])
      have SE := Lib.hid (SD.out.setN (nb := bm + 2) (by omega) 0 (.int .i64 (LO - 1)))
      have LE : Hid (Lst (WD.setCell ⟨bm + 2, 0, none⟩ (.int .i64 (LO - 1))) (WD.setCell ⟨bm + 2, 0, none⟩ (.int .i64 (LO - 1))).heap.size (some ⟨bm + 2, 0, none⟩) (((List.replicate N (0 : Int)).set 0 (LO - 1)).map (Value.int .i64)) ∧ ((List.replicate N (0 : Int)).set 0 (LO - 1)).length = N) := Lib.hid ⟨(BD.out.set 0 (LO - 1)).lst, by simp⟩
      have VE : Hid (smpF d a5 N 0 0 nx ny ((List.replicate N (0 : Int)).set 0 (LO - 1)) = 11) := Lib.hid (sa_out HNX.out.2.2 (List.mem_set (by simp; omega) _) (by rw [HLH.out.1]; omega))
      obtain ⟨WE, hWE⟩ : ∃ WE, WD.setCell ⟨bm + 2, 0, none⟩ (.int .i64 (LO - 1)) = WE := ⟨_, rfl⟩
      rw [hWE] at SE LE
      obtain ⟨g0, g1, g2, g3, g4⟩ := img_cells SE.out.m
      obtain ⟨k0, k1, k2, k3, k4, k5, k6, k7, k8, k9, k10, k11⟩ := par_cells SE.out.p
      have CK := Lib.hid (sa_chk SE.out.c LE.out.1 LE.out.2 (by omega) hxb hyb hdb hdxb hdyb HNX.out.1 HNX.out.2.1)
      have HB := Lib.hid SE.out.bel
      rw [VE.out] at CK
      clear SE LE SD BD
      go_wp2_with fail
      refine CK.out.mono ?_
      rintro e w2 ⟨rfl, hb⟩
      have HB2 := Lib.hid (HB.out.trans (hb.mono HB.out.size))
      clear hb CK g0 g1 g2 g3 g4 k0 k1 k2 k3 k4 k5 k6 k7 k8 k9 k10 k11
      go_wp2
      go_ret
      exact ⟨rfl, HB2.out⟩
    · skip
      obtain ⟨M, hM⟩ : ∃ M : Nat, (N : Int) - 1 = (M : Int) := ⟨N - 1, by omega⟩
      have hMb : (M : Int) < (N : Int) ∧ (0 : Int) ≤ (M : Int) ∧ (0 : Int) < (N : Int) := by omega
      obtain ⟨WX, hWX⟩ : ∃ WX, WD.drew = WX := ⟨_, rfl⟩
      have SX : Hid (SA w WX bm cb x y (d : Int) dx dy a5 (.slice (some ⟨bm + 2, 0, none⟩) N N)) := Lib.hid (by rw [← hWX]; exact SD.out.drew)
      have BX : Hid (BlkI WX (bm + 2) (List.replicate N 0)) := Lib.hid (by rw [← hWX]; exact BD.out.keep rfl)
      have c4x := SX.out.cells.2.2.2.2.1
      have x0 : WX.cell? ⟨bm + 2, 0, none⟩ = some (.int .i64 0) := BX.out.cell (by rw [List.getElem?_replicate, if_pos (by omega)])
      have xf := BX.out.frozen 0
      have x1 : ∃ ux, (WX.setCell ⟨bm + 2, 0, none⟩ (.int .i64 LO)).cell? ⟨bm + 2, M, none⟩ = some (.int .i64 ux) := by
        have hl : M < ((List.replicate N (0 : Int)).set 0 LO).length := by simp; omega
        exact ⟨_, (BX.out.set 0 LO).cell (List.getElem?_eq_getElem hl)⟩
      have yf := (BX.out.set 0 LO).frozen M
      have hMw : IntKind.i64.wrap ((N : Int) - 1) = (M : Int) := by rw [hM]; exact IntWalk.i64_in _ (by omega)
      have hMw2 : IntKind.i64.wrap (M : Int) = (M : Int) := IntWalk.i64_in _ (by omega)
      have HW := Lib.hid hWX
      clear hWX
      go_upto_region 22 with fail
      have hWX := HW.out
      refine (wpIn_wide (n := 9)).1 (regionIn_a (w := WD) (Inv := fun L a' w' => a' = { tmps := #[.int .i64 a0, .int .i64 a1, .int .i64 a2, .int .i64 a3, .int .i64 a4, .bool a5, .int .i64 a6, undef, undef, undef, undef, undef, undef, undef, .bool false, .pointer (some ⟨bm, 0, none⟩), .pointer (some ⟨bm + 1, 0, none⟩), .pointer (some ⟨cb, 0, none⟩), .int .i64 (N : Int), .int .i64 LO, .int .i64 HI, .int .i64 0, .bool true, .bool false, .tuple #[.agg #[.int .i64 x, .int .i64 y, .int .i64 0, .int .i64 0, .slice (some ⟨cb, 0, none⟩) 1 1], .agg #[.int .i64 64, .int .i64 64, .int .i64 2, .int .i64 4, .int .i64 4, .int .i64 15, .int .i64 0, .int .i64 0, .int .i64 1, .bool false, .bool false, .bool false]], .int .i64 a0, .int .i64 r, .int .i64 x, .int .i64 a1, .int .i64 r1, .int .i64 y, .tuple #[.agg #[.int .i64 x, .int .i64 y, .int .i64 0, .int .i64 0, .slice (some ⟨cb, 0, none⟩) 1 1], .agg #[.int .i64 64, .int .i64 64, .int .i64 2, .int .i64 4, .int .i64 4, .int .i64 15, .int .i64 0, .int .i64 0, .int .i64 1, .bool false, .bool false, .bool false]], .agg #[.int .i64 x, .int .i64 y, .int .i64 0, .int .i64 0, .slice (some ⟨cb, 0, none⟩) 1 1], .agg #[.int .i64 64, .int .i64 64, .int .i64 2, .int .i64 4, .int .i64 4, .int .i64 15, .int .i64 0, .int .i64 0, .int .i64 1, .bool false, .bool false, .bool false], .pointer (some ⟨bm, 4, none⟩), .slice (some ⟨cb, 0, none⟩) 1 1, .pointer (some ⟨cb, 0, none⟩), .pointer (some ⟨cb, 0, none⟩), .pointer (some ⟨cb, 0, none⟩), .pointer (some ⟨cb, 0, none⟩), .pointer (some ⟨cb, 0, none⟩), .int .i64 a2, .int .i64 r2, .int .i64 dx, .int .i64 a3, .int .i64 r3, .int .i64 dy, .int .i64 a4, .int .i64 r4, .int .i64 (d : Int), .bool a5, .pointer (some ⟨cb, 0, none⟩), .pointer (some ⟨cb, 2, none⟩), .pointer (some ⟨cb, 0, none⟩), .pointer (some ⟨cb, 3, none⟩), .pointer (some ⟨cb, 0, none⟩), .pointer (some ⟨cb, 0, none⟩), .pointer (some ⟨cb, 0, none⟩), .pointer (some ⟨cb, 1, none⟩), .pointer (some ⟨bm, 0, none⟩), .int .i64 x, .pointer (some ⟨cb, 0, none⟩), .pointer (some ⟨cb, 0, none⟩), .pointer (some ⟨cb, 2, none⟩), .int .i64 dx, .int .i64 (x + dx), .int .i64 (x + dx - 1), .pointer (some ⟨cb, 0, none⟩), .pointer (some ⟨cb, 0, none⟩), .pointer (some ⟨cb, 2, none⟩), .int .i64 dx, .int .i64 (nx : Int), .pointer (some ⟨bm, 1, none⟩), .int .i64 y, .pointer (some ⟨cb, 0, none⟩), .pointer (some ⟨cb, 0, none⟩), .pointer (some ⟨cb, 3, none⟩), .int .i64 dy, .int .i64 (y + dy), .int .i64 (y + dy - 1), .pointer (some ⟨cb, 0, none⟩), .pointer (some ⟨cb, 0, none⟩), .pointer (some ⟨cb, 3, none⟩), .int .i64 dy, .int .i64 (ny : Int), .int .i64 (N : Int), .pointer (some ⟨cb, 0, none⟩), .pointer (some ⟨cb, 0, none⟩), .pointer (some ⟨cb, 0, none⟩), .int .i64 (d : Int), .int .u64 (d : Int), .int .i64 P, .int .i64 (P - 1), .bool a5, u94, u95, u96, u97, u98, u99, u100, u101, u102, u103, u104, u105, u106, u107, u108, u109, .pointer (some ⟨cb, 0, none⟩), .int .i64 (N : Int), .slice (some ⟨bm + 2, 0, none⟩) N N, .pointer (some ⟨cb, 0, none⟩), .pointer (some ⟨cb, 4, none⟩), .int .i64 a6, .int .i64 4, .bool false, .bool false, undef, undef, undef, undef, undef, undef, undef, undef, undef, .bool false, .bool false, undef, undef, undef, undef, undef, undef, undef, undef, undef, undef, .bool false, .bool false, undef, undef, undef, undef, undef, undef, undef, undef, undef, .bool false, .bool false, undef, undef, undef, undef, undef, undef, undef, .bool true, .bool true, bif L 0 then .pointer (some ⟨cb, 0, none⟩) else undef, bif L 1 then .pointer (some ⟨cb, 0, none⟩) else undef, bif L 2 then .pointer (some ⟨cb, 4, none⟩) else undef, bif L 3 then .slice (some ⟨bm + 2, 0, none⟩) N N else undef, bif L 4 then .pointer (some ⟨cb, 0, none⟩) else undef, bif L 5 then .pointer (some ⟨cb, 0, none⟩) else undef, bif L 6 then .pointer (some ⟨cb, 4, none⟩) else undef, bif L 7 then .slice (some ⟨bm + 2, 0, none⟩) N N else undef, bif L 8 then .int .i64 (N : Int) else undef, bif L 9 then .int .i64 (M : Int) else undef, bif L 10 then .int .i64 LO else undef, bif L 11 then .int .i64 HI else undef, bif L 12 then .pointer (some ⟨bm + 2, 0, none⟩) else undef, bif L 14 then .pointer (some ⟨bm + 2, M, none⟩) else undef, undef, undef, undef, undef, undef], defers := [] } ∧ (bif L 15 then (w' = (WX.setCell ⟨bm + 2, 0, none⟩ (.int .i64 LO)).setCell ⟨bm + 2, M, none⟩ (.int .i64 HI)) else (bif L 13 then (w' = WX.setCell ⟨bm + 2, 0, none⟩ (.int .i64 LO)) else w' = WX))) (by kernel_rfl) (by kernel_rfl) ?start4 ?step4 ?fin4)
      case start4 => exact ⟨rfl, hWX⟩
      case step4 =>
        intro i hi L a' w' hI hs hu
        obtain ⟨rfl, hph⟩ := hI
        have hL := hu.1
        have hi : i < 16 := hi
        obtain rfl | rfl | rfl | rfl | rfl | rfl | rfl | rfl | rfl | rfl | rfl | rfl | rfl | rfl | rfl | rfl := (by omega : i = 0 ∨ i = 1 ∨ i = 2 ∨ i = 3 ∨ i = 4 ∨ i = 5 ∨ i = 6 ∨ i = 7 ∨ i = 8 ∨ i = 9 ∨ i = 10 ∨ i = 11 ∨ i = 12 ∨ i = 13 ∨ i = 14 ∨ i = 15)
        · skip
          have n13 : L 13 = false := not_yet hL fun h => shut_at hs 13 0 (by kernel_rfl) (h)
          have n15 : L 15 = false := not_yet hL fun h => shut_at hs 15 0 (by kernel_rfl) (h)
          refine opIn_run (v := .pointer (some ⟨cb, 0, none⟩)) (w' := w') rfl rfl (fun c h => by cases h) (fun _ => trivial) ?_ ⟨by simp [Act.put, upd, n13, n15, hL], by simpa [upd] using hph⟩
          simp only [n13, n15, hL, cond_true, cond_false]
          go_simp
        · skip
          have y0 : L 0 = true := up_at hu 0 (by kernel_rfl)
          have n13 : L 13 = false := not_yet hL fun h => shut_at hs 13 1 (by kernel_rfl) (h)
          have n15 : L 15 = false := not_yet hL fun h => shut_at hs 15 1 (by kernel_rfl) (h)
          refine opIn_run (v := .pointer (some ⟨cb, 0, none⟩)) (w' := w') rfl rfl (fun c h => by cases h) (fun _ => trivial) ?_ ⟨by simp [Act.put, upd, y0, n13, n15, hL], by simpa [upd] using hph⟩
          simp only [y0, n13, n15, hL, cond_true, cond_false]
          go_simp
        · skip
          have y0 : L 0 = true := shut_at hs 1 0 (by kernel_rfl) (up_at hu 1 (by kernel_rfl))
          have y1 : L 1 = true := up_at hu 1 (by kernel_rfl)
          have n13 : L 13 = false := not_yet hL fun h => shut_at hs 13 2 (by kernel_rfl) (h)
          have n15 : L 15 = false := not_yet hL fun h => shut_at hs 15 2 (by kernel_rfl) (h)
          refine opIn_run (v := .pointer (some ⟨cb, 4, none⟩)) (w' := w') rfl rfl (fun c h => by cases h) (fun _ => trivial) ?_ ⟨by simp [Act.put, upd, y0, y1, n13, n15, hL], by simpa [upd] using hph⟩
          simp only [y0, y1, n13, n15, hL, cond_true, cond_false]
          go_simp
        · skip
          have y0 : L 0 = true := shut_at hs 1 0 (by kernel_rfl) (shut_at hs 2 1 (by kernel_rfl) (up_at hu 2 (by kernel_rfl)))
          have y1 : L 1 = true := shut_at hs 2 1 (by kernel_rfl) (up_at hu 2 (by kernel_rfl))
          have y2 : L 2 = true := up_at hu 2 (by kernel_rfl)
          have n13 : L 13 = false := not_yet hL fun h => shut_at hs 13 3 (by kernel_rfl) (h)
          have n15 : L 15 = false := not_yet hL fun h => shut_at hs 15 3 (by kernel_rfl) (h)
          simp only [y0, y1, y2, n13, n15, hL, cond_true, cond_false] at hph
          have c4w : w'.cell? ⟨cb, 4, none⟩ = some (.slice (some ⟨bm + 2, 0, none⟩) N N) := by rw [hph]; exact c4x
          refine opIn_run (v := .slice (some ⟨bm + 2, 0, none⟩) N N) (w' := w') rfl rfl (fun c h => by cases h) (fun _ => trivial) ?_ ⟨by simp [Act.put, upd, y0, y1, y2, n13, n15, hL], by simp only [upd, y0, y1, y2, n13, n15, hL]; exact hph⟩
          simp only [y0, y1, y2, n13, n15, hL, cond_true, cond_false]
          go_simp
        · skip
          have n13 : L 13 = false := not_yet hL fun h => shut_at hs 5 4 (by kernel_rfl) (shut_at hs 6 5 (by kernel_rfl) (shut_at hs 7 6 (by kernel_rfl) (shut_at hs 13 7 (by kernel_rfl) (h))))
          have n15 : L 15 = false := not_yet hL fun h => shut_at hs 15 4 (by kernel_rfl) (h)
          refine opIn_run (v := .pointer (some ⟨cb, 0, none⟩)) (w' := w') rfl rfl (fun c h => by cases h) (fun _ => trivial) ?_ ⟨by simp [Act.put, upd, n13, n15, hL], by simpa [upd] using hph⟩
          simp only [n13, n15, hL, cond_true, cond_false]
          go_simp
        · skip
          have y4 : L 4 = true := up_at hu 4 (by kernel_rfl)
          have n13 : L 13 = false := not_yet hL fun h => shut_at hs 6 5 (by kernel_rfl) (shut_at hs 7 6 (by kernel_rfl) (shut_at hs 13 7 (by kernel_rfl) (h)))
          have n15 : L 15 = false := not_yet hL fun h => shut_at hs 15 5 (by kernel_rfl) (h)
          refine opIn_run (v := .pointer (some ⟨cb, 0, none⟩)) (w' := w') rfl rfl (fun c h => by cases h) (fun _ => trivial) ?_ ⟨by simp [Act.put, upd, y4, n13, n15, hL], by simpa [upd] using hph⟩
          simp only [y4, n13, n15, hL, cond_true, cond_false]
          go_simp
        · skip
          have y4 : L 4 = true := shut_at hs 5 4 (by kernel_rfl) (up_at hu 5 (by kernel_rfl))
          have y5 : L 5 = true := up_at hu 5 (by kernel_rfl)
          have n13 : L 13 = false := not_yet hL fun h => shut_at hs 7 6 (by kernel_rfl) (shut_at hs 13 7 (by kernel_rfl) (h))
          have n15 : L 15 = false := not_yet hL fun h => shut_at hs 15 6 (by kernel_rfl) (h)
          refine opIn_run (v := .pointer (some ⟨cb, 4, none⟩)) (w' := w') rfl rfl (fun c h => by cases h) (fun _ => trivial) ?_ ⟨by simp [Act.put, upd, y4, y5, n13, n15, hL], by simpa [upd] using hph⟩
          simp only [y4, y5, n13, n15, hL, cond_true, cond_false]
          go_simp
        · skip
          have y4 : L 4 = true := shut_at hs 5 4 (by kernel_rfl) (shut_at hs 6 5 (by kernel_rfl) (up_at hu 6 (by kernel_rfl)))
          have y5 : L 5 = true := shut_at hs 6 5 (by kernel_rfl) (up_at hu 6 (by kernel_rfl))
          have y6 : L 6 = true := up_at hu 6 (by kernel_rfl)
          have n13 : L 13 = false := not_yet hL fun h => shut_at hs 13 7 (by kernel_rfl) (h)
          have n15 : L 15 = false := not_yet hL fun h => shut_at hs 15 7 (by kernel_rfl) (h)
          simp only [y4, y5, y6, n13, n15, hL, cond_true, cond_false] at hph
          have c4w : w'.cell? ⟨cb, 4, none⟩ = some (.slice (some ⟨bm + 2, 0, none⟩) N N) := by rw [hph]; exact c4x
          refine opIn_run (v := .slice (some ⟨bm + 2, 0, none⟩) N N) (w' := w') rfl rfl (fun c h => by cases h) (fun _ => trivial) ?_ ⟨by simp [Act.put, upd, y4, y5, y6, n13, n15, hL], by simp only [upd, y4, y5, y6, n13, n15, hL]; exact hph⟩
          simp only [y4, y5, y6, n13, n15, hL, cond_true, cond_false]
          go_simp
        · skip
          have n15 : L 15 = false := not_yet hL fun h => shut_at hs 15 8 (by kernel_rfl) (h)
          refine opIn_run (v := .int .i64 (N : Int)) (w' := w') rfl rfl (fun c h => by cases h) (fun _ => trivial) ?_ ⟨by simp [Act.put, upd, n15, hL], by simpa [upd] using hph⟩
          simp only [n15, hL, cond_true, cond_false]
          go_simp
        · skip
          have y8 : L 8 = true := up_at hu 8 (by kernel_rfl)
          have n15 : L 15 = false := not_yet hL fun h => shut_at hs 15 9 (by kernel_rfl) (h)
          refine opIn_run (v := .int .i64 (M : Int)) (w' := w') rfl rfl (fun c h => by cases h) (fun _ => trivial) ?_ ⟨by simp [Act.put, upd, y8, n15, hL], by simpa [upd] using hph⟩
          simp only [y8, n15, hL, cond_true, cond_false]
          go_simp
        · skip
          have n13 : L 13 = false := not_yet hL fun h => shut_at hs 13 10 (by kernel_rfl) (h)
          have n15 : L 15 = false := not_yet hL fun h => shut_at hs 15 10 (by kernel_rfl) (h)
          refine opIn_run (v := .int .i64 LO) (w' := w') rfl rfl (fun c h => by cases h) (fun _ => trivial) ?_ ⟨by simp [Act.put, upd, n13, n15, hL], by simpa [upd] using hph⟩
          simp only [n13, n15, hL, cond_true, cond_false]
          go_simp
        · skip
          have n15 : L 15 = false := not_yet hL fun h => shut_at hs 15 11 (by kernel_rfl) (h)
          refine opIn_run (v := .int .i64 HI) (w' := w') rfl rfl (fun c h => by cases h) (fun _ => trivial) ?_ ⟨by simp [Act.put, upd, n15, hL], by simpa [upd] using hph⟩
          simp only [n15, hL, cond_true, cond_false]
          go_simp
        · skip
          have y0 : L 0 = true := up_at hu 0 (by kernel_rfl)
          have y1 : L 1 = true := up_at hu 1 (by kernel_rfl)
          have y2 : L 2 = true := up_at hu 2 (by kernel_rfl)
          have y3 : L 3 = true := up_at hu 3 (by kernel_rfl)
          have y4 : L 4 = true := shut_at hs 5 4 (by kernel_rfl) (shut_at hs 6 5 (by kernel_rfl) (shut_at hs 7 6 (by kernel_rfl) (up_at hu 7 (by kernel_rfl))))
          have y5 : L 5 = true := shut_at hs 6 5 (by kernel_rfl) (shut_at hs 7 6 (by kernel_rfl) (up_at hu 7 (by kernel_rfl)))
          have y6 : L 6 = true := shut_at hs 7 6 (by kernel_rfl) (up_at hu 7 (by kernel_rfl))
          have y7 : L 7 = true := up_at hu 7 (by kernel_rfl)
          have y10 : L 10 = true := up_at hu 10 (by kernel_rfl)
          have n13 : L 13 = false := not_yet hL fun h => shut_at hs 13 12 (by kernel_rfl) (h)
          have n15 : L 15 = false := not_yet hL fun h => shut_at hs 15 12 (by kernel_rfl) (h)
          refine opIn_run (v := .pointer (some ⟨bm + 2, 0, none⟩)) (w' := w') rfl rfl (fun c h => by cases h) (fun _ => trivial) ?_ ⟨by simp [Act.put, upd, y0, y1, y2, y3, y4, y5, y6, y7, y10, n13, n15, hL], by simpa [upd] using hph⟩
          simp only [y0, y1, y2, y3, y4, y5, y6, y7, y10, n13, n15, hL, cond_true, cond_false]
          go_simp; intro hz; omega
        · skip
          have y0 : L 0 = true := up_at hu 0 (by kernel_rfl)
          have y1 : L 1 = true := up_at hu 1 (by kernel_rfl)
          have y2 : L 2 = true := up_at hu 2 (by kernel_rfl)
          have y3 : L 3 = true := up_at hu 3 (by kernel_rfl)
          have y4 : L 4 = true := shut_at hs 5 4 (by kernel_rfl) (shut_at hs 6 5 (by kernel_rfl) (shut_at hs 7 6 (by kernel_rfl) (up_at hu 7 (by kernel_rfl))))
          have y5 : L 5 = true := shut_at hs 6 5 (by kernel_rfl) (shut_at hs 7 6 (by kernel_rfl) (up_at hu 7 (by kernel_rfl)))
          have y6 : L 6 = true := shut_at hs 7 6 (by kernel_rfl) (up_at hu 7 (by kernel_rfl))
          have y7 : L 7 = true := up_at hu 7 (by kernel_rfl)
          have y10 : L 10 = true := up_at hu 10 (by kernel_rfl)
          have y12 : L 12 = true := up_at hu 12 (by kernel_rfl)
          have n15 : L 15 = false := not_yet hL fun h => shut_at hs 15 13 (by kernel_rfl) (h)
          simp only [y0, y1, y2, y3, y4, y5, y6, y7, y10, y12, n15, hL, cond_true, cond_false] at hph
          have a0 : w'.cell? ⟨bm + 2, 0, none⟩ = some (.int .i64 0) := by rw [hph]; exact x0
          have af : w'.frozen? ⟨bm + 2, 0, none⟩ = false := by rw [hph]; exact xf
          refine opIn_skip (w' := w'.setCell ⟨bm + 2, 0, none⟩ (.int .i64 LO)) rfl rfl (fun c h => by cases h) (fun _ => trivial) ?_ ⟨by simp [Act.put, upd, y0, y1, y2, y3, y4, y5, y6, y7, y10, y12, n15, hL], by simp only [upd, y0, y1, y2, y3, y4, y5, y6, y7, y10, y12, n15, hL]; exact (by simp [hph])⟩
          simp only [y0, y1, y2, y3, y4, y5, y6, y7, y10, y12, n15, hL, cond_true, cond_false]
          go_simp
        · skip
          have y0 : L 0 = true := up_at hu 0 (by kernel_rfl)
          have y1 : L 1 = true := up_at hu 1 (by kernel_rfl)
          have y2 : L 2 = true := up_at hu 2 (by kernel_rfl)
          have y3 : L 3 = true := up_at hu 3 (by kernel_rfl)
          have y4 : L 4 = true := up_at hu 4 (by kernel_rfl)
          have y5 : L 5 = true := up_at hu 5 (by kernel_rfl)
          have y6 : L 6 = true := up_at hu 6 (by kernel_rfl)
          have y7 : L 7 = true := up_at hu 7 (by kernel_rfl)
          have y8 : L 8 = true := up_at hu 8 (by kernel_rfl)
          have y9 : L 9 = true := up_at hu 9 (by kernel_rfl)
          have y10 : L 10 = true := up_at hu 10 (by kernel_rfl)
          have y11 : L 11 = true := up_at hu 11 (by kernel_rfl)
          have y12 : L 12 = true := up_at hu 12 (by kernel_rfl)
          have y13 : L 13 = true := up_at hu 13 (by kernel_rfl)
          have n15 : L 15 = false := not_yet hL fun h => shut_at hs 15 14 (by kernel_rfl) (h)
          refine opIn_run (v := .pointer (some ⟨bm + 2, M, none⟩)) (w' := w') rfl rfl (fun c h => by cases h) (fun _ => trivial) ?_ ⟨by simp [Act.put, upd, y0, y1, y2, y3, y4, y5, y6, y7, y8, y9, y10, y11, y12, y13, n15, hL], by simpa [upd] using hph⟩
          simp only [y0, y1, y2, y3, y4, y5, y6, y7, y8, y9, y10, y11, y12, y13, n15, hL, cond_true, cond_false]
          go_simp
        · skip
          have y0 : L 0 = true := up_at hu 0 (by kernel_rfl)
          have y1 : L 1 = true := up_at hu 1 (by kernel_rfl)
          have y2 : L 2 = true := up_at hu 2 (by kernel_rfl)
          have y3 : L 3 = true := up_at hu 3 (by kernel_rfl)
          have y4 : L 4 = true := up_at hu 4 (by kernel_rfl)
          have y5 : L 5 = true := up_at hu 5 (by kernel_rfl)
          have y6 : L 6 = true := up_at hu 6 (by kernel_rfl)
          have y7 : L 7 = true := up_at hu 7 (by kernel_rfl)
          have y8 : L 8 = true := up_at hu 8 (by kernel_rfl)
          have y9 : L 9 = true := up_at hu 9 (by kernel_rfl)
          have y10 : L 10 = true := up_at hu 10 (by kernel_rfl)
          have y11 : L 11 = true := up_at hu 11 (by kernel_rfl)
          have y12 : L 12 = true := up_at hu 12 (by kernel_rfl)
          have y13 : L 13 = true := up_at hu 13 (by kernel_rfl)
          have y14 : L 14 = true := up_at hu 14 (by kernel_rfl)
          simp only [y0, y1, y2, y3, y4, y5, y6, y7, y8, y9, y10, y11, y12, y13, y14, hL, cond_true, cond_false] at hph
          obtain ⟨ux, x1'⟩ := x1
          have a0 : w'.cell? ⟨bm + 2, M, none⟩ = some (.int .i64 ux) := by rw [hph]; exact x1'
          have af : w'.frozen? ⟨bm + 2, M, none⟩ = false := by rw [hph]; exact yf
          refine opIn_skip (w' := w'.setCell ⟨bm + 2, M, none⟩ (.int .i64 HI)) rfl rfl (fun c h => by cases h) (fun _ => trivial) ?_ ⟨by simp [Act.put, upd, y0, y1, y2, y3, y4, y5, y6, y7, y8, y9, y10, y11, y12, y13, y14, hL], by simp only [upd, y0, y1, y2, y3, y4, y5, y6, y7, y8, y9, y10, y11, y12, y13, y14, hL]; exact (by simp [hph])⟩
          simp only [y0, y1, y2, y3, y4, y5, y6, y7, y8, y9, y10, y11, y12, y13, y14, hL, cond_true, cond_false]
          go_simp
      case fin4 =>
        intro L a' w' hall hI
        obtain ⟨rfl, hph⟩ := hI
        have l0 := hall 0 (by decide)
        have l1 := hall 1 (by decide)
        have l2 := hall 2 (by decide)
        have l3 := hall 3 (by decide)
        have l4 := hall 4 (by decide)
        have l5 := hall 5 (by decide)
        have l6 := hall 6 (by decide)
        have l7 := hall 7 (by decide)
        have l8 := hall 8 (by decide)
        have l9 := hall 9 (by decide)
        have l10 := hall 10 (by decide)
        have l11 := hall 11 (by decide)
        have l12 := hall 12 (by decide)
        have l13 := hall 13 (by decide)
        have l14 := hall 14 (by decide)
        have l15 := hall 15 (by decide)
        simp only [l0, l1, l2, l3, l4, l5, l6, l7, l8, l9, l10, l11, l12, l13, l14, l15, cond_true] at hph ⊢
        clear l0 l1 l2 l3 l4 l5 l6 l7 l8 l9 l10 l11 l12 l13 l14 l15 hall
        have SE : Hid (SA w w' bm cb x y (d : Int) dx dy a5 (.slice (some ⟨bm + 2, 0, none⟩) N N)) := Lib.hid (by rw [hph]; exact (SX.out.setN (nb := bm + 2) (by omega) 0 (.int .i64 LO)).setN (nb := bm + 2) (by omega) M (.int .i64 HI))
        have LE : Hid (Lst w' w'.heap.size (some ⟨bm + 2, 0, none⟩) ((((List.replicate N (0 : Int)).set 0 LO).set M HI).map (Value.int .i64)) ∧ (((List.replicate N (0 : Int)).set 0 LO).set M HI).length = N) := Lib.hid ⟨by rw [hph]; exact ((BX.out.set 0 LO).set M HI).lst, by simp⟩
        have VE : Hid (smpF d a5 N 0 0 nx ny (((List.replicate N (0 : Int)).set 0 LO).set M HI) = 0) := Lib.hid (sa_in HNX.out.2.2 (fun z hz => by
          rw [HLH.out.1, HLH.out.2]
          rcases List.mem_or_eq_of_mem_set hz with hz | rfl
          · rcases List.mem_or_eq_of_mem_set hz with hz | rfl
            · rw [List.eq_of_mem_replicate hz]; omega
            · omega
          · omega))
        clear hph SX BX c4x x0 x1 xf yf
        obtain ⟨g0, g1, g2, g3, g4⟩ := img_cells SE.out.m
        obtain ⟨k0, k1, k2, k3, k4, k5, k6, k7, k8, k9, k10, k11⟩ := par_cells SE.out.p
        have CK := Lib.hid (sa_chk SE.out.c LE.out.1 LE.out.2 (by omega) hxb hyb hdb hdxb hdyb HNX.out.1 HNX.out.2.1)
        have HB := Lib.hid SE.out.bel
        rw [VE.out] at CK
        clear SE LE SD BD
        go_wp2_with fail
        refine CK.out.mono ?_
        rintro e w2 ⟨rfl, hb⟩
        have HB2 := Lib.hid (HB.out.trans (hb.mono HB.out.size))
        clear hb CK g0 g1 g2 g3 g4 k0 k1 k2 k3 k4 k5 k6 k7 k8 k9 k10 k11
        go_wp2
        go_ret
        exact ⟨rfl, HB2.out⟩
    · skip
      have SE := SD
      have LE : Hid (Lst WD WD.heap.size (some ⟨bm + 2, 0, none⟩) ((List.replicate N (0 : Int)).map (Value.int .i64)) ∧ (List.replicate N (0 : Int)).length = N) := Lib.hid ⟨BD.out.lst, by simp⟩
      have VE : Hid (smpF d a5 N 0 0 nx ny (List.replicate N (0 : Int)) = 0) := Lib.hid (sa_in HNX.out.2.2 (fun z hz => by rw [List.eq_of_mem_replicate hz, HLH.out.1, HLH.out.2]; omega))
      obtain ⟨g0, g1, g2, g3, g4⟩ := img_cells SE.out.m
      obtain ⟨k0, k1, k2, k3, k4, k5, k6, k7, k8, k9, k10, k11⟩ := par_cells SE.out.p
      have CK := Lib.hid (sa_chk SE.out.c LE.out.1 LE.out.2 (by omega) hxb hyb hdb hdxb hdyb HNX.out.1 HNX.out.2.1)
      have HB := Lib.hid SE.out.bel
      rw [VE.out] at CK
      clear SE LE SD BD
      go_wp2_with fail
      refine CK.out.mono ?_
      rintro e w2 ⟨rfl, hb⟩
      have HB2 := Lib.hid (HB.out.trans (hb.mono HB.out.size))
      clear hb CK g0 g1 g2 g3 g4 k0 k1 k2 k3 k4 k5 k6 k7 k8 k9 k10 k11
      go_wp2
      go_ret
      exact ⟨rfl, HB2.out⟩
end Go.Proofs.Ythcpmonahmogaaa
