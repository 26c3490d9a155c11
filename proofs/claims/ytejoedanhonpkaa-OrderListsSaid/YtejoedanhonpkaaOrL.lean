/- Packets in order: OrderLists walked. -/
import Derived.Test.YtejoedanhonpkaaOrRh
import Derived.Laws.Rows
import Derived.Deep.QuietTactic
import Derived.BigQuiet
import Derived.Deep.CutRange
import Derived.Deep.CutBlock
import Derived.Deep.LoopGhost
import Derived.Test.YtejoedanhonpkaaOrL0
set_option linter.unusedVariables false
set_option linter.unusedSimpArgs false
namespace Go.Proofs.Ytejoedanhonpkaa
section
section
open Go.RowKit Go.Shelf
set_option maxRecDepth 100000
attribute [local go_sem] Oper.semAt_some
attribute [local go_sem ↓] appSem_eq
theorem own_cap {w : World} {B s n c : Nat} {A : Option Addr} {e : TypeId} {xs : List Value} (h : w.ownsRow B e s (.slice A n c) n xs) : n ≤ c := by
  rcases h.2 with ⟨h1, h2⟩ | ⟨g, cap, cur, hv, _, _, hc, _⟩
  · omega
  · injection hv with _ _ h3
    omega
theorem rks_succ (G : GE) (l : Nat) : ((List.range (l + 1)).flatMap fun l => G.spots.map fun s => s.at l) = ((List.range l).flatMap fun l => G.spots.map fun s => s.at l) ++ G.spots.map fun s => s.at l := by simp [List.range_succ]
theorem app_rkey {w : World} {base m z : Nat} {v : Value} {xs : List Value} {x : Pk} (hown : w.ownsRow base 43 4 v m xs) (hz : w.heap[z]? = some (.cells #[.int .i64 x.ly, .int .i64 x.rs, .int .i64 x.cp, .int .i64 x.pc] 43 (0, 0))) (hb : base ≤ w.heap.size) (hm : m ≤ 20000000) :
    ∃ v' w', (appSem #[39, 39] 39 #[v, .slice (some ⟨z, 0, none⟩) 1 1]).run Try.prog w = .ok v' w' ∧ w'.ownsRow base 43 4 v' (m + 1) (xs ++ x.key) ∧ w.grownBy w' v.ownBlock := by
  obtain ⟨i0, hi, hzz⟩ := Option.map_eq_some_iff.1 (show (Try.prog.info? 43).map (fun i => (i.zero, i.size, i.bytes)) = some (some (.agg #[.int .i64 0, .int .i64 0, .int .i64 0, .int .i64 0]), 4, 32) by kernel_rfl)
  simp only [Prod.mk.injEq] at hzz
  obtain ⟨hz0, hz1, hz2⟩ := hzz
  obtain ⟨v', w', hr, hown', hg, _, hat⟩ := run_append_own_at (P := Try.prog) w base 39 39 43 i0 _ 4 32 (by kernel_rfl) hi hz0 hz1 hz2 rfl (by decide) v m xs hown ⟨z, 0, none⟩ 1 1 x.key rfl (fun j u hu => by
    rcases j with _ | _ | _ | _ | j
    · simp at hu; subst hu; simp [World.cell?, Addr.add, hz]
    · simp at hu; subst hu; simp [World.cell?, Addr.add, hz]
    · simp at hu; subst hu; simp [World.cell?, Addr.add, hz]
    · simp at hu; subst hu; simp [World.cell?, Addr.add, hz]
    · simp at hu) (fun u hu => by
    simp at hu
    rcases hu with rfl | rfl | rfl | rfl <;> rfl) (by unfold maxLen; omega) (by omega) hb
  exact ⟨v', w', hr, hown', hg⟩
theorem own_rkeyR {w : World} {B c n : Nat} {A : Option Addr} {L : List Pk} (h : w.ownsRow B 43 4 (.slice A n c) n (L.flatMap Pk.key)) (hl : L.length = n) : KeyR w A L := fun i x e => by
  have hi : i < L.length := (List.getElem?_eq_some_iff.1 e).1
  obtain ⟨g, c', hV, _⟩ := own_form h (by omega)
  cases hV
  obtain ⟨k0, k1, k2, k3⟩ := flat4 L i x e
  have f0 := h.cellAt (i * 4) (by omega)
  have f1 := h.cellAt (i * 4 + 1) (by omega)
  have f2 := h.cellAt (i * 4 + 2) (by omega)
  have f3 := h.cellAt (i * 4 + 3) (by omega)
  exact ⟨g, 0, rfl, (own_lt h rfl).2, by simpa using f0.trans k0, by simpa using f1.trans k1, by simpa using f2.trans k2, by simpa using f3.trans k3⟩
set_option maxHeartbeats 16000000 in
theorem rlist_any (lo o : Nat) (ho : o < 5) (X0 Y0 X1 Y1 IX IY IOX IOY : Int) (A2 : Option Addr) (nc C2 : Nat) (cs : List Cp) (TX TY BW BH STY : Int) (RC SO EP : Bool) (LV PR LY : Nat) (w : World)
    (ht : inN (X0, Y0, X1, Y1) 255) (hto : Ord4 (X0, Y0, X1, Y1)) (hcs : ∀ (i : Nat) (c : Cp), cs[i]? = some c → (1 ≤ c.dx ∧ c.dx ≤ 4) ∧ (1 ≤ c.dy ∧ c.dy ≤ 4)) (hn4 : nc ≤ 4) (hn : cs.length = nc) (hlv : LV ≤ 5) (hpr : 1 ≤ PR ∧ PR ≤ 15) (hly : LY ≤ 8)
    (hcr : CRow lo w (.slice A2 nc C2) cs) (G : GE) (hG : geo (X0, Y0, X1, Y1) (cs.map fun c => (c.dx, c.dy)) LV PR = G) :
    Calls Try.prog 14 #[.agg #[.int .i64 X0, .int .i64 Y0, .int .i64 X1, .int .i64 Y1], .agg #[.int .i64 IX, .int .i64 IY, .int .i64 IOX, .int .i64 IOY, .slice A2 nc C2], .agg #[.int .i64 TX, .int .i64 TY, .int .i64 (LV : Int), .int .i64 BW, .int .i64 BH, .int .i64 (PR : Int), .int .i64 STY, .int .i64 (o : Int), .int .i64 (LY : Int), .bool RC, .bool SO, .bool EP]] w fun e w' => ∃ (M : List Pk) (A : Option Addr) (m c : Nat), e = .returned (.slice A m c) ∧ M.length = m ∧ OL G LY o M ∧ KeyR w' A M ∧ Below w.heap.size w w' := by
  have SPO := Lib.hid (fun u (hu : Below w.heap.size w u) => rspots_any lo X0 Y0 X1 Y1 IX IY IOX IOY A2 nc C2 cs TX TY BW BH STY (o : Int) (LY : Int) RC SO EP LV PR u ht hto hcs hn4 hn hlv hpr (hcr.below hu) G hG)
  clear ht hto hcs hn hcr hG
  go_enter Try.func14, Try.ntmps14
  go_upto_region 2 with fail
  obtain ⟨B, hB⟩ : ∃ B, w.heap.size = B := ⟨_, rfl⟩
  obtain ⟨W3, hW3⟩ : ∃ W3, ((w.alloc (Obj.cells #[.int .i64 X0, .int .i64 Y0, .int .i64 X1, .int .i64 Y1] 38)).alloc (Obj.cells #[.int .i64 IX, .int .i64 IY, .int .i64 IOX, .int .i64 IOY, .slice A2 nc C2] 28)).alloc (Obj.cells #[.int .i64 TX, .int .i64 TY, .int .i64 (LV : Int), .int .i64 BW, .int .i64 BH, .int .i64 (PR : Int), .int .i64 STY, .int .i64 (o : Int), .int .i64 (LY : Int), .bool RC, .bool SO, .bool EP] 30) = W3 := ⟨_, rfl⟩
  have HM3 : Hid (MkW w B [(#[.int .i64 X0, .int .i64 Y0, .int .i64 X1, .int .i64 Y1], 38), (#[.int .i64 IX, .int .i64 IY, .int .i64 IOX, .int .i64 IOY, .slice A2 nc C2], 28), (#[.int .i64 TX, .int .i64 TY, .int .i64 (LV : Int), .int .i64 BW, .int .i64 BH, .int .i64 (PR : Int), .int .i64 STY, .int .i64 (o : Int), .int .i64 (LY : Int), .bool RC, .bool SO, .bool EP], 30)] W3) := Lib.hid (by
    have h0 : MkW w B [] w := ⟨fun i c e => by simp at e, Below.refl _ _, by simp; omega⟩
    have h1 := ((h0.more (by simp; omega) #[.int .i64 X0, .int .i64 Y0, .int .i64 X1, .int .i64 Y1] 38).more (by simp; omega) #[.int .i64 IX, .int .i64 IY, .int .i64 IOX, .int .i64 IOY, .slice A2 nc C2] 28).more (by simp; omega) #[.int .i64 TX, .int .i64 TY, .int .i64 (LV : Int), .int .i64 BW, .int .i64 BH, .int .i64 (PR : Int), .int .i64 STY, .int .i64 (o : Int), .int .i64 (LY : Int), .bool RC, .bool SO, .bool EP] 30
    rw [← hW3]; exact h1)
  rw [hW3, hB]
  have HB := Lib.hid hB
  clear hW3 hB
  have t0' : W3.cell? ⟨B, 0, none⟩ = some (.int .i64 X0) := blk_cell (show W3.heap[B]? = _ from HM3.out.b 0 _ rfl) 0
  have t1' : W3.cell? ⟨B, 1, none⟩ = some (.int .i64 Y0) := blk_cell (show W3.heap[B]? = _ from HM3.out.b 0 _ rfl) 1
  have t2' : W3.cell? ⟨B, 2, none⟩ = some (.int .i64 X1) := blk_cell (show W3.heap[B]? = _ from HM3.out.b 0 _ rfl) 2
  have t3' : W3.cell? ⟨B, 3, none⟩ = some (.int .i64 Y1) := blk_cell (show W3.heap[B]? = _ from HM3.out.b 0 _ rfl) 3
  have i0' : W3.cell? ⟨B + 1, 0, none⟩ = some (.int .i64 IX) := blk_cell (HM3.out.b 1 _ rfl) 0
  have i1' : W3.cell? ⟨B + 1, 1, none⟩ = some (.int .i64 IY) := blk_cell (HM3.out.b 1 _ rfl) 1
  have i2' : W3.cell? ⟨B + 1, 2, none⟩ = some (.int .i64 IOX) := blk_cell (HM3.out.b 1 _ rfl) 2
  have i3' : W3.cell? ⟨B + 1, 3, none⟩ = some (.int .i64 IOY) := blk_cell (HM3.out.b 1 _ rfl) 3
  have i4' : W3.cell? ⟨B + 1, 4, none⟩ = some (.slice A2 nc C2) := blk_cell (HM3.out.b 1 _ rfl) 4
  have j0' : W3.cell? ⟨B + 1 + 1, 0, none⟩ = some (.int .i64 TX) := blk_cell (show W3.heap[B + 2]? = _ from HM3.out.b 2 _ rfl) 0
  have j1' : W3.cell? ⟨B + 1 + 1, 1, none⟩ = some (.int .i64 TY) := blk_cell (show W3.heap[B + 2]? = _ from HM3.out.b 2 _ rfl) 1
  have j2' : W3.cell? ⟨B + 1 + 1, 2, none⟩ = some (.int .i64 (LV : Int)) := blk_cell (show W3.heap[B + 2]? = _ from HM3.out.b 2 _ rfl) 2
  have j3' : W3.cell? ⟨B + 1 + 1, 3, none⟩ = some (.int .i64 BW) := blk_cell (show W3.heap[B + 2]? = _ from HM3.out.b 2 _ rfl) 3
  have j4' : W3.cell? ⟨B + 1 + 1, 4, none⟩ = some (.int .i64 BH) := blk_cell (show W3.heap[B + 2]? = _ from HM3.out.b 2 _ rfl) 4
  have j5' : W3.cell? ⟨B + 1 + 1, 5, none⟩ = some (.int .i64 (PR : Int)) := blk_cell (show W3.heap[B + 2]? = _ from HM3.out.b 2 _ rfl) 5
  have j6' : W3.cell? ⟨B + 1 + 1, 6, none⟩ = some (.int .i64 STY) := blk_cell (show W3.heap[B + 2]? = _ from HM3.out.b 2 _ rfl) 6
  have j7' : W3.cell? ⟨B + 1 + 1, 7, none⟩ = some (.int .i64 (o : Int)) := blk_cell (show W3.heap[B + 2]? = _ from HM3.out.b 2 _ rfl) 7
  have j8' : W3.cell? ⟨B + 1 + 1, 8, none⟩ = some (.int .i64 (LY : Int)) := blk_cell (show W3.heap[B + 2]? = _ from HM3.out.b 2 _ rfl) 8
  have j9' : W3.cell? ⟨B + 1 + 1, 9, none⟩ = some (.bool RC) := blk_cell (show W3.heap[B + 2]? = _ from HM3.out.b 2 _ rfl) 9
  have j10' : W3.cell? ⟨B + 1 + 1, 10, none⟩ = some (.bool SO) := blk_cell (show W3.heap[B + 2]? = _ from HM3.out.b 2 _ rfl) 10
  have j11' : W3.cell? ⟨B + 1 + 1, 11, none⟩ = some (.bool EP) := blk_cell (show W3.heap[B + 2]? = _ from HM3.out.b 2 _ rfl) 11
  go_wp2_with fail
  clear t0' t1' t2' t3' i0' i1' i2' i3' i4' j0' j1' j2' j3' j4' j5' j6' j7' j8' j9' j10' j11'
  refine (SPO.out W3 (by rw [HB.out]; exact HM3.out.bel)).mono ?_
  rintro e W4 ⟨SA, m, SC, rfl, hm, hm15, hos, hb4⟩
  have HM4 := Lib.hid (HM3.out.keep hb4)
  have HB4 : Hid (B ≤ W4.heap.size ∧ W3.heap.size ≤ W4.heap.size ∧ B ≤ W3.heap.size) := Lib.hid (by have h1 := HM3.out.bel.size; rw [HB.out] at h1; exact ⟨Nat.le_trans h1 hb4.size, hb4.size, h1⟩)
  have HS4 : Hid (W4.ownsRow W3.heap.size 75 5 (.slice SA m SC) m (G.spots.flatMap Pk.spv) ∧ G.spots.length = m) := Lib.hid ⟨hos, hm.symm⟩
  clear hos hm hb4 HM3 SPO
  go_wp2_with fail
  go_loopg [7, 9] LY (fun g a v wr => ∃ (l nn : Nat) (Va : Option Addr) (Vc : Nat) (zs : List Pk), l + g = LY ∧ a = .slice Va nn Vc ∧ v = .int .i64 (l : Int) ∧ Hid (wr.ownsRow B 78 10 (.slice Va nn Vc) nn (zs.flatMap (encK o)) ∧ KpT 78 W4 wr ∧ Below B W4 wr) ∧ Hid (zs = ((List.range l).flatMap fun l => G.spots.map fun s => s.at l) ∧ nn = l * m))
  case atStart => exact ⟨0, 0, none, 0, [], by omega, rfl, rfl, Lib.hid ⟨World.ownsRow_nil _ _ _ _, KpT.refl _ _, Below.refl _ _⟩, Lib.hid ⟨rfl, by simp⟩⟩
  case round =>
    obtain ⟨l, nn, Va, Vc, zs, hlg, rfl, rfl, HI, HZ⟩ := hrel
    obtain ⟨wa, hwa⟩ : ∃ wa, wa = wr := ⟨wr, rfl⟩
    subst hwa
    have hpW := HI.out.2.1.k (B + 2) _ _ (HM4.out.b 2 _ rfl) (by show 30 ≠ 78; decide)
    have j8' : wa.cell? ⟨B + 1 + 1, 8, none⟩ = some (.int .i64 (LY : Int)) := blk_cell hpW 8
    have hnm : nn ≤ 8 * 1560600 := by
      rw [HZ.out.2]
      exact Nat.mul_le_mul (by omega) hm15
    by_cases hl : l < LY
    · obtain ⟨g1, rfl⟩ : ∃ g1, gk = g1 + 1 := ⟨gk - 1, by omega⟩
      have hlI : (l : Int) < (LY : Int) := by omega
      have HPB : Hid (wa.heap[B + 1 + 1]? = some (.cells #[.int .i64 TX, .int .i64 TY, .int .i64 (LV : Int), .int .i64 BW, .int .i64 BH, .int .i64 (PR : Int), .int .i64 STY, .int .i64 (o : Int), .int .i64 (LY : Int), .bool RC, .bool SO, .bool EP] 30 (0, 0))) := Lib.hid hpW
      have HSl : Hid (wa.ownsRow W3.heap.size 75 5 (.slice SA m SC) m (G.spots.flatMap Pk.spv) ∧ G.spots.length = m) := Lib.hid ⟨HI.out.2.1.own HS4.out.1 (by decide), HS4.out.2⟩
      have HOl : Hid (wa.ownsRow B 78 10 (.slice Va nn Vc) nn (zs.flatMap (encK o)) ∧ B ≤ wa.heap.size) := Lib.hid ⟨HI.out.1, Nat.le_trans HB4.out.1 HI.out.2.1.size⟩
      have hnm2 : nn + m ≤ 13000000 := by
        have h1 : nn + m = (l + 1) * m := by rw [HZ.out.2, Nat.succ_mul]
        rw [h1]
        exact Nat.le_trans (Nat.mul_le_mul (show l + 1 ≤ 8 by omega) hm15) (by decide)
      have HZN : Hid (zs ++ (G.spots.map fun s => s.at l) = ((List.range (l + 1)).flatMap fun l => G.spots.map fun s => s.at l) ∧ nn + m = (l + 1) * m) := Lib.hid ⟨by rw [rks_succ, ← HZ.out.1], by rw [HZ.out.2, Nat.succ_mul]⟩
      clear hpW hnm
      go_upto_block 2 with fail
      clear j8'
      refine wp_code (c' := blkOf Try.f14 2) (by kernel_rfl) (rlist_l (B + 1 + 1) m B W3.heap.size nn l o LV PR LY TX TY BW BH STY RC SO EP SA SC G.spots Va Vc zs wa HPB HSl HOl ho hnm2 ?_)
      intro v23 v24 v25 v26 v27 v28 v29 v30 v31 v32 v33 v34 v35 v36 v37 v38 v39 v40 v41 v42 v43 v44 v45 v46 v47 v48 v49 v50 v51 v52 v53 v54 v55 v56 v57 W' Va3 Vc3 H2
      have HN9 : Hid (W'.ownsRow B 78 10 (.slice Va3 (nn + m) Vc3) (nn + m) ((zs ++ (G.spots.map fun s => s.at l)).flatMap (encK o)) ∧ KpT 78 W4 W' ∧ Below B W4 W') := Lib.hid ⟨H2.out.1, HI.out.2.1.trans H2.out.2.1, HI.out.2.2.trans H2.out.2.2⟩
      clear H2 HI HPB HSl HOl
      go_wp2
      go_roundg g1
      case measure => omega
      case rel => exact ⟨l + 1, _, Va3, Vc3, _, by omega, rfl, by go_num, HN9, HZN⟩
    · obtain rfl : LY = l := by omega
      have hlI : ¬ (LY : Int) < (LY : Int) := by omega
      have hlen : zs.length = nn := by
        have h1 := HI.out.1.1
        have h2 : (zs.flatMap (encK o)).length = zs.length * 10 := by
          clear h1 HZ HI
          induction zs with
          | nil => rfl
          | cons a t ih => rw [List.flatMap_cons, List.length_append, ih, encK_len, List.length_cons]; omega
        omega
      have HZP : Hid (zs.Perm (G.pks LY)) := Lib.hid (by rw [HZ.out.1]; exact G.perm LY)
      have SRT : Hid (Calls Try.prog 32 #[.slice Va nn Vc] wa fun e w' => ∃ (V : Option Addr) (c : Nat) (M : List Pk), e = .returned (.slice V nn c) ∧ RkR o w' V M ∧ M.length = nn ∧ OL G LY o M ∧ Below wa.heap.size wa w') := Lib.hid (by
        refine (rsort_any o nn zs Va Vc wa hlen (own_cap HI.out.1) (by omega) (own_rkR HI.out.1 hlen)).mono ?_
        rintro e w' ⟨V, c, M, rfl, h1, h2, h3, h4⟩
        exact ⟨V, c, M, rfl, h1, by rw [h2.length_eq, hlen], ⟨h2.trans HZP.out, h3⟩, h4⟩)
      have HBa : Hid (Below B w wa) := Lib.hid (HM4.out.bel.trans HI.out.2.2)
      clear HI HZ hlen HZP hpW
      go_wp2_with fail
      refine SRT.out.mono ?_
      rintro e W5 ⟨V, c5, M, rfl, hR, hml, hOL, hb5⟩
      have HR := Lib.hid hR
      have HML := Lib.hid hml
      have HOL := Lib.hid hOL
      have HB5 : Hid (Below B w W5 ∧ w.heap.size = B) := Lib.hid ⟨HBa.out.trans (hb5.mono (by have := HBa.out.size; have := HB.out; omega)), HB.out⟩
      obtain ⟨N5, hN5⟩ : ∃ n, W5.heap.size = n := ⟨_, rfl⟩
      have HN5 := Lib.hid hN5
      clear hR hml hOL hb5 HBa SRT j8' hN5 HS4 HM4
      go_wp2_with fail
      go_loopg [11, 12] nn (fun g a v wr => ∃ (i : Nat) (Ka : Option Addr) (Kc : Nat), i + g = nn ∧ a = .slice Ka i Kc ∧ v = .int .i64 (i : Int) ∧ Hid (wr.ownsRow N5 43 4 (.slice Ka i Kc) i ((M.take i).flatMap Pk.key) ∧ Below N5 W5 wr))
      case atStart => exact ⟨0, none, 0, by omega, rfl, rfl, Lib.hid ⟨World.ownsRow_nil _ _ _ _, Below.refl _ _⟩⟩
      case round =>
       obtain ⟨i, Ka, Kc, hig, rfl, rfl, HK⟩ := hrel
       obtain ⟨wa, hwa⟩ : ∃ wa, wa = wr := ⟨wr, rfl⟩
       subst hwa
       by_cases hin : i < nn
       · obtain ⟨g1, rfl⟩ : ∃ g1, gk = g1 + 1 := ⟨gk - 1, by omega⟩
         have hiI : (i : Int) < (nn : Int) ∧ ¬ (i : Int) < 0 := by omega
         obtain ⟨x, hx⟩ : ∃ x, M[i]? = some x := ⟨_, List.getElem?_eq_getElem (by rw [HML.out]; exact hin)⟩
         obtain ⟨vg, vq, rfl, hvl, hvr⟩ := HR.out i x hx
         obtain ⟨a0, a1, a2, a3, a4, a5, ha⟩ := rk_six o x
         have hbw : Below W5.heap.size W5 wa := by rw [HN5.out]; exact HK.out.2
         obtain ⟨p0, p1, p2, p3, _, _, _, _, _, _⟩ := row10 (show World.rangeAt wa _ _ _ from fun j_ v_ hv_ => (hbw.cell (p := ⟨vg, _, none⟩) hvl).trans (hvr j_ v_ hv_)) ha
         have HX := Lib.hid hx
         have hNw : N5 ≤ wa.heap.size := by have := HK.out.2.size; have := HN5.out; omega
         obtain ⟨X, hX⟩ : ∃ X, wa.alloc (.cells #[.int .i64 x.ly, .int .i64 x.rs, .int .i64 x.cp, .int .i64 x.pc] 43) = X := ⟨_, rfl⟩
         obtain ⟨zx, hzx⟩ : ∃ z, wa.heap.size = z := ⟨_, rfl⟩
         have hzX : X.heap[zx]? = some (.cells #[.int .i64 x.ly, .int .i64 x.rs, .int .i64 x.cp, .int .i64 x.pc] 43 (0, 0)) := by rw [← hX, ← hzx]; exact World.alloc_heap_new wa _
         have hbX : Below wa.heap.size wa X := by rw [← hX]; exact (Below.refl _ _).alloc (Nat.le_refl _) _
         have hoX : X.ownsRow N5 43 4 (.slice Ka i Kc) i ((M.take i).flatMap Pk.key) := ownsRow_keep HK.out.1 hbX.size (fun k hk => hbX.block k (own_lt HK.out.1 hk).2)
         obtain ⟨V', w7, hr, ho7, hg7⟩ := app_rkey hoX hzX (Nat.le_trans hNw hbX.size) (by omega)
         obtain ⟨A7, c7, rfl, _⟩ := own_any ho7
         have HK7 : Hid (w7.ownsRow N5 43 4 (.slice A7 (i + 1) c7) (i + 1) ((M.take (i + 1)).flatMap Pk.key) ∧ Below N5 W5 w7) := Lib.hid (by
           refine ⟨?_, (HK.out.2.trans (hbX.mono hNw)).grown hg7 (Nat.le_trans hNw hbX.size) (fun k e => (own_lt hoX e).1)⟩
           rw [List.take_add_one, HX.out, List.flatMap_append]
           simpa using ho7)
         clear hx hvl hvr ha hbw hNw hzX hbX hoX ho7 hg7 HK
         go_wp2_with fail
         go_roundg g1
         case measure => omega
         case rel => exact ⟨i + 1, A7, c7, by omega, rfl, by go_num, HK7⟩
       · obtain rfl : nn = i := by omega
         have hiI : ¬ (nn : Int) < (nn : Int) := by omega
         have HE : Hid (KeyR wa Ka M ∧ Below w.heap.size w wa) := Lib.hid (by
           have h1 := HK.out.1
           rw [List.take_of_length_le (Nat.le_of_eq HML.out)] at h1
           refine ⟨own_rkeyR h1 HML.out, ?_⟩
           rw [HB5.out.2]
           exact HB5.out.1.trans (HK.out.2.mono (by have := HB5.out.1.size; have := HN5.out; have := HB5.out.2; omega)))
         clear HK
         go_wp2
         go_ret
         exact ⟨M, Ka, nn, ⟨Kc, rfl⟩, HML.out, HOL.out, HE.out.1, HE.out.2⟩
end
section
open Go.RowKit
set_option maxRecDepth 100000
set_option maxHeartbeats 16000000 in
theorem lists_k {u0 u1 u2 u3 u4 u5 u6 u7 u11 u12 u13 u14 u15 u16 u17 u18 u19 u20 u21 u22 u23 u24 u25 u26 u27 u28 u29 u30 u31 u32 u33 u34 u35 u36 u37 u38 u39 u40 u41 u42 u43 u44 u45 u46 u47 u48 u49 u50 u51 u52 u53 u54 u55 u56 u57 u58 u59 u60 u61 u62 u63 u64 u65 u66 u67 u68 u69 u70 u71 u72 u73 u74 u75 u76 u77 u78 u79 u80 u81 u82 u83 u84 u85 u86 u87 u88 u89 u90 u91 u92 u93 u94 u95 u96 u97 u98 u99 u100 u101 u102 u103 u104 u105 u106 u107 : Value} (m KC KD : Nat) (KA KB : Option Addr) (M : List Pk) (W : World)
    (HK : Hid (M.length = m ∧ KeyR W KA M ∧ KeyR W KB M)) (hm : m ≤ 13000000) {Q : Exit → Act → World → Prop}
    (hQ : ∀ (v2 v52 v53 v54 v55 v56 v57 v58 v59 v60 v61 v62 v63 v64 v65 v66 v67 v68 v69 v70 v71 v72 v73 v74 v75 v76 v77 v78 v79 v80 v81 v82 v83 v84 v85 v86 v87 v88 v89 v90 v91 v92 v93 v94 v95 v96 v97 v98 v99 v100 v101 v102 v103 v104 v105 v106 v107 : Value) (W' : World), Hid (Below W.heap.size W W') → Q .normal ⟨#[u0, u1, v2, u3, u4, u5, u6, u7, .slice KA m KC, .slice KB m KD, .int .i64 (m : Int), u11, u12, u13, u14, u15, u16, u17, u18, u19, u20, u21, u22, u23, u24, u25, u26, u27, u28, u29, u30, u31, u32, u33, u34, u35, u36, u37, u38, u39, u40, u41, u42, u43, u44, u45, u46, u47, u48, u49, u50, u51, v52, v53, v54, v55, v56, v57, v58, v59, v60, v61, v62, v63, v64, v65, v66, v67, v68, v69, v70, v71, v72, v73, v74, v75, v76, v77, v78, v79, v80, v81, v82, v83, v84, v85, v86, v87, v88, v89, v90, v91, v92, v93, v94, v95, v96, v97, v98, v99, v100, v101, v102, v103, v104, v105, v106, v107], []⟩ W') :
    (blkOf Try.f3 4).wp Try.prog Q ⟨#[u0, u1, u2, u3, u4, u5, u6, u7, .slice KA m KC, .slice KB m KD, .int .i64 0, u11, u12, u13, u14, u15, u16, u17, u18, u19, u20, u21, u22, u23, u24, u25, u26, u27, u28, u29, u30, u31, u32, u33, u34, u35, u36, u37, u38, u39, u40, u41, u42, u43, u44, u45, u46, u47, u48, u49, u50, u51, u52, u53, u54, u55, u56, u57, u58, u59, u60, u61, u62, u63, u64, u65, u66, u67, u68, u69, u70, u71, u72, u73, u74, u75, u76, u77, u78, u79, u80, u81, u82, u83, u84, u85, u86, u87, u88, u89, u90, u91, u92, u93, u94, u95, u96, u97, u98, u99, u100, u101, u102, u103, u104, u105, u106, u107], []⟩ W := by
  obtain ⟨o_, ho_⟩ : ∃ o, blkOf Try.f3 4 = o := ⟨_, rfl⟩
  rw [ho_]
  conv at ho_ => lhs; whnf
  subst ho_
  have HQ := Lib.hid hQ
  clear hQ
  go_wp2_with fail
  go_loopg [10] m (fun g v wr => ∃ i : Nat, i + g = m ∧ v = .int .i64 (i : Int) ∧ Hid (Below W.heap.size W wr))
  case atStart => exact ⟨0, by omega, rfl, Lib.hid (Below.refl _ _)⟩
  case round =>
    obtain ⟨i, hig, rfl, HI⟩ := hrel
    obtain ⟨wa, hwa⟩ : ∃ wa, wa = wr := ⟨wr, rfl⟩
    subst hwa
    by_cases him : i < m
    · obtain ⟨g1, rfl⟩ : ∃ g1, gk = g1 + 1 := ⟨gk - 1, by omega⟩
      have hiI : (i : Int) < (m : Int) := by omega
      obtain ⟨a, ha⟩ : ∃ a, M[i]? = some a := ⟨_, List.getElem?_eq_getElem (by rw [HK.out.1]; exact him)⟩
      obtain ⟨ka, qa, rfl, hal, a0, a1, a2, a3⟩ := HK.out.2.1 i a ha
      obtain ⟨kb, qb, rfl, hbl, b0, b1, b2, b3⟩ := HK.out.2.2 i a ha
      obtain ⟨aL, haL⟩ : ∃ n, a.ly = n := ⟨_, rfl⟩
      obtain ⟨aR, haR⟩ : ∃ n, a.rs = n := ⟨_, rfl⟩
      obtain ⟨aC, haC⟩ : ∃ n, a.cp = n := ⟨_, rfl⟩
      obtain ⟨aP, haP⟩ : ∃ n, a.pc = n := ⟨_, rfl⟩
      rw [haL] at a0 b0; rw [haR] at a1 b1; rw [haC] at a2 b2; rw [haP] at a3 b3
      have HA := Lib.hid (show _ ∧ _ ∧ _ ∧ _ ∧ _ from ⟨hal, a0, a1, a2, a3⟩)
      have HB := Lib.hid (show _ ∧ _ ∧ _ ∧ _ ∧ _ from ⟨hbl, b0, b1, b2, b3⟩)
      clear ha hal a0 a1 a2 a3 hbl b0 b1 b2 b3 haL haR haC haP
      go_upto_region 18 with fail
      obtain ⟨VL, hVL⟩ : ∃ VL : Unit → List (Nat × Nat × Value), VL = fun z => [(0, 58, .slice (some ⟨ka, qa, none⟩) m KC), (1, 59, .int .i64 (i : Int)), (2, 60, .pointer (some ⟨ka, qa + i * 4, none⟩)), (3, 61, .pointer (some ⟨ka, qa + i * 4, none⟩)), (4, 62, .int .i64 aL), (5, 63, .slice (some ⟨kb, qb, none⟩) m KD), (6, 64, .int .i64 (i : Int)), (7, 65, .pointer (some ⟨kb, qb + i * 4, none⟩)), (8, 66, .pointer (some ⟨kb, qb + i * 4, none⟩)), (9, 67, .int .i64 aL), (10, 68, .bool false), (11, 69, .bool false), (12, 70, .slice (some ⟨ka, qa, none⟩) m KC), (13, 71, .int .i64 (i : Int)), (14, 72, .pointer (some ⟨ka, qa + i * 4, none⟩)), (15, 73, .pointer (some ⟨ka, qa + i * 4 + 1, none⟩)), (16, 74, .int .i64 aR), (17, 75, .slice (some ⟨kb, qb, none⟩) m KD), (18, 76, .int .i64 (i : Int)), (19, 77, .pointer (some ⟨kb, qb + i * 4, none⟩)), (20, 78, .pointer (some ⟨kb, qb + i * 4 + 1, none⟩)), (21, 79, .int .i64 aR), (22, 80, .bool false), (23, 81, .bool false), (24, 82, .bool false), (25, 83, .slice (some ⟨ka, qa, none⟩) m KC), (26, 84, .int .i64 (i : Int)), (27, 85, .pointer (some ⟨ka, qa + i * 4, none⟩)), (28, 86, .pointer (some ⟨ka, qa + i * 4 + 2, none⟩)), (29, 87, .int .i64 aC), (30, 88, .slice (some ⟨kb, qb, none⟩) m KD), (31, 89, .int .i64 (i : Int)), (32, 90, .pointer (some ⟨kb, qb + i * 4, none⟩)), (33, 91, .pointer (some ⟨kb, qb + i * 4 + 2, none⟩)), (34, 92, .int .i64 aC), (35, 93, .bool false), (36, 94, .bool false), (37, 95, .bool false), (38, 96, .slice (some ⟨ka, qa, none⟩) m KC), (39, 97, .int .i64 (i : Int)), (40, 98, .pointer (some ⟨ka, qa + i * 4, none⟩)), (41, 99, .pointer (some ⟨ka, qa + i * 4 + 3, none⟩)), (42, 100, .int .i64 aP), (43, 101, .slice (some ⟨kb, qb, none⟩) m KD), (44, 102, .int .i64 (i : Int)), (45, 103, .pointer (some ⟨kb, qb + i * 4, none⟩)), (46, 104, .pointer (some ⟨kb, qb + i * 4 + 3, none⟩)), (47, 105, .int .i64 aP), (48, 106, .bool false), (49, 107, .bool false)] := ⟨_, rfl⟩
      have hok : ∀ z, manyOk 108 (VL z) := fun z => by rw [hVL]; exact okB_ok rfl
      have HVL := Lib.hid hVL
      have hvi : ∀ z, ∀ x ∈ VL z, x.1 < 50 := fun z => by rw [hVL]; exact ltB_ok rfl
      have HOK := Lib.hid hok
      have HVI := Lib.hid hvi
      clear hVL hok hvi
      refine (wpIn_wide (n := 9)).1 (regionIn_many (N := 108) (w := _) VL (fun L z w' => Below W.heap.size W w') [(8, .slice (some ⟨ka, qa, none⟩) m KC), (9, .slice (some ⟨kb, qb, none⟩) m KD), (10, .int .i64 (i : Int))] (by kernel_rfl) (by kernel_rfl) rfl (by simp only [List.forall_mem_cons, List.not_mem_nil, false_imp_iff, implies_true, and_true]; exact ⟨rfl, rfl, rfl⟩) HVI.out () ?start ?step ?fin)
      case start => exact below_drewN HI.out 1
      case step =>
        intro gg_ hgN hgF ii_ hii_ L z w' hph hs hu
        have hF8 := hgF (8, .slice (some ⟨ka, qa, none⟩) m KC) (by simp)
        have hF9 := hgF (9, .slice (some ⟨kb, qb, none⟩) m KD) (by simp)
        have hF10 := hgF (10, .int .i64 (i : Int)) (by simp)
        have hL := hu.1
        have hii_ : ii_ < 50 := hii_
        clear hgF
        obtain rfl | rfl | rfl | rfl | rfl | rfl | rfl | rfl | rfl | rfl | rfl | rfl | rfl | rfl | rfl | rfl | rfl | rfl | rfl | rfl | rfl | rfl | rfl | rfl | rfl | rfl | rfl | rfl | rfl | rfl | rfl | rfl | rfl | rfl | rfl | rfl | rfl | rfl | rfl | rfl | rfl | rfl | rfl | rfl | rfl | rfl | rfl | rfl | rfl | rfl := (by omega : ii_ = 0 ∨ ii_ = 1 ∨ ii_ = 2 ∨ ii_ = 3 ∨ ii_ = 4 ∨ ii_ = 5 ∨ ii_ = 6 ∨ ii_ = 7 ∨ ii_ = 8 ∨ ii_ = 9 ∨ ii_ = 10 ∨ ii_ = 11 ∨ ii_ = 12 ∨ ii_ = 13 ∨ ii_ = 14 ∨ ii_ = 15 ∨ ii_ = 16 ∨ ii_ = 17 ∨ ii_ = 18 ∨ ii_ = 19 ∨ ii_ = 20 ∨ ii_ = 21 ∨ ii_ = 22 ∨ ii_ = 23 ∨ ii_ = 24 ∨ ii_ = 25 ∨ ii_ = 26 ∨ ii_ = 27 ∨ ii_ = 28 ∨ ii_ = 29 ∨ ii_ = 30 ∨ ii_ = 31 ∨ ii_ = 32 ∨ ii_ = 33 ∨ ii_ = 34 ∨ ii_ = 35 ∨ ii_ = 36 ∨ ii_ = 37 ∨ ii_ = 38 ∨ ii_ = 39 ∨ ii_ = 40 ∨ ii_ = 41 ∨ ii_ = 42 ∨ ii_ = 43 ∨ ii_ = 44 ∨ ii_ = 45 ∨ ii_ = 46 ∨ ii_ = 47 ∨ ii_ = 48 ∨ ii_ = 49)
        · skip
          have e8 : (many gg_ L (VL z))[8]?.getD undef = .slice (some ⟨ka, qa, none⟩) m KC := many_out3 hgN (HOK.out z) (by rw [HVL.out]; rfl) hF8
          refine opIn_run (v := .slice (some ⟨ka, qa, none⟩) m KC) (w' := w') rfl rfl (fun c h => by cases h) (fun _ => trivial) ?_ ⟨z, by exact many_put3 (HOK.out _) (by rw [HVL.out]; rfl) hL, hph⟩
          go_simp
        · skip
          have e10 : (many gg_ L (VL z))[10]?.getD undef = .int .i64 (i : Int) := many_out3 hgN (HOK.out z) (by rw [HVL.out]; rfl) hF10
          refine opIn_run (v := .int .i64 (i : Int)) (w' := w') rfl rfl (fun c h => by cases h) (fun _ => trivial) ?_ ⟨z, by exact many_put3 (HOK.out _) (by rw [HVL.out]; rfl) hL, hph⟩
          go_simp
        · skip
          have y0 : L 0 = true := up_at hu 0 (by kernel_rfl)
          have y1 : L 1 = true := up_at hu 1 (by kernel_rfl)
          have e58 : (many gg_ L (VL z))[58]?.getD undef = .slice (some ⟨ka, qa, none⟩) m KC := many_eval3 hgN (HOK.out z) (by rw [HVL.out]; rfl) y0
          have e59 : (many gg_ L (VL z))[59]?.getD undef = .int .i64 (i : Int) := many_eval3 hgN (HOK.out z) (by rw [HVL.out]; rfl) y1
          refine opIn_run (v := .pointer (some ⟨ka, qa + i * 4, none⟩)) (w' := w') rfl rfl (fun c h => by cases h) (fun _ => trivial) ?_ ⟨z, by exact many_put3 (HOK.out _) (by rw [HVL.out]; rfl) hL, hph⟩
          have hj0 : ¬ (i : Int) < 0 := by omega
          go_simp
        · skip
          have y2 : L 2 = true := up_at hu 2 (by kernel_rfl)
          have e60 : (many gg_ L (VL z))[60]?.getD undef = .pointer (some ⟨ka, qa + i * 4, none⟩) := many_eval3 hgN (HOK.out z) (by rw [HVL.out]; rfl) y2
          refine opIn_run (v := .pointer (some ⟨ka, qa + i * 4, none⟩)) (w' := w') rfl rfl (fun c h => by cases h) (fun _ => trivial) ?_ ⟨z, by exact many_put3 (HOK.out _) (by rw [HVL.out]; rfl) hL, hph⟩
          go_simp
        · skip
          have y3 : L 3 = true := up_at hu 3 (by kernel_rfl)
          have hcell : w'.cell? ⟨ka, qa + i * 4, none⟩ = some (.int .i64 aL) := (hph.cell (p := ⟨ka, _, none⟩) HA.out.1).trans HA.out.2.1
          have e61 : (many gg_ L (VL z))[61]?.getD undef = .pointer (some ⟨ka, qa + i * 4, none⟩) := many_eval3 hgN (HOK.out z) (by rw [HVL.out]; rfl) y3
          refine opIn_run (v := .int .i64 aL) (w' := w') rfl rfl (fun c h => by cases h) (fun _ => trivial) ?_ ⟨z, by exact many_put3 (HOK.out _) (by rw [HVL.out]; rfl) hL, hph⟩
          go_simp
        · skip
          have e9 : (many gg_ L (VL z))[9]?.getD undef = .slice (some ⟨kb, qb, none⟩) m KD := many_out3 hgN (HOK.out z) (by rw [HVL.out]; rfl) hF9
          refine opIn_run (v := .slice (some ⟨kb, qb, none⟩) m KD) (w' := w') rfl rfl (fun c h => by cases h) (fun _ => trivial) ?_ ⟨z, by exact many_put3 (HOK.out _) (by rw [HVL.out]; rfl) hL, hph⟩
          go_simp
        · skip
          have e10 : (many gg_ L (VL z))[10]?.getD undef = .int .i64 (i : Int) := many_out3 hgN (HOK.out z) (by rw [HVL.out]; rfl) hF10
          refine opIn_run (v := .int .i64 (i : Int)) (w' := w') rfl rfl (fun c h => by cases h) (fun _ => trivial) ?_ ⟨z, by exact many_put3 (HOK.out _) (by rw [HVL.out]; rfl) hL, hph⟩
          go_simp
        · skip
          have y5 : L 5 = true := up_at hu 5 (by kernel_rfl)
          have y6 : L 6 = true := up_at hu 6 (by kernel_rfl)
          have e63 : (many gg_ L (VL z))[63]?.getD undef = .slice (some ⟨kb, qb, none⟩) m KD := many_eval3 hgN (HOK.out z) (by rw [HVL.out]; rfl) y5
          have e64 : (many gg_ L (VL z))[64]?.getD undef = .int .i64 (i : Int) := many_eval3 hgN (HOK.out z) (by rw [HVL.out]; rfl) y6
          refine opIn_run (v := .pointer (some ⟨kb, qb + i * 4, none⟩)) (w' := w') rfl rfl (fun c h => by cases h) (fun _ => trivial) ?_ ⟨z, by exact many_put3 (HOK.out _) (by rw [HVL.out]; rfl) hL, hph⟩
          have hj0 : ¬ (i : Int) < 0 := by omega
          go_simp
        · skip
          have y7 : L 7 = true := up_at hu 7 (by kernel_rfl)
          have e65 : (many gg_ L (VL z))[65]?.getD undef = .pointer (some ⟨kb, qb + i * 4, none⟩) := many_eval3 hgN (HOK.out z) (by rw [HVL.out]; rfl) y7
          refine opIn_run (v := .pointer (some ⟨kb, qb + i * 4, none⟩)) (w' := w') rfl rfl (fun c h => by cases h) (fun _ => trivial) ?_ ⟨z, by exact many_put3 (HOK.out _) (by rw [HVL.out]; rfl) hL, hph⟩
          go_simp
        · skip
          have y8 : L 8 = true := up_at hu 8 (by kernel_rfl)
          have hcell : w'.cell? ⟨kb, qb + i * 4, none⟩ = some (.int .i64 aL) := (hph.cell (p := ⟨kb, _, none⟩) HB.out.1).trans HB.out.2.1
          have e66 : (many gg_ L (VL z))[66]?.getD undef = .pointer (some ⟨kb, qb + i * 4, none⟩) := many_eval3 hgN (HOK.out z) (by rw [HVL.out]; rfl) y8
          refine opIn_run (v := .int .i64 aL) (w' := w') rfl rfl (fun c h => by cases h) (fun _ => trivial) ?_ ⟨z, by exact many_put3 (HOK.out _) (by rw [HVL.out]; rfl) hL, hph⟩
          go_simp
        · skip
          have y4 : L 4 = true := up_at hu 4 (by kernel_rfl)
          have y9 : L 9 = true := up_at hu 9 (by kernel_rfl)
          have e62 : (many gg_ L (VL z))[62]?.getD undef = .int .i64 aL := many_eval3 hgN (HOK.out z) (by rw [HVL.out]; rfl) y4
          have e67 : (many gg_ L (VL z))[67]?.getD undef = .int .i64 aL := many_eval3 hgN (HOK.out z) (by rw [HVL.out]; rfl) y9
          refine opIn_run (v := .bool false) (w' := w') rfl rfl (fun c h => by cases h) (fun _ => trivial) ?_ ⟨z, by exact many_put3 (HOK.out _) (by rw [HVL.out]; rfl) hL, hph⟩
          go_simp
        · skip
          have y10 : L 10 = true := up_at hu 10 (by kernel_rfl)
          have e68 : (many gg_ L (VL z))[68]?.getD undef = .bool false := many_eval3 hgN (HOK.out z) (by rw [HVL.out]; rfl) y10
          refine opIn_run (v := .bool false) (w' := w') rfl rfl (fun c h => by cases h) (fun _ => trivial) ?_ ⟨z, by exact many_put3 (HOK.out _) (by rw [HVL.out]; rfl) hL, hph⟩
          go_simp
        · skip
          have y11 : L 11 = true := up_at hu 11 (by kernel_rfl)
          have e8 : (many gg_ L (VL z))[8]?.getD undef = .slice (some ⟨ka, qa, none⟩) m KC := many_out3 hgN (HOK.out z) (by rw [HVL.out]; rfl) hF8
          have e69 : (many gg_ L (VL z))[69]?.getD undef = .bool false := many_eval3 hgN (HOK.out z) (by rw [HVL.out]; rfl) y11
          refine opIn_run_g (v := .slice (some ⟨ka, qa, none⟩) m KC) (w' := w') (j := 11) (b := false) rfl rfl (by simp [yielded, many_some hgN (show 69 < 108 by decide) e69]) (fun c h => by cases h) (fun _ => trivial) ?_ ⟨z, by exact many_put3 (HOK.out _) (by rw [HVL.out]; rfl) hL, hph⟩
          go_simp
        · skip
          have y11 : L 11 = true := up_at hu 11 (by kernel_rfl)
          have e10 : (many gg_ L (VL z))[10]?.getD undef = .int .i64 (i : Int) := many_out3 hgN (HOK.out z) (by rw [HVL.out]; rfl) hF10
          have e69 : (many gg_ L (VL z))[69]?.getD undef = .bool false := many_eval3 hgN (HOK.out z) (by rw [HVL.out]; rfl) y11
          refine opIn_run_g (v := .int .i64 (i : Int)) (w' := w') (j := 11) (b := false) rfl rfl (by simp [yielded, many_some hgN (show 69 < 108 by decide) e69]) (fun c h => by cases h) (fun _ => trivial) ?_ ⟨z, by exact many_put3 (HOK.out _) (by rw [HVL.out]; rfl) hL, hph⟩
          go_simp
        · skip
          have y11 : L 11 = true := up_at hu 11 (by kernel_rfl)
          have y12 : L 12 = true := up_at hu 12 (by kernel_rfl)
          have y13 : L 13 = true := up_at hu 13 (by kernel_rfl)
          have e69 : (many gg_ L (VL z))[69]?.getD undef = .bool false := many_eval3 hgN (HOK.out z) (by rw [HVL.out]; rfl) y11
          have e70 : (many gg_ L (VL z))[70]?.getD undef = .slice (some ⟨ka, qa, none⟩) m KC := many_eval3 hgN (HOK.out z) (by rw [HVL.out]; rfl) y12
          have e71 : (many gg_ L (VL z))[71]?.getD undef = .int .i64 (i : Int) := many_eval3 hgN (HOK.out z) (by rw [HVL.out]; rfl) y13
          refine opIn_run_g (v := .pointer (some ⟨ka, qa + i * 4, none⟩)) (w' := w') (j := 11) (b := false) rfl rfl (by simp [yielded, many_some hgN (show 69 < 108 by decide) e69]) (fun c h => by cases h) (fun _ => trivial) ?_ ⟨z, by exact many_put3 (HOK.out _) (by rw [HVL.out]; rfl) hL, hph⟩
          have hj0 : ¬ (i : Int) < 0 := by omega
          go_simp
        · skip
          have y11 : L 11 = true := up_at hu 11 (by kernel_rfl)
          have y14 : L 14 = true := up_at hu 14 (by kernel_rfl)
          have e69 : (many gg_ L (VL z))[69]?.getD undef = .bool false := many_eval3 hgN (HOK.out z) (by rw [HVL.out]; rfl) y11
          have e72 : (many gg_ L (VL z))[72]?.getD undef = .pointer (some ⟨ka, qa + i * 4, none⟩) := many_eval3 hgN (HOK.out z) (by rw [HVL.out]; rfl) y14
          refine opIn_run_g (v := .pointer (some ⟨ka, qa + i * 4 + 1, none⟩)) (w' := w') (j := 11) (b := false) rfl rfl (by simp [yielded, many_some hgN (show 69 < 108 by decide) e69]) (fun c h => by cases h) (fun _ => trivial) ?_ ⟨z, by exact many_put3 (HOK.out _) (by rw [HVL.out]; rfl) hL, hph⟩
          go_simp
        · skip
          have y11 : L 11 = true := up_at hu 11 (by kernel_rfl)
          have y15 : L 15 = true := up_at hu 15 (by kernel_rfl)
          have hcell : w'.cell? ⟨ka, qa + i * 4 + 1, none⟩ = some (.int .i64 aR) := (hph.cell (p := ⟨ka, _, none⟩) HA.out.1).trans HA.out.2.2.1
          have e69 : (many gg_ L (VL z))[69]?.getD undef = .bool false := many_eval3 hgN (HOK.out z) (by rw [HVL.out]; rfl) y11
          have e73 : (many gg_ L (VL z))[73]?.getD undef = .pointer (some ⟨ka, qa + i * 4 + 1, none⟩) := many_eval3 hgN (HOK.out z) (by rw [HVL.out]; rfl) y15
          refine opIn_run_g (v := .int .i64 aR) (w' := w') (j := 11) (b := false) rfl rfl (by simp [yielded, many_some hgN (show 69 < 108 by decide) e69]) (fun c h => by cases h) (fun _ => trivial) ?_ ⟨z, by exact many_put3 (HOK.out _) (by rw [HVL.out]; rfl) hL, hph⟩
          go_simp
        · skip
          have y11 : L 11 = true := up_at hu 11 (by kernel_rfl)
          have e9 : (many gg_ L (VL z))[9]?.getD undef = .slice (some ⟨kb, qb, none⟩) m KD := many_out3 hgN (HOK.out z) (by rw [HVL.out]; rfl) hF9
          have e69 : (many gg_ L (VL z))[69]?.getD undef = .bool false := many_eval3 hgN (HOK.out z) (by rw [HVL.out]; rfl) y11
          refine opIn_run_g (v := .slice (some ⟨kb, qb, none⟩) m KD) (w' := w') (j := 11) (b := false) rfl rfl (by simp [yielded, many_some hgN (show 69 < 108 by decide) e69]) (fun c h => by cases h) (fun _ => trivial) ?_ ⟨z, by exact many_put3 (HOK.out _) (by rw [HVL.out]; rfl) hL, hph⟩
          go_simp
        · skip
          have y11 : L 11 = true := up_at hu 11 (by kernel_rfl)
          have e10 : (many gg_ L (VL z))[10]?.getD undef = .int .i64 (i : Int) := many_out3 hgN (HOK.out z) (by rw [HVL.out]; rfl) hF10
          have e69 : (many gg_ L (VL z))[69]?.getD undef = .bool false := many_eval3 hgN (HOK.out z) (by rw [HVL.out]; rfl) y11
          refine opIn_run_g (v := .int .i64 (i : Int)) (w' := w') (j := 11) (b := false) rfl rfl (by simp [yielded, many_some hgN (show 69 < 108 by decide) e69]) (fun c h => by cases h) (fun _ => trivial) ?_ ⟨z, by exact many_put3 (HOK.out _) (by rw [HVL.out]; rfl) hL, hph⟩
          go_simp
        · skip
          have y11 : L 11 = true := up_at hu 11 (by kernel_rfl)
          have y17 : L 17 = true := up_at hu 17 (by kernel_rfl)
          have y18 : L 18 = true := up_at hu 18 (by kernel_rfl)
          have e69 : (many gg_ L (VL z))[69]?.getD undef = .bool false := many_eval3 hgN (HOK.out z) (by rw [HVL.out]; rfl) y11
          have e75 : (many gg_ L (VL z))[75]?.getD undef = .slice (some ⟨kb, qb, none⟩) m KD := many_eval3 hgN (HOK.out z) (by rw [HVL.out]; rfl) y17
          have e76 : (many gg_ L (VL z))[76]?.getD undef = .int .i64 (i : Int) := many_eval3 hgN (HOK.out z) (by rw [HVL.out]; rfl) y18
          refine opIn_run_g (v := .pointer (some ⟨kb, qb + i * 4, none⟩)) (w' := w') (j := 11) (b := false) rfl rfl (by simp [yielded, many_some hgN (show 69 < 108 by decide) e69]) (fun c h => by cases h) (fun _ => trivial) ?_ ⟨z, by exact many_put3 (HOK.out _) (by rw [HVL.out]; rfl) hL, hph⟩
          have hj0 : ¬ (i : Int) < 0 := by omega
          go_simp
        · skip
          have y11 : L 11 = true := up_at hu 11 (by kernel_rfl)
          have y19 : L 19 = true := up_at hu 19 (by kernel_rfl)
          have e69 : (many gg_ L (VL z))[69]?.getD undef = .bool false := many_eval3 hgN (HOK.out z) (by rw [HVL.out]; rfl) y11
          have e77 : (many gg_ L (VL z))[77]?.getD undef = .pointer (some ⟨kb, qb + i * 4, none⟩) := many_eval3 hgN (HOK.out z) (by rw [HVL.out]; rfl) y19
          refine opIn_run_g (v := .pointer (some ⟨kb, qb + i * 4 + 1, none⟩)) (w' := w') (j := 11) (b := false) rfl rfl (by simp [yielded, many_some hgN (show 69 < 108 by decide) e69]) (fun c h => by cases h) (fun _ => trivial) ?_ ⟨z, by exact many_put3 (HOK.out _) (by rw [HVL.out]; rfl) hL, hph⟩
          go_simp
        · skip
          have y11 : L 11 = true := up_at hu 11 (by kernel_rfl)
          have y20 : L 20 = true := up_at hu 20 (by kernel_rfl)
          have hcell : w'.cell? ⟨kb, qb + i * 4 + 1, none⟩ = some (.int .i64 aR) := (hph.cell (p := ⟨kb, _, none⟩) HB.out.1).trans HB.out.2.2.1
          have e69 : (many gg_ L (VL z))[69]?.getD undef = .bool false := many_eval3 hgN (HOK.out z) (by rw [HVL.out]; rfl) y11
          have e78 : (many gg_ L (VL z))[78]?.getD undef = .pointer (some ⟨kb, qb + i * 4 + 1, none⟩) := many_eval3 hgN (HOK.out z) (by rw [HVL.out]; rfl) y20
          refine opIn_run_g (v := .int .i64 aR) (w' := w') (j := 11) (b := false) rfl rfl (by simp [yielded, many_some hgN (show 69 < 108 by decide) e69]) (fun c h => by cases h) (fun _ => trivial) ?_ ⟨z, by exact many_put3 (HOK.out _) (by rw [HVL.out]; rfl) hL, hph⟩
          go_simp
        · skip
          have y11 : L 11 = true := up_at hu 11 (by kernel_rfl)
          have y16 : L 16 = true := up_at hu 16 (by kernel_rfl)
          have y21 : L 21 = true := up_at hu 21 (by kernel_rfl)
          have e69 : (many gg_ L (VL z))[69]?.getD undef = .bool false := many_eval3 hgN (HOK.out z) (by rw [HVL.out]; rfl) y11
          have e74 : (many gg_ L (VL z))[74]?.getD undef = .int .i64 aR := many_eval3 hgN (HOK.out z) (by rw [HVL.out]; rfl) y16
          have e79 : (many gg_ L (VL z))[79]?.getD undef = .int .i64 aR := many_eval3 hgN (HOK.out z) (by rw [HVL.out]; rfl) y21
          refine opIn_run_g (v := .bool false) (w' := w') (j := 11) (b := false) rfl rfl (by simp [yielded, many_some hgN (show 69 < 108 by decide) e69]) (fun c h => by cases h) (fun _ => trivial) ?_ ⟨z, by exact many_put3 (HOK.out _) (by rw [HVL.out]; rfl) hL, hph⟩
          go_simp
        · skip
          have y11 : L 11 = true := up_at hu 11 (by kernel_rfl)
          have y22 : L 22 = true := up_at hu 22 (by kernel_rfl)
          have e69 : (many gg_ L (VL z))[69]?.getD undef = .bool false := many_eval3 hgN (HOK.out z) (by rw [HVL.out]; rfl) y11
          have e80 : (many gg_ L (VL z))[80]?.getD undef = .bool false := many_eval3 hgN (HOK.out z) (by rw [HVL.out]; rfl) y22
          refine opIn_run (v := .bool false) (w' := w') rfl rfl (fun c h => by cases h) (fun _ => trivial) ?_ ⟨z, by exact many_put3 (HOK.out _) (by rw [HVL.out]; rfl) hL, hph⟩
          go_simp
        · skip
          have y11 : L 11 = true := up_at hu 11 (by kernel_rfl)
          have y23 : L 23 = true := up_at hu 23 (by kernel_rfl)
          have e81 : (many gg_ L (VL z))[81]?.getD undef = .bool false := many_eval3 hgN (HOK.out z) (by rw [HVL.out]; rfl) y23
          refine opIn_run (v := .bool false) (w' := w') rfl rfl (fun c h => by cases h) (fun _ => trivial) ?_ ⟨z, by exact many_put3 (HOK.out _) (by rw [HVL.out]; rfl) hL, hph⟩
          go_simp
        · skip
          have y24 : L 24 = true := up_at hu 24 (by kernel_rfl)
          have e8 : (many gg_ L (VL z))[8]?.getD undef = .slice (some ⟨ka, qa, none⟩) m KC := many_out3 hgN (HOK.out z) (by rw [HVL.out]; rfl) hF8
          have e82 : (many gg_ L (VL z))[82]?.getD undef = .bool false := many_eval3 hgN (HOK.out z) (by rw [HVL.out]; rfl) y24
          refine opIn_run_g (v := .slice (some ⟨ka, qa, none⟩) m KC) (w' := w') (j := 24) (b := false) rfl rfl (by simp [yielded, many_some hgN (show 82 < 108 by decide) e82]) (fun c h => by cases h) (fun _ => trivial) ?_ ⟨z, by exact many_put3 (HOK.out _) (by rw [HVL.out]; rfl) hL, hph⟩
          go_simp
        · skip
          have y24 : L 24 = true := up_at hu 24 (by kernel_rfl)
          have e10 : (many gg_ L (VL z))[10]?.getD undef = .int .i64 (i : Int) := many_out3 hgN (HOK.out z) (by rw [HVL.out]; rfl) hF10
          have e82 : (many gg_ L (VL z))[82]?.getD undef = .bool false := many_eval3 hgN (HOK.out z) (by rw [HVL.out]; rfl) y24
          refine opIn_run_g (v := .int .i64 (i : Int)) (w' := w') (j := 24) (b := false) rfl rfl (by simp [yielded, many_some hgN (show 82 < 108 by decide) e82]) (fun c h => by cases h) (fun _ => trivial) ?_ ⟨z, by exact many_put3 (HOK.out _) (by rw [HVL.out]; rfl) hL, hph⟩
          go_simp
        · skip
          have y24 : L 24 = true := up_at hu 24 (by kernel_rfl)
          have y25 : L 25 = true := up_at hu 25 (by kernel_rfl)
          have y26 : L 26 = true := up_at hu 26 (by kernel_rfl)
          have e82 : (many gg_ L (VL z))[82]?.getD undef = .bool false := many_eval3 hgN (HOK.out z) (by rw [HVL.out]; rfl) y24
          have e83 : (many gg_ L (VL z))[83]?.getD undef = .slice (some ⟨ka, qa, none⟩) m KC := many_eval3 hgN (HOK.out z) (by rw [HVL.out]; rfl) y25
          have e84 : (many gg_ L (VL z))[84]?.getD undef = .int .i64 (i : Int) := many_eval3 hgN (HOK.out z) (by rw [HVL.out]; rfl) y26
          refine opIn_run_g (v := .pointer (some ⟨ka, qa + i * 4, none⟩)) (w' := w') (j := 24) (b := false) rfl rfl (by simp [yielded, many_some hgN (show 82 < 108 by decide) e82]) (fun c h => by cases h) (fun _ => trivial) ?_ ⟨z, by exact many_put3 (HOK.out _) (by rw [HVL.out]; rfl) hL, hph⟩
          have hj0 : ¬ (i : Int) < 0 := by omega
          go_simp
        · skip
          have y24 : L 24 = true := up_at hu 24 (by kernel_rfl)
          have y27 : L 27 = true := up_at hu 27 (by kernel_rfl)
          have e82 : (many gg_ L (VL z))[82]?.getD undef = .bool false := many_eval3 hgN (HOK.out z) (by rw [HVL.out]; rfl) y24
          have e85 : (many gg_ L (VL z))[85]?.getD undef = .pointer (some ⟨ka, qa + i * 4, none⟩) := many_eval3 hgN (HOK.out z) (by rw [HVL.out]; rfl) y27
          refine opIn_run_g (v := .pointer (some ⟨ka, qa + i * 4 + 2, none⟩)) (w' := w') (j := 24) (b := false) rfl rfl (by simp [yielded, many_some hgN (show 82 < 108 by decide) e82]) (fun c h => by cases h) (fun _ => trivial) ?_ ⟨z, by exact many_put3 (HOK.out _) (by rw [HVL.out]; rfl) hL, hph⟩
          go_simp
        · skip
          have y24 : L 24 = true := up_at hu 24 (by kernel_rfl)
          have y28 : L 28 = true := up_at hu 28 (by kernel_rfl)
          have hcell : w'.cell? ⟨ka, qa + i * 4 + 2, none⟩ = some (.int .i64 aC) := (hph.cell (p := ⟨ka, _, none⟩) HA.out.1).trans HA.out.2.2.2.1
          have e82 : (many gg_ L (VL z))[82]?.getD undef = .bool false := many_eval3 hgN (HOK.out z) (by rw [HVL.out]; rfl) y24
          have e86 : (many gg_ L (VL z))[86]?.getD undef = .pointer (some ⟨ka, qa + i * 4 + 2, none⟩) := many_eval3 hgN (HOK.out z) (by rw [HVL.out]; rfl) y28
          refine opIn_run_g (v := .int .i64 aC) (w' := w') (j := 24) (b := false) rfl rfl (by simp [yielded, many_some hgN (show 82 < 108 by decide) e82]) (fun c h => by cases h) (fun _ => trivial) ?_ ⟨z, by exact many_put3 (HOK.out _) (by rw [HVL.out]; rfl) hL, hph⟩
          go_simp
        · skip
          have y24 : L 24 = true := up_at hu 24 (by kernel_rfl)
          have e9 : (many gg_ L (VL z))[9]?.getD undef = .slice (some ⟨kb, qb, none⟩) m KD := many_out3 hgN (HOK.out z) (by rw [HVL.out]; rfl) hF9
          have e82 : (many gg_ L (VL z))[82]?.getD undef = .bool false := many_eval3 hgN (HOK.out z) (by rw [HVL.out]; rfl) y24
          refine opIn_run_g (v := .slice (some ⟨kb, qb, none⟩) m KD) (w' := w') (j := 24) (b := false) rfl rfl (by simp [yielded, many_some hgN (show 82 < 108 by decide) e82]) (fun c h => by cases h) (fun _ => trivial) ?_ ⟨z, by exact many_put3 (HOK.out _) (by rw [HVL.out]; rfl) hL, hph⟩
          go_simp
        · skip
          have y24 : L 24 = true := up_at hu 24 (by kernel_rfl)
          have e10 : (many gg_ L (VL z))[10]?.getD undef = .int .i64 (i : Int) := many_out3 hgN (HOK.out z) (by rw [HVL.out]; rfl) hF10
          have e82 : (many gg_ L (VL z))[82]?.getD undef = .bool false := many_eval3 hgN (HOK.out z) (by rw [HVL.out]; rfl) y24
          refine opIn_run_g (v := .int .i64 (i : Int)) (w' := w') (j := 24) (b := false) rfl rfl (by simp [yielded, many_some hgN (show 82 < 108 by decide) e82]) (fun c h => by cases h) (fun _ => trivial) ?_ ⟨z, by exact many_put3 (HOK.out _) (by rw [HVL.out]; rfl) hL, hph⟩
          go_simp
        · skip
          have y24 : L 24 = true := up_at hu 24 (by kernel_rfl)
          have y30 : L 30 = true := up_at hu 30 (by kernel_rfl)
          have y31 : L 31 = true := up_at hu 31 (by kernel_rfl)
          have e82 : (many gg_ L (VL z))[82]?.getD undef = .bool false := many_eval3 hgN (HOK.out z) (by rw [HVL.out]; rfl) y24
          have e88 : (many gg_ L (VL z))[88]?.getD undef = .slice (some ⟨kb, qb, none⟩) m KD := many_eval3 hgN (HOK.out z) (by rw [HVL.out]; rfl) y30
          have e89 : (many gg_ L (VL z))[89]?.getD undef = .int .i64 (i : Int) := many_eval3 hgN (HOK.out z) (by rw [HVL.out]; rfl) y31
          refine opIn_run_g (v := .pointer (some ⟨kb, qb + i * 4, none⟩)) (w' := w') (j := 24) (b := false) rfl rfl (by simp [yielded, many_some hgN (show 82 < 108 by decide) e82]) (fun c h => by cases h) (fun _ => trivial) ?_ ⟨z, by exact many_put3 (HOK.out _) (by rw [HVL.out]; rfl) hL, hph⟩
          have hj0 : ¬ (i : Int) < 0 := by omega
          go_simp
        · skip
          have y24 : L 24 = true := up_at hu 24 (by kernel_rfl)
          have y32 : L 32 = true := up_at hu 32 (by kernel_rfl)
          have e82 : (many gg_ L (VL z))[82]?.getD undef = .bool false := many_eval3 hgN (HOK.out z) (by rw [HVL.out]; rfl) y24
          have e90 : (many gg_ L (VL z))[90]?.getD undef = .pointer (some ⟨kb, qb + i * 4, none⟩) := many_eval3 hgN (HOK.out z) (by rw [HVL.out]; rfl) y32
          refine opIn_run_g (v := .pointer (some ⟨kb, qb + i * 4 + 2, none⟩)) (w' := w') (j := 24) (b := false) rfl rfl (by simp [yielded, many_some hgN (show 82 < 108 by decide) e82]) (fun c h => by cases h) (fun _ => trivial) ?_ ⟨z, by exact many_put3 (HOK.out _) (by rw [HVL.out]; rfl) hL, hph⟩
          go_simp
        · skip
          have y24 : L 24 = true := up_at hu 24 (by kernel_rfl)
          have y33 : L 33 = true := up_at hu 33 (by kernel_rfl)
          have hcell : w'.cell? ⟨kb, qb + i * 4 + 2, none⟩ = some (.int .i64 aC) := (hph.cell (p := ⟨kb, _, none⟩) HB.out.1).trans HB.out.2.2.2.1
          have e82 : (many gg_ L (VL z))[82]?.getD undef = .bool false := many_eval3 hgN (HOK.out z) (by rw [HVL.out]; rfl) y24
          have e91 : (many gg_ L (VL z))[91]?.getD undef = .pointer (some ⟨kb, qb + i * 4 + 2, none⟩) := many_eval3 hgN (HOK.out z) (by rw [HVL.out]; rfl) y33
          refine opIn_run_g (v := .int .i64 aC) (w' := w') (j := 24) (b := false) rfl rfl (by simp [yielded, many_some hgN (show 82 < 108 by decide) e82]) (fun c h => by cases h) (fun _ => trivial) ?_ ⟨z, by exact many_put3 (HOK.out _) (by rw [HVL.out]; rfl) hL, hph⟩
          go_simp
        · skip
          have y24 : L 24 = true := up_at hu 24 (by kernel_rfl)
          have y29 : L 29 = true := up_at hu 29 (by kernel_rfl)
          have y34 : L 34 = true := up_at hu 34 (by kernel_rfl)
          have e82 : (many gg_ L (VL z))[82]?.getD undef = .bool false := many_eval3 hgN (HOK.out z) (by rw [HVL.out]; rfl) y24
          have e87 : (many gg_ L (VL z))[87]?.getD undef = .int .i64 aC := many_eval3 hgN (HOK.out z) (by rw [HVL.out]; rfl) y29
          have e92 : (many gg_ L (VL z))[92]?.getD undef = .int .i64 aC := many_eval3 hgN (HOK.out z) (by rw [HVL.out]; rfl) y34
          refine opIn_run_g (v := .bool false) (w' := w') (j := 24) (b := false) rfl rfl (by simp [yielded, many_some hgN (show 82 < 108 by decide) e82]) (fun c h => by cases h) (fun _ => trivial) ?_ ⟨z, by exact many_put3 (HOK.out _) (by rw [HVL.out]; rfl) hL, hph⟩
          go_simp
        · skip
          have y24 : L 24 = true := up_at hu 24 (by kernel_rfl)
          have y35 : L 35 = true := up_at hu 35 (by kernel_rfl)
          have e82 : (many gg_ L (VL z))[82]?.getD undef = .bool false := many_eval3 hgN (HOK.out z) (by rw [HVL.out]; rfl) y24
          have e93 : (many gg_ L (VL z))[93]?.getD undef = .bool false := many_eval3 hgN (HOK.out z) (by rw [HVL.out]; rfl) y35
          refine opIn_run (v := .bool false) (w' := w') rfl rfl (fun c h => by cases h) (fun _ => trivial) ?_ ⟨z, by exact many_put3 (HOK.out _) (by rw [HVL.out]; rfl) hL, hph⟩
          go_simp
        · skip
          have y24 : L 24 = true := up_at hu 24 (by kernel_rfl)
          have y36 : L 36 = true := up_at hu 36 (by kernel_rfl)
          have e94 : (many gg_ L (VL z))[94]?.getD undef = .bool false := many_eval3 hgN (HOK.out z) (by rw [HVL.out]; rfl) y36
          refine opIn_run (v := .bool false) (w' := w') rfl rfl (fun c h => by cases h) (fun _ => trivial) ?_ ⟨z, by exact many_put3 (HOK.out _) (by rw [HVL.out]; rfl) hL, hph⟩
          go_simp
        · skip
          have y37 : L 37 = true := up_at hu 37 (by kernel_rfl)
          have e8 : (many gg_ L (VL z))[8]?.getD undef = .slice (some ⟨ka, qa, none⟩) m KC := many_out3 hgN (HOK.out z) (by rw [HVL.out]; rfl) hF8
          have e95 : (many gg_ L (VL z))[95]?.getD undef = .bool false := many_eval3 hgN (HOK.out z) (by rw [HVL.out]; rfl) y37
          refine opIn_run_g (v := .slice (some ⟨ka, qa, none⟩) m KC) (w' := w') (j := 37) (b := false) rfl rfl (by simp [yielded, many_some hgN (show 95 < 108 by decide) e95]) (fun c h => by cases h) (fun _ => trivial) ?_ ⟨z, by exact many_put3 (HOK.out _) (by rw [HVL.out]; rfl) hL, hph⟩
          go_simp
        · skip
          have y37 : L 37 = true := up_at hu 37 (by kernel_rfl)
          have e10 : (many gg_ L (VL z))[10]?.getD undef = .int .i64 (i : Int) := many_out3 hgN (HOK.out z) (by rw [HVL.out]; rfl) hF10
          have e95 : (many gg_ L (VL z))[95]?.getD undef = .bool false := many_eval3 hgN (HOK.out z) (by rw [HVL.out]; rfl) y37
          refine opIn_run_g (v := .int .i64 (i : Int)) (w' := w') (j := 37) (b := false) rfl rfl (by simp [yielded, many_some hgN (show 95 < 108 by decide) e95]) (fun c h => by cases h) (fun _ => trivial) ?_ ⟨z, by exact many_put3 (HOK.out _) (by rw [HVL.out]; rfl) hL, hph⟩
          go_simp
        · skip
          have y37 : L 37 = true := up_at hu 37 (by kernel_rfl)
          have y38 : L 38 = true := up_at hu 38 (by kernel_rfl)
          have y39 : L 39 = true := up_at hu 39 (by kernel_rfl)
          have e95 : (many gg_ L (VL z))[95]?.getD undef = .bool false := many_eval3 hgN (HOK.out z) (by rw [HVL.out]; rfl) y37
          have e96 : (many gg_ L (VL z))[96]?.getD undef = .slice (some ⟨ka, qa, none⟩) m KC := many_eval3 hgN (HOK.out z) (by rw [HVL.out]; rfl) y38
          have e97 : (many gg_ L (VL z))[97]?.getD undef = .int .i64 (i : Int) := many_eval3 hgN (HOK.out z) (by rw [HVL.out]; rfl) y39
          refine opIn_run_g (v := .pointer (some ⟨ka, qa + i * 4, none⟩)) (w' := w') (j := 37) (b := false) rfl rfl (by simp [yielded, many_some hgN (show 95 < 108 by decide) e95]) (fun c h => by cases h) (fun _ => trivial) ?_ ⟨z, by exact many_put3 (HOK.out _) (by rw [HVL.out]; rfl) hL, hph⟩
          have hj0 : ¬ (i : Int) < 0 := by omega
          go_simp
        · skip
          have y37 : L 37 = true := up_at hu 37 (by kernel_rfl)
          have y40 : L 40 = true := up_at hu 40 (by kernel_rfl)
          have e95 : (many gg_ L (VL z))[95]?.getD undef = .bool false := many_eval3 hgN (HOK.out z) (by rw [HVL.out]; rfl) y37
          have e98 : (many gg_ L (VL z))[98]?.getD undef = .pointer (some ⟨ka, qa + i * 4, none⟩) := many_eval3 hgN (HOK.out z) (by rw [HVL.out]; rfl) y40
          refine opIn_run_g (v := .pointer (some ⟨ka, qa + i * 4 + 3, none⟩)) (w' := w') (j := 37) (b := false) rfl rfl (by simp [yielded, many_some hgN (show 95 < 108 by decide) e95]) (fun c h => by cases h) (fun _ => trivial) ?_ ⟨z, by exact many_put3 (HOK.out _) (by rw [HVL.out]; rfl) hL, hph⟩
          go_simp
        · skip
          have y37 : L 37 = true := up_at hu 37 (by kernel_rfl)
          have y41 : L 41 = true := up_at hu 41 (by kernel_rfl)
          have hcell : w'.cell? ⟨ka, qa + i * 4 + 3, none⟩ = some (.int .i64 aP) := (hph.cell (p := ⟨ka, _, none⟩) HA.out.1).trans HA.out.2.2.2.2
          have e95 : (many gg_ L (VL z))[95]?.getD undef = .bool false := many_eval3 hgN (HOK.out z) (by rw [HVL.out]; rfl) y37
          have e99 : (many gg_ L (VL z))[99]?.getD undef = .pointer (some ⟨ka, qa + i * 4 + 3, none⟩) := many_eval3 hgN (HOK.out z) (by rw [HVL.out]; rfl) y41
          refine opIn_run_g (v := .int .i64 aP) (w' := w') (j := 37) (b := false) rfl rfl (by simp [yielded, many_some hgN (show 95 < 108 by decide) e95]) (fun c h => by cases h) (fun _ => trivial) ?_ ⟨z, by exact many_put3 (HOK.out _) (by rw [HVL.out]; rfl) hL, hph⟩
          go_simp
        · skip
          have y37 : L 37 = true := up_at hu 37 (by kernel_rfl)
          have e9 : (many gg_ L (VL z))[9]?.getD undef = .slice (some ⟨kb, qb, none⟩) m KD := many_out3 hgN (HOK.out z) (by rw [HVL.out]; rfl) hF9
          have e95 : (many gg_ L (VL z))[95]?.getD undef = .bool false := many_eval3 hgN (HOK.out z) (by rw [HVL.out]; rfl) y37
          refine opIn_run_g (v := .slice (some ⟨kb, qb, none⟩) m KD) (w' := w') (j := 37) (b := false) rfl rfl (by simp [yielded, many_some hgN (show 95 < 108 by decide) e95]) (fun c h => by cases h) (fun _ => trivial) ?_ ⟨z, by exact many_put3 (HOK.out _) (by rw [HVL.out]; rfl) hL, hph⟩
          go_simp
        · skip
          have y37 : L 37 = true := up_at hu 37 (by kernel_rfl)
          have e10 : (many gg_ L (VL z))[10]?.getD undef = .int .i64 (i : Int) := many_out3 hgN (HOK.out z) (by rw [HVL.out]; rfl) hF10
          have e95 : (many gg_ L (VL z))[95]?.getD undef = .bool false := many_eval3 hgN (HOK.out z) (by rw [HVL.out]; rfl) y37
          refine opIn_run_g (v := .int .i64 (i : Int)) (w' := w') (j := 37) (b := false) rfl rfl (by simp [yielded, many_some hgN (show 95 < 108 by decide) e95]) (fun c h => by cases h) (fun _ => trivial) ?_ ⟨z, by exact many_put3 (HOK.out _) (by rw [HVL.out]; rfl) hL, hph⟩
          go_simp
        · skip
          have y37 : L 37 = true := up_at hu 37 (by kernel_rfl)
          have y43 : L 43 = true := up_at hu 43 (by kernel_rfl)
          have y44 : L 44 = true := up_at hu 44 (by kernel_rfl)
          have e95 : (many gg_ L (VL z))[95]?.getD undef = .bool false := many_eval3 hgN (HOK.out z) (by rw [HVL.out]; rfl) y37
          have e101 : (many gg_ L (VL z))[101]?.getD undef = .slice (some ⟨kb, qb, none⟩) m KD := many_eval3 hgN (HOK.out z) (by rw [HVL.out]; rfl) y43
          have e102 : (many gg_ L (VL z))[102]?.getD undef = .int .i64 (i : Int) := many_eval3 hgN (HOK.out z) (by rw [HVL.out]; rfl) y44
          refine opIn_run_g (v := .pointer (some ⟨kb, qb + i * 4, none⟩)) (w' := w') (j := 37) (b := false) rfl rfl (by simp [yielded, many_some hgN (show 95 < 108 by decide) e95]) (fun c h => by cases h) (fun _ => trivial) ?_ ⟨z, by exact many_put3 (HOK.out _) (by rw [HVL.out]; rfl) hL, hph⟩
          have hj0 : ¬ (i : Int) < 0 := by omega
          go_simp
        · skip
          have y37 : L 37 = true := up_at hu 37 (by kernel_rfl)
          have y45 : L 45 = true := up_at hu 45 (by kernel_rfl)
          have e95 : (many gg_ L (VL z))[95]?.getD undef = .bool false := many_eval3 hgN (HOK.out z) (by rw [HVL.out]; rfl) y37
          have e103 : (many gg_ L (VL z))[103]?.getD undef = .pointer (some ⟨kb, qb + i * 4, none⟩) := many_eval3 hgN (HOK.out z) (by rw [HVL.out]; rfl) y45
          refine opIn_run_g (v := .pointer (some ⟨kb, qb + i * 4 + 3, none⟩)) (w' := w') (j := 37) (b := false) rfl rfl (by simp [yielded, many_some hgN (show 95 < 108 by decide) e95]) (fun c h => by cases h) (fun _ => trivial) ?_ ⟨z, by exact many_put3 (HOK.out _) (by rw [HVL.out]; rfl) hL, hph⟩
          go_simp
        · skip
          have y37 : L 37 = true := up_at hu 37 (by kernel_rfl)
          have y46 : L 46 = true := up_at hu 46 (by kernel_rfl)
          have hcell : w'.cell? ⟨kb, qb + i * 4 + 3, none⟩ = some (.int .i64 aP) := (hph.cell (p := ⟨kb, _, none⟩) HB.out.1).trans HB.out.2.2.2.2
          have e95 : (many gg_ L (VL z))[95]?.getD undef = .bool false := many_eval3 hgN (HOK.out z) (by rw [HVL.out]; rfl) y37
          have e104 : (many gg_ L (VL z))[104]?.getD undef = .pointer (some ⟨kb, qb + i * 4 + 3, none⟩) := many_eval3 hgN (HOK.out z) (by rw [HVL.out]; rfl) y46
          refine opIn_run_g (v := .int .i64 aP) (w' := w') (j := 37) (b := false) rfl rfl (by simp [yielded, many_some hgN (show 95 < 108 by decide) e95]) (fun c h => by cases h) (fun _ => trivial) ?_ ⟨z, by exact many_put3 (HOK.out _) (by rw [HVL.out]; rfl) hL, hph⟩
          go_simp
        · skip
          have y37 : L 37 = true := up_at hu 37 (by kernel_rfl)
          have y42 : L 42 = true := up_at hu 42 (by kernel_rfl)
          have y47 : L 47 = true := up_at hu 47 (by kernel_rfl)
          have e95 : (many gg_ L (VL z))[95]?.getD undef = .bool false := many_eval3 hgN (HOK.out z) (by rw [HVL.out]; rfl) y37
          have e100 : (many gg_ L (VL z))[100]?.getD undef = .int .i64 aP := many_eval3 hgN (HOK.out z) (by rw [HVL.out]; rfl) y42
          have e105 : (many gg_ L (VL z))[105]?.getD undef = .int .i64 aP := many_eval3 hgN (HOK.out z) (by rw [HVL.out]; rfl) y47
          refine opIn_run_g (v := .bool false) (w' := w') (j := 37) (b := false) rfl rfl (by simp [yielded, many_some hgN (show 95 < 108 by decide) e95]) (fun c h => by cases h) (fun _ => trivial) ?_ ⟨z, by exact many_put3 (HOK.out _) (by rw [HVL.out]; rfl) hL, hph⟩
          go_simp
        · skip
          have y37 : L 37 = true := up_at hu 37 (by kernel_rfl)
          have y48 : L 48 = true := up_at hu 48 (by kernel_rfl)
          have e95 : (many gg_ L (VL z))[95]?.getD undef = .bool false := many_eval3 hgN (HOK.out z) (by rw [HVL.out]; rfl) y37
          have e106 : (many gg_ L (VL z))[106]?.getD undef = .bool false := many_eval3 hgN (HOK.out z) (by rw [HVL.out]; rfl) y48
          refine opIn_run (v := .bool false) (w' := w') rfl rfl (fun c h => by cases h) (fun _ => trivial) ?_ ⟨z, by exact many_put3 (HOK.out _) (by rw [HVL.out]; rfl) hL, hph⟩
          go_simp
      case fin =>
        intro L z w' hall hph
        rw [HVL.out]
        dsimp only [manyL, List.set_cons_zero, List.set_cons_succ]
        clear hall HVL HOK HVI
        have HN : Hid (Below W.heap.size W w') := Lib.hid hph
        clear hph HI
        go_wp2
        go_roundg g1
        case measure => omega
        case rel => exact ⟨i + 1, by omega, by go_num, HN⟩
    · obtain rfl : m = i := by omega
      have hlc : ¬ (m : Int) < (m : Int) := by omega
      go_wp2_with fail
      exact HQ.out _ _ _ _ _ _ _ _ _ _ _ _ _ _ _ _ _ _ _ _ _ _ _ _ _ _ _ _ _ _ _ _ _ _ _ _ _ _ _ _ _ _ _ _ _ _ _ _ _ _ _ _ _ _ _ _ _ wa HI
set_option maxHeartbeats 16000000 in
theorem lists_t {u0 u1 u2 u6 u8 u9 u10 u11 u12 u13 u14 u15 u16 u17 u18 u19 u20 u21 u22 u23 u24 u25 u26 u27 u28 u29 u30 u31 u32 u33 u34 u35 u36 u37 u38 u39 u40 u41 u42 u43 u44 u45 u46 u47 u48 u49 u50 u51 u52 u53 u54 u55 u56 u57 u58 u59 u60 u61 u62 u63 u64 u65 u66 u67 u68 u69 u70 u71 u72 u73 u74 u75 u76 u77 u78 u79 u80 u81 u82 u83 u84 u85 u86 u87 u88 u89 u90 u91 u92 u93 u94 u95 u96 u97 u98 u99 u100 u101 u102 u103 u104 u105 u106 u107 : Value} (ib pb tn TC N C2 o LV PR LY : Nat) (X Y OX OY : Int) (A2 : Option Addr) (TX TY ST : Int) (BW BH : Nat) (RC SO EP : Bool) (TA : Option Addr) (rs : List (Int × Int × Int × Int)) (ds : List (Int × Int)) (W : World)
    (HIM : Hid (W.heap[ib]? = some (.cells #[.int .i64 X, .int .i64 Y, .int .i64 OX, .int .i64 OY, .slice A2 N C2] 28 (0, 0)) ∧ W.heap[pb]? = some (.cells #[.int .i64 TX, .int .i64 TY, .int .i64 (LV : Int), .int .i64 (BW : Int), .int .i64 (BH : Int), .int .i64 (PR : Int), .int .i64 ST, .int .i64 (o : Int), .int .i64 (LY : Int), .bool RC, .bool SO, .bool EP] 30 (0, 0))))
    (HTC : Hid (rs.length = tn ∧ ∀ (i : Nat) (r : Int × Int × Int × Int), rs[i]? = some r → ∃ tg tq, TA = some ⟨tg, tq, none⟩ ∧ tg < W.heap.size ∧ W.cell? ⟨tg, tq + i * 4, none⟩ = some (.int .i64 r.1) ∧ W.cell? ⟨tg, tq + i * 4 + 1, none⟩ = some (.int .i64 r.2.1) ∧ W.cell? ⟨tg, tq + i * 4 + 2, none⟩ = some (.int .i64 r.2.2.1) ∧ W.cell? ⟨tg, tq + i * 4 + 3, none⟩ = some (.int .i64 r.2.2.2))) (LA : Hid (∀ (i : Nat) (r : Int × Int × Int × Int), rs[i]? = some r → ∀ u, Below W.heap.size W u → Calls Try.prog 13 #[.agg #[.int .i64 r.1, .int .i64 r.2.1, .int .i64 r.2.2.1, .int .i64 r.2.2.2], .agg #[.int .i64 X, .int .i64 Y, .int .i64 OX, .int .i64 OY, .slice A2 N C2], .agg #[.int .i64 TX, .int .i64 TY, .int .i64 (LV : Int), .int .i64 (BW : Int), .int .i64 (BH : Int), .int .i64 (PR : Int), .int .i64 ST, .int .i64 (o : Int), .int .i64 (LY : Int), .bool RC, .bool SO, .bool EP]] u fun e w' => ∃ (M : List Pk) (A : Option Addr) (m c : Nat), e = .returned (.slice A m c) ∧ M.length = m ∧ OL (geo r ds LV PR) LY o M ∧ KeyR w' A M ∧ Below u.heap.size u w')) (LB : Hid (∀ (i : Nat) (r : Int × Int × Int × Int), rs[i]? = some r → ∀ u, Below W.heap.size W u → Calls Try.prog 14 #[.agg #[.int .i64 r.1, .int .i64 r.2.1, .int .i64 r.2.2.1, .int .i64 r.2.2.2], .agg #[.int .i64 X, .int .i64 Y, .int .i64 OX, .int .i64 OY, .slice A2 N C2], .agg #[.int .i64 TX, .int .i64 TY, .int .i64 (LV : Int), .int .i64 (BW : Int), .int .i64 (BH : Int), .int .i64 (PR : Int), .int .i64 ST, .int .i64 (o : Int), .int .i64 (LY : Int), .bool RC, .bool SO, .bool EP]] u fun e w' => ∃ (M : List Pk) (A : Option Addr) (m c : Nat), e = .returned (.slice A m c) ∧ M.length = m ∧ OL (geo r ds LV PR) LY o M ∧ KeyR w' A M ∧ Below u.heap.size u w'))
    (HMB : Hid (∀ (i : Nat) (r : Int × Int × Int × Int) (M : List Pk), rs[i]? = some r → OL (geo r ds LV PR) LY o M → M.length ≤ 13000000)) (htn : tn ≤ 6) {Q : Exit → Act → World → Prop}
    (hQ : ∀ (v2 v8 v9 v10 v27 v28 v29 v30 v31 v32 v33 v34 v35 v36 v37 v38 v39 v40 v41 v42 v43 v44 v45 v46 v47 v48 v49 v50 v51 v52 v53 v54 v55 v56 v57 v58 v59 v60 v61 v62 v63 v64 v65 v66 v67 v68 v69 v70 v71 v72 v73 v74 v75 v76 v77 v78 v79 v80 v81 v82 v83 v84 v85 v86 v87 v88 v89 v90 v91 v92 v93 v94 v95 v96 v97 v98 v99 v100 v101 v102 v103 v104 v105 v106 v107 : Value) (W' : World), Hid (Below W.heap.size W W') → Q .normal ⟨#[u0, u1, v2, .pointer (some ⟨ib, 0, none⟩), .pointer (some ⟨pb, 0, none⟩), .slice TA tn TC, u6, .int .i64 (tn : Int), v8, v9, v10, u11, u12, u13, u14, u15, u16, u17, u18, u19, u20, u21, u22, u23, u24, u25, u26, v27, v28, v29, v30, v31, v32, v33, v34, v35, v36, v37, v38, v39, v40, v41, v42, v43, v44, v45, v46, v47, v48, v49, v50, v51, v52, v53, v54, v55, v56, v57, v58, v59, v60, v61, v62, v63, v64, v65, v66, v67, v68, v69, v70, v71, v72, v73, v74, v75, v76, v77, v78, v79, v80, v81, v82, v83, v84, v85, v86, v87, v88, v89, v90, v91, v92, v93, v94, v95, v96, v97, v98, v99, v100, v101, v102, v103, v104, v105, v106, v107], []⟩ W') :
    (blkOf Try.f3 2).wp Try.prog Q ⟨#[u0, u1, u2, .pointer (some ⟨ib, 0, none⟩), .pointer (some ⟨pb, 0, none⟩), .slice TA tn TC, u6, .int .i64 0, u8, u9, u10, u11, u12, u13, u14, u15, u16, u17, u18, u19, u20, u21, u22, u23, u24, u25, u26, u27, u28, u29, u30, u31, u32, u33, u34, u35, u36, u37, u38, u39, u40, u41, u42, u43, u44, u45, u46, u47, u48, u49, u50, u51, u52, u53, u54, u55, u56, u57, u58, u59, u60, u61, u62, u63, u64, u65, u66, u67, u68, u69, u70, u71, u72, u73, u74, u75, u76, u77, u78, u79, u80, u81, u82, u83, u84, u85, u86, u87, u88, u89, u90, u91, u92, u93, u94, u95, u96, u97, u98, u99, u100, u101, u102, u103, u104, u105, u106, u107], []⟩ W := by
  obtain ⟨o_, ho_⟩ : ∃ o, blkOf Try.f3 2 = o := ⟨_, rfl⟩
  rw [ho_]
  conv at ho_ => lhs; whnf
  subst ho_
  have HQ := Lib.hid hQ
  clear hQ
  go_wp2_with fail
  go_loopg [7] tn (fun g v wr => ∃ i : Nat, i + g = tn ∧ v = .int .i64 (i : Int) ∧ Hid (Below W.heap.size W wr))
  case atStart => exact ⟨0, by omega, rfl, Lib.hid (Below.refl _ _)⟩
  case round =>
    obtain ⟨i, hig, rfl, HI⟩ := hrel
    obtain ⟨wa, hwa⟩ : ∃ wa, wa = wr := ⟨wr, rfl⟩
    subst hwa
    by_cases hit : i < tn
    · obtain ⟨g1, rfl⟩ : ∃ g1, gk = g1 + 1 := ⟨gk - 1, by omega⟩
      have hiI : (i : Int) < (tn : Int) := by omega
      obtain ⟨r0, hr0⟩ : ∃ r, rs[i]? = some r := ⟨_, List.getElem?_eq_getElem (by rw [HTC.out.1]; exact hit)⟩
      obtain ⟨tg, tq, rfl, htl, t0, t1, t2, t3⟩ := HTC.out.2 i r0 hr0
      have hca := LA.out i r0 hr0
      have hcb := LB.out i r0 hr0
      have hmb := fun M => HMB.out i r0 M hr0
      obtain ⟨G, hG⟩ : ∃ G, geo r0 ds LV PR = G := ⟨_, rfl⟩
      rw [hG] at hca hcb hmb
      obtain ⟨rx0, ry0, rx1, ry1⟩ := r0
      simp only at hca hcb t0 t1 t2 t3
      have CA := Lib.hid hca
      have CB := Lib.hid hcb
      have HM2 := Lib.hid hmb
      have HT := Lib.hid (show _ ∧ _ ∧ _ ∧ _ ∧ _ from ⟨htl, t0, t1, t2, t3⟩)
      clear hca hcb hmb htl t0 t1 t2 t3 hr0 hG
      go_upto_region 12 with fail
      obtain ⟨VL, hVL⟩ : ∃ VL : (Nat × List Pk × Option Addr × Nat) × (Nat × List Pk × Option Addr × Nat) → List (Nat × Nat × Value), VL = fun z => [(0, 33, .slice (some ⟨tg, tq, none⟩) tn TC), (1, 34, .int .i64 (i : Int)), (2, 35, .pointer (some ⟨tg, tq + i * 4, none⟩)), (3, 36, .agg #[.int .i64 rx0, .int .i64 ry0, .int .i64 rx1, .int .i64 ry1]), (4, 37, .agg #[.int .i64 X, .int .i64 Y, .int .i64 OX, .int .i64 OY, .slice A2 N C2]), (5, 38, .agg #[.int .i64 TX, .int .i64 TY, .int .i64 (LV : Int), .int .i64 (BW : Int), .int .i64 (BH : Int), .int .i64 (PR : Int), .int .i64 ST, .int .i64 (o : Int), .int .i64 (LY : Int), .bool RC, .bool SO, .bool EP]), (6, 39, .slice z.1.2.2.1 z.1.1 z.1.2.2.2), (7, 40, .slice (some ⟨tg, tq, none⟩) tn TC), (8, 41, .int .i64 (i : Int)), (9, 42, .pointer (some ⟨tg, tq + i * 4, none⟩)), (10, 43, .agg #[.int .i64 rx0, .int .i64 ry0, .int .i64 rx1, .int .i64 ry1]), (11, 44, .agg #[.int .i64 X, .int .i64 Y, .int .i64 OX, .int .i64 OY, .slice A2 N C2]), (12, 45, .agg #[.int .i64 TX, .int .i64 TY, .int .i64 (LV : Int), .int .i64 (BW : Int), .int .i64 (BH : Int), .int .i64 (PR : Int), .int .i64 ST, .int .i64 (o : Int), .int .i64 (LY : Int), .bool RC, .bool SO, .bool EP]), (13, 46, .slice z.2.2.2.1 z.2.1 z.2.2.2.2), (14, 8, .slice z.1.2.2.1 z.1.1 z.1.2.2.2), (15, 9, .slice z.2.2.2.1 z.2.1 z.2.2.2.2)] := ⟨_, rfl⟩
      have hok : ∀ z, manyOk 108 (VL z) := fun z => by rw [hVL]; exact okB_ok rfl
      have HVL := Lib.hid hVL
      have hvi : ∀ z, ∀ x ∈ VL z, x.1 < 16 := fun z => by rw [hVL]; exact ltB_ok rfl
      have HOK := Lib.hid hok
      have HVI := Lib.hid hvi
      clear hVL hok hvi
      refine (wpIn_wide (n := 9)).1 (regionIn_many (N := 108) (w := _) VL (fun L z w' => (Below W.heap.size W w' ∧ (L 6 = true → (z.1.2.1.length = z.1.1 ∧ OL G LY o z.1.2.1 ∧ KeyR w' z.1.2.2.1 z.1.2.1)) ∧ (L 13 = true → (z.2.2.1.length = z.2.1 ∧ OL G LY o z.2.2.1 ∧ KeyR w' z.2.2.2.1 z.2.2.1))) ∧ Hid True) [(3, .pointer (some ⟨ib, 0, none⟩)), (4, .pointer (some ⟨pb, 0, none⟩)), (5, .slice (some ⟨tg, tq, none⟩) tn TC), (7, .int .i64 (i : Int))] (by kernel_rfl) (by kernel_rfl) rfl (by simp only [List.forall_mem_cons, List.not_mem_nil, false_imp_iff, implies_true, and_true]; exact ⟨rfl, rfl, rfl, rfl⟩) HVI.out ((0, [], none, 0), (0, [], none, 0)) ?start ?step ?fin)
      case start => exact ⟨⟨below_drewN HI.out 1, fun h => (by cases h), fun h => (by cases h)⟩, Lib.hid trivial⟩
      case step =>
        intro gg_ hgN hgF ii_ hii_ L z w' hph hs hu
        obtain ⟨hcm, hph⟩ := hph
        have hF3 := hgF (3, .pointer (some ⟨ib, 0, none⟩)) (by simp)
        have hF4 := hgF (4, .pointer (some ⟨pb, 0, none⟩)) (by simp)
        have hF5 := hgF (5, .slice (some ⟨tg, tq, none⟩) tn TC) (by simp)
        have hF7 := hgF (7, .int .i64 (i : Int)) (by simp)
        have hL := hu.1
        have hii_ : ii_ < 16 := hii_
        clear hgF
        obtain rfl | rfl | rfl | rfl | rfl | rfl | rfl | rfl | rfl | rfl | rfl | rfl | rfl | rfl | rfl | rfl := (by omega : ii_ = 0 ∨ ii_ = 1 ∨ ii_ = 2 ∨ ii_ = 3 ∨ ii_ = 4 ∨ ii_ = 5 ∨ ii_ = 6 ∨ ii_ = 7 ∨ ii_ = 8 ∨ ii_ = 9 ∨ ii_ = 10 ∨ ii_ = 11 ∨ ii_ = 12 ∨ ii_ = 13 ∨ ii_ = 14 ∨ ii_ = 15)
        · skip
          have n6 : L 6 = false := not_yet hL fun h => shut_at hs 2 0 (by kernel_rfl) (shut_at hs 3 2 (by kernel_rfl) (shut_at hs 6 3 (by kernel_rfl) (h)))
          have n13 : L 13 = false := not_yet hL fun h => shut_at hs 2 0 (by kernel_rfl) (shut_at hs 3 2 (by kernel_rfl) (shut_at hs 6 3 (by kernel_rfl) (shut_at hs 13 6 (by kernel_rfl) (h))))
          have n14 : L 14 = false := not_yet hL fun h => shut_at hs 14 0 (by kernel_rfl) (h)
          have n15 : L 15 = false := not_yet hL fun h => shut_at hs 15 0 (by kernel_rfl) (h)
          have e5 : (many gg_ L (VL z))[5]?.getD undef = .slice (some ⟨tg, tq, none⟩) tn TC := many_out3 hgN (HOK.out z) (by rw [HVL.out]; rfl) hF5
          refine opIn_run (v := .slice (some ⟨tg, tq, none⟩) tn TC) (w' := w') rfl rfl (fun c h => by cases h) (fun _ => trivial) ?_ ⟨z, by exact many_put3 (HOK.out _) (by rw [HVL.out]; rfl) hL, hcm, hph⟩
          go_simp
        · skip
          have n6 : L 6 = false := not_yet hL fun h => shut_at hs 2 1 (by kernel_rfl) (shut_at hs 3 2 (by kernel_rfl) (shut_at hs 6 3 (by kernel_rfl) (h)))
          have n13 : L 13 = false := not_yet hL fun h => shut_at hs 2 1 (by kernel_rfl) (shut_at hs 3 2 (by kernel_rfl) (shut_at hs 6 3 (by kernel_rfl) (shut_at hs 13 6 (by kernel_rfl) (h))))
          have n14 : L 14 = false := not_yet hL fun h => shut_at hs 14 1 (by kernel_rfl) (h)
          have n15 : L 15 = false := not_yet hL fun h => shut_at hs 15 1 (by kernel_rfl) (h)
          have e7 : (many gg_ L (VL z))[7]?.getD undef = .int .i64 (i : Int) := many_out3 hgN (HOK.out z) (by rw [HVL.out]; rfl) hF7
          refine opIn_run (v := .int .i64 (i : Int)) (w' := w') rfl rfl (fun c h => by cases h) (fun _ => trivial) ?_ ⟨z, by exact many_put3 (HOK.out _) (by rw [HVL.out]; rfl) hL, hcm, hph⟩
          go_simp
        · skip
          have y0 : L 0 = true := up_at hu 0 (by kernel_rfl)
          have y1 : L 1 = true := up_at hu 1 (by kernel_rfl)
          have n6 : L 6 = false := not_yet hL fun h => shut_at hs 3 2 (by kernel_rfl) (shut_at hs 6 3 (by kernel_rfl) (h))
          have n13 : L 13 = false := not_yet hL fun h => shut_at hs 3 2 (by kernel_rfl) (shut_at hs 6 3 (by kernel_rfl) (shut_at hs 13 6 (by kernel_rfl) (h)))
          have n14 : L 14 = false := not_yet hL fun h => shut_at hs 14 2 (by kernel_rfl) (h)
          have n15 : L 15 = false := not_yet hL fun h => shut_at hs 15 2 (by kernel_rfl) (h)
          have e33 : (many gg_ L (VL z))[33]?.getD undef = .slice (some ⟨tg, tq, none⟩) tn TC := many_eval3 hgN (HOK.out z) (by rw [HVL.out]; rfl) y0
          have e34 : (many gg_ L (VL z))[34]?.getD undef = .int .i64 (i : Int) := many_eval3 hgN (HOK.out z) (by rw [HVL.out]; rfl) y1
          refine opIn_run (v := .pointer (some ⟨tg, tq + i * 4, none⟩)) (w' := w') rfl rfl (fun c h => by cases h) (fun _ => trivial) ?_ ⟨z, by exact many_put3 (HOK.out _) (by rw [HVL.out]; rfl) hL, hcm, hph⟩
          have hj0 : ¬ (i : Int) < 0 := by omega
          go_simp
        · skip
          have y2 : L 2 = true := up_at hu 2 (by kernel_rfl)
          have n6 : L 6 = false := not_yet hL fun h => shut_at hs 6 3 (by kernel_rfl) (h)
          have n13 : L 13 = false := not_yet hL fun h => shut_at hs 6 3 (by kernel_rfl) (shut_at hs 13 6 (by kernel_rfl) (h))
          have n14 : L 14 = false := not_yet hL fun h => shut_at hs 14 3 (by kernel_rfl) (h)
          have n15 : L 15 = false := not_yet hL fun h => shut_at hs 15 3 (by kernel_rfl) (h)
          have g0 := (hcm.1.cell (p := ⟨tg, tq + i * 4, none⟩) HT.out.1).trans HT.out.2.1
          have g1 := (hcm.1.cell (p := ⟨tg, tq + i * 4 + 1, none⟩) HT.out.1).trans HT.out.2.2.1
          have g2 := (hcm.1.cell (p := ⟨tg, tq + i * 4 + 2, none⟩) HT.out.1).trans HT.out.2.2.2.1
          have g3 := (hcm.1.cell (p := ⟨tg, tq + i * 4 + 3, none⟩) HT.out.1).trans HT.out.2.2.2.2
          have e35 : (many gg_ L (VL z))[35]?.getD undef = .pointer (some ⟨tg, tq + i * 4, none⟩) := many_eval3 hgN (HOK.out z) (by rw [HVL.out]; rfl) y2
          refine opIn_run (v := .agg #[.int .i64 rx0, .int .i64 ry0, .int .i64 rx1, .int .i64 ry1]) (w' := w') rfl rfl (fun c h => by cases h) (fun _ => trivial) ?_ ⟨z, by exact many_put3 (HOK.out _) (by rw [HVL.out]; rfl) hL, hcm, hph⟩
          go_simp
        · skip
          have n6 : L 6 = false := not_yet hL fun h => shut_at hs 6 4 (by kernel_rfl) (h)
          have n13 : L 13 = false := not_yet hL fun h => shut_at hs 6 4 (by kernel_rfl) (shut_at hs 13 6 (by kernel_rfl) (h))
          have n14 : L 14 = false := not_yet hL fun h => shut_at hs 14 4 (by kernel_rfl) (h)
          have n15 : L 15 = false := not_yet hL fun h => shut_at hs 15 4 (by kernel_rfl) (h)
          have hI_ := (hcm.1.block ib (Array.getElem?_eq_some_iff.1 HIM.out.1).1).trans HIM.out.1
          have i0' : w'.cell? ⟨ib, 0, none⟩ = some (.int .i64 X) := blk_cell hI_ 0
          have i1' : w'.cell? ⟨ib, 1, none⟩ = some (.int .i64 Y) := blk_cell hI_ 1
          have i2' : w'.cell? ⟨ib, 2, none⟩ = some (.int .i64 OX) := blk_cell hI_ 2
          have i3' : w'.cell? ⟨ib, 3, none⟩ = some (.int .i64 OY) := blk_cell hI_ 3
          have i4' : w'.cell? ⟨ib, 4, none⟩ = some (.slice A2 N C2) := blk_cell hI_ 4
          have e3 : (many gg_ L (VL z))[3]?.getD undef = .pointer (some ⟨ib, 0, none⟩) := many_out3 hgN (HOK.out z) (by rw [HVL.out]; rfl) hF3
          refine opIn_run (v := .agg #[.int .i64 X, .int .i64 Y, .int .i64 OX, .int .i64 OY, .slice A2 N C2]) (w' := w') rfl rfl (fun c h => by cases h) (fun _ => trivial) ?_ ⟨z, by exact many_put3 (HOK.out _) (by rw [HVL.out]; rfl) hL, hcm, hph⟩
          go_simp
        · skip
          have n6 : L 6 = false := not_yet hL fun h => shut_at hs 6 5 (by kernel_rfl) (h)
          have n13 : L 13 = false := not_yet hL fun h => shut_at hs 6 5 (by kernel_rfl) (shut_at hs 13 6 (by kernel_rfl) (h))
          have n14 : L 14 = false := not_yet hL fun h => shut_at hs 14 5 (by kernel_rfl) (h)
          have n15 : L 15 = false := not_yet hL fun h => shut_at hs 15 5 (by kernel_rfl) (h)
          have hP_ := (hcm.1.block pb (Array.getElem?_eq_some_iff.1 HIM.out.2).1).trans HIM.out.2
          have j0' : w'.cell? ⟨pb, 0, none⟩ = some (.int .i64 TX) := blk_cell hP_ 0
          have j1' : w'.cell? ⟨pb, 1, none⟩ = some (.int .i64 TY) := blk_cell hP_ 1
          have j2' : w'.cell? ⟨pb, 2, none⟩ = some (.int .i64 (LV : Int)) := blk_cell hP_ 2
          have j3' : w'.cell? ⟨pb, 3, none⟩ = some (.int .i64 (BW : Int)) := blk_cell hP_ 3
          have j4' : w'.cell? ⟨pb, 4, none⟩ = some (.int .i64 (BH : Int)) := blk_cell hP_ 4
          have j5' : w'.cell? ⟨pb, 5, none⟩ = some (.int .i64 (PR : Int)) := blk_cell hP_ 5
          have j6' : w'.cell? ⟨pb, 6, none⟩ = some (.int .i64 ST) := blk_cell hP_ 6
          have j7' : w'.cell? ⟨pb, 7, none⟩ = some (.int .i64 (o : Int)) := blk_cell hP_ 7
          have j8' : w'.cell? ⟨pb, 8, none⟩ = some (.int .i64 (LY : Int)) := blk_cell hP_ 8
          have j9' : w'.cell? ⟨pb, 9, none⟩ = some (.bool RC) := blk_cell hP_ 9
          have j10' : w'.cell? ⟨pb, 10, none⟩ = some (.bool SO) := blk_cell hP_ 10
          have j11' : w'.cell? ⟨pb, 11, none⟩ = some (.bool EP) := blk_cell hP_ 11
          have e4 : (many gg_ L (VL z))[4]?.getD undef = .pointer (some ⟨pb, 0, none⟩) := many_out3 hgN (HOK.out z) (by rw [HVL.out]; rfl) hF4
          refine opIn_run (v := .agg #[.int .i64 TX, .int .i64 TY, .int .i64 (LV : Int), .int .i64 (BW : Int), .int .i64 (BH : Int), .int .i64 (PR : Int), .int .i64 ST, .int .i64 (o : Int), .int .i64 (LY : Int), .bool RC, .bool SO, .bool EP]) (w' := w') rfl rfl (fun c h => by cases h) (fun _ => trivial) ?_ ⟨z, by exact many_put3 (HOK.out _) (by rw [HVL.out]; rfl) hL, hcm, hph⟩
          go_simp
        · skip
          have y3 : L 3 = true := up_at hu 3 (by kernel_rfl)
          have y4 : L 4 = true := up_at hu 4 (by kernel_rfl)
          have y5 : L 5 = true := up_at hu 5 (by kernel_rfl)
          have n13 : L 13 = false := not_yet hL fun h => shut_at hs 13 6 (by kernel_rfl) (h)
          have n14 : L 14 = false := not_yet hL fun h => shut_at hs 14 6 (by kernel_rfl) (h)
          have n15 : L 15 = false := not_yet hL fun h => shut_at hs 15 6 (by kernel_rfl) (h)
          have e36 : (many gg_ L (VL z))[36]?.getD undef = .agg #[.int .i64 rx0, .int .i64 ry0, .int .i64 rx1, .int .i64 ry1] := many_eval3 hgN (HOK.out z) (by rw [HVL.out]; rfl) y3
          have e37 : (many gg_ L (VL z))[37]?.getD undef = .agg #[.int .i64 X, .int .i64 Y, .int .i64 OX, .int .i64 OY, .slice A2 N C2] := many_eval3 hgN (HOK.out z) (by rw [HVL.out]; rfl) y4
          have e38 : (many gg_ L (VL z))[38]?.getD undef = .agg #[.int .i64 TX, .int .i64 TY, .int .i64 (LV : Int), .int .i64 (BW : Int), .int .i64 (BH : Int), .int .i64 (PR : Int), .int .i64 ST, .int .i64 (o : Int), .int .i64 (LY : Int), .bool RC, .bool SO, .bool EP] := many_eval3 hgN (HOK.out z) (by rw [HVL.out]; rfl) y5
          refine opIn_call (f := 13) (args := #[.agg #[.int .i64 rx0, .int .i64 ry0, .int .i64 rx1, .int .i64 ry1], .agg #[.int .i64 X, .int .i64 Y, .int .i64 OX, .int .i64 OY, .slice A2 N C2], .agg #[.int .i64 TX, .int .i64 TY, .int .i64 (LV : Int), .int .i64 (BW : Int), .int .i64 (BH : Int), .int .i64 (PR : Int), .int .i64 ST, .int .i64 (o : Int), .int .i64 (LY : Int), .bool RC, .bool SO, .bool EP]]) (w' := w') rfl rfl (fun c h => by cases h) (fun _ => trivial) rfl (by go_simp) ((callsIn_wide.2 (CA.out w' hcm.1)).mono ?_)
          rintro e w2 ⟨M_, A_, m_, c_, rfl, h1_, h2_, h3_, hb⟩
          exact ⟨_, rfl, ((m_, M_, A_, c_), z.2), by rw [show many gg_ L (VL z) = many gg_ L (VL ((m_, M_, A_, c_), z.2)) from by rw [HVL.out]; simp only [many, y3, y4, y5, n13, n14, n15, hL, cond_false, cond_true]]; exact many_put3 (HOK.out _) (by rw [HVL.out]; rfl) hL, ⟨hcm.1.trans (hb.mono hcm.1.size), fun _ => ⟨h1_, h2_, h3_⟩, fun h => ⟨(hcm.2.2 h).1, (hcm.2.2 h).2.1, (hcm.2.2 h).2.2.below hb⟩⟩, hph⟩
        · skip
          have n13 : L 13 = false := not_yet hL fun h => shut_at hs 9 7 (by kernel_rfl) (shut_at hs 10 9 (by kernel_rfl) (shut_at hs 13 10 (by kernel_rfl) (h)))
          have n14 : L 14 = false := not_yet hL fun h => shut_at hs 9 7 (by kernel_rfl) (shut_at hs 10 9 (by kernel_rfl) (shut_at hs 13 10 (by kernel_rfl) (shut_at hs 14 13 (by kernel_rfl) (h))))
          have n15 : L 15 = false := not_yet hL fun h => shut_at hs 15 7 (by kernel_rfl) (h)
          have e5 : (many gg_ L (VL z))[5]?.getD undef = .slice (some ⟨tg, tq, none⟩) tn TC := many_out3 hgN (HOK.out z) (by rw [HVL.out]; rfl) hF5
          refine opIn_run (v := .slice (some ⟨tg, tq, none⟩) tn TC) (w' := w') rfl rfl (fun c h => by cases h) (fun _ => trivial) ?_ ⟨z, by exact many_put3 (HOK.out _) (by rw [HVL.out]; rfl) hL, hcm, hph⟩
          go_simp
        · skip
          have n13 : L 13 = false := not_yet hL fun h => shut_at hs 9 8 (by kernel_rfl) (shut_at hs 10 9 (by kernel_rfl) (shut_at hs 13 10 (by kernel_rfl) (h)))
          have n14 : L 14 = false := not_yet hL fun h => shut_at hs 9 8 (by kernel_rfl) (shut_at hs 10 9 (by kernel_rfl) (shut_at hs 13 10 (by kernel_rfl) (shut_at hs 14 13 (by kernel_rfl) (h))))
          have n15 : L 15 = false := not_yet hL fun h => shut_at hs 15 8 (by kernel_rfl) (h)
          have e7 : (many gg_ L (VL z))[7]?.getD undef = .int .i64 (i : Int) := many_out3 hgN (HOK.out z) (by rw [HVL.out]; rfl) hF7
          refine opIn_run (v := .int .i64 (i : Int)) (w' := w') rfl rfl (fun c h => by cases h) (fun _ => trivial) ?_ ⟨z, by exact many_put3 (HOK.out _) (by rw [HVL.out]; rfl) hL, hcm, hph⟩
          go_simp
        · skip
          have y7 : L 7 = true := up_at hu 7 (by kernel_rfl)
          have y8 : L 8 = true := up_at hu 8 (by kernel_rfl)
          have n13 : L 13 = false := not_yet hL fun h => shut_at hs 10 9 (by kernel_rfl) (shut_at hs 13 10 (by kernel_rfl) (h))
          have n14 : L 14 = false := not_yet hL fun h => shut_at hs 10 9 (by kernel_rfl) (shut_at hs 13 10 (by kernel_rfl) (shut_at hs 14 13 (by kernel_rfl) (h)))
          have n15 : L 15 = false := not_yet hL fun h => shut_at hs 15 9 (by kernel_rfl) (h)
          have e40 : (many gg_ L (VL z))[40]?.getD undef = .slice (some ⟨tg, tq, none⟩) tn TC := many_eval3 hgN (HOK.out z) (by rw [HVL.out]; rfl) y7
          have e41 : (many gg_ L (VL z))[41]?.getD undef = .int .i64 (i : Int) := many_eval3 hgN (HOK.out z) (by rw [HVL.out]; rfl) y8
          refine opIn_run (v := .pointer (some ⟨tg, tq + i * 4, none⟩)) (w' := w') rfl rfl (fun c h => by cases h) (fun _ => trivial) ?_ ⟨z, by exact many_put3 (HOK.out _) (by rw [HVL.out]; rfl) hL, hcm, hph⟩
          have hj0 : ¬ (i : Int) < 0 := by omega
          go_simp
        · skip
          have y9 : L 9 = true := up_at hu 9 (by kernel_rfl)
          have n13 : L 13 = false := not_yet hL fun h => shut_at hs 13 10 (by kernel_rfl) (h)
          have n14 : L 14 = false := not_yet hL fun h => shut_at hs 13 10 (by kernel_rfl) (shut_at hs 14 13 (by kernel_rfl) (h))
          have n15 : L 15 = false := not_yet hL fun h => shut_at hs 15 10 (by kernel_rfl) (h)
          have g0 := (hcm.1.cell (p := ⟨tg, tq + i * 4, none⟩) HT.out.1).trans HT.out.2.1
          have g1 := (hcm.1.cell (p := ⟨tg, tq + i * 4 + 1, none⟩) HT.out.1).trans HT.out.2.2.1
          have g2 := (hcm.1.cell (p := ⟨tg, tq + i * 4 + 2, none⟩) HT.out.1).trans HT.out.2.2.2.1
          have g3 := (hcm.1.cell (p := ⟨tg, tq + i * 4 + 3, none⟩) HT.out.1).trans HT.out.2.2.2.2
          have e42 : (many gg_ L (VL z))[42]?.getD undef = .pointer (some ⟨tg, tq + i * 4, none⟩) := many_eval3 hgN (HOK.out z) (by rw [HVL.out]; rfl) y9
          refine opIn_run (v := .agg #[.int .i64 rx0, .int .i64 ry0, .int .i64 rx1, .int .i64 ry1]) (w' := w') rfl rfl (fun c h => by cases h) (fun _ => trivial) ?_ ⟨z, by exact many_put3 (HOK.out _) (by rw [HVL.out]; rfl) hL, hcm, hph⟩
          go_simp
        · skip
          have n13 : L 13 = false := not_yet hL fun h => shut_at hs 13 11 (by kernel_rfl) (h)
          have n14 : L 14 = false := not_yet hL fun h => shut_at hs 13 11 (by kernel_rfl) (shut_at hs 14 13 (by kernel_rfl) (h))
          have n15 : L 15 = false := not_yet hL fun h => shut_at hs 15 11 (by kernel_rfl) (h)
          have hI_ := (hcm.1.block ib (Array.getElem?_eq_some_iff.1 HIM.out.1).1).trans HIM.out.1
          have i0' : w'.cell? ⟨ib, 0, none⟩ = some (.int .i64 X) := blk_cell hI_ 0
          have i1' : w'.cell? ⟨ib, 1, none⟩ = some (.int .i64 Y) := blk_cell hI_ 1
          have i2' : w'.cell? ⟨ib, 2, none⟩ = some (.int .i64 OX) := blk_cell hI_ 2
          have i3' : w'.cell? ⟨ib, 3, none⟩ = some (.int .i64 OY) := blk_cell hI_ 3
          have i4' : w'.cell? ⟨ib, 4, none⟩ = some (.slice A2 N C2) := blk_cell hI_ 4
          have e3 : (many gg_ L (VL z))[3]?.getD undef = .pointer (some ⟨ib, 0, none⟩) := many_out3 hgN (HOK.out z) (by rw [HVL.out]; rfl) hF3
          refine opIn_run (v := .agg #[.int .i64 X, .int .i64 Y, .int .i64 OX, .int .i64 OY, .slice A2 N C2]) (w' := w') rfl rfl (fun c h => by cases h) (fun _ => trivial) ?_ ⟨z, by exact many_put3 (HOK.out _) (by rw [HVL.out]; rfl) hL, hcm, hph⟩
          go_simp
        · skip
          have n13 : L 13 = false := not_yet hL fun h => shut_at hs 13 12 (by kernel_rfl) (h)
          have n14 : L 14 = false := not_yet hL fun h => shut_at hs 13 12 (by kernel_rfl) (shut_at hs 14 13 (by kernel_rfl) (h))
          have n15 : L 15 = false := not_yet hL fun h => shut_at hs 15 12 (by kernel_rfl) (h)
          have hP_ := (hcm.1.block pb (Array.getElem?_eq_some_iff.1 HIM.out.2).1).trans HIM.out.2
          have j0' : w'.cell? ⟨pb, 0, none⟩ = some (.int .i64 TX) := blk_cell hP_ 0
          have j1' : w'.cell? ⟨pb, 1, none⟩ = some (.int .i64 TY) := blk_cell hP_ 1
          have j2' : w'.cell? ⟨pb, 2, none⟩ = some (.int .i64 (LV : Int)) := blk_cell hP_ 2
          have j3' : w'.cell? ⟨pb, 3, none⟩ = some (.int .i64 (BW : Int)) := blk_cell hP_ 3
          have j4' : w'.cell? ⟨pb, 4, none⟩ = some (.int .i64 (BH : Int)) := blk_cell hP_ 4
          have j5' : w'.cell? ⟨pb, 5, none⟩ = some (.int .i64 (PR : Int)) := blk_cell hP_ 5
          have j6' : w'.cell? ⟨pb, 6, none⟩ = some (.int .i64 ST) := blk_cell hP_ 6
          have j7' : w'.cell? ⟨pb, 7, none⟩ = some (.int .i64 (o : Int)) := blk_cell hP_ 7
          have j8' : w'.cell? ⟨pb, 8, none⟩ = some (.int .i64 (LY : Int)) := blk_cell hP_ 8
          have j9' : w'.cell? ⟨pb, 9, none⟩ = some (.bool RC) := blk_cell hP_ 9
          have j10' : w'.cell? ⟨pb, 10, none⟩ = some (.bool SO) := blk_cell hP_ 10
          have j11' : w'.cell? ⟨pb, 11, none⟩ = some (.bool EP) := blk_cell hP_ 11
          have e4 : (many gg_ L (VL z))[4]?.getD undef = .pointer (some ⟨pb, 0, none⟩) := many_out3 hgN (HOK.out z) (by rw [HVL.out]; rfl) hF4
          refine opIn_run (v := .agg #[.int .i64 TX, .int .i64 TY, .int .i64 (LV : Int), .int .i64 (BW : Int), .int .i64 (BH : Int), .int .i64 (PR : Int), .int .i64 ST, .int .i64 (o : Int), .int .i64 (LY : Int), .bool RC, .bool SO, .bool EP]) (w' := w') rfl rfl (fun c h => by cases h) (fun _ => trivial) ?_ ⟨z, by exact many_put3 (HOK.out _) (by rw [HVL.out]; rfl) hL, hcm, hph⟩
          go_simp
        · skip
          have y6 : L 6 = true := up_at hu 6 (by kernel_rfl)
          have y10 : L 10 = true := up_at hu 10 (by kernel_rfl)
          have y11 : L 11 = true := up_at hu 11 (by kernel_rfl)
          have y12 : L 12 = true := up_at hu 12 (by kernel_rfl)
          have n14 : L 14 = false := not_yet hL fun h => shut_at hs 14 13 (by kernel_rfl) (h)
          have n15 : L 15 = false := not_yet hL fun h => shut_at hs 15 13 (by kernel_rfl) (h)
          have e43 : (many gg_ L (VL z))[43]?.getD undef = .agg #[.int .i64 rx0, .int .i64 ry0, .int .i64 rx1, .int .i64 ry1] := many_eval3 hgN (HOK.out z) (by rw [HVL.out]; rfl) y10
          have e44 : (many gg_ L (VL z))[44]?.getD undef = .agg #[.int .i64 X, .int .i64 Y, .int .i64 OX, .int .i64 OY, .slice A2 N C2] := many_eval3 hgN (HOK.out z) (by rw [HVL.out]; rfl) y11
          have e45 : (many gg_ L (VL z))[45]?.getD undef = .agg #[.int .i64 TX, .int .i64 TY, .int .i64 (LV : Int), .int .i64 (BW : Int), .int .i64 (BH : Int), .int .i64 (PR : Int), .int .i64 ST, .int .i64 (o : Int), .int .i64 (LY : Int), .bool RC, .bool SO, .bool EP] := many_eval3 hgN (HOK.out z) (by rw [HVL.out]; rfl) y12
          refine opIn_call (f := 14) (args := #[.agg #[.int .i64 rx0, .int .i64 ry0, .int .i64 rx1, .int .i64 ry1], .agg #[.int .i64 X, .int .i64 Y, .int .i64 OX, .int .i64 OY, .slice A2 N C2], .agg #[.int .i64 TX, .int .i64 TY, .int .i64 (LV : Int), .int .i64 (BW : Int), .int .i64 (BH : Int), .int .i64 (PR : Int), .int .i64 ST, .int .i64 (o : Int), .int .i64 (LY : Int), .bool RC, .bool SO, .bool EP]]) (w' := w') rfl rfl (fun c h => by cases h) (fun _ => trivial) rfl (by go_simp) ((callsIn_wide.2 (CB.out w' hcm.1)).mono ?_)
          rintro e w2 ⟨M_, A_, m_, c_, rfl, h1_, h2_, h3_, hb⟩
          exact ⟨_, rfl, (z.1, (m_, M_, A_, c_)), by rw [show many gg_ L (VL z) = many gg_ L (VL (z.1, (m_, M_, A_, c_))) from by rw [HVL.out]; simp only [many, y6, y10, y11, y12, n14, n15, hL, cond_false, cond_true]]; exact many_put3 (HOK.out _) (by rw [HVL.out]; rfl) hL, ⟨hcm.1.trans (hb.mono hcm.1.size), fun h => ⟨(hcm.2.1 h).1, (hcm.2.1 h).2.1, (hcm.2.1 h).2.2.below hb⟩, fun _ => ⟨h1_, h2_, h3_⟩⟩, hph⟩
        · skip
          have y0 : L 0 = true := up_at hu 0 (by kernel_rfl)
          have y1 : L 1 = true := up_at hu 1 (by kernel_rfl)
          have y2 : L 2 = true := up_at hu 2 (by kernel_rfl)
          have y3 : L 3 = true := up_at hu 3 (by kernel_rfl)
          have y4 : L 4 = true := up_at hu 4 (by kernel_rfl)
          have y5 : L 5 = true := up_at hu 5 (by kernel_rfl)
          have y6 : L 6 = true := up_at hu 6 (by kernel_rfl)
          have y13 : L 13 = true := up_at hu 13 (by kernel_rfl)
          have n15 : L 15 = false := not_yet hL fun h => shut_at hs 15 14 (by kernel_rfl) (h)
          have e39 : (many gg_ L (VL z))[39]?.getD undef = .slice z.1.2.2.1 z.1.1 z.1.2.2.2 := many_eval3 hgN (HOK.out z) (by rw [HVL.out]; rfl) y6
          refine opIn_run (v := .slice z.1.2.2.1 z.1.1 z.1.2.2.2) (w' := w') rfl rfl (fun c h => by cases h) (fun _ => trivial) ?_ ⟨z, by exact many_put3 (HOK.out _) (by rw [HVL.out]; rfl) hL, hcm, hph⟩
          go_simp
        · skip
          have y0 : L 0 = true := up_at hu 0 (by kernel_rfl)
          have y1 : L 1 = true := up_at hu 1 (by kernel_rfl)
          have y2 : L 2 = true := up_at hu 2 (by kernel_rfl)
          have y3 : L 3 = true := up_at hu 3 (by kernel_rfl)
          have y4 : L 4 = true := up_at hu 4 (by kernel_rfl)
          have y5 : L 5 = true := up_at hu 5 (by kernel_rfl)
          have y6 : L 6 = true := up_at hu 6 (by kernel_rfl)
          have y7 : L 7 = true := up_at hu 7 (by kernel_rfl)
          have y8 : L 8 = true := up_at hu 8 (by kernel_rfl)
          have y9 : L 9 = true := up_at hu 9 (by kernel_rfl)
          have y10 : L 10 = true := up_at hu 10 (by kernel_rfl)
          have y11 : L 11 = true := up_at hu 11 (by kernel_rfl)
          have y12 : L 12 = true := up_at hu 12 (by kernel_rfl)
          have y13 : L 13 = true := up_at hu 13 (by kernel_rfl)
          have y14 : L 14 = true := up_at hu 14 (by kernel_rfl)
          have e46 : (many gg_ L (VL z))[46]?.getD undef = .slice z.2.2.2.1 z.2.1 z.2.2.2.2 := many_eval3 hgN (HOK.out z) (by rw [HVL.out]; rfl) y13
          refine opIn_run (v := .slice z.2.2.2.1 z.2.1 z.2.2.2.2) (w' := w') rfl rfl (fun c h => by cases h) (fun _ => trivial) ?_ ⟨z, by exact many_put3 (HOK.out _) (by rw [HVL.out]; rfl) hL, hcm, hph⟩
          go_simp
      case fin =>
        intro L z w' hall hph
        obtain ⟨hcm, hph⟩ := hph
        have h6_ := hcm.2.1 (hall 6 (by decide))
        have h13_ := hcm.2.2 (hall 13 (by decide))
        rw [HVL.out]
        dsimp only [manyL, List.set_cons_zero, List.set_cons_succ]
        clear hall HVL HOK HVI
        obtain ⟨⟨m1, M1, A1, c1⟩, ⟨m2, M2, B2, c2⟩⟩ := z
        simp only at h6_ h13_ hcm
        obtain rfl : M1 = M2 := OL.unique h6_.2.1 h13_.2.1
        obtain rfl : m1 = m2 := by rw [← h6_.1, ← h13_.1]
        have hm13 : m1 ≤ 13000000 := by rw [← h6_.1]; exact HM2.out _ h6_.2.1
        have HKK : Hid (M1.length = m1 ∧ KeyR w' A1 M1 ∧ KeyR w' B2 M1) := Lib.hid ⟨h6_.1, h6_.2.2, h13_.2.2⟩
        have HBw : Hid (Below W.heap.size W w') := Lib.hid hcm.1
        have hnm : (m1 == m1) = true := by simp
        clear h6_ h13_ hcm hph CA CB HI
        go_upto_block 4 with fail
        refine wp_code (c' := blkOf Try.f3 4) (by kernel_rfl) (lists_k m1 c1 c2 A1 B2 M1 w' HKK hm13 ?_)
        intro v2 v52 v53 v54 v55 v56 v57 v58 v59 v60 v61 v62 v63 v64 v65 v66 v67 v68 v69 v70 v71 v72 v73 v74 v75 v76 v77 v78 v79 v80 v81 v82 v83 v84 v85 v86 v87 v88 v89 v90 v91 v92 v93 v94 v95 v96 v97 v98 v99 v100 v101 v102 v103 v104 v105 v106 v107 W' H2
        have HN : Hid (Below W.heap.size W W') := Lib.hid (HBw.out.trans (H2.out.mono HBw.out.size))
        clear H2 HBw HKK
        go_wp2
        go_roundg g1
        case measure => omega
        case rel => exact ⟨i + 1, by omega, by go_num, HN⟩
    · obtain rfl : tn = i := by omega
      have hlc : ¬ (tn : Int) < (tn : Int) := by omega
      go_wp2_with fail
      exact HQ.out _ _ _ _ _ _ _ _ _ _ _ _ _ _ _ _ _ _ _ _ _ _ _ _ _ _ _ _ _ _ _ _ _ _ _ _ _ _ _ _ _ _ _ _ _ _ _ _ _ _ _ _ _ _ _ _ _ _ _ _ _ _ _ _ _ _ _ _ _ _ _ _ _ _ _ _ _ _ _ _ _ _ _ _ _ wa HI
end
end
section
open Go.RowKit
set_option maxRecDepth 100000
/-- The tiles of a made picture, as a row of their own. -/
theorem tilesW (X Y OX OY TX TY : Int) (A2 : Option Addr) (N C2 : Nat) (h1 : 0 ≤ OX ∧ OX < X ∧ X ≤ 64) (h2 : 0 ≤ OY ∧ OY < Y ∧ Y ≤ 64) (hTX : OX < TX ∧ TX ≤ 832) (hTY : OY < TY ∧ TY ≤ 832) (hc : cntT X Y TX TY ≤ 6) :
    ∃ rs : List (Int × Int × Int × Int), (1 ≤ rs.length ∧ rs.length ≤ 6) ∧ (∀ (i : Nat) (r : Int × Int × Int × Int), rs[i]? = some r → inN r 255 ∧ Ord4 r) ∧
      ∀ (lv bw bh pr st od ly : Int) (rct sop eph : Bool) u, Calls Try.prog 12 #[.agg #[.int .i64 X, .int .i64 Y, .int .i64 OX, .int .i64 OY, .slice A2 N C2], .agg #[.int .i64 TX, .int .i64 TY, .int .i64 lv, .int .i64 bw, .int .i64 bh, .int .i64 pr, .int .i64 st, .int .i64 od, .int .i64 ly, .bool rct, .bool sop, .bool eph]] u fun e w' => ∃ A c, e = .returned (.slice A rs.length c) ∧ w'.ownsRow u.heap.size 38 4 (.slice A rs.length c) rs.length (rs.flatMap recV) ∧ Below u.heap.size u w' := by
  have bw1 := ceil_bd X TX (by omega) (by omega)
  have bw2 := ceil_bd Y TY (by omega) (by omega)
  obtain ⟨wd, hwd⟩ : ∃ wd : Nat, ceilF X TX = (wd : Int) := ⟨(ceilF X TX).toNat, by omega⟩
  obtain ⟨ht, hht⟩ : ∃ ht : Nat, ceilF Y TY = (ht : Int) := ⟨(ceilF Y TY).toNat, by omega⟩
  have hl : (rtls X Y OX OY TX TY wd ht).length = ht * wd := by
    generalize ht = m
    induction m with
    | zero => simp [rtls]
    | succ m ih => rw [rtls_succ, List.length_append, ih, Nat.succ_mul]; simp [rrow]
  have hp : 1 ≤ wd ∧ 1 ≤ ht := by
    have q1 := ceil_pos (a := X) (b := TX) (by omega) (by omega)
    have q2 := ceil_pos (a := Y) (b := TY) (by omega) (by omega)
    omega
  unfold cntT at hc
  rw [hwd, hht, Int.toNat_natCast, Int.toNat_natCast] at hc
  refine ⟨rtls X Y OX OY TX TY wd ht, by rw [hl]; exact ⟨Nat.mul_pos hp.2 hp.1, hc⟩, fun i r hr => tile_in h1 h2 hTX.1 hTY.1 hwd hht r (List.mem_of_getElem? hr), fun lv bw bh pr st od ly rct sop eph u => ?_⟩
  refine (rtiles_any X Y OX OY A2 N C2 TX TY lv bw bh pr st od ly rct sop eph wd ht u (by omega) (by omega) (by omega) (by omega) hwd hht).mono ?_
  rintro e w' ⟨A, c, he, ho, hb⟩
  rw [hl]
  exact ⟨A, c, he, ho, hb⟩
theorem geo_len {t : Int × Int × Int × Int} {cs : List Cp} {LV PR : Nat} (ht : inN t 255) (hto : Ord4 t) (hcs : ∀ (i : Nat) (c : Cp), cs[i]? = some c → (1 ≤ c.dx ∧ c.dx ≤ 4) ∧ (1 ≤ c.dy ∧ c.dy ≤ 4)) (hn4 : cs.length ≤ 4) (hlv : LV ≤ 5) :
    (geo t (cs.map fun c => (c.dx, c.dy)) LV PR).spots.length ≤ 1560600 := by
  obtain ⟨G, hG⟩ : ∃ G, geo t (cs.map fun c => (c.dx, c.dy)) LV PR = G := ⟨_, rfl⟩
  rw [hG]
  have hGn : G.nc = cs.length := by rw [← hG]; show (cs.map fun c => (c.dx, c.dy)).length = _; rw [List.length_map]
  have hGl : G.lv = LV := by rw [← hG]; rfl
  have hwhb : ∀ c' r', c' < G.nc → G.wh c' r' ≤ 65025 := fun c' r' hc' => by
    obtain ⟨c2, hc2⟩ : ∃ c, cs[c']? = some c := ⟨_, List.getElem?_eq_getElem (by omega)⟩
    have hcd2 := hcs c' c2 hc2
    have hda : dAt (cs.map fun c => (c.dx, c.dy)) c' = (c2.dx, c2.dy) := by simp [dAt, List.getD, hc2]
    have hdp := geo_pc (ds := cs.map fun c => (c.dx, c.dy)) (lv := LV) (pr := PR) (c := c') (r := r') ht hto (by rw [hda]; simp only; omega) (by rw [hda]; simp only; omega)
    rw [← hG]
    exact Nat.mul_le_mul hdp.2.1 hdp.2.2
  have h := cntC_bd G (by omega) G.nc hwhb
  rw [← spC_all, spC_len]
  omega
set_option maxHeartbeats 16000000 in
theorem walk_orderLists (f : FN) (A0 : Option Addr) (len0 cap0 : Nat) (z0 : List Int)  (w : World) (w0 : IsRow .i64 w A0 len0 cap0 z0) (s0 : -9223372036854775808 ≤ f.sb ∧ f.sb ≤ 9223372036854775807)  :
    Calls Try.prog 3 #[.agg (f.arr A0 len0 cap0)] w fun e w' => e = .returned (.bool true) ∧ Below w.heap.size w w' := by
  have MK := Lib.hid (fun u hu => make_any f A0 len0 cap0 z0 20 u (by omega) hu s0)
  obtain ⟨fc, hfc⟩ : ∃ fc, f.arr A0 len0 cap0 = fc := ⟨_, rfl⟩
  have hfs : fc.size = 21 := by rw [← hfc]; rfl
  rw [hfc] at MK ⊢
  have HFS := Lib.hid hfs
  clear hfc hfs
  have HOK := mkPN_ok f 20 (by omega)
  obtain ⟨M, hM⟩ : ∃ M, mkPN f 20 = M := ⟨_, rfl⟩
  obtain ⟨N, hN⟩ : ∃ N, mkN f = N := ⟨_, rfl⟩
  have hNb : 1 ≤ N ∧ N ≤ 4 := by
    have := within_rng f.nc 4 (by omega)
    rw [← hN]
    unfold mkN
    omega
  obtain ⟨DP, hDP⟩ : ∃ D, mkDP f = D := ⟨_, rfl⟩
  have hDPb : 1 ≤ DP ∧ DP ≤ 10 := by
    have := within_rng f.dp 10 (by omega)
    rw [← hDP]
    unfold mkDP
    omega
  rw [hM, hN, hDP] at MK
  rw [hM] at HOK
  clear hM hN hDP
  obtain ⟨X, Y, OX, OY, TX, TY, LV, BW, BH, PR, ST, OD, LY, RC, SO, EP⟩ := M
  obtain ⟨o1, o2, o3, o4, o5, o6, o7, o8, o9, o10, o11, o12, o13⟩ := HOK
  simp only at o1 o2 o3 o4 o5 o6 o7 o8 o9 o10 o11 o12 o13
  go_enter Try.func3, Try.ntmps3
  go_wp2_with fail
  obtain ⟨B0, hB0⟩ : ∃ B, w.heap.size = B := ⟨_, rfl⟩
  obtain ⟨Wf, hWf⟩ : ∃ Wf, w.alloc (Obj.cells fc 24) = Wf := ⟨_, rfl⟩
  have HF0 : Hid (MkW w B0 [(fc, 24)] Wf) := Lib.hid (by
    have h0 : MkW w B0 [] w := ⟨fun i c e => by simp at e, Below.refl _ _, by simp; omega⟩
    have h1 := h0.more (by simp; omega) fc 24
    rw [← hWf]; exact h1)
  rw [hWf, hB0]
  have HBE := Lib.hid hB0
  clear hWf hB0
  refine (known16 _).mono ?_
  rintro e w1 ⟨rfl, hb⟩
  have HF1 := Lib.hid (HF0.out.keep hb)
  clear hb HF0
  have MK1 := MK.out w1 (IsRow.below w0 (by rw [HBE.out]; exact HF1.out.bel))
  go_wp2_with (refine wpList_load_row rfl 24 _ rfl B0 rfl 24 fc (0, 0) _ (show w1.heap[B0]? = _ from HF1.out.b 0 _ rfl) Try.underlying24 rfl (by rw [HFS.out]; kernel_rfl) ?_)
  refine MK1.mono ?_
  rintro e w2 ⟨A2, C2, cs, rfl, hcl, hCR, hKY, hb, hfx⟩
  try simp only at hfx
  try simp only at hKY
  have HB2 : Hid (Below B0 w w2) := Lib.hid (HF1.out.bel.trans (hb.mono (by have := HF1.out.sz; simp at this; omega)))
  have HCR : Hid (CRow B0 w2 (.slice A2 N C2) cs) := Lib.hid (by
    have h1 := HF1.out.sz
    simp at h1
    exact ⟨own_low hCR.own (by omega), fun c hc => (hCR.dat c hc).low (by omega)⟩)
  have HKY : Hid (∀ (i : Nat) (c : Cp), cs[i]? = some c → (1 ≤ c.dx ∧ c.dx ≤ 4) ∧ (1 ≤ c.dy ∧ c.dy ≤ 4)) := Lib.hid (fun i c hc => by have h1 := hKY i c hc; have h2 := cpK_bd (sb := f.sb) (DP := DP) i hDPb; obtain ⟨_, _, h3, h4, _⟩ := h1; rw [h3, h4]; omega)
  have HCL := Lib.hid hcl
  obtain ⟨hTX, hTY, hCT⟩ := hfx
  obtain ⟨rs, hrs1, hrs2, TLx⟩ := tilesW X Y OX OY TX TY A2 N C2 (by omega) (by omega) (by omega) (by omega) hCT
  have HRS := Lib.hid hrs2
  have TL := Lib.hid TLx
  clear MK MK1 hb hCR hKY hcl hCT HF1 w0 s0 hrs2 TLx
  go_wp2_with fail
  obtain ⟨bm, hbm⟩ : ∃ bm, w2.heap.size = bm := ⟨_, rfl⟩
  obtain ⟨W3, hW3⟩ : ∃ W3, (w2.alloc (Obj.cells #[.int .i64 X, .int .i64 Y, .int .i64 OX, .int .i64 OY, .slice A2 N C2] 28)).alloc (Obj.cells #[.int .i64 TX, .int .i64 TY, .int .i64 (LV : Int), .int .i64 (BW : Int), .int .i64 (BH : Int), .int .i64 (PR : Int), .int .i64 ST, .int .i64 OD, .int .i64 (LY : Int), .bool RC, .bool SO, .bool EP] 30) = W3 := ⟨_, rfl⟩
  have HM3 : Hid (MkW w2 bm [(#[.int .i64 X, .int .i64 Y, .int .i64 OX, .int .i64 OY, .slice A2 N C2], 28), (#[.int .i64 TX, .int .i64 TY, .int .i64 (LV : Int), .int .i64 (BW : Int), .int .i64 (BH : Int), .int .i64 (PR : Int), .int .i64 ST, .int .i64 OD, .int .i64 (LY : Int), .bool RC, .bool SO, .bool EP], 30)] W3) := Lib.hid (by
    have h0 : MkW w2 bm [] w2 := ⟨fun i c e => by simp at e, Below.refl _ _, by simp; omega⟩
    have h1 := (h0.more (by simp; omega) #[.int .i64 X, .int .i64 Y, .int .i64 OX, .int .i64 OY, .slice A2 N C2] 28).more (by simp; omega) #[.int .i64 TX, .int .i64 TY, .int .i64 (LV : Int), .int .i64 (BW : Int), .int .i64 (BH : Int), .int .i64 (PR : Int), .int .i64 ST, .int .i64 OD, .int .i64 (LY : Int), .bool RC, .bool SO, .bool EP] 30
    rw [← hW3]; exact h1)
  rw [hW3, hbm]
  have HBM := Lib.hid hbm
  clear hW3 hbm
  have i0' : W3.cell? ⟨bm, 0, none⟩ = some (.int .i64 X) := blk_cell (show W3.heap[bm]? = _ from HM3.out.b 0 _ rfl) 0
  have i1' : W3.cell? ⟨bm, 1, none⟩ = some (.int .i64 Y) := blk_cell (show W3.heap[bm]? = _ from HM3.out.b 0 _ rfl) 1
  have i2' : W3.cell? ⟨bm, 2, none⟩ = some (.int .i64 OX) := blk_cell (show W3.heap[bm]? = _ from HM3.out.b 0 _ rfl) 2
  have i3' : W3.cell? ⟨bm, 3, none⟩ = some (.int .i64 OY) := blk_cell (show W3.heap[bm]? = _ from HM3.out.b 0 _ rfl) 3
  have i4' : W3.cell? ⟨bm, 4, none⟩ = some (.slice A2 N C2) := blk_cell (show W3.heap[bm]? = _ from HM3.out.b 0 _ rfl) 4
  have j0' : W3.cell? ⟨bm + 1, 0, none⟩ = some (.int .i64 TX) := blk_cell (HM3.out.b 1 _ rfl) 0
  have j1' : W3.cell? ⟨bm + 1, 1, none⟩ = some (.int .i64 TY) := blk_cell (HM3.out.b 1 _ rfl) 1
  have j2' : W3.cell? ⟨bm + 1, 2, none⟩ = some (.int .i64 (LV : Int)) := blk_cell (HM3.out.b 1 _ rfl) 2
  have j3' : W3.cell? ⟨bm + 1, 3, none⟩ = some (.int .i64 (BW : Int)) := blk_cell (HM3.out.b 1 _ rfl) 3
  have j4' : W3.cell? ⟨bm + 1, 4, none⟩ = some (.int .i64 (BH : Int)) := blk_cell (HM3.out.b 1 _ rfl) 4
  have j5' : W3.cell? ⟨bm + 1, 5, none⟩ = some (.int .i64 (PR : Int)) := blk_cell (HM3.out.b 1 _ rfl) 5
  have j6' : W3.cell? ⟨bm + 1, 6, none⟩ = some (.int .i64 ST) := blk_cell (HM3.out.b 1 _ rfl) 6
  have j7' : W3.cell? ⟨bm + 1, 7, none⟩ = some (.int .i64 OD) := blk_cell (HM3.out.b 1 _ rfl) 7
  have j8' : W3.cell? ⟨bm + 1, 8, none⟩ = some (.int .i64 (LY : Int)) := blk_cell (HM3.out.b 1 _ rfl) 8
  have j9' : W3.cell? ⟨bm + 1, 9, none⟩ = some (.bool RC) := blk_cell (HM3.out.b 1 _ rfl) 9
  have j10' : W3.cell? ⟨bm + 1, 10, none⟩ = some (.bool SO) := blk_cell (HM3.out.b 1 _ rfl) 10
  have j11' : W3.cell? ⟨bm + 1, 11, none⟩ = some (.bool EP) := blk_cell (HM3.out.b 1 _ rfl) 11
  go_wp2_with fail
  clear i0' i1' i2' i3' i4' j0' j1' j2' j3' j4' j5' j6' j7' j8' j9' j10' j11'
  refine (TL.out _ _ _ _ _ _ _ _ _ _ _).mono ?_
  rintro e W6 ⟨TA, TC, rfl, hOT, hb⟩
  have HM6 := Lib.hid (HM3.out.keep hb)
  have HOT : Hid (W6.ownsRow W3.heap.size 38 4 (.slice TA rs.length TC) rs.length (rs.flatMap recV) ∧ bm + 2 ≤ W3.heap.size) := Lib.hid ⟨hOT, HM3.out.sz⟩
  have HB6 : Hid (Below bm w2 W6) := Lib.hid HM6.out.bel
  clear hb hOT HM3
  obtain ⟨tn, htn⟩ : ∃ n, rs.length = n := ⟨_, rfl⟩
  rw [htn] at hrs1 HOT ⊢
  have HTN := Lib.hid htn
  clear htn TL
  go_wp2_with fail
  go_loopg [6] 5 (fun g v wr => ∃ (o : Nat) (od : Int), o + g = 5 ∧ v = .int .i64 (o : Int) ∧ Hid (W6.grownBy wr (some (bm + 1)) ∧ wr.heap[bm + 1]? = some (.cells #[.int .i64 TX, .int .i64 TY, .int .i64 (LV : Int), .int .i64 (BW : Int), .int .i64 (BH : Int), .int .i64 (PR : Int), .int .i64 ST, .int .i64 od, .int .i64 (LY : Int), .bool RC, .bool SO, .bool EP] 30 (0, 0))))
  case atStart => exact ⟨0, OD, by omega, rfl, Lib.hid ⟨grown_refl _ _, HM6.out.b 1 _ rfl⟩⟩
  case round =>
    obtain ⟨o, od, hog, rfl, HI⟩ := hrel
    obtain ⟨wa, hwa⟩ : ∃ wa, wa = wr := ⟨wr, rfl⟩
    subst hwa
    by_cases ho5 : o < 5
    · obtain ⟨g1, rfl⟩ : ∃ g1, gk = g1 + 1 := ⟨gk - 1, by omega⟩
      have hoI : (o : Int) < 5 := by omega
      have c7 : wa.cell? ⟨bm + 1, 7, none⟩ = some (.int .i64 od) := blk_cell HI.out.2 7
      have z7 : wa.frozen? ⟨bm + 1, 7, none⟩ = false := by simp [World.frozen?, HI.out.2]
      obtain ⟨W8, hW8⟩ : ∃ X, World.setCell wa { block := bm + 1, off := 7 } (Value.int IntKind.i64 (o : Int)) = X := ⟨_, rfl⟩
      have HG8 : Hid (W6.grownBy W8 (some (bm + 1)) ∧ W8.heap[bm + 1]? = some (.cells #[.int .i64 TX, .int .i64 TY, .int .i64 (LV : Int), .int .i64 (BW : Int), .int .i64 (BH : Int), .int .i64 (PR : Int), .int .i64 ST, .int .i64 (o : Int), .int .i64 (LY : Int), .bool RC, .bool SO, .bool EP] 30 (0, 0))) := Lib.hid (by
        rw [← hW8]
        exact ⟨grown_two HI.out.1 (grown_put _ _ _ _), blk_put HI.out.2 7 _⟩)
      have HBw8 : Hid (Below bm w2 W8) := Lib.hid (HB6.out.grown HG8.out.1 (by have := HB6.out.size; rw [← HBM.out]; exact this) (fun k e => by injection e with e; omega))
      have HIM : Hid (W8.heap[bm]? = some (.cells #[.int .i64 X, .int .i64 Y, .int .i64 OX, .int .i64 OY, .slice A2 N C2] 28 (0, 0)) ∧ W8.heap[bm + 1]? = some (.cells #[.int .i64 TX, .int .i64 TY, .int .i64 (LV : Int), .int .i64 (BW : Int), .int .i64 (BH : Int), .int .i64 (PR : Int), .int .i64 ST, .int .i64 (o : Int), .int .i64 (LY : Int), .bool RC, .bool SO, .bool EP] 30 (0, 0))) := Lib.hid ⟨(HG8.out.1.block bm (Array.getElem?_eq_some_iff.1 (show W6.heap[bm]? = _ from HM6.out.b 0 _ rfl)).1 (fun e => by injection e with e; omega)).trans (show W6.heap[bm]? = _ from HM6.out.b 0 _ rfl), HG8.out.2⟩
      have hOT8 : W8.ownsRow W3.heap.size 38 4 (.slice TA tn TC) tn (rs.flatMap recV) := ownsRow_keep HOT.out.1 HG8.out.1.size (fun k hk => HG8.out.1.block k (own_lt HOT.out.1 hk).2 (fun e => by injection e with e; have := (own_lt HOT.out.1 hk).1; have := HOT.out.2; omega))
      have HTC : Hid (rs.length = tn ∧ ∀ (i : Nat) (r : Int × Int × Int × Int), rs[i]? = some r → ∃ tg tq, TA = some ⟨tg, tq, none⟩ ∧ tg < W8.heap.size ∧ W8.cell? ⟨tg, tq + i * 4, none⟩ = some (.int .i64 r.1) ∧ W8.cell? ⟨tg, tq + i * 4 + 1, none⟩ = some (.int .i64 r.2.1) ∧ W8.cell? ⟨tg, tq + i * 4 + 2, none⟩ = some (.int .i64 r.2.2.1) ∧ W8.cell? ⟨tg, tq + i * 4 + 3, none⟩ = some (.int .i64 r.2.2.2)) := Lib.hid ⟨HTN.out, fun i r hr => by
        obtain ⟨TA', TC', hTA, hTcell⟩ := RcL.own hOT8 HTN.out
        injection hTA with hTA1 hTA2 hTA3
        subst hTA1
        obtain ⟨tg, tq, h1, h2, h3, h4, h5, h6⟩ := hTcell i r hr
        exact ⟨tg, tq, h1, h2, h3, h4, h5, h6⟩⟩
      have hCR8 : ∀ u, Below W8.heap.size W8 u → CRow B0 u (.slice A2 N C2) cs := fun u hu => HCR.out.below ((HBw8.out.mono (by rw [HBM.out]; omega)).trans (hu.mono HBw8.out.size))
      have LA : Hid (∀ (i : Nat) (r : Int × Int × Int × Int), rs[i]? = some r → ∀ u, Below W8.heap.size W8 u → Calls Try.prog 13 #[.agg #[.int .i64 r.1, .int .i64 r.2.1, .int .i64 r.2.2.1, .int .i64 r.2.2.2], .agg #[.int .i64 X, .int .i64 Y, .int .i64 OX, .int .i64 OY, .slice A2 N C2], .agg #[.int .i64 TX, .int .i64 TY, .int .i64 (LV : Int), .int .i64 (BW : Int), .int .i64 (BH : Int), .int .i64 (PR : Int), .int .i64 ST, .int .i64 (o : Int), .int .i64 (LY : Int), .bool RC, .bool SO, .bool EP]] u fun e w' => ∃ (M : List Pk) (A : Option Addr) (m c : Nat), e = .returned (.slice A m c) ∧ M.length = m ∧ OL (geo r (cs.map fun c => (c.dx, c.dy)) LV PR) LY o M ∧ KeyR w' A M ∧ Below u.heap.size u w') := Lib.hid fun i r hr u hu => by
        obtain ⟨r0, r1, r2, r3⟩ := r
        refine (listP_any (lo := B0) o ho5 (r0, r1, r2, r3) X Y OX OY A2 N C2 cs TX TY BW BH ST RC SO EP LV PR LY u (HRS.out i _ hr).1 (HRS.out i _ hr).2 HKY.out (by rw [HCL.out]; omega) (by rw [HCL.out]; omega) HCL.out (by omega) (by omega) (by omega) (hCR8 u hu)).mono ?_
        rintro e w' ⟨M, A, m, c, rfl, h1, _, h3, h4, h5⟩
        exact ⟨M, A, m, c, rfl, h1, h3, h4, h5⟩
      have LB : Hid (∀ (i : Nat) (r : Int × Int × Int × Int), rs[i]? = some r → ∀ u, Below W8.heap.size W8 u → Calls Try.prog 14 #[.agg #[.int .i64 r.1, .int .i64 r.2.1, .int .i64 r.2.2.1, .int .i64 r.2.2.2], .agg #[.int .i64 X, .int .i64 Y, .int .i64 OX, .int .i64 OY, .slice A2 N C2], .agg #[.int .i64 TX, .int .i64 TY, .int .i64 (LV : Int), .int .i64 (BW : Int), .int .i64 (BH : Int), .int .i64 (PR : Int), .int .i64 ST, .int .i64 (o : Int), .int .i64 (LY : Int), .bool RC, .bool SO, .bool EP]] u fun e w' => ∃ (M : List Pk) (A : Option Addr) (m c : Nat), e = .returned (.slice A m c) ∧ M.length = m ∧ OL (geo r (cs.map fun c => (c.dx, c.dy)) LV PR) LY o M ∧ KeyR w' A M ∧ Below u.heap.size u w') := Lib.hid fun i r hr u hu => by
        obtain ⟨r0, r1, r2, r3⟩ := r
        exact rlist_any B0 o ho5 r0 r1 r2 r3 X Y OX OY A2 N C2 cs TX TY BW BH ST RC SO EP LV PR LY u (HRS.out i _ hr).1 (HRS.out i _ hr).2 HKY.out (by omega) HCL.out (by omega) (by omega) (by omega) (hCR8 u hu) _ rfl
      have HMB : Hid (∀ (i : Nat) (r : Int × Int × Int × Int) (M : List Pk), rs[i]? = some r → OL (geo r (cs.map fun c => (c.dx, c.dy)) LV PR) LY o M → M.length ≤ 13000000) := Lib.hid fun i r M hr hOL => by
        rw [hOL.length]
        exact Nat.le_trans (Nat.mul_le_mul (geo_len (HRS.out i r hr).1 (HRS.out i r hr).2 HKY.out (by rw [HCL.out]; omega) (by omega)) (show LY ≤ 8 by omega)) (by decide)
      have htn6 : tn ≤ 6 := by omega
      have HNX : Hid (∀ u, Below W8.heap.size W8 u → W6.grownBy u (some (bm + 1)) ∧ u.heap[bm + 1]? = some (.cells #[.int .i64 TX, .int .i64 TY, .int .i64 (LV : Int), .int .i64 (BW : Int), .int .i64 (BH : Int), .int .i64 (PR : Int), .int .i64 ST, .int .i64 (o : Int), .int .i64 (LY : Int), .bool RC, .bool SO, .bool EP] 30 (0, 0))) := Lib.hid fun u hu =>
        ⟨grown_two HG8.out.1 (grown_of hu (Nat.le_refl _)), (hu.block _ (Array.getElem?_eq_some_iff.1 HG8.out.2).1).trans HG8.out.2⟩
      clear hOT8 hCR8
      go_upto_block 2 with fail
      clear c7 z7 hW8 HI
      refine wp_code (c' := blkOf Try.f3 2) (by kernel_rfl) (lists_t bm (bm + 1) tn TC N C2 o LV PR LY X Y OX OY A2 TX TY ST BW BH RC SO EP TA rs (cs.map fun c => (c.dx, c.dy)) W8 HIM HTC LA LB HMB htn6 ?_)
      intro v2 v8 v9 v10 v27 v28 v29 v30 v31 v32 v33 v34 v35 v36 v37 v38 v39 v40 v41 v42 v43 v44 v45 v46 v47 v48 v49 v50 v51 v52 v53 v54 v55 v56 v57 v58 v59 v60 v61 v62 v63 v64 v65 v66 v67 v68 v69 v70 v71 v72 v73 v74 v75 v76 v77 v78 v79 v80 v81 v82 v83 v84 v85 v86 v87 v88 v89 v90 v91 v92 v93 v94 v95 v96 v97 v98 v99 v100 v101 v102 v103 v104 v105 v106 v107 W' H2
      have HN := Lib.hid (HNX.out W' H2.out)
      clear H2 HNX HIM HTC LA LB HMB HG8 HBw8
      go_wp2
      go_roundg g1
      case measure => omega
      case rel => exact ⟨o + 1, (o : Int), by omega, by go_num, HN⟩
    · obtain rfl : o = 5 := by omega
      have hlc : ¬ ((5 : Nat) : Int) < 5 := by omega
      have HBz : Hid (Below B0 w wa) := Lib.hid (HB2.out.trans ((HB6.out.grown HI.out.1 (by have := HB6.out.size; rw [← HBM.out]; exact this) (fun k e => by injection e with e; omega)).mono (by have := HBM.out; have := HB2.out.size; have := HBE.out; omega)))
      clear HI
      go_wp2
      go_ret
      exact ⟨rfl, by rw [HBE.out]; exact HBz.out⟩
end
end Go.Proofs.Ytejoedanhonpkaa
