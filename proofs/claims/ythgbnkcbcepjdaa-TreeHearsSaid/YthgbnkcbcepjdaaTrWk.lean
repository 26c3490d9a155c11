/- Trees: the walk down to a leaf, by its contract. -/
import Derived.Test.YthgbnkcbcepjdaaTrW
import Derived.IntWalk
import Derived.Deep.DeepCutAuto
import Derived.Outline
set_option linter.unusedVariables false
set_option linter.unusedSimpArgs false
namespace Go.Proofs.Ythgbnkcbcepjdaa
open Go.RowKit
set_option maxRecDepth 100000
theorem shr_run (x l y : Nat) (w : World) (hx : x ≤ 5000) (hl : l ≤ 62) (h : x / 2 ^ l = y) : (binOp .shr 3 (.int .i64 (x : Int)) (.int .i64 (l : Int))).run Try.prog w = .ok (.int .i64 (y : Int)) w := by
  rw [binOp_shr, shift_shr .i64 .i64 (x : Int) (l : Int) (by omega) (by show (l : Int) ≤ 64; omega), Int.toNat_natCast, ← h]
  simp

set_option maxHeartbeats 8000000 in
set_option pp.deepTerms true in
set_option pp.maxSteps 10000000 in
theorem walk_tr {σ : Type} {kf : FuncId} {caps : Array Value} {p Lb cl W0 H0 : Nat} {sh : Sh} {bound : Int} {step : σ → Nd → Bool × Nd × σ} {J : σ → World → Prop} {msr : σ → Nat} {PP : Nat → Prop} {w : World} {T : TT} {s : σ}
    (A : Ask σ kf caps p Lb cl sh bound step J msr PP) (h : Tr w p Lb cl sh T) (hs : Shp W0 H0 sh) {k : Nat} (hk : k < W0 * H0) (hb : -1 ≤ bound ∧ bound ≤ 500) (hJ : J s w) (hT : LowOk T) (hm : msr s + sh.length * (bound.toNat + 2) ≤ 80000) (hP : ∀ b, w.heap.size ≤ b → PP b) :
    Calls Try.prog 27 #[.pointer (some ⟨p, 0, none⟩), .int .i64 (k : Int), .int .i64 bound, .func (.func kf) #[] caps] w fun e w' => e = .returned (.tuple #[]) ∧
      Tr w' p Lb cl sh (walkT step bound (bound.toNat + 2) W0 (k % W0) (k / W0) sh.length (s, T, 0)).2.1 ∧ J (walkT step bound (bound.toNat + 2) W0 (k % W0) (k / W0) sh.length (s, T, 0)).1 w' ∧ Only PP w w' ∧
      LowOk (walkT step bound (bound.toNat + 2) W0 (k % W0) (k / W0) sh.length (s, T, 0)).2.1 ∧ msr (walkT step bound (bound.toNat + 2) W0 (k % W0) (k / W0) sh.length (s, T, 0)).1 ≤ msr s + sh.length * (bound.toNat + 2) := by
  have HA := Lib.hid A
  have hl := hs.len
  have HL := Lib.hid (leaf_tr h hs hk)
  obtain ⟨k1, k2, k3⟩ := leaf_in hs.pos.1 hk
  have hTlt := fun (k : Nat) (hk : TB p Lb sh k) => h.lt hs.len.1 hk
  obtain ⟨x, hx⟩ : ∃ x, k % W0 = x := ⟨_, rfl⟩
  obtain ⟨y, hy⟩ : ∃ y, k / W0 = y := ⟨_, rfl⟩
  obtain ⟨d, hd⟩ : ∃ d, sh.length = d := ⟨_, rfl⟩
  obtain ⟨F, hF⟩ : ∃ F, bound.toNat + 2 = F := ⟨_, rfl⟩
  obtain ⟨R, hR⟩ : ∃ R, walkT step bound F W0 x y d (s, T, 0) = R := ⟨_, rfl⟩
  rw [hx, hy] at HL
  rw [hx] at k1
  rw [hy] at k2
  rw [hd] at hl hm
  rw [hx, hy, hd, hF, hR]
  rw [hF] at hm
  have HR := Lib.hid hR
  have HD := Lib.hid hd
  have HF := Lib.hid hF
  have hpos := hs.pos
  have HS := Lib.hid hs
  have HP := Lib.hid hP
  have HTl := Lib.hid hTlt
  have hJw : J s w := hJ
  have HT0 : Hid (∀ w1, w.heap.size ≤ w1.heap.size → (∀ k, w1.heap[k]? = w.heap[k]?) → Tr w1 p Lb cl sh T ∧ J s w1) := Lib.hid (fun w1 hs1 hk1 => ⟨h.keep fun k _ => hk1 k, A.keep s w w1 hJ hs1 fun k _ _ => hk1 k⟩)
  have HLO := Lib.hid hT
  have HM := Lib.hid hm
  have gr := h.root
  rw [hd] at gr
  clear A h hs hk hJ hJw hT hm hP hx hy hd hF hR k3 hTlt
  go_enter Try.func27, Try.ntmps27
  go_wp2_with fail
  refine HL.out.mono ?_
  rintro e w1 ⟨rfl, nq, rfl⟩
  obtain ⟨h1, h2⟩ := HT0.out (w.drewN nq) (Nat.le_refl _) (fun k => rfl)
  have gr1 := h1.root
  rw [HD.out] at gr1
  have HT1 := Lib.hid h1
  have HJ1 := Lib.hid h2
  have HO1 : Hid (Only PP w (w.drewN nq)) := Lib.hid (only_drewN (Only.refl _ w) nq)
  clear h1 h2
  go_wp2_with fail
  obtain ⟨w1, hw1⟩ : ∃ w1, w.drewN nq = w1 := ⟨_, rfl⟩
  rw [hw1] at HT1 HJ1 HO1 ⊢
  clear hw1 gr gr1 HT0
  go_loopw [11, 29] (fun a c wr => ∃ (i j : Nat) (lo : Int) (s1 : σ) (T1 : TT), i + j = d ∧ c = .int .i64 (i : Int) ∧ a = .int .i64 lo ∧ 0 ≤ lo ∧ lo ≤ 1000 ∧ Hid (walkT step bound F W0 x y j (s1, T1, lo) = R) ∧ Hid (Tr wr p Lb cl sh T1) ∧ Hid (J s1 wr) ∧ Hid (LowOk T1) ∧ Hid (msr s1 ≤ msr s + i * F) ∧ Hid (Only PP w wr)) (fun _ c _ => d - (intOf c).toNat)
  case atStart => exact ⟨0, d, 0, s, T, by omega, rfl, rfl, by omega, by omega, HR, HT1, HJ1, HLO, Lib.hid (by omega), HO1⟩
  case round =>
    obtain ⟨i, j, lo, s1, T1, hij, rfl, rfl, hlo0, hlo1, HRi, HTi, HJi, HLi, HMi, HOi⟩ := hrel
    have gri := HTi.out.root
    rw [HD.out] at gri
    by_cases hlt : i < d
    · obtain ⟨lv, hlv⟩ : ∃ lv, j = lv + 1 := ⟨j - 1, by omega⟩
      subst hlv
      obtain ⟨Ia, ea, ba⟩ := HS.out.at (i := lv) (by rw [HD.out]; omega)
      have lx := dimF_lt W0 lv x k1
      have ly := dimF_lt H0 lv y k2
      obtain ⟨xa, hxa⟩ : ∃ xa, x / 2 ^ lv = xa := ⟨_, rfl⟩
      obtain ⟨ya, hya⟩ : ∃ ya, y / 2 ^ lv = ya := ⟨_, rfl⟩
      obtain ⟨Wa, hWa⟩ : ∃ Wa, dimF W0 lv = Wa := ⟨_, rfl⟩
      obtain ⟨Ha, hHa⟩ : ∃ Ha, dimF H0 lv = Ha := ⟨_, rfl⟩
      obtain ⟨ma, hma⟩ : ∃ ma, ya * Wa + xa = ma := ⟨_, rfl⟩
      rw [hWa, hHa] at ea ba
      rw [hxa, hWa] at lx
      rw [hya, hHa] at ly
      have hsx : (x : Int) / 2 ^ lv = (xa : Int) := by rw [← hxa]; simp
      have hsy : (y : Int) / 2 ^ lv = (ya : Int) := by rw [← hya]; simp
      have hlv62 : (lv : Int) ≤ 62 := by omega
      have HSX := Lib.hid hsx
      have HSY := Lib.hid hsy
      have Hma : Hid (ma < Wa * Ha) := Lib.hid (by rw [← hma]; exact idx_lt rfl lx ly)
      have HAt := Lib.hid (fun W' => tat0 Wa Ha (Wa * Ha) (Wa * Ha) xa ya ma Ia W' (by omega) lx ly rfl hma)
      have HW1 : Hid (∀ z, walkT step bound F W0 x y (lv + 1) (s1, T1, lo) = z → walkT step bound F W0 x y lv ((loopN step bound F (s1, ⟨(T1 lv ma).num, maxI (T1 lv ma).low lo, (T1 lv ma).said⟩)).1, T1.upd lv ma (loopN step bound F (s1, ⟨(T1 lv ma).num, maxI (T1 lv ma).low lo, (T1 lv ma).said⟩)).2, (loopN step bound F (s1, ⟨(T1 lv ma).num, maxI (T1 lv ma).low lo, (T1 lv ma).said⟩)).2.low) = z) := Lib.hid (by
        intro z hz
        rw [walkT] at hz
        simp only [hxa, hya, hWa, hma] at hz
        exact hz)
      have HEa := Lib.hid ea
      have hlvd : (lv : Int) < (d : Int) := by omega
      clear ea hxa hya hWa hHa hma hsx hsy
      have q1 : (d : Int) - 1 - (i : Int) = (lv : Int) := by omega
      go_wp2_with fail
      refine (wpIn_wide (n := 9)).1 (regionIn_inv (w := wr) (Inv := fun L a' w' => a' = { tmps := #[.pointer (some ⟨p, 0, none⟩), .int .i64 (k : Int), .int .i64 bound, .func (Fn.func kf) #[] caps, undef, undef, undef, undef, .int .i64 (x : Int), .int .i64 (y : Int), .bool true, .int .i64 lo, .int .i64 (i : Int), .int .i64 (lv : Int), bif L 14 then .pointer (some ⟨Ia, ma * 3, none⟩) else u14, .tuple #[.int .i64 (x : Int), .int .i64 (y : Int), .bool true], .pointer (some ⟨p, 0, none⟩), .int .i64 (k : Int), .tuple #[.int .i64 (x : Int), .int .i64 (y : Int), .bool true], .int .i64 (x : Int), .int .i64 (y : Int), .bool true, .bool true, .bool false, .pointer (some ⟨p, 0, none⟩), .pointer (some ⟨p, 0, none⟩), .pointer (some ⟨p, 0, none⟩), .slice (some ⟨Lb, 0, none⟩) d cl, .int .i64 (d : Int), .int .i64 (i : Int), .bool true, .int .i64 (i : Int), .pointer (some ⟨p, 0, none⟩), .pointer (some ⟨p, 0, none⟩), .pointer (some ⟨p, 0, none⟩), .slice (some ⟨Lb, 0, none⟩) d cl, .int .i64 (d : Int), .int .i64 ((d : Int) - 1), .int .i64 (i : Int), .int .i64 (lv : Int), bif L 0 then .pointer (some ⟨p, 0, none⟩) else u40, bif L 1 then .pointer (some ⟨p, 0, none⟩) else u41, bif L 2 then .pointer (some ⟨p, 0, none⟩) else u42, bif L 3 then .slice (some ⟨Lb, 0, none⟩) d cl else u43, bif L 4 then .int .i64 (lv : Int) else u44, bif L 5 then .pointer (some ⟨Lb, lv * 3, none⟩) else u45, bif L 6 then .agg #[.int .i64 (Wa : Int), .int .i64 (Ha : Int), .slice (some ⟨Ia, 0, none⟩) (Wa * Ha) (Wa * Ha)] else u46, bif L 7 then .int .i64 (x : Int) else u47, bif L 8 then .int .i64 (lv : Int) else u48, bif L 9 then .int .i64 (xa : Int) else u49, bif L 10 then .int .i64 (y : Int) else u50, bif L 11 then .int .i64 (lv : Int) else u51, bif L 12 then .int .i64 (ya : Int) else u52, bif L 13 then .pointer (some ⟨Ia, ma * 3, none⟩) else u53, u54, u55, u56, u57, u58, u59, u60, u61, u62, u63, u64, u65, u66, u67, u68, u69, u70, u71, u72, u73, u74, u75, u76, u77, u78, u79, u80, u81, u82, u83, u84, u85, u86, u87, u88, u89, u90, u91, u92, u93], defers := [] } ∧ (Tr w' p Lb cl sh T1 ∧ Below wr.heap.size wr w')) (by kernel_rfl) (by kernel_rfl) ?startq ?stepq ?finq)
      case startq => exact ⟨rfl, HTi.out.keep fun k hk => rfl, below_drewN (Below.refl _ _) 1⟩
      case stepq =>
        intro i hi L a' w' hI hs hu
        obtain ⟨rfl, hph⟩ := hI
        have hL := hu.1
        have hi : i < 15 := hi
        obtain rfl | rfl | rfl | rfl | rfl | rfl | rfl | rfl | rfl | rfl | rfl | rfl | rfl | rfl | rfl := (by omega : i = 0 ∨ i = 1 ∨ i = 2 ∨ i = 3 ∨ i = 4 ∨ i = 5 ∨ i = 6 ∨ i = 7 ∨ i = 8 ∨ i = 9 ∨ i = 10 ∨ i = 11 ∨ i = 12 ∨ i = 13 ∨ i = 14)
        · skip
          refine opIn_run (v := .pointer (some ⟨p, 0, none⟩)) (w' := w') rfl rfl (fun c h => by cases h) (fun _ => trivial) ?_ ⟨by simp [Act.put, upd, hL], by simpa [upd] using hph⟩
          simp only [hL, cond_true, cond_false]
          go_simp
        · skip
          have y0 : L 0 = true := up_at hu 0 (by kernel_rfl)
          refine opIn_run (v := .pointer (some ⟨p, 0, none⟩)) (w' := w') rfl rfl (fun c h => by cases h) (fun _ => trivial) ?_ ⟨by simp [Act.put, upd, y0, hL], by simpa [upd] using hph⟩
          simp only [y0, hL, cond_true, cond_false]
          go_simp
        · skip
          have y0 : L 0 = true := shut_at hs 1 0 (by kernel_rfl) (up_at hu 1 (by kernel_rfl))
          have y1 : L 1 = true := up_at hu 1 (by kernel_rfl)
          refine opIn_run (v := .pointer (some ⟨p, 0, none⟩)) (w' := w') rfl rfl (fun c h => by cases h) (fun _ => trivial) ?_ ⟨by simp [Act.put, upd, y0, y1, hL], by simpa [upd] using hph⟩
          simp only [y0, y1, hL, cond_true, cond_false]
          go_simp
        · skip
          have y0 : L 0 = true := shut_at hs 1 0 (by kernel_rfl) (shut_at hs 2 1 (by kernel_rfl) (up_at hu 2 (by kernel_rfl)))
          have y1 : L 1 = true := shut_at hs 2 1 (by kernel_rfl) (up_at hu 2 (by kernel_rfl))
          have y2 : L 2 = true := up_at hu 2 (by kernel_rfl)
          try simp only [y0, y1, y2, hL, cond_true, cond_false] at hph
          have k0 := hph.1.root
          rw [HD.out] at k0
          refine opIn_run (v := .slice (some ⟨Lb, 0, none⟩) d cl) (w' := w') rfl rfl (fun c h => by cases h) (fun _ => trivial) ?_ ⟨by simp [Act.put, upd, y0, y1, y2, hL], by (try simp only [upd, y0, y1, y2, hL]); exact hph⟩
          simp only [y0, y1, y2, hL, cond_true, cond_false]
          go_simp
        · skip
          refine opIn_run (v := .int .i64 (lv : Int)) (w' := w') rfl rfl (fun c h => by cases h) (fun _ => trivial) ?_ ⟨by simp [Act.put, upd, hL], by simpa [upd] using hph⟩
          simp only [hL, cond_true, cond_false]
          go_simp
        · skip
          have y0 : L 0 = true := shut_at hs 1 0 (by kernel_rfl) (shut_at hs 2 1 (by kernel_rfl) (shut_at hs 3 2 (by kernel_rfl) (up_at hu 3 (by kernel_rfl))))
          have y1 : L 1 = true := shut_at hs 2 1 (by kernel_rfl) (shut_at hs 3 2 (by kernel_rfl) (up_at hu 3 (by kernel_rfl)))
          have y2 : L 2 = true := shut_at hs 3 2 (by kernel_rfl) (up_at hu 3 (by kernel_rfl))
          have y3 : L 3 = true := up_at hu 3 (by kernel_rfl)
          have y4 : L 4 = true := up_at hu 4 (by kernel_rfl)
          refine opIn_run (v := .pointer (some ⟨Lb, lv * 3, none⟩)) (w' := w') rfl rfl (fun c h => by cases h) (fun _ => trivial) ?_ ⟨by simp [Act.put, upd, y0, y1, y2, y3, y4, hL], by simpa [upd] using hph⟩
          simp only [y0, y1, y2, y3, y4, hL, cond_true, cond_false]
          go_simp
        · skip
          have y0 : L 0 = true := shut_at hs 1 0 (by kernel_rfl) (shut_at hs 2 1 (by kernel_rfl) (shut_at hs 3 2 (by kernel_rfl) (shut_at hs 5 3 (by kernel_rfl) (up_at hu 5 (by kernel_rfl)))))
          have y1 : L 1 = true := shut_at hs 2 1 (by kernel_rfl) (shut_at hs 3 2 (by kernel_rfl) (shut_at hs 5 3 (by kernel_rfl) (up_at hu 5 (by kernel_rfl))))
          have y2 : L 2 = true := shut_at hs 3 2 (by kernel_rfl) (shut_at hs 5 3 (by kernel_rfl) (up_at hu 5 (by kernel_rfl)))
          have y3 : L 3 = true := shut_at hs 5 3 (by kernel_rfl) (up_at hu 5 (by kernel_rfl))
          have y4 : L 4 = true := shut_at hs 5 4 (by kernel_rfl) (up_at hu 5 (by kernel_rfl))
          have y5 : L 5 = true := up_at hu 5 (by kernel_rfl)
          try simp only [y0, y1, y2, y3, y4, y5, hL, cond_true, cond_false] at hph
          obtain ⟨b0, b1, b2⟩ := hph.1.lv lv _ _ Ia HEa.out
          refine opIn_run (v := .agg #[.int .i64 (Wa : Int), .int .i64 (Ha : Int), .slice (some ⟨Ia, 0, none⟩) (Wa * Ha) (Wa * Ha)]) (w' := w') rfl rfl (fun c h => by cases h) (fun _ => trivial) ?_ ⟨by simp [Act.put, upd, y0, y1, y2, y3, y4, y5, hL], by (try simp only [upd, y0, y1, y2, y3, y4, y5, hL]); exact hph⟩
          simp only [y0, y1, y2, y3, y4, y5, hL, cond_true, cond_false]
          go_simp
        · skip
          refine opIn_run (v := .int .i64 (x : Int)) (w' := w') rfl rfl (fun c h => by cases h) (fun _ => trivial) ?_ ⟨by simp [Act.put, upd, hL], by simpa [upd] using hph⟩
          simp only [hL, cond_true, cond_false]
          go_simp
        · skip
          refine opIn_run (v := .int .i64 (lv : Int)) (w' := w') rfl rfl (fun c h => by cases h) (fun _ => trivial) ?_ ⟨by simp [Act.put, upd, hL], by simpa [upd] using hph⟩
          simp only [hL, cond_true, cond_false]
          go_simp
        · skip
          have y7 : L 7 = true := up_at hu 7 (by kernel_rfl)
          have y8 : L 8 = true := up_at hu 8 (by kernel_rfl)
          try simp only [y7, y8, hL, cond_true, cond_false] at hph
          have sx := HSX.out
          refine opIn_run (v := .int .i64 (xa : Int)) (w' := w') rfl rfl (fun c h => by cases h) (fun _ => trivial) ?_ ⟨by simp [Act.put, upd, y7, y8, hL], by (try simp only [upd, y7, y8, hL]); exact hph⟩
          simp only [y7, y8, hL, cond_true, cond_false]
          go_simp
        · skip
          refine opIn_run (v := .int .i64 (y : Int)) (w' := w') rfl rfl (fun c h => by cases h) (fun _ => trivial) ?_ ⟨by simp [Act.put, upd, hL], by simpa [upd] using hph⟩
          simp only [hL, cond_true, cond_false]
          go_simp
        · skip
          refine opIn_run (v := .int .i64 (lv : Int)) (w' := w') rfl rfl (fun c h => by cases h) (fun _ => trivial) ?_ ⟨by simp [Act.put, upd, hL], by simpa [upd] using hph⟩
          simp only [hL, cond_true, cond_false]
          go_simp
        · skip
          have y10 : L 10 = true := up_at hu 10 (by kernel_rfl)
          have y11 : L 11 = true := up_at hu 11 (by kernel_rfl)
          try simp only [y10, y11, hL, cond_true, cond_false] at hph
          have sy := HSY.out
          refine opIn_run (v := .int .i64 (ya : Int)) (w' := w') rfl rfl (fun c h => by cases h) (fun _ => trivial) ?_ ⟨by simp [Act.put, upd, y10, y11, hL], by (try simp only [upd, y10, y11, hL]); exact hph⟩
          simp only [y10, y11, hL, cond_true, cond_false]
          go_simp
        · skip
          have y0 : L 0 = true := shut_at hs 1 0 (by kernel_rfl) (shut_at hs 2 1 (by kernel_rfl) (shut_at hs 3 2 (by kernel_rfl) (shut_at hs 5 3 (by kernel_rfl) (shut_at hs 6 5 (by kernel_rfl) (up_at hu 6 (by kernel_rfl))))))
          have y1 : L 1 = true := shut_at hs 2 1 (by kernel_rfl) (shut_at hs 3 2 (by kernel_rfl) (shut_at hs 5 3 (by kernel_rfl) (shut_at hs 6 5 (by kernel_rfl) (up_at hu 6 (by kernel_rfl)))))
          have y2 : L 2 = true := shut_at hs 3 2 (by kernel_rfl) (shut_at hs 5 3 (by kernel_rfl) (shut_at hs 6 5 (by kernel_rfl) (up_at hu 6 (by kernel_rfl))))
          have y3 : L 3 = true := shut_at hs 5 3 (by kernel_rfl) (shut_at hs 6 5 (by kernel_rfl) (up_at hu 6 (by kernel_rfl)))
          have y4 : L 4 = true := shut_at hs 5 4 (by kernel_rfl) (shut_at hs 6 5 (by kernel_rfl) (up_at hu 6 (by kernel_rfl)))
          have y5 : L 5 = true := shut_at hs 6 5 (by kernel_rfl) (up_at hu 6 (by kernel_rfl))
          have y6 : L 6 = true := up_at hu 6 (by kernel_rfl)
          have y7 : L 7 = true := shut_at hs 9 7 (by kernel_rfl) (up_at hu 9 (by kernel_rfl))
          have y8 : L 8 = true := shut_at hs 9 8 (by kernel_rfl) (up_at hu 9 (by kernel_rfl))
          have y9 : L 9 = true := up_at hu 9 (by kernel_rfl)
          have y10 : L 10 = true := shut_at hs 12 10 (by kernel_rfl) (up_at hu 12 (by kernel_rfl))
          have y11 : L 11 = true := shut_at hs 12 11 (by kernel_rfl) (up_at hu 12 (by kernel_rfl))
          have y12 : L 12 = true := up_at hu 12 (by kernel_rfl)
          try simp only [y0, y1, y2, y3, y4, y5, y6, y7, y8, y9, y10, y11, y12, hL, cond_true, cond_false] at hph
          refine opIn_call (f := 32) (args := #[.agg #[.int .i64 (Wa : Int), .int .i64 (Ha : Int), .slice (some ⟨Ia, 0, none⟩) (Wa * Ha) (Wa * Ha)], .int .i64 (xa : Int), .int .i64 (ya : Int)]) (w' := w') rfl rfl (fun c h => by cases h) (fun _ => trivial) rfl ?_ ((callsIn_wide.2 (HAt.out w')).mono ?_)
          · simp only [y0, y1, y2, y3, y4, y5, y6, y7, y8, y9, y10, y11, y12, hL, cond_true, cond_false]
            go_simp
          · rintro e w2 ⟨rfl, hb9⟩
            exact ⟨_, rfl, by simp [Act.put, upd, y0, y1, y2, y3, y4, y5, y6, y7, y8, y9, y10, y11, y12, hL], by (try simp only [upd, y0, y1, y2, y3, y4, y5, y6, y7, y8, y9, y10, y11, y12, hL]); exact ⟨hph.1.below (by rw [HD.out]; exact hl.1) hb9, hph.2.trans (hb9.mono hph.2.size)⟩⟩
        · skip
          have y0 : L 0 = true := up_at hu 0 (by kernel_rfl)
          have y1 : L 1 = true := up_at hu 1 (by kernel_rfl)
          have y2 : L 2 = true := up_at hu 2 (by kernel_rfl)
          have y3 : L 3 = true := up_at hu 3 (by kernel_rfl)
          have y4 : L 4 = true := up_at hu 4 (by kernel_rfl)
          have y5 : L 5 = true := up_at hu 5 (by kernel_rfl)
          have y6 : L 6 = true := up_at hu 6 (by kernel_rfl)
          have y7 : L 7 = true := up_at hu 7 (by kernel_rfl)
          have y8 : L 8 = true := up_at hu 8 (by kernel_rfl)
          have y9 : L 9 = true := up_at hu 9 (by kernel_rfl)
          have y10 : L 10 = true := up_at hu 10 (by kernel_rfl)
          have y11 : L 11 = true := up_at hu 11 (by kernel_rfl)
          have y12 : L 12 = true := up_at hu 12 (by kernel_rfl)
          have y13 : L 13 = true := up_at hu 13 (by kernel_rfl)
          refine opIn_run (v := .pointer (some ⟨Ia, ma * 3, none⟩)) (w' := w') rfl rfl (fun c h => by cases h) (fun _ => trivial) ?_ ⟨by simp [Act.put, upd, y0, y1, y2, y3, y4, y5, y6, y7, y8, y9, y10, y11, y12, y13, hL], by simpa [upd] using hph⟩
          simp only [y0, y1, y2, y3, y4, y5, y6, y7, y8, y9, y10, y11, y12, y13, hL, cond_true, cond_false]
          go_simp
      case finq =>
        intro L a' w' hall hI
        obtain ⟨rfl, hph⟩ := hI
        have l0 := hall 0 (by decide)
        have l1 := hall 1 (by decide)
        have l2 := hall 2 (by decide)
        have l3 := hall 3 (by decide)
        have l4 := hall 4 (by decide)
        have l5 := hall 5 (by decide)
        have l6 := hall 6 (by decide)
        have l7 := hall 7 (by decide)
        have l8 := hall 8 (by decide)
        have l9 := hall 9 (by decide)
        have l10 := hall 10 (by decide)
        have l11 := hall 11 (by decide)
        have l12 := hall 12 (by decide)
        have l13 := hall 13 (by decide)
        have l14 := hall 14 (by decide)
        simp only [l0, l1, l2, l3, l4, l5, l6, l7, l8, l9, l10, l11, l12, l13, l14, cond_true] at hph ⊢
        clear l0 l1 l2 l3 l4 l5 l6 l7 l8 l9 l10 l11 l12 l13 l14 hall
        clear gri
        have hmax : (if (T1 lv ma).low < lo then lo else (T1 lv ma).low) = maxI (T1 lv ma).low lo := rfl
        obtain ⟨wf, hwf⟩ : ∃ wf : World, wf = w' := ⟨_, rfl⟩
        have hbF := hph.2
        have hT := hph.1
        clear hph
        rw [← hwf] at hT hbF ⊢
        clear hwf
        obtain ⟨c0, c1, c2, cf⟩ := hT.cells HEa.out Hma.out
        have kf := cf (ma * 3 + 1)
        have HTw := Lib.hid hT
        have HJw : Hid (J s1 wf) := Lib.hid (HA.out.keep s1 wr wf HJi.out hbF.size fun k _ hk => hbF.block k hk)
        have HOw : Hid (Only PP w wf) := Lib.hid (HOi.out.trans ⟨hbF.os, hbF.tape, hbF.output, hbF.size, fun b hb' => hbF.block b (by
          rcases Nat.lt_or_ge b wr.heap.size with h | h
          · exact h
          · exact absurd (HP.out b (Nat.le_trans HOi.out.size h)) hb')⟩)
        obtain ⟨l1, hl1⟩ : ∃ l1, maxI (T1 lv ma).low lo = l1 := ⟨_, rfl⟩
        have hl1b : 0 ≤ l1 ∧ l1 ≤ 1000 := by
          have := HLi.out lv ma
          rw [← hl1]; unfold maxI; split <;> omega
        rw [hl1] at hmax
        clear hT hbF cf
        obtain ⟨tn, htn⟩ : ∃ tn, (T1 lv ma).num = tn := ⟨_, rfl⟩
        obtain ⟨tl, htl⟩ : ∃ tl, (T1 lv ma).low = tl := ⟨_, rfl⟩
        obtain ⟨ts, hts⟩ : ∃ ts, (T1 lv ma).said = ts := ⟨_, rfl⟩
        rw [htn] at c0
        rw [htl] at c1 hmax
        rw [hts] at c2
        have HW2 := Lib.hid (HW1.out _ HRi.out)
        rw [htn, hl1, hts] at HW2
        have HT4 := Lib.hid (HTw.out.setLow HEa.out Hma.out l1)
        rw [htn, hts] at HT4
        have HJ4 : Hid (J s1 (wf.setCell ⟨Ia, ma * 3 + 1, none⟩ (.int .i64 l1))) := Lib.hid (HA.out.keep s1 wf _ HJw.out (by simp [World.setCell]) fun k hk _ => Below.heap_setCell _ _ _ _ (by
          intro e
          exact hk (.inr (.inr ⟨lv, _, HEa.out, e.symm⟩))))
        have HO4 : Hid (Only PP w (wf.setCell ⟨Ia, ma * 3 + 1, none⟩ (.int .i64 l1))) := Lib.hid (HOw.out.setCell (HA.out.pt _ (.inr (.inr ⟨lv, _, HEa.out, rfl⟩))) _)
        clear hl1 htn htl hts HTw HJw HOw
        go_upto_region 9 with (fail)
        clear hmax c0 c1 c2 kf
        have hk := HA.out.ent
        obtain ⟨wq, hwq⟩ : ∃ wq : World, wf.setCell ⟨Ia, ma * 3 + 1, none⟩ (.int .i64 l1) = wq := ⟨_, rfl⟩
        rw [hwq] at HT4 HJ4 HO4 ⊢
        clear hwq HTi HJi
        go_loopg [63] F (fun g v wr => ∃ (s2 : σ) (nn nl : Int) (ns : Bool), 0 ≤ nl ∧ nl ≤ 1000 ∧ Hid (nl < bound ∧ ns = false → (bound - nl).toNat + 1 ≤ g) ∧ Hid (loopN step bound g (s2, ⟨nn, nl, ns⟩) = loopN step bound F (s1, ⟨tn, l1, ts⟩)) ∧ Hid (Tr wr p Lb cl sh (T1.upd lv ma ⟨nn, nl, ns⟩)) ∧ Hid (J s2 wr) ∧ Hid (msr s2 + g ≤ msr s1 + F) ∧ Hid (Only PP w wr))
        case atStart => exact ⟨s1, tn, l1, ts, hl1b.1, hl1b.2, Lib.hid (by intro h; have := HF.out; omega), Lib.hid rfl, HT4, HJ4, Lib.hid (Nat.le_refl _), HO4⟩
        case round =>
          obtain ⟨s2, nn, nl, ns, hn0, hn1, HG, HLN, HTq, HJq, HMq, HOq⟩ := hrel
          obtain ⟨c0, c1, c2, cf⟩ := HTq.out.cells HEa.out Hma.out
          rw [TT.upd_self] at c0 c1 c2
          simp only at c0 c1 c2
          by_cases hc : nl < bound ∧ ns = false
          · have hg := HG.out hc
            obtain ⟨hc1, rfl⟩ := hc
            obtain ⟨g', hg'⟩ : ∃ g', gk = g' + 1 := ⟨gk - 1, by omega⟩
            subst hg'
            have e1 : decide (nl < bound) = true := by simp; omega
            have hst := loopN_go (step := step) (bound := bound) (x := (s2, (⟨nn, nl, false⟩ : Nd))) ⟨hc1, rfl⟩ g'
            have HST := Lib.hid hst
            have hcall := HA.out.call wr s2 (T1.upd lv ma ⟨nn, nl, false⟩) lv ma Wa Ha Ia HTq.out HJq.out HEa.out Hma.out (by rw [TT.upd_self]) (by rw [TT.upd_self]; exact hn0) (by rw [TT.upd_self]; exact hc1) (by
              have h1 := HMq.out
              have h2 := HMi.out
              have h3 := HM.out
              have h4 : (i + 1) * F ≤ d * F := Nat.mul_le_mul_right F (by omega)
              rw [Nat.succ_mul] at h4
              omega)
            rw [TT.upd_self, TT.upd_upd] at hcall
            have HCL := Lib.hid hcall
            clear hcall hst
            obtain ⟨b3, hb3⟩ : ∃ b3, (step s2 ⟨nn, nl, false⟩).1 = b3 := ⟨_, rfl⟩
            obtain ⟨n3, hn3⟩ : ∃ n3, (step s2 ⟨nn, nl, false⟩).2.1 = n3 := ⟨_, rfl⟩
            obtain ⟨s3, hs3⟩ : ∃ s3, (step s2 ⟨nn, nl, false⟩).2.2 = s3 := ⟨_, rfl⟩
            have hno := HA.out.no s2 ⟨nn, nl, false⟩
            have hyes := HA.out.yes s2 ⟨nn, nl, false⟩
            have hup := HA.out.up s2 ⟨nn, nl, false⟩
            simp only [hn3] at hno hyes
            rw [hs3] at hup
            rw [hb3, hn3, hs3] at HCL
            have hnx : nxt step (s2, ⟨nn, nl, false⟩) = (s3, if b3 = true then ⟨n3.num, n3.low, true⟩ else ⟨n3.num, n3.low + 1, n3.said⟩) := by
              unfold nxt
              simp only [hb3, hn3, hs3]
            have hln := HLN.out
            rw [HST.out, hnx] at hln
            cases b3 with
            | true =>
              have hlo := hyes hb3
              simp only [if_true] at hln
              have HLN2 := Lib.hid hln
              have HUP := Lib.hid hup
              clear hnx hln hno hyes hb3 hn3 hs3 hup cf
              go_wp2_with fail
              rw [hk, Oper.upon_enter]
              refine HCL.out.mono ?_
              rintro e w3 ⟨rfl, hT3, hJ3, hO3⟩
              obtain ⟨d0, d1, d2, df⟩ := hT3.cells HEa.out Hma.out
              rw [TT.upd_self] at d0 d1 d2
              have kf := df (ma * 3 + 2)
              have HT5 := Lib.hid (hT3.setSaid HEa.out Hma.out true)
              rw [TT.upd_self, TT.upd_upd] at HT5
              have HJ5 : Hid (J s3 (w3.setCell ⟨Ia, ma * 3 + 2, none⟩ (.bool true))) := Lib.hid (HA.out.keep s3 w3 _ hJ3 (by simp [World.setCell]) fun k hk _ => Below.heap_setCell _ _ _ _ (by
                intro e
                exact hk (.inr (.inr ⟨lv, _, HEa.out, e.symm⟩))))
              have HO5 : Hid (Only PP w (w3.setCell ⟨Ia, ma * 3 + 2, none⟩ (.bool true))) := Lib.hid ((HOq.out.trans hO3).setCell (HA.out.pt _ (.inr (.inr ⟨lv, _, HEa.out, rfl⟩))) _)
              clear hT3 hJ3 hO3 df c0 c1 c2
              go_wp2
              go_roundg g'
              case rel => exact ⟨s3, n3.num, n3.low, true, by rw [hlo]; exact hn0, by rw [hlo]; exact hn1, Lib.hid (by simp), HLN2, HT5, HJ5, Lib.hid (by have := HMq.out; have := HUP.out; omega), HO5⟩
              case measure => omega
            | false =>
              have hlo := hno hb3 hn0 hc1
              simp only [Bool.false_eq_true, if_false] at hln
              have HLN2 := Lib.hid hln
              have HUP := Lib.hid hup
              clear hnx hln hno hyes hb3 hn3 hs3 hup cf
              obtain ⟨mn, ml, ms⟩ := n3
              simp only at hlo HLN2
              go_wp2_with fail
              rw [hk, Oper.upon_enter]
              refine HCL.out.mono ?_
              rintro e w3 ⟨rfl, hT3, hJ3, hO3⟩
              obtain ⟨d0, d1, d2, df⟩ := hT3.cells HEa.out Hma.out
              rw [TT.upd_self] at d0 d1 d2
              simp only at d0 d1 d2
              have kf := df (ma * 3 + 1)
              have HT5 := Lib.hid (hT3.setLow HEa.out Hma.out (ml + 1))
              rw [TT.upd_self, TT.upd_upd] at HT5
              have HJ5 : Hid (J s3 (w3.setCell ⟨Ia, ma * 3 + 1, none⟩ (.int .i64 (ml + 1)))) := Lib.hid (HA.out.keep s3 w3 _ hJ3 (by simp [World.setCell]) fun k hk _ => Below.heap_setCell _ _ _ _ (by
                intro e
                exact hk (.inr (.inr ⟨lv, _, HEa.out, e.symm⟩))))
              have HO5 : Hid (Only PP w (w3.setCell ⟨Ia, ma * 3 + 1, none⟩ (.int .i64 (ml + 1)))) := Lib.hid ((HOq.out.trans hO3).setCell (HA.out.pt _ (.inr (.inr ⟨lv, _, HEa.out, rfl⟩))) _)
              clear hT3 hJ3 hO3 df c0 c1 c2
              go_wp2
              go_roundg g'
              case rel => exact ⟨s3, mn, ml + 1, ms, by omega, by omega, Lib.hid (by intro h; omega), HLN2, HT5, HJ5, Lib.hid (by have := HMq.out; have := HUP.out; omega), HO5⟩
              case measure => omega
          · have hst := loopN_stop (step := step) (bound := bound) (x := (s2, (⟨nn, nl, ns⟩ : Nd))) hc gk
            have hln := HLN.out
            rw [hst] at hln
            have HLN2 := Lib.hid hln.symm
            have HW3 := HW2
            rw [hln.symm] at HW3
            simp only at HW3
            clear hst hln cf
            have hrel9 : ∃ (i' j' : Nat) (lo' : Int) (s' : σ) (T' : TT), i' + j' = d ∧ Value.int .i64 ((i : Int) + 1) = .int .i64 (i' : Int) ∧ Value.int .i64 nl = .int .i64 lo' ∧ 0 ≤ lo' ∧ lo' ≤ 1000 ∧ Hid (walkT step bound F W0 x y j' (s', T', lo') = R) ∧ Hid (Tr wr p Lb cl sh T') ∧ Hid (J s' wr) ∧ Hid (LowOk T') ∧ Hid (msr s' ≤ msr s + i' * F) ∧ Hid (Only PP w wr) :=
              ⟨i + 1, lv, nl, s2, T1.upd lv ma ⟨nn, nl, ns⟩, by omega, by go_num, rfl, hn0, hn1, HW3, HTq, HJq, Lib.hid (HLi.out.upd lv ma ⟨hn0, hn1⟩), Lib.hid (by
                have h1 := HMq.out
                have h2 := HMi.out
                rw [Nat.succ_mul]
                omega), HOq⟩
            have HREL := Lib.hid hrel9
            clear hrel9
            by_cases hc1 : nl < bound
            · have hs1 : ns = true := by
                cases ns
                · exact absurd ⟨hc1, rfl⟩ hc
                · rfl
              subst hs1
              have e1 : decide (nl < bound) = true := by simp; omega
              clear hc
              go_wp2
              go_roundw
              case rel => exact HREL.out
              case measure => simp [intOf]; omega
            · have e1 : decide (nl < bound) = false := by simp; omega
              clear hc
              go_wp2
              go_roundw
              case rel => exact HREL.out
              case measure => simp [intOf]; omega
    · obtain rfl : i = d := by omega
      obtain rfl : j = 0 := by omega
      have HF1 : Hid (R = (s1, T1, lo)) := Lib.hid HRi.out.symm
      go_wp2
      go_end0
      exact ⟨rfl, by rw [HF1.out]; exact HTi.out, by rw [HF1.out]; exact HJi.out, HOi.out, by rw [HF1.out]; exact HLi.out, by rw [HF1.out]; exact HMi.out⟩
end Go.Proofs.Ythgbnkcbcepjdaa
