/- Packets in order: the iterator over a tile's packets. -/
import Derived.Test.YtejoedanhonpkaaOrQ2
import Derived.Sort.CutIn
set_option linter.unusedVariables false
set_option linter.unusedSimpArgs false
namespace Go.Proofs.Ytejoedanhonpkaa
open Go.RowKit Go.Shelf
set_option maxRecDepth 100000
attribute [local go_sem] Oper.semAt_some
theorem leaves_marks {J : (Nat → Prop) → List Pk → World → Prop} (hf : Foot J) {n : Nat} {P : Program} {fn : Func} {tmps : Array Value} {R : Ending → World → Prop} (hres : fn.results = #[]) {pre : List Pk} (hR : ∀ F A, J F pre A → R (.returned (.tuple #[])) A) :
    ∀ (Ds : List Nat) (F : Nat → Prop) (A : World), PSt J F pre A (mkO Ds) → Ds.Nodup → LeavesInM Fence.wide n P fn tmps R (mkD Ds) .returning A
  | [], F, A, h, _ => ⟨_, results_none hres _ _ _, hR F A h.j⟩
  | D :: Ds, F, A, h, hn => by
    refine ⟨by simp, .inl ⟨D, _, rfl, run_takeDeferred (h.o _ List.mem_cons_self).1, ?_⟩⟩
    rw [List.nodup_cons] at hn
    refine leaves_marks hf hres hR Ds F _ ((PSt.turn hf (.deferred none) h (fun p hp => ?_)).sub (fun p hp => List.mem_cons_of_mem _ hp)) hn.2
    obtain ⟨d, hd, rfl⟩ := List.mem_map.1 hp
    intro e
    simp only at e
    subst e
    exact hn.1 hd
set_option maxHeartbeats 8000000 in
theorem packets1_in (l tz mz pz cb co cc : Nat) (oc : Obj) (t : Int × Int × Int × Int) (ix iy iox ioy : Int) (cs : List Cp) (tx ty bw bh st od : Int) (rc so ep : Bool) (LV PR LY : Nat)
    (ht : inN t 255) (ho : Ord4 t) (hcs : ∀ (i : Nat) (c : Cp), cs[i]? = some c → (1 ≤ c.dx ∧ c.dx ≤ 4) ∧ (1 ≤ c.dy ∧ c.dy ≤ 4)) (hn4 : cs.length ≤ 4) (hlv : LV ≤ 5) (hpr : 1 ≤ PR ∧ PR ≤ 15) (hly : LY ≤ 8)
    (hco : ∀ X : World, X.heap[cb]? = some oc → ∀ (i : Nat) (c : Cp), cs[i]? = some c → X.cell? ⟨cb, co + i * 5, none⟩ = some (.int .i64 c.d) ∧ X.cell? ⟨cb, co + i * 5 + 1, none⟩ = some (.bool c.sg) ∧ X.cell? ⟨cb, co + i * 5 + 2, none⟩ = some (.int .i64 c.dx) ∧ X.cell? ⟨cb, co + i * 5 + 3, none⟩ = some (.int .i64 c.dy) ∧ X.cell? ⟨cb, co + i * 5 + 4, none⟩ = some (.slice c.A c.n c.cap))
    (J : (Nat → Prop) → List Pk → World → Prop) (hf : Foot J) (G : GE) (hG : G = geo t (cs.map fun c => (c.dx, c.dy)) LV PR)
    (hY : YOk J l) (hJc : ∀ F pre A, J F pre A → A.heap[cb]? = some oc)
    (F0 : Nat → Prop) (W : World) (h0 : PSt J F0 [] W [(mz, .cells #[.int .i64 ix, .int .i64 iy, .int .i64 iox, .int .i64 ioy, .slice (some ⟨cb, co, none⟩) cs.length cc] 28 (0, 0)), (tz, .cells #[.int .i64 t.1, .int .i64 t.2.1, .int .i64 t.2.2.1, .int .i64 t.2.2.2] 38 (0, 0)), (pz, .cells (parA tx ty (LV : Int) bw bh (PR : Int) st od (LY : Int) rc so ep) 30 (0, 0))]) :
    CallsIn Fence.wide 8 Try.prog 40 #[.func (.yield l) #[] #[], .pointer (some ⟨mz, 0, none⟩), .pointer (some ⟨tz, 0, none⟩), .pointer (some ⟨pz, 0, none⟩)] W fun e W' => (∃ v, e = .returned v) ∧ ∃ F', J F' (G.pks LY) W' := by
  obtain ⟨t0, t1, t2, t3⟩ := t
  obtain ⟨ht0, ht1, ht2, ht3⟩ := ht
  simp only at ht0 ht1 ht2 ht3 h0
  obtain ⟨P, hP⟩ : ∃ P : Int, (PR : Int) = P := ⟨_, rfl⟩
  obtain ⟨V, hV⟩ : ∃ P : Int, (LV : Int) = P := ⟨_, rfl⟩
  obtain ⟨Y, hYI⟩ : ∃ P : Int, (LY : Int) = P := ⟨_, rfl⟩
  rw [hP, hV, hYI] at h0
  have H0 := Lib.hid h0
  have HY := Lib.hid hY
  have HCO := Lib.hid hco
  have HCS := Lib.hid hcs
  have HG := Lib.hid hG
  have HC := Lib.hid (And.intro hP (And.intro hV hYI))
  have h1 := h0.new hf (.cells #[.func (.yield l) #[] #[]] 83)
  have H1 := Lib.hid h1
  have cm : (W.alloc (.cells #[.func (.yield l) #[] #[]] 83)).cell? ⟨mz, 4, none⟩ = some (.slice (some ⟨cb, co, none⟩) cs.length cc) := blkc (h1.o _ (List.mem_cons_of_mem _ List.mem_cons_self)).1 4
  clear hY hco hcs hG hP hV hYI h0 h1 H0
  refine callsIn_of_wp_marks Try.func40 rfl trivial ?_ rfl
  simp only [Try.ntmps40, List.size_toArray, List.length_cons, List.length_nil, Nat.reduceAdd, Nat.reduceSub, Array.replicate_succ, Array.replicate_zero, List.push_toArray, List.append_toArray, List.nil_append, List.cons_append]
  gi_wp2
  obtain ⟨n, hn⟩ : ∃ n, cs.length = n := ⟨_, rfl⟩
  rw [hn] at H1 hn4 ⊢
  obtain ⟨z4, hz4⟩ : ∃ z, W.heap.size = z := ⟨_, rfl⟩
  rw [hz4] at H1 ⊢
  obtain ⟨X1, hX1⟩ : ∃ X, W.alloc (.cells #[.func (.yield l) #[] #[]] 83) = X := ⟨_, rfl⟩
  rw [hX1] at H1 ⊢
  have HN := Lib.hid hn
  clear hX1 hz4 hn cm
  refine wpIn_loop (fun a' w' => ∃ (u5 u6 u7 u8 u9 u10 u15 u16 u17 u18 u19 u20 u21 u22 u23 u24 u25 u26 u27 u28 u29 u30 u31 u32 u33 u34 u35 u36 u37 u38 u39 u40 u41 u42 u43 u44 u45 u46 u47 u48 u49 u50 u51 u52 u53 u54 u55 u56 u57 u58 u59 : Value) (i : Nat) (F : Nat → Prop) (Ds : List Nat), i ≤ n ∧ Ds.Nodup ∧ Hid (PSt J F (compL G LY i) w' ([(z4, .cells #[.func (.yield l) #[] #[]] 83 (0, 0)), (mz, .cells #[.int .i64 ix, .int .i64 iy, .int .i64 iox, .int .i64 ioy, .slice (some ⟨cb, co, none⟩) n cc] 28 (0, 0)), (tz, .cells #[.int .i64 t0, .int .i64 t1, .int .i64 t2, .int .i64 t3] 38 (0, 0)), (pz, .cells (parA tx ty V bw bh P st od Y rc so ep) 30 (0, 0))] ++ mkO Ds)) ∧ a' = ⟨#[.func (.yield l) #[] #[], .pointer (some ⟨mz, 0, none⟩), .pointer (some ⟨tz, 0, none⟩), .pointer (some ⟨pz, 0, none⟩), .pointer (some ⟨z4, 0, none⟩), u5, u6, u7, u8, u9, u10, .pointer (some ⟨mz, 4, none⟩), .slice (some ⟨cb, co, none⟩) n cc, .int .i64 (n : Int), .int .i64 (i : Int), u15, u16, u17, u18, u19, u20, u21, u22, u23, u24, u25, u26, u27, u28, u29, u30, u31, u32, u33, u34, u35, u36, u37, u38, u39, u40, u41, u42, u43, u44, u45, u46, u47, u48, u49, u50, u51, u52, u53, u54, u55, u56, u57, u58, u59], mkD Ds⟩)
    (fun a' _ => ((n : Int) - intOf (a'.tmps.getD 14 undef)).toNat) ?_ ?_
  · exact ⟨_, _, _, _, _, _, _, _, _, _, _, _, _, _, _, _, _, _, _, _, _, _, _, _, _, _, _, _, _, _, _, _, _, _, _, _, _, _, _, _, _, _, _, _, _, _, _, _, _, _, _, 0, F0, [], by omega, List.nodup_nil, Lib.hid (H1.out.sub (by simp [mkO])), rfl⟩
  rintro a_ wr ⟨u5, u6, u7, u8, u9, u10, u15, u16, u17, u18, u19, u20, u21, u22, u23, u24, u25, u26, u27, u28, u29, u30, u31, u32, u33, u34, u35, u36, u37, u38, u39, u40, u41, u42, u43, u44, u45, u46, u47, u48, u49, u50, u51, u52, u53, u54, u55, u56, u57, u58, u59, i, F, Ds, hi, hnd, HP, rfl⟩
  clear H1
  by_cases hlt : i < n
  · have hI : (i : Int) < (n : Int) ∧ (0 : Int) ≤ (i : Int) := by omega
    obtain ⟨c, hc⟩ : ∃ c, cs[i]? = some c := ⟨_, List.getElem?_eq_getElem (by rw [HN.out]; exact hlt)⟩
    have hcd := HCS.out i c hc
    obtain ⟨k0, k1, k2, k3, k4⟩ := HCO.out wr (hJc _ _ _ HP.out.j) i c hc
    have HCC := Lib.hid hc
    clear hc
    have HP2 := Lib.hid ((HP.out.new hf (.cells #[.int .i64 (i : Int)] 3)).new hf (.cells #[.int .i64 c.d, .bool c.sg, .int .i64 c.dx, .int .i64 c.dy, .slice c.A c.n c.cap] 48))
    obtain ⟨g0, g1, g2, g3⟩ := rc4 (HP2.out.o (tz, .cells #[.int .i64 t0, .int .i64 t1, .int .i64 t2, .int .i64 t3] 38 (0, 0)) (by simp)).1
    have PT := Lib.hid (fun u => part_any t0 t1 t2 t3 c.dx c.dy u (by omega) (by omega) (by omega) (by omega) (by omega) (by omega))
    have hF1 : Fence.wide.fn 41 := trivial
    have h8 : 1 ≤ 8 := by omega
    obtain ⟨⟨p0, p1, p2, p3⟩, hpp⟩ : ∃ p, ptF (t0, t1, t2, t3) (c.dx, c.dy) = p := ⟨_, rfl⟩
    have hpp2 : ceilF t0 c.dx = p0 ∧ ceilF t1 c.dy = p1 ∧ ceilF t2 c.dx = p2 ∧ ceilF t3 c.dy = p3 := by
      unfold ptF at hpp
      simp only [Prod.mk.injEq] at hpp
      exact hpp
    rw [hpp2.1, hpp2.2.1, hpp2.2.2.1, hpp2.2.2.2] at PT
    have HPP := Lib.hid hpp
    clear hpp hpp2
    gi_upto_region 5 with (gi_at_call 41; refine (callsIn_wide.2 (PT.out _)).mono ?_; rintro e w1 ⟨rfl, hb1⟩)
    obtain ⟨z5, hz5⟩ : ∃ z, wr.heap.size = z := ⟨_, rfl⟩
    have hz6 : (wr.alloc (.cells #[.int .i64 (i : Int)] 3)).heap.size = z5 + 1 := by rw [World.size_alloc, hz5]
    have HP3 := (HP2.out.below hf hb1).new hf (.cells #[.int .i64 p0, .int .i64 p1, .int .i64 p2, .int .i64 p3] 38)
    rw [hz6, hz5] at HP3
    rw [hz5]
    obtain ⟨z6, hz6'⟩ : ∃ z, z5 + 1 = z := ⟨_, rfl⟩
    rw [hz6'] at HP3 ⊢
    obtain ⟨z7, hz7⟩ : ∃ z, w1.heap.size = z := ⟨_, rfl⟩
    rw [hz7] at HP3 ⊢
    obtain ⟨X2, hX2⟩ : ∃ X, w1.alloc (.cells #[.int .i64 p0, .int .i64 p1, .int .i64 p2, .int .i64 p3] 38) = X := ⟨_, rfl⟩
    rw [hX2] at HP3 ⊢
    have HP4 : Hid (PSt J F (compL G LY i) X2 ((z7, Obj.cells #[.int .i64 p0, .int .i64 p1, .int .i64 p2, .int .i64 p3] 38 (0, 0)) :: (z6, Obj.cells #[.int .i64 c.d, .bool c.sg, .int .i64 c.dx, .int .i64 c.dy, .slice c.A c.n c.cap] 48 (0, 0)) :: (z5, Obj.cells #[.int .i64 (i : Int)] 3 (0, 0)) :: (pz, Obj.cells (parA tx ty V bw bh P st od Y rc so ep) 30 (0, 0)) :: (z4, Obj.cells #[.func (.yield l) #[] #[]] 83 (0, 0)) :: (tz, Obj.cells #[.int .i64 t0, .int .i64 t1, .int .i64 t2, .int .i64 t3] 38 (0, 0)) :: ([(mz, Obj.cells #[.int .i64 ix, .int .i64 iy, .int .i64 iox, .int .i64 ioy, .slice (some ⟨cb, co, none⟩) n cc] 28 (0, 0))] ++ mkO Ds))) := Lib.hid (HP3.sub (fun p hp => by
      simp only [List.mem_cons, List.mem_append, List.not_mem_nil, or_false] at hp ⊢
      rcases hp with h | h | h | h | h | h | h | h <;> simp [h]))
    have cv : X2.cell? ⟨pz, 2, none⟩ = some (.int .i64 V) := blkc (HP4.out.o (pz, Obj.cells (parA tx ty V bw bh P st od Y rc so ep) 30 (0, 0)) (by simp)).1 2
    have sV : wrap64 (V + 1) = V + 1 := IntWalk.wrap64_in _ (by have := HC.out; omega)
    have hda : dAt (cs.map fun c => (c.dx, c.dy)) i = (c.dx, c.dy) := by simp [dAt, List.getD, HCC.out]
    have HDA := Lib.hid hda
    have hwh : ∀ c' r', c' < i → G.wh c' r' ≤ 65025 := fun c' r' hc' => by
      obtain ⟨c2, hc2⟩ : ∃ c, cs[c']? = some c := ⟨_, List.getElem?_eq_getElem (by rw [HN.out]; omega)⟩
      have hcd2 := HCS.out c' c2 hc2
      have hda2 : dAt (cs.map fun c => (c.dx, c.dy)) c' = (c2.dx, c2.dy) := by simp [dAt, List.getD, hc2]
      have hdp := geo_pc (ds := cs.map fun c => (c.dx, c.dy)) (lv := LV) (pr := PR) (c := c') (r := r') (t := (t0, t1, t2, t3)) ⟨ht0, ht1, ht2, ht3⟩ ho (by rw [hda2]; simp only; omega) (by rw [hda2]; simp only; omega)
      rw [HG.out]
      exact Nat.mul_le_mul hdp.2.1 hdp.2.2
    have hlen : (compL G LY i).length ≤ 12000000 := by
      have h1 := compL_len G LY i 65025 hwh
      have hGl : G.lv = LV := by rw [HG.out]; rfl
      rw [hGl] at h1
      have h2 : (LV + 1) * (65025 * LY) ≤ 6 * (65025 * 8) := Nat.mul_le_mul (by omega) (Nat.mul_le_mul_left _ hly)
      have h3 : i * ((LV + 1) * (65025 * LY)) ≤ 3 * (6 * (65025 * 8)) := Nat.mul_le_mul (by omega) h2
      omega
    clear hX2 hz5 hz6 hz6' hz7 HP3 HP2 hb1 k0 k1 k2 k3 k4 g0 g1 g2 g3 PT hda hwh
    gi_wp2_with fail
    rw [sV]
    refine wpIn_code (c' := unblk (blkOf Try.f40 2)) (by kernel_rfl) (res_in l z4 z5 z6 z7 pz tz t0 t1 t2 t3 p0 p1 p2 p3 tx ty bw bh st od P V Y c.d c.dx c.dy rc so ep c.sg (.slice c.A c.n c.cap) LV PR LY i (cs.map fun c => (c.dx, c.dy)) HDA.out hly hlv hpr hcd.1 hcd.2 HC.out.2.2 HC.out.2.1 HC.out.1 ⟨ht0, ht1, ht2, ht3⟩ ho HPP.out.symm J hf HY.out F (compL G LY i) X2 [(mz, Obj.cells #[.int .i64 ix, .int .i64 iy, .int .i64 iox, .int .i64 ioy, .slice (some ⟨cb, co, none⟩) n cc] 28 (0, 0))] Ds HP4.out hnd hlen ?_)
    intro v8 v9 v10 v29 v30 v31 v32 v33 v34 v35 v36 v37 v38 v39 v40 v41 v42 v43 v44 v45 v46 v47 v48 v49 v50 v51 v52 v53 v54 v55 v56 v57 v58 Ds' F' A' hnd' hP'
    have HP5 : Hid (PSt J F' (compL G LY (i + 1)) A' ([(z4, .cells #[.func (.yield l) #[] #[]] 83 (0, 0)), (mz, .cells #[.int .i64 ix, .int .i64 iy, .int .i64 iox, .int .i64 ioy, .slice (some ⟨cb, co, none⟩) n cc] 28 (0, 0)), (tz, .cells #[.int .i64 t0, .int .i64 t1, .int .i64 t2, .int .i64 t3] 38 (0, 0)), (pz, .cells (parA tx ty V bw bh P st od Y rc so ep) 30 (0, 0))] ++ mkO Ds')) := Lib.hid (by
      rw [compL_succ, show G.lv = LV from by rw [HG.out]; rfl, HG.out]
      rw [HG.out] at hP'
      refine hP'.sub (fun p hp => ?_)
      simp only [List.mem_cons, List.mem_append, List.not_mem_nil, or_false] at hp ⊢
      rcases hp with (h | h | h | h) | h <;> simp [h])
    clear hP' HP4 cv sV
    gi_wp2
    rw [show ((i : Int) + 1) = ((i + 1 : Nat) : Int) from by simp]
    refine ⟨⟨?_, ?_, ?_, ?_, ?_, ?_, ?_, ?_, ?_, ?_, ?_, ?_, ?_, ?_, ?_, ?_, ?_, ?_, ?_, ?_, ?_, ?_, ?_, ?_, ?_, ?_, ?_, ?_, ?_, ?_, ?_, ?_, ?_, ?_, ?_, ?_, ?_, ?_, ?_, ?_, ?_, ?_, ?_, ?_, ?_, ?_, ?_, ?_, ?_, ?_, ?_, i + 1, F', Ds', by omega, hnd', HP5, ?act⟩, ?mea⟩
    case act => rfl
    case mea =>
      simp [intOf]
      omega
  · obtain rfl : i = n := by omega
    have hI : ¬ (i : Int) < (i : Int) := by omega
    have HPn : Hid (PSt J F (G.pks LY) wr (mkO Ds)) := Lib.hid (by
      rw [← compL_all, show G.nc = i from by rw [HG.out]; show (cs.map fun c => (c.dx, c.dy)).length = i; rw [List.length_map, HN.out]]
      exact HP.out.sub (fun p hp => List.mem_append_right _ hp))
    gi_wp2
    exact leaves_marks hf rfl (fun F A h => ⟨⟨_, rfl⟩, F, h⟩) Ds F wr HPn.out hnd
end Go.Proofs.Ytejoedanhonpkaa
