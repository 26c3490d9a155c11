/- Packets in order: the iterator over a tile's packets: the resolutions of a component. -/
import Derived.Test.YtejoedanhonpkaaOrQc
set_option linter.unusedVariables false
set_option linter.unusedSimpArgs false
namespace Go.Proofs.Ytejoedanhonpkaa
open Go.RowKit Go.Shelf
set_option maxRecDepth 100000
attribute [local go_sem] Oper.semAt_some
def unblk : Code → Code
  | .block _ c => c
  | c => c
theorem cells12 {w : World} {b : Nat} {a0 a1 a2 a3 a4 a5 a6 a7 a8 a9 aa ab : Value} {t : TypeId} (h : w.heap[b]? = some (.cells #[a0, a1, a2, a3, a4, a5, a6, a7, a8, a9, aa, ab] t (0, 0))) :
    w.cell? ⟨b, 0, none⟩ = some a0 ∧ w.cell? ⟨b, 1, none⟩ = some a1 ∧ w.cell? ⟨b, 2, none⟩ = some a2 ∧ w.cell? ⟨b, 3, none⟩ = some a3 ∧ w.cell? ⟨b, 4, none⟩ = some a4 ∧ w.cell? ⟨b, 5, none⟩ = some a5 ∧ w.cell? ⟨b, 6, none⟩ = some a6 ∧ w.cell? ⟨b, 7, none⟩ = some a7 ∧ w.cell? ⟨b, 8, none⟩ = some a8 ∧ w.cell? ⟨b, 9, none⟩ = some a9 ∧ w.cell? ⟨b, 10, none⟩ = some aa ∧ w.cell? ⟨b, 11, none⟩ = some ab := by
  simp [World.cell?, h]
theorem cells5 {w : World} {b : Nat} {a0 a1 a2 a3 a4 : Value} {t : TypeId} (h : w.heap[b]? = some (.cells #[a0, a1, a2, a3, a4] t (0, 0))) :
    w.cell? ⟨b, 0, none⟩ = some a0 ∧ w.cell? ⟨b, 1, none⟩ = some a1 ∧ w.cell? ⟨b, 2, none⟩ = some a2 ∧ w.cell? ⟨b, 3, none⟩ = some a3 ∧ w.cell? ⟨b, 4, none⟩ = some a4 := by
  simp [World.cell?, h]
set_option maxHeartbeats 16000000 in
theorem res_in {u0 u1 u8 u9 u10 u11 u12 u13 u14 u15 u16 u17 u18 u19 u20 u21 u22 u23 u24 u25 u26 u29 u30 u31 u32 u33 u34 u35 u36 u37 u38 u39 u40 u41 u42 u43 u44 u45 u46 u47 u48 u49 u50 u51 u52 u53 u54 u55 u56 u57 u58 u59 : Value} (l z4 z5 z6 z7 pz tz : Nat) (t0 t1 t2 t3 p0 p1 p2 p3 tx ty bw bh st od P V Y cd dx dy : Int) (rc so ep cg : Bool) (CD : Value) (LV PR LY ic : Nat) (ds : List (Int × Int)) (hd0 : dAt ds ic = (dx, dy))
    (hly : LY ≤ 8) (hlv : LV ≤ 5) (hpr : 1 ≤ PR ∧ PR ≤ 15) (hdx : 1 ≤ dx ∧ dx ≤ 4) (hdy : 1 ≤ dy ∧ dy ≤ 4) (hY0 : (LY : Int) = Y) (hV0 : (LV : Int) = V) (hP0 : (PR : Int) = P) (ht : inN (t0, t1, t2, t3) 255) (ho : Ord4 (t0, t1, t2, t3)) (hp : (p0, p1, p2, p3) = ptF (t0, t1, t2, t3) (dx, dy))
    (J : (Nat → Prop) → List Pk → World → Prop) (hf : Foot J) (hY : YOk J l) (F : Nat → Prop) (pre : List Pk) (A : World) (O : List (Nat × Obj)) (Ds : List Nat)
    (h : PSt J F pre A ((z7, .cells #[.int .i64 p0, .int .i64 p1, .int .i64 p2, .int .i64 p3] 38 (0, 0)) :: (z6, .cells #[.int .i64 cd, .bool cg, .int .i64 dx, .int .i64 dy, CD] 48 (0, 0)) :: (z5, .cells #[.int .i64 (ic : Int)] 3 (0, 0)) :: (pz, .cells (parA tx ty V bw bh P st od Y rc so ep) 30 (0, 0)) :: (z4, .cells #[.func (.yield l) #[] #[]] 83 (0, 0)) :: (tz, .cells #[.int .i64 t0, .int .i64 t1, .int .i64 t2, .int .i64 t3] 38 (0, 0)) :: (O ++ mkO Ds))) (hnd : Ds.Nodup) (hlen : pre.length ≤ 12000000)
    {Q : Exit → Act → World → Prop} (hQ : ∀ (v8 v9 v10 v29 v30 v31 v32 v33 v34 v35 v36 v37 v38 v39 v40 v41 v42 v43 v44 v45 v46 v47 v48 v49 v50 v51 v52 v53 v54 v55 v56 v57 v58 : Value) (Ds' : List Nat) (F' : Nat → Prop) (A' : World), Ds'.Nodup → PSt J F' (pre ++ resL (geo (t0, t1, t2, t3) ds LV PR) LY ic (LV + 1)) A' ((z7, .cells #[.int .i64 p0, .int .i64 p1, .int .i64 p2, .int .i64 p3] 38 (0, 0)) :: (z6, .cells #[.int .i64 cd, .bool cg, .int .i64 dx, .int .i64 dy, CD] 48 (0, 0)) :: (z5, .cells #[.int .i64 (ic : Int)] 3 (0, 0)) :: (pz, .cells (parA tx ty V bw bh P st od Y rc so ep) 30 (0, 0)) :: (z4, .cells #[.func (.yield l) #[] #[]] 83 (0, 0)) :: (tz, .cells #[.int .i64 t0, .int .i64 t1, .int .i64 t2, .int .i64 t3] 38 (0, 0)) :: (O ++ mkO Ds')) → Q .normal ⟨#[u0, u1, .pointer (some ⟨tz, 0, none⟩), .pointer (some ⟨pz, 0, none⟩), .pointer (some ⟨z4, 0, none⟩), .pointer (some ⟨z5, 0, none⟩), .pointer (some ⟨z6, 0, none⟩), .pointer (some ⟨z7, 0, none⟩), v8, v9, v10, u11, u12, u13, u14, u15, u16, u17, u18, u19, u20, u21, u22, u23, u24, u25, u26, .int .i64 (V + 1), .int .i64 (V + 1), v29, v30, v31, v32, v33, v34, v35, v36, v37, v38, v39, v40, v41, v42, v43, v44, v45, v46, v47, v48, v49, v50, v51, v52, v53, v54, v55, v56, v57, v58, u59], mkD Ds'⟩ A') :
    (unblk (blkOf Try.f40 2)).wpIn Fence.wide 8 Try.prog (Exit.inBlock 2 Q) ⟨#[u0, u1, .pointer (some ⟨tz, 0, none⟩), .pointer (some ⟨pz, 0, none⟩), .pointer (some ⟨z4, 0, none⟩), .pointer (some ⟨z5, 0, none⟩), .pointer (some ⟨z6, 0, none⟩), .pointer (some ⟨z7, 0, none⟩), u8, u9, u10, u11, u12, u13, u14, u15, u16, u17, u18, u19, u20, u21, u22, u23, u24, u25, u26, .int .i64 (V + 1), .int .i64 0, u29, u30, u31, u32, u33, u34, u35, u36, u37, u38, u39, u40, u41, u42, u43, u44, u45, u46, u47, u48, u49, u50, u51, u52, u53, u54, u55, u56, u57, u58, u59], mkD Ds⟩ A := by
  obtain ⟨o_, ho_⟩ : ∃ o, unblk (blkOf Try.f40 2) = o := ⟨_, rfl⟩
  rw [ho_]
  conv at ho_ => lhs; whnf
  subst ho_
  obtain ⟨G, hG⟩ : ∃ G, geo (t0, t1, t2, t3) ds LV PR = G := ⟨_, rfl⟩
  rw [hG] at hQ
  have H0 := Lib.hid h
  have HF := Lib.hid hf
  have HY := Lib.hid hY
  have HQ := Lib.hid hQ
  have HG := Lib.hid hG
  have HPT := Lib.hid hp
  have HT := Lib.hid ht
  have HO := Lib.hid ho
  have HD := Lib.hid hd0
  have hVb : 0 ≤ V ∧ V ≤ 5 := by omega
  have hPb : 1 ≤ P ∧ P ≤ 15 := by omega
  have HVV := Lib.hid (And.intro hY0 (And.intro hV0 hP0))
  clear h hf hY hQ hG hp ht ho hd0 hY0 hV0 hP0
  refine wpIn_loop (fun a' w' => ∃ (u8 u9 u10 u29 u30 u31 u32 u33 u34 u35 u36 u37 u38 u39 u40 u41 u42 u43 u44 u45 u46 u47 u48 u49 u50 u51 u52 u53 u54 u55 u56 u57 u58 : Value) (r : Nat) (F : Nat → Prop) (Ds : List Nat), r ≤ LV + 1 ∧ Ds.Nodup ∧ Hid (PSt J F (pre ++ resL G LY ic r) w' ((z7, .cells #[.int .i64 p0, .int .i64 p1, .int .i64 p2, .int .i64 p3] 38 (0, 0)) :: (z6, .cells #[.int .i64 cd, .bool cg, .int .i64 dx, .int .i64 dy, CD] 48 (0, 0)) :: (z5, .cells #[.int .i64 (ic : Int)] 3 (0, 0)) :: (pz, .cells (parA tx ty V bw bh P st od Y rc so ep) 30 (0, 0)) :: (z4, .cells #[.func (.yield l) #[] #[]] 83 (0, 0)) :: (tz, .cells #[.int .i64 t0, .int .i64 t1, .int .i64 t2, .int .i64 t3] 38 (0, 0)) :: (O ++ mkO Ds))) ∧ a' = ⟨#[u0, u1, .pointer (some ⟨tz, 0, none⟩), .pointer (some ⟨pz, 0, none⟩), .pointer (some ⟨z4, 0, none⟩), .pointer (some ⟨z5, 0, none⟩), .pointer (some ⟨z6, 0, none⟩), .pointer (some ⟨z7, 0, none⟩), u8, u9, u10, u11, u12, u13, u14, u15, u16, u17, u18, u19, u20, u21, u22, u23, u24, u25, u26, .int .i64 (V + 1), .int .i64 (r : Int), u29, u30, u31, u32, u33, u34, u35, u36, u37, u38, u39, u40, u41, u42, u43, u44, u45, u46, u47, u48, u49, u50, u51, u52, u53, u54, u55, u56, u57, u58, u59], mkD Ds⟩)
    (fun a' _ => (V + 1 - intOf (a'.tmps.getD 28 undef)).toNat) ?_ ?_
  · exact ⟨_, _, _, _, _, _, _, _, _, _, _, _, _, _, _, _, _, _, _, _, _, _, _, _, _, _, _, _, _, _, _, _, _, 0, F, Ds, by omega, hnd, Lib.hid (by rw [show resL G LY ic 0 = [] from rfl, List.append_nil]; exact H0.out), rfl⟩
  rintro a_ X ⟨u8, u9, u10, u29, u30, u31, u32, u33, u34, u35, u36, u37, u38, u39, u40, u41, u42, u43, u44, u45, u46, u47, u48, u49, u50, u51, u52, u53, u54, u55, u56, u57, u58, r, F, Ds, hr, hnd, HP, rfl⟩
  clear H0
  by_cases hlt : r < LV + 1
  · have hrI : (r : Int) < V + 1 ∧ (0 : Int) ≤ (r : Int) := by have := HVV.out; omega
    gi_upto_region 8 with fail
    have hrl : r ≤ LV := by omega
    obtain ⟨⟨q0, q1, q2, q3⟩, hq⟩ : ∃ q, overN (p0, p1, p2, p3) ((2 ^ (LV - r) : Nat) : Int) = q := ⟨_, rfl⟩
    have hpin : inN (p0, p1, p2, p3) 255 := by rw [HPT.out]; exact ptF_in HT.out (by simp only; omega) (by simp only; omega)
    have hqrs : rsF (t0, t1, t2, t3) (dx, dy) LV r = (q0, q1, q2, q3) := by unfold rsF; rw [← HPT.out, hq]
    have RS : Hid (∀ u, Calls Try.prog 43 #[.agg #[.int .i64 p0, .int .i64 p1, .int .i64 p2, .int .i64 p3], .int .i64 V, .int .i64 (r : Int)] u fun e w' => e = .returned (.agg #[.int .i64 q0, .int .i64 q1, .int .i64 q2, .int .i64 q3]) ∧ Below u.heap.size u w') := Lib.hid (fun u => by
      have := res_any (p0, p1, p2, p3) LV r u ⟨by have := hpin.1; simp only at this ⊢; omega, by have := hpin.2.1; simp only at this ⊢; omega, by have := hpin.2.2.1; simp only at this ⊢; omega, by have := hpin.2.2.2; simp only at this ⊢; omega⟩ (by omega)
      rw [hq, HVV.out.2.1] at this
      exact this)
    have HQR := Lib.hid hqrs
    have PX := Lib.hid (fun u => precincts_any #[.int .i64 t0, .int .i64 t1, .int .i64 t2, .int .i64 t3] #[.int .i64 q0, .int .i64 q1, .int .i64 q2, .int .i64 q3] #[.int .i64 cd, .bool cg, .int .i64 dx, .int .i64 dy, CD] #[.int .i64 tx, .int .i64 ty, .int .i64 V, .int .i64 bw, .int .i64 bh, .int .i64 P, .int .i64 st, .int .i64 od, .int .i64 Y, .bool rc, .bool so, .bool ep] (r : Int) u)
    clear hpin hq hqrs
    refine (wpIn_wide (n := 8)).2 ?_
    obtain ⟨VL, hVL⟩ : ∃ VL : Nat → List (Nat × Nat × Value), VL = fun z => [(0, 31, .agg #[.int .i64 t0, .int .i64 t1, .int .i64 t2, .int .i64 t3]), (1, 32, .agg #[.int .i64 p0, .int .i64 p1, .int .i64 p2, .int .i64 p3]), (2, 33, .pointer (some ⟨pz, 2, none⟩)), (3, 34, .int .i64 V), (4, 35, .int .i64 (r : Int)), (5, 36, .agg #[.int .i64 q0, .int .i64 q1, .int .i64 q2, .int .i64 q3]), (6, 37, .agg #[.int .i64 cd, .bool cg, .int .i64 dx, .int .i64 dy, CD]), (7, 38, .agg #[.int .i64 tx, .int .i64 ty, .int .i64 V, .int .i64 bw, .int .i64 bh, .int .i64 P, .int .i64 st, .int .i64 od, .int .i64 Y, .bool rc, .bool so, .bool ep]), (8, 39, .int .i64 (r : Int)), (9, 40, .func (.func 52) #[] #[.pointer (some ⟨z + 3, 0, none⟩), .pointer (some ⟨z + 4, 0, none⟩), .pointer (some ⟨z + 1, 0, none⟩), .pointer (some ⟨z, 0, none⟩), .pointer (some ⟨z + 2, 0, none⟩)])] := ⟨_, rfl⟩
    have hok : ∀ z, manyOk 60 (VL z) := fun z => by rw [hVL]; exact ⟨by simp, by simp, by simp⟩
    have HVL := Lib.hid hVL
    have hvi : ∀ z, ∀ x ∈ VL z, x.1 < 10 := fun z => by rw [hVL]; simp
    have HOK := Lib.hid hok
    have HVI := Lib.hid hvi
    clear hVL hok hvi
    refine (wpIn_wide (n := 9)).1 (regionIn_many (N := 60) (w := _) VL (fun L z w' => (bif L 9 then (PSt J F (pre ++ resL G LY ic r) w' ((z + 4, .cells #[.int .i64 (r : Int)] 3 (0, 0)) :: (z + 3, .cells (parA tx ty V bw bh P st od Y rc so ep) 30 (0, 0)) :: (z + 2, .cells #[.int .i64 cd, .bool cg, .int .i64 dx, .int .i64 dy, CD] 48 (0, 0)) :: (z + 1, .cells #[.int .i64 q0, .int .i64 q1, .int .i64 q2, .int .i64 q3] 38 (0, 0)) :: (z, .cells #[.int .i64 t0, .int .i64 t1, .int .i64 t2, .int .i64 t3] 38 (0, 0)) :: (z7, .cells #[.int .i64 p0, .int .i64 p1, .int .i64 p2, .int .i64 p3] 38 (0, 0)) :: (z6, .cells #[.int .i64 cd, .bool cg, .int .i64 dx, .int .i64 dy, CD] 48 (0, 0)) :: (z5, .cells #[.int .i64 (ic : Int)] 3 (0, 0)) :: (pz, .cells (parA tx ty V bw bh P st od Y rc so ep) 30 (0, 0)) :: (z4, .cells #[.func (.yield l) #[] #[]] 83 (0, 0)) :: (tz, .cells #[.int .i64 t0, .int .i64 t1, .int .i64 t2, .int .i64 t3] 38 (0, 0)) :: (O ++ mkO Ds))) else PSt J F (pre ++ resL G LY ic r) w' ((z7, .cells #[.int .i64 p0, .int .i64 p1, .int .i64 p2, .int .i64 p3] 38 (0, 0)) :: (z6, .cells #[.int .i64 cd, .bool cg, .int .i64 dx, .int .i64 dy, CD] 48 (0, 0)) :: (z5, .cells #[.int .i64 (ic : Int)] 3 (0, 0)) :: (pz, .cells (parA tx ty V bw bh P st od Y rc so ep) 30 (0, 0)) :: (z4, .cells #[.func (.yield l) #[] #[]] 83 (0, 0)) :: (tz, .cells #[.int .i64 t0, .int .i64 t1, .int .i64 t2, .int .i64 t3] 38 (0, 0)) :: (O ++ mkO Ds)))) [(2, .pointer (some ⟨tz, 0, none⟩)), (3, .pointer (some ⟨pz, 0, none⟩)), (6, .pointer (some ⟨z6, 0, none⟩)), (7, .pointer (some ⟨z7, 0, none⟩)), (8, .int .i64 (r : Int))] (by kernel_rfl) (by kernel_rfl) rfl (by simp only [List.forall_mem_cons, List.not_mem_nil, false_imp_iff, implies_true, and_true]; exact ⟨rfl, rfl, rfl, rfl, rfl⟩) HVI.out 0 ?start ?step ?fin)
    case start => exact HP.out.below HF.out (below_drewN (Below.refl _ _) 1)
    case step =>
      intro gg_ hgN hgF ii_ hii_ L z w' hph hs hu
      have hF2 := hgF (2, .pointer (some ⟨tz, 0, none⟩)) (by simp)
      have hF3 := hgF (3, .pointer (some ⟨pz, 0, none⟩)) (by simp)
      have hF6 := hgF (6, .pointer (some ⟨z6, 0, none⟩)) (by simp)
      have hF7 := hgF (7, .pointer (some ⟨z7, 0, none⟩)) (by simp)
      have hF8 := hgF (8, .int .i64 (r : Int)) (by simp)
      have hL := hu.1
      have hii_ : ii_ < 10 := hii_
      clear hgF
      obtain rfl | rfl | rfl | rfl | rfl | rfl | rfl | rfl | rfl | rfl := (by omega : ii_ = 0 ∨ ii_ = 1 ∨ ii_ = 2 ∨ ii_ = 3 ∨ ii_ = 4 ∨ ii_ = 5 ∨ ii_ = 6 ∨ ii_ = 7 ∨ ii_ = 8 ∨ ii_ = 9)
      · skip
        have n9 : L 9 = false := not_yet hL fun h => shut_at hs 9 0 (by kernel_rfl) (h)
        try simp only [n9, hL, cond_true, cond_false] at hph
        obtain ⟨g0, g1, g2, g3⟩ := rc4 (hph.o (tz, .cells #[.int .i64 t0, .int .i64 t1, .int .i64 t2, .int .i64 t3] 38 (0, 0)) (by simp)).1
        have e2 : (many gg_ L (VL z))[2]?.getD undef = .pointer (some ⟨tz, 0, none⟩) := many_out hgN (HOK.out z).1 (by rw [HVL.out]; rfl) hF2
        refine opIn_run (v := .agg #[.int .i64 t0, .int .i64 t1, .int .i64 t2, .int .i64 t3]) (w' := w') rfl rfl (fun c h => by cases h) (fun _ => trivial) ?_ ⟨z, by exact many_put (HOK.out _) 0 31 _ (by rw [HVL.out]; simp) hL, by simp only [upd, n9, hL, Nat.reduceBEq, cond_true, cond_false]; exact hph⟩
        go_simp
      · skip
        have n9 : L 9 = false := not_yet hL fun h => shut_at hs 5 1 (by kernel_rfl) (shut_at hs 9 5 (by kernel_rfl) (h))
        try simp only [n9, hL, cond_true, cond_false] at hph
        obtain ⟨g0, g1, g2, g3⟩ := rc4 (hph.o (z7, .cells #[.int .i64 p0, .int .i64 p1, .int .i64 p2, .int .i64 p3] 38 (0, 0)) (by simp)).1
        have e7 : (many gg_ L (VL z))[7]?.getD undef = .pointer (some ⟨z7, 0, none⟩) := many_out hgN (HOK.out z).1 (by rw [HVL.out]; rfl) hF7
        refine opIn_run (v := .agg #[.int .i64 p0, .int .i64 p1, .int .i64 p2, .int .i64 p3]) (w' := w') rfl rfl (fun c h => by cases h) (fun _ => trivial) ?_ ⟨z, by exact many_put (HOK.out _) 1 32 _ (by rw [HVL.out]; simp) hL, by simp only [upd, n9, hL, Nat.reduceBEq, cond_true, cond_false]; exact hph⟩
        go_simp
      · skip
        have n9 : L 9 = false := not_yet hL fun h => shut_at hs 3 2 (by kernel_rfl) (shut_at hs 5 3 (by kernel_rfl) (shut_at hs 9 5 (by kernel_rfl) (h)))
        try simp only [n9, hL, cond_true, cond_false] at hph
        have e3 : (many gg_ L (VL z))[3]?.getD undef = .pointer (some ⟨pz, 0, none⟩) := many_out hgN (HOK.out z).1 (by rw [HVL.out]; rfl) hF3
        refine opIn_run (v := .pointer (some ⟨pz, 2, none⟩)) (w' := w') rfl rfl (fun c h => by cases h) (fun _ => trivial) ?_ ⟨z, by exact many_put (HOK.out _) 2 33 _ (by rw [HVL.out]; simp) hL, by simp only [upd, n9, hL, Nat.reduceBEq, cond_true, cond_false]; exact hph⟩
        go_simp
      · skip
        have y2 : L 2 = true := up_at hu 2 (by kernel_rfl)
        have n9 : L 9 = false := not_yet hL fun h => shut_at hs 5 3 (by kernel_rfl) (shut_at hs 9 5 (by kernel_rfl) (h))
        try simp only [y2, n9, hL, cond_true, cond_false] at hph
        have hcell : w'.cell? ⟨pz, 2, none⟩ = some (.int .i64 V) := blkc (hph.o (pz, .cells (parA tx ty V bw bh P st od Y rc so ep) 30 (0, 0)) (by simp)).1 2
        have e33 : (many gg_ L (VL z))[33]?.getD undef = .pointer (some ⟨pz, 2, none⟩) := many_eval hgN (HOK.out z).1 (by rw [HVL.out]; simp [lookM, y2])
        refine opIn_run (v := .int .i64 V) (w' := w') rfl rfl (fun c h => by cases h) (fun _ => trivial) ?_ ⟨z, by exact many_put (HOK.out _) 3 34 _ (by rw [HVL.out]; simp) hL, by simp only [upd, y2, n9, hL, Nat.reduceBEq, cond_true, cond_false]; exact hph⟩
        go_simp
      · skip
        have n9 : L 9 = false := not_yet hL fun h => shut_at hs 5 4 (by kernel_rfl) (shut_at hs 9 5 (by kernel_rfl) (h))
        try simp only [n9, hL, cond_true, cond_false] at hph
        have e8 : (many gg_ L (VL z))[8]?.getD undef = .int .i64 (r : Int) := many_out hgN (HOK.out z).1 (by rw [HVL.out]; rfl) hF8
        refine opIn_run (v := .int .i64 (r : Int)) (w' := w') rfl rfl (fun c h => by cases h) (fun _ => trivial) ?_ ⟨z, by exact many_put (HOK.out _) 4 35 _ (by rw [HVL.out]; simp) hL, by simp only [upd, n9, hL, Nat.reduceBEq, cond_true, cond_false]; exact hph⟩
        go_simp
      · skip
        have y1 : L 1 = true := up_at hu 1 (by kernel_rfl)
        have y3 : L 3 = true := up_at hu 3 (by kernel_rfl)
        have y4 : L 4 = true := up_at hu 4 (by kernel_rfl)
        have n9 : L 9 = false := not_yet hL fun h => shut_at hs 9 5 (by kernel_rfl) (h)
        try simp only [y1, y3, y4, n9, hL, cond_true, cond_false] at hph
        have e32 : (many gg_ L (VL z))[32]?.getD undef = .agg #[.int .i64 p0, .int .i64 p1, .int .i64 p2, .int .i64 p3] := many_eval hgN (HOK.out z).1 (by rw [HVL.out]; simp [lookM, y1])
        have e34 : (many gg_ L (VL z))[34]?.getD undef = .int .i64 V := many_eval hgN (HOK.out z).1 (by rw [HVL.out]; simp [lookM, y3])
        have e35 : (many gg_ L (VL z))[35]?.getD undef = .int .i64 (r : Int) := many_eval hgN (HOK.out z).1 (by rw [HVL.out]; simp [lookM, y4])
        refine opIn_call (f := 43) (args := #[.agg #[.int .i64 p0, .int .i64 p1, .int .i64 p2, .int .i64 p3], .int .i64 V, .int .i64 (r : Int)]) (w' := w') rfl rfl (fun c h => by cases h) (fun _ => trivial) rfl (by go_simp) ((callsIn_wide.2 (RS.out w')).mono ?_)
        rintro e w2 ⟨rfl, hb⟩
        exact ⟨_, rfl, z, by exact many_put (HOK.out _) 5 36 _ (by rw [HVL.out]; simp) hL, by simp only [upd, y1, y3, y4, n9, hL, Nat.reduceBEq, cond_true, cond_false]; exact hph.below HF.out hb⟩
      · skip
        have n9 : L 9 = false := not_yet hL fun h => shut_at hs 9 6 (by kernel_rfl) (h)
        try simp only [n9, hL, cond_true, cond_false] at hph
        obtain ⟨g0, g1, g2, g3, g4⟩ := cells5 (hph.o (z6, .cells #[.int .i64 cd, .bool cg, .int .i64 dx, .int .i64 dy, CD] 48 (0, 0)) (by simp)).1
        have e6 : (many gg_ L (VL z))[6]?.getD undef = .pointer (some ⟨z6, 0, none⟩) := many_out hgN (HOK.out z).1 (by rw [HVL.out]; rfl) hF6
        refine opIn_run (v := .agg #[.int .i64 cd, .bool cg, .int .i64 dx, .int .i64 dy, CD]) (w' := w') rfl rfl (fun c h => by cases h) (fun _ => trivial) ?_ ⟨z, by exact many_put (HOK.out _) 6 37 _ (by rw [HVL.out]; simp) hL, by simp only [upd, n9, hL, Nat.reduceBEq, cond_true, cond_false]; exact hph⟩
        go_simp
      · skip
        have n9 : L 9 = false := not_yet hL fun h => shut_at hs 9 7 (by kernel_rfl) (h)
        try simp only [n9, hL, cond_true, cond_false] at hph
        obtain ⟨g0, g1, g2, g3, g4, g5, g6, g7, g8, g9, ga, gb⟩ := cells12 (hph.o (pz, .cells (parA tx ty V bw bh P st od Y rc so ep) 30 (0, 0)) (by simp)).1
        have e3 : (many gg_ L (VL z))[3]?.getD undef = .pointer (some ⟨pz, 0, none⟩) := many_out hgN (HOK.out z).1 (by rw [HVL.out]; rfl) hF3
        refine opIn_run (v := .agg #[.int .i64 tx, .int .i64 ty, .int .i64 V, .int .i64 bw, .int .i64 bh, .int .i64 P, .int .i64 st, .int .i64 od, .int .i64 Y, .bool rc, .bool so, .bool ep]) (w' := w') rfl rfl (fun c h => by cases h) (fun _ => trivial) ?_ ⟨z, by exact many_put (HOK.out _) 7 38 _ (by rw [HVL.out]; simp) hL, by simp only [upd, n9, hL, Nat.reduceBEq, cond_true, cond_false]; exact hph⟩
        go_simp
      · skip
        have n9 : L 9 = false := not_yet hL fun h => shut_at hs 9 8 (by kernel_rfl) (h)
        try simp only [n9, hL, cond_true, cond_false] at hph
        have e8 : (many gg_ L (VL z))[8]?.getD undef = .int .i64 (r : Int) := many_out hgN (HOK.out z).1 (by rw [HVL.out]; rfl) hF8
        refine opIn_run (v := .int .i64 (r : Int)) (w' := w') rfl rfl (fun c h => by cases h) (fun _ => trivial) ?_ ⟨z, by exact many_put (HOK.out _) 8 39 _ (by rw [HVL.out]; simp) hL, by simp only [upd, n9, hL, Nat.reduceBEq, cond_true, cond_false]; exact hph⟩
        go_simp
      · skip
        have y0 : L 0 = true := up_at hu 0 (by kernel_rfl)
        have y5 : L 5 = true := up_at hu 5 (by kernel_rfl)
        have y6 : L 6 = true := up_at hu 6 (by kernel_rfl)
        have y7 : L 7 = true := up_at hu 7 (by kernel_rfl)
        have y8 : L 8 = true := up_at hu 8 (by kernel_rfl)
        try simp only [y0, y5, y6, y7, y8, hL, cond_true, cond_false] at hph
        have e31 : (many gg_ L (VL z))[31]?.getD undef = .agg #[.int .i64 t0, .int .i64 t1, .int .i64 t2, .int .i64 t3] := many_eval hgN (HOK.out z).1 (by rw [HVL.out]; simp [lookM, y0])
        have e36 : (many gg_ L (VL z))[36]?.getD undef = .agg #[.int .i64 q0, .int .i64 q1, .int .i64 q2, .int .i64 q3] := many_eval hgN (HOK.out z).1 (by rw [HVL.out]; simp [lookM, y5])
        have e37 : (many gg_ L (VL z))[37]?.getD undef = .agg #[.int .i64 cd, .bool cg, .int .i64 dx, .int .i64 dy, CD] := many_eval hgN (HOK.out z).1 (by rw [HVL.out]; simp [lookM, y6])
        have e38 : (many gg_ L (VL z))[38]?.getD undef = .agg #[.int .i64 tx, .int .i64 ty, .int .i64 V, .int .i64 bw, .int .i64 bh, .int .i64 P, .int .i64 st, .int .i64 od, .int .i64 Y, .bool rc, .bool so, .bool ep] := many_eval hgN (HOK.out z).1 (by rw [HVL.out]; simp [lookM, y7])
        have e39 : (many gg_ L (VL z))[39]?.getD undef = .int .i64 (r : Int) := many_eval hgN (HOK.out z).1 (by rw [HVL.out]; simp [lookM, y8])
        refine opIn_call (f := 42) (args := #[.agg #[.int .i64 t0, .int .i64 t1, .int .i64 t2, .int .i64 t3], .agg #[.int .i64 q0, .int .i64 q1, .int .i64 q2, .int .i64 q3], .agg #[.int .i64 cd, .bool cg, .int .i64 dx, .int .i64 dy, CD], .agg #[.int .i64 tx, .int .i64 ty, .int .i64 V, .int .i64 bw, .int .i64 bh, .int .i64 P, .int .i64 st, .int .i64 od, .int .i64 Y, .bool rc, .bool so, .bool ep], .int .i64 (r : Int)]) (w' := w') rfl rfl (fun c h => by cases h) (fun _ => trivial) rfl (by go_simp) ((callsIn_wide.2 (PX.out w')).mono ?_)
        rintro e w2 ⟨rfl, rfl⟩
        exact ⟨_, rfl, w'.heap.size, by rw [show many gg_ L (VL z) = many gg_ L (VL w'.heap.size) from by rw [HVL.out]; simp only [many, y0, y5, y6, y7, y8, hL, cond_false, cond_true]]; exact many_put (HOK.out _) 9 40 _ (by rw [HVL.out]; simp) hL, by simp only [upd, y0, y5, y6, y7, y8, hL, Nat.reduceBEq, cond_true, cond_false]; exact hph.new5 HF.out _ _ _ _ _⟩
    case fin =>
      intro L z w' hall hph
      have l9 := hall 9 (by decide)
      simp only [l9, cond_true] at hph
      clear l9
      rw [HVL.out]
      dsimp only [manyL, List.set_cons_zero, List.set_cons_succ]
      clear hall HVL HOK HVI
      have HP2 := Lib.hid hph
      clear hph HP RS PX
      go_wp2_with fail
      gi_wp2_with fail
      obtain ⟨D2, hD2⟩ : ∃ D, w'.heap.size = D := ⟨_, rfl⟩
      have hlt8 : ∀ p ∈ (z + 4, .cells #[.int .i64 (r : Int)] 3 (0, 0)) :: (z + 3, .cells (parA tx ty V bw bh P st od Y rc so ep) 30 (0, 0)) :: (z + 2, .cells #[.int .i64 cd, .bool cg, .int .i64 dx, .int .i64 dy, CD] 48 (0, 0)) :: (z + 1, .cells #[.int .i64 q0, .int .i64 q1, .int .i64 q2, .int .i64 q3] 38 (0, 0)) :: (z, .cells #[.int .i64 t0, .int .i64 t1, .int .i64 t2, .int .i64 t3] 38 (0, 0)) :: (z7, .cells #[.int .i64 p0, .int .i64 p1, .int .i64 p2, .int .i64 p3] 38 (0, 0)) :: (z6, .cells #[.int .i64 cd, .bool cg, .int .i64 dx, .int .i64 dy, CD] 48 (0, 0)) :: (z5, .cells #[.int .i64 (ic : Int)] 3 (0, 0)) :: (pz, .cells (parA tx ty V bw bh P st od Y rc so ep) 30 (0, 0)) :: (z4, .cells #[.func (.yield l) #[] #[]] 83 (0, 0)) :: (tz, .cells #[.int .i64 t0, .int .i64 t1, .int .i64 t2, .int .i64 t3] 38 (0, 0)) :: (O ++ mkO Ds), p.1 < D2 := fun p hp => by rw [← hD2]; exact HP2.out.size hp
      have hwh : ∀ r', G.wh ic r' ≤ 65025 := fun r' => by
        have hdp := geo_pc (ds := ds) (lv := LV) (pr := PR) (c := ic) (r := r') HT.out HO.out (by rw [HD.out]; simp only; omega) (by rw [HD.out]; simp only; omega)
        rw [← HG.out]
        exact Nat.mul_le_mul hdp.2.1 hdp.2.2
      have hl2 : (pre ++ resL G LY ic r).length ≤ 16000000 := by
        have h1 := resL_len G LY ic r 65025 hwh
        have h2 : r * (65025 * LY) ≤ 5 * (65025 * 8) := Nat.mul_le_mul (by omega) (Nat.mul_le_mul_left _ hly)
        rw [List.length_append]
        omega
      obtain ⟨LL, hLL⟩ : ∃ LL, (z + 4, .cells #[.int .i64 (r : Int)] 3 (0, 0)) :: (z + 3, .cells (parA tx ty V bw bh P st od Y rc so ep) 30 (0, 0)) :: (z + 2, .cells #[.int .i64 cd, .bool cg, .int .i64 dx, .int .i64 dy, CD] 48 (0, 0)) :: (z + 1, .cells #[.int .i64 q0, .int .i64 q1, .int .i64 q2, .int .i64 q3] 38 (0, 0)) :: (z, .cells #[.int .i64 t0, .int .i64 t1, .int .i64 t2, .int .i64 t3] 38 (0, 0)) :: (z7, .cells #[.int .i64 p0, .int .i64 p1, .int .i64 p2, .int .i64 p3] 38 (0, 0)) :: (z6, .cells #[.int .i64 cd, .bool cg, .int .i64 dx, .int .i64 dy, CD] 48 (0, 0)) :: (z5, .cells #[.int .i64 (ic : Int)] 3 (0, 0)) :: (pz, .cells (parA tx ty V bw bh P st od Y rc so ep) 30 (0, 0)) :: (z4, .cells #[.func (.yield l) #[] #[]] 83 (0, 0)) :: (tz, .cells #[.int .i64 t0, .int .i64 t1, .int .i64 t2, .int .i64 t3] 38 (0, 0)) :: (O ++ mkO Ds) = LL := ⟨_, rfl⟩
      have m5 : (z5, .cells #[.int .i64 (ic : Int)] 3 (0, 0)) ∈ LL := by rw [← hLL]; simp
      have mp : (pz, .cells (parA tx ty V bw bh P st od Y rc so ep) 30 (0, 0)) ∈ LL := by rw [← hLL]; simp
      have m4 : (z4, .cells #[.func (.yield l) #[] #[]] 83 (0, 0)) ∈ LL := by rw [← hLL]; simp
      have f4 : (z + 4, Obj.cells #[.int .i64 (r : Int)] 3 (0, 0)) ∈ LL := by rw [← hLL]; simp
      have f3 : (z + 3, Obj.cells (parA tx ty V bw bh P st od Y rc so ep) 30 (0, 0)) ∈ LL := by rw [← hLL]; simp
      have f2 : (z + 2, Obj.cells #[.int .i64 cd, .bool cg, .int .i64 dx, .int .i64 dy, CD] 48 (0, 0)) ∈ LL := by rw [← hLL]; simp
      have f1 : (z + 1, Obj.cells #[.int .i64 q0, .int .i64 q1, .int .i64 q2, .int .i64 q3] 38 (0, 0)) ∈ LL := by rw [← hLL]; simp
      have f0 : (z, Obj.cells #[.int .i64 t0, .int .i64 t1, .int .i64 t2, .int .i64 t3] 38 (0, 0)) ∈ LL := by rw [← hLL]; simp
      have HLO : Hid (∀ p ∈ (z7, .cells #[.int .i64 p0, .int .i64 p1, .int .i64 p2, .int .i64 p3] 38 (0, 0)) :: (z6, .cells #[.int .i64 cd, .bool cg, .int .i64 dx, .int .i64 dy, CD] 48 (0, 0)) :: (z5, .cells #[.int .i64 (ic : Int)] 3 (0, 0)) :: (pz, .cells (parA tx ty V bw bh P st od Y rc so ep) 30 (0, 0)) :: (z4, .cells #[.func (.yield l) #[] #[]] 83 (0, 0)) :: (tz, .cells #[.int .i64 t0, .int .i64 t1, .int .i64 t2, .int .i64 t3] 38 (0, 0)) :: (O ++ mkO (D2 :: Ds)), p ∈ LL ∨ p = (D2, Obj.deferred (some []))) := Lib.hid (by
        intro p hp
        rw [← hLL]
        simp only [mkO, List.map_cons, List.mem_cons, List.mem_append] at hp ⊢
        rcases hp with h | h | h | h | h | h | h | h | h <;> simp [h])
      have hLLd : ∀ d ∈ Ds, (d, Obj.deferred (some [])) ∈ LL := fun d hd => by rw [← hLL]; simp [mkO, hd]
      rw [hLL] at HP2 hlt8
      clear hLL
      refine range_core (n := 8) (by omega) (gf := 52) (lb := #[.pointer (some ⟨z + 3, 0, none⟩), .pointer (some ⟨z + 4, 0, none⟩), .pointer (some ⟨z + 1, 0, none⟩), .pointer (some ⟨z, 0, none⟩), .pointer (some ⟨z + 2, 0, none⟩)]) rfl (enters_of Try.func52 (by kernel_rfl) rfl)
        (Fin := fun W' => ∃ F', PSt J F' (pre ++ resL G LY ic r ++ precL G LY ic r (G.wh ic r)) W' ((D2, Obj.deferred (some [])) :: LL)) ?call ?fin
      case call =>
        intro fn
        rw [hD2]
        refine call_in l z4 z5 pz z D2 fn #[u0, u1, .pointer (some ⟨tz, 0, none⟩), .pointer (some ⟨pz, 0, none⟩), .pointer (some ⟨z4, 0, none⟩), .pointer (some ⟨z5, 0, none⟩), .pointer (some ⟨z6, 0, none⟩), .pointer (some ⟨z7, 0, none⟩), .int .i64 (r : Int), u9, u10, u11, u12, u13, u14, u15, u16, u17, u18, u19, u20, u21, u22, u23, u24, u25, u26, .int .i64 (V + 1), .int .i64 (r : Int), .bool true, .int .i64 (r : Int), .agg #[.int .i64 t0, .int .i64 t1, .int .i64 t2, .int .i64 t3], .agg #[.int .i64 p0, .int .i64 p1, .int .i64 p2, .int .i64 p3], .pointer (some ⟨pz, 2, none⟩), .int .i64 V, .int .i64 (r : Int), .agg #[.int .i64 q0, .int .i64 q1, .int .i64 q2, .int .i64 q3], .agg #[.int .i64 cd, .bool cg, .int .i64 dx, .int .i64 dy, CD], .agg #[.int .i64 tx, .int .i64 ty, .int .i64 V, .int .i64 bw, .int .i64 bh, .int .i64 P, .int .i64 st, .int .i64 od, .int .i64 Y, .bool rc, .bool so, .bool ep], .int .i64 (r : Int), .func (.func 52) #[] #[.pointer (some ⟨z + 3, 0, none⟩), .pointer (some ⟨z + 4, 0, none⟩), .pointer (some ⟨z + 1, 0, none⟩), .pointer (some ⟨z, 0, none⟩), .pointer (some ⟨z + 2, 0, none⟩)], u41, u42, u43, u44, u45, u46, u47, u48, u49, u50, u51, u52, u53, u54, u55, u56, u57, u58, u59] _ _ (fun x z9 => ⟨#[u0, u1, .pointer (some ⟨tz, 0, none⟩), .pointer (some ⟨pz, 0, none⟩), .pointer (some ⟨z4, 0, none⟩), .pointer (some ⟨z5, 0, none⟩), .pointer (some ⟨z6, 0, none⟩), .pointer (some ⟨z7, 0, none⟩), .int .i64 (r : Int), .pointer (some ⟨z9, 0, none⟩), u10, u11, u12, u13, u14, u15, u16, u17, u18, u19, u20, u21, u22, u23, u24, u25, u26, .int .i64 (V + 1), .int .i64 (r : Int), .bool true, .int .i64 (r : Int), .agg #[.int .i64 t0, .int .i64 t1, .int .i64 t2, .int .i64 t3], .agg #[.int .i64 p0, .int .i64 p1, .int .i64 p2, .int .i64 p3], .pointer (some ⟨pz, 2, none⟩), .int .i64 V, .int .i64 (r : Int), .agg #[.int .i64 q0, .int .i64 q1, .int .i64 q2, .int .i64 q3], .agg #[.int .i64 cd, .bool cg, .int .i64 dx, .int .i64 dy, CD], .agg #[.int .i64 tx, .int .i64 ty, .int .i64 V, .int .i64 bw, .int .i64 bh, .int .i64 P, .int .i64 st, .int .i64 od, .int .i64 Y, .bool rc, .bool so, .bool ep], .int .i64 (r : Int), .func (.func 52) #[] #[.pointer (some ⟨z + 3, 0, none⟩), .pointer (some ⟨z + 4, 0, none⟩), .pointer (some ⟨z + 1, 0, none⟩), .pointer (some ⟨z, 0, none⟩), .pointer (some ⟨z + 2, 0, none⟩)], x.val, u42, u43, u44, u45, u46, u47, u48, u49, u50, u51, u52, u53, u54, u55, u56, u57, u58, u59], []⟩) t0 t1 t2 t3 q0 q1 q2 q3 tx ty bw bh st od P V Y cd dx dy rc so ep cg CD LV PR LY ic r ds HD.out hly hlv hpr hrl hdx hdy HVV.out.2.1 HVV.out.2.2 HT.out HO.out HQR.out G HG.out J HF.out F (pre ++ resL G LY ic r) w' LL HP2.out hD2 hl2 m5 mp m4 f0 f1 f2 f3 f4 ?hasg ?hbody
        case hasg =>
          intro x A K hK
          gi_wp2
          exact hK
        case hbody =>
          intro x z9 F3 pre3 A3 O3 h3 hne3 hl3 Q3 hQ3
          exact wpIn_code (c' := blkOf Try.f40 5) (by kernel_rfl) (lays_in l (D2 + 1) 6 z4 z5 z9 pz tx ty bw bh st od P V Y (ic : Int) x.rs x.pc x.dn x.ac x.ly x.cp rc so ep LY hly HVV.out.1.symm J HF.out HY.out F3 pre3 A3 O3 h3 hne3 hl3 hQ3)
      case fin =>
        rintro W' ⟨F', hP⟩
        rw [hD2]
        have HP4 : Hid (PSt J F' (pre ++ resL G LY ic (r + 1)) W' ((z7, .cells #[.int .i64 p0, .int .i64 p1, .int .i64 p2, .int .i64 p3] 38 (0, 0)) :: (z6, .cells #[.int .i64 cd, .bool cg, .int .i64 dx, .int .i64 dy, CD] 48 (0, 0)) :: (z5, .cells #[.int .i64 (ic : Int)] 3 (0, 0)) :: (pz, .cells (parA tx ty V bw bh P st od Y rc so ep) 30 (0, 0)) :: (z4, .cells #[.func (.yield l) #[] #[]] 83 (0, 0)) :: (tz, .cells #[.int .i64 t0, .int .i64 t1, .int .i64 t2, .int .i64 t3] 38 (0, 0)) :: (O ++ mkO (D2 :: Ds)))) := Lib.hid (by
          rw [resL_succ, ← List.append_assoc]
          refine hP.sub (fun p hp => ?_)
          rcases HLO.out p hp with h | h
          · exact List.mem_cons_of_mem _ h
          · rw [h]; exact List.mem_cons_self)
        have hnd2 : (D2 :: Ds).Nodup := List.nodup_cons.2 ⟨fun hm => by
          have h1 := hlt8 (D2, Obj.deferred (some [])) (by
            rcases HLO.out (D2, Obj.deferred (some [])) (by simp [mkO]) with h | h
            · exact h
            · exact hLLd D2 hm)
          exact Nat.lt_irrefl _ h1, hnd⟩
        clear hP
        gi_wp2
        rw [show ((r : Int) + 1) = ((r + 1 : Nat) : Int) from by simp]
        refine ⟨⟨?_, ?_, ?_, ?_, ?_, ?_, ?_, ?_, ?_, ?_, ?_, ?_, ?_, ?_, ?_, ?_, ?_, ?_, ?_, ?_, ?_, ?_, ?_, ?_, ?_, ?_, ?_, ?_, ?_, ?_, ?_, ?_, ?_, r + 1, F', D2 :: Ds, by omega, hnd2, HP4, ?act⟩, ?mea⟩
        case act => rfl
        case mea =>
          simp [intOf]
          omega
  · obtain rfl : r = LV + 1 := by omega
    have hrI : ¬ ((LV + 1 : Nat) : Int) < V + 1 := by have := HVV.out; omega
    have hrV : ((LV + 1 : Nat) : Int) = V + 1 := by have := HVV.out; omega
    gi_wp2
    exact HQ.out _ _ _ _ _ _ _ _ _ _ _ _ _ _ _ _ _ _ _ _ _ _ _ _ _ _ _ _ _ _ _ _ _ Ds F X hnd HP.out
end Go.Proofs.Ytejoedanhonpkaa
