/- Packets in order: the iterator over a tile's packets: the layers of a precinct. -/
import Derived.Test.YtejoedanhonpkaaOrG
import Derived.Sort.CutIn
set_option linter.unusedVariables false
set_option linter.unusedSimpArgs false
namespace Go.Proofs.Ytejoedanhonpkaa
open Go.RowKit Go.Shelf
set_option maxRecDepth 100000
attribute [local go_sem] Oper.semAt_some
def mkO (Ds : List Nat) : List (Nat × Obj) := Ds.map fun D => (D, Obj.deferred (some []))
def mkD (Ds : List Nat) : List Deferred := Ds.map fun D => ({ target := .collected D, args := #[] } : Deferred)
theorem wpIn_code {F : Fence} {n : Nat} {P : Program} {c c' : Code} {Q : Exit → Act → World → Prop} {a : Act} {W : World} (h : c = c') (k : c'.wpIn F n P Q a W) : c.wpIn F n P Q a W := h ▸ k
theorem RoundIn.inRound' {F : Fence} {n : Nat} {P : Program} {l : Nat} {f : FuncId} {tmps : Array Value} {assign body : Code} {w : World} {R : Ending → World → Prop} (l2 : Nat) (h : RoundIn F n P l f tmps assign body w R) : RoundIn (F.inRound l2) n P l f tmps assign body w R := h
/-- What the consumer promises of a yield. -/
def YOk (J : (Nat → Prop) → List Pk → World → Prop) (l : Nat) : Prop := ∀ m F pre x A, J F pre A → pre.length < 20000000 → YieldAt Fence.wide m Try.prog l #[x.val] A fun e A' => e = .returned (.bool true) ∧ ∃ F', J F' (pre ++ [x]) A' ∧ A.heap.size ≤ A'.heap.size ∧ ∀ k o, A.heap[k]? = some o → ¬ F k → A'.heap[k]? = some o ∧ ¬ F' k
theorem PSt.yield {J : (Nat → Prop) → List Pk → World → Prop} {F F' : Nat → Prop} {pre pre' : List Pk} {A A' : World} {O : List (Nat × Obj)} (h : PSt J F pre A O) (hj : J F' pre' A') (hk : ∀ k o, A.heap[k]? = some o → ¬ F k → A'.heap[k]? = some o ∧ ¬ F' k) : PSt J F' pre' A' O :=
  ⟨hj, fun p hp => hk _ _ (h.o p hp).1 (h.o p hp).2⟩
set_option maxHeartbeats 8000000 in
theorem lays_in {u0 u1 u2 u6 u7 u8 u10 u11 u12 u13 u14 u15 u16 u17 u18 u19 u20 u21 u22 u23 u24 u25 u26 u27 u28 u29 u30 u31 u32 u33 u34 u35 u36 u37 u38 u39 u40 u41 u42 u43 u44 u45 u46 u47 u48 u49 u50 u51 u52 u53 u54 u55 u56 u57 u58 u59 : Value} (l l2 m z4 z5 z9 pz : Nat) (tx ty bw bh st od P V Y C R K DN AC L0 C0 : Int) (rc so ep : Bool) (LY : Nat) (hly : LY ≤ 8) (hY0 : Y = (LY : Int)) (J : (Nat → Prop) → List Pk → World → Prop) (hf : Foot J) (hY : YOk J l) (F : Nat → Prop) (pre : List Pk) (A : World) (O : List (Nat × Obj))
    (h : PSt J F pre A ((z9, .cells #[.int .i64 L0, .int .i64 R, .int .i64 C0, .int .i64 K, .int .i64 DN, .int .i64 AC] 66 (0, 0)) :: (z5, .cells #[.int .i64 C] 3 (0, 0)) :: (pz, .cells (parA tx ty V bw bh P st od Y rc so ep) 30 (0, 0)) :: (z4, .cells #[.func (.yield l) #[] #[]] 83 (0, 0)) :: O)) (hne : ∀ p ∈ (z5, .cells #[.int .i64 C] 3 (0, 0)) :: (pz, .cells (parA tx ty V bw bh P st od Y rc so ep) 30 (0, 0)) :: (z4, .cells #[.func (.yield l) #[] #[]] 83 (0, 0)) :: O, p.1 ≠ z9) (hlen : pre.length + LY < 20000000)
    {Q : Exit → Act → World → Prop} (hQ : ∀ a F' A', PSt J F' (pre ++ layL ⟨0, R, C, K, DN, AC⟩ LY) A' ((z5, .cells #[.int .i64 C] 3 (0, 0)) :: (pz, .cells (parA tx ty V bw bh P st od Y rc so ep) 30 (0, 0)) :: (z4, .cells #[.func (.yield l) #[] #[]] 83 (0, 0)) :: O) → Q .normal a A') :
    (blkOf Try.f40 5).wpIn (Fence.wide.inRound l2) m Try.prog Q ⟨#[u0, u1, u2, .pointer (some ⟨pz, 0, none⟩), .pointer (some ⟨z4, 0, none⟩), .pointer (some ⟨z5, 0, none⟩), u6, u7, u8, .pointer (some ⟨z9, 0, none⟩), u10, u11, u12, u13, u14, u15, u16, u17, u18, u19, u20, u21, u22, u23, u24, u25, u26, u27, u28, u29, u30, u31, u32, u33, u34, u35, u36, u37, u38, u39, u40, u41, u42, u43, u44, u45, u46, u47, u48, u49, u50, u51, u52, u53, u54, u55, u56, u57, u58, u59], []⟩ A := by
  obtain ⟨o_, ho_⟩ : ∃ o, blkOf Try.f40 5 = o := ⟨_, rfl⟩
  rw [ho_]
  conv at ho_ => lhs; whnf
  subst ho_
  have c5 : A.cell? ⟨z5, 0, none⟩ = some (.int .i64 C) := blkc (h.o _ (List.mem_cons_of_mem _ List.mem_cons_self)).1 0
  have c9 : A.cell? ⟨z9, 2, none⟩ = some (.int .i64 C0) := blkc (h.o _ List.mem_cons_self).1 2
  have f9 : A.frozen? ⟨z9, 2, none⟩ = false := by simp [World.frozen?, (h.o _ List.mem_cons_self).1]
  have h2 : PSt J F pre (A.setCell ⟨z9, 2, none⟩ (.int .i64 C)) ((z9, .cells #[.int .i64 L0, .int .i64 R, .int .i64 C, .int .i64 K, .int .i64 DN, .int .i64 AC] 66 (0, 0)) :: (z5, .cells #[.int .i64 C] 3 (0, 0)) :: (pz, .cells (parA tx ty V bw bh P st od Y rc so ep) 30 (0, 0)) :: (z4, .cells #[.func (.yield l) #[] #[]] 83 (0, 0)) :: O) := h.put hf (grownBy_cell A z9 2 _) (h.o _ List.mem_cons_self).2 (fun p hp => by
    rcases List.mem_cons.1 hp with rfl | hp
    · exact .inr ⟨rfl, blk_set6 (h.o _ List.mem_cons_self).1 2 _⟩
    · exact .inl ⟨List.mem_cons_of_mem _ hp, hne p hp⟩)
  have c8 : (A.setCell ⟨z9, 2, none⟩ (.int .i64 C)).cell? ⟨pz, 8, none⟩ = some (.int .i64 Y) := blkc (h2.o _ (List.mem_cons_of_mem _ (List.mem_cons_of_mem _ List.mem_cons_self))).1 8
  have H2 := Lib.hid h2
  have HF := Lib.hid hf
  have HNE := Lib.hid hne
  have HY := Lib.hid hY
  have HQ := Lib.hid hQ
  clear h h2 hf hne hY hQ
  gi_wp2_with fail
  obtain ⟨X, hX⟩ : ∃ X, A.setCell ⟨z9, 2, none⟩ (.int .i64 C) = X := ⟨_, rfl⟩
  rw [hX] at H2 ⊢
  have hYb : 0 ≤ Y ∧ Y ≤ 8 := by omega
  have HYL := Lib.hid hY0
  clear c5 c9 f9 c8 hX hY0
  gi_loopw [10, 47] (fun v10 v47 wr => ∃ (j : Nat) (F' : Nat → Prop) (ly : Int), j ≤ LY ∧ v47 = .int .i64 (j : Int) ∧ Hid (PSt J F' (pre ++ layL ⟨0, R, C, K, DN, AC⟩ j) wr ((z9, .cells #[.int .i64 ly, .int .i64 R, .int .i64 C, .int .i64 K, .int .i64 DN, .int .i64 AC] 66 (0, 0)) :: (z5, .cells #[.int .i64 C] 3 (0, 0)) :: (pz, .cells (parA tx ty V bw bh P st od Y rc so ep) 30 (0, 0)) :: (z4, .cells #[.func (.yield l) #[] #[]] 83 (0, 0)) :: O)))
    (fun v10 v47 _ => (Y - intOf v47).toNat)
  case atStart => exact ⟨0, F, L0, by omega, by simp, Lib.hid (by rw [show layL _ 0 = [] from rfl, List.append_nil]; exact H2.out)⟩
  case round =>
    obtain ⟨j, F', ly, hj, rfl, HP⟩ := hrel
    by_cases hlt : j < LY
    · have hjI : (j : Int) < Y := by have := HYL.out; omega
      have h := HP.out
      have c9 : wr.cell? ⟨z9, 0, none⟩ = some (.int .i64 ly) := blkc (h.o _ List.mem_cons_self).1 0
      have f9 : wr.frozen? ⟨z9, 0, none⟩ = false := by simp [World.frozen?, (h.o _ List.mem_cons_self).1]
      have h2 : PSt J F' (pre ++ layL ⟨0, R, C, K, DN, AC⟩ j) (wr.setCell ⟨z9, 0, none⟩ (.int .i64 (j : Int))) ((z9, .cells #[.int .i64 (j : Int), .int .i64 R, .int .i64 C, .int .i64 K, .int .i64 DN, .int .i64 AC] 66 (0, 0)) :: (z5, .cells #[.int .i64 C] 3 (0, 0)) :: (pz, .cells (parA tx ty V bw bh P st od Y rc so ep) 30 (0, 0)) :: (z4, .cells #[.func (.yield l) #[] #[]] 83 (0, 0)) :: O) := h.put HF.out (grownBy_cell wr z9 0 _) (h.o _ List.mem_cons_self).2 (fun p hp => by
        rcases List.mem_cons.1 hp with rfl | hp
        · exact .inr ⟨rfl, blk_set6 (h.o _ List.mem_cons_self).1 0 _⟩
        · exact .inl ⟨List.mem_cons_of_mem _ hp, HNE.out p hp⟩)
      obtain ⟨X2, hX2⟩ : ∃ X, wr.setCell ⟨z9, 0, none⟩ (.int .i64 (j : Int)) = X := ⟨_, rfl⟩
      rw [hX2] at h2
      have h9 := (h2.o _ List.mem_cons_self).1
      have k0 : X2.cell? ⟨z9, 0, none⟩ = some (.int .i64 (j : Int)) := blkc h9 0
      have k1 : X2.cell? ⟨z9, 1, none⟩ = some (.int .i64 R) := blkc h9 1
      have k2 : X2.cell? ⟨z9, 2, none⟩ = some (.int .i64 C) := blkc h9 2
      have k3 : X2.cell? ⟨z9, 3, none⟩ = some (.int .i64 K) := blkc h9 3
      have k4 : X2.cell? ⟨z9, 4, none⟩ = some (.int .i64 DN) := blkc h9 4
      have k5 : X2.cell? ⟨z9, 5, none⟩ = some (.int .i64 AC) := blkc h9 5
      have k6 : X2.cell? ⟨z4, 0, none⟩ = some (.func (.yield l) #[] #[]) := blkc (h2.o _ (List.mem_cons_of_mem _ (List.mem_cons_of_mem _ (List.mem_cons_of_mem _ List.mem_cons_self)))).1 0
      have HP2 := Lib.hid h2
      have HX2 := Lib.hid hX2
      obtain ⟨fn, tmps, assign, body, hy2, hR⟩ := HY.out (m - 1) F' _ ⟨(j : Int), R, C, K, DN, AC⟩ X2 h2.j (by rw [List.length_append, layL_len]; omega)
      dsimp only [Pk.val] at hy2
      clear h h2 h9 hX2
      gi_upto_region 15 with fail
      rw [HX2.out]
      clear c9 f9 HX2
      gi_wp2
      refine ⟨fun h => (by cases h), ?_⟩
      refine (RoundIn.inRound' l2 hR).mono ?_
      rintro e W3 ⟨rfl, F3, hj3, hs3, hk3⟩
      have HP3 : Hid (PSt J F3 (pre ++ layL ⟨0, R, C, K, DN, AC⟩ (j + 1)) W3 ((z9, .cells #[.int .i64 (j : Int), .int .i64 R, .int .i64 C, .int .i64 K, .int .i64 DN, .int .i64 AC] 66 (0, 0)) :: (z5, .cells #[.int .i64 C] 3 (0, 0)) :: (pz, .cells (parA tx ty V bw bh P st od Y rc so ep) 30 (0, 0)) :: (z4, .cells #[.func (.yield l) #[] #[]] 83 (0, 0)) :: O)) := Lib.hid (by
        refine HP2.out.yield ?_ hk3
        rw [layL_succ, ← List.append_assoc]
        exact hj3)
      clear hj3 hk3 hs3 k0 k1 k2 k3 k4 k5 k6 HP2 HP
      gi_wp2
      go_roundw
      case rel => exact ⟨j + 1, F3, (j : Int), by omega, by push_cast; go_num, HP3⟩
      case measure => simp [intOf]; omega
    · obtain rfl : j = LY := by omega
      have hjI : ¬ (j : Int) < Y := by have := HYL.out; omega
      gi_wp2
      exact HQ.out _ _ _ (HP.out.sub (fun p hp => List.mem_cons_of_mem _ hp))
end Go.Proofs.Ytejoedanhonpkaa
