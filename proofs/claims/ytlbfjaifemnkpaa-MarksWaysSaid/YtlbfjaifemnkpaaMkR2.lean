/- marks: MarksWays walked. -/
import Derived.Test.YtlbfjaifemnkpaaMkQ9
import Derived.Test.YtlbfjaifemnkpaaMkW6
import Derived.Test.YtlbfjaifemnkpaaMkW7
import Derived.Laws.Rows
import Derived.Deep.CutRange
import Derived.Deep.CutBlock
set_option linter.unusedVariables false
set_option linter.unusedSimpArgs false
namespace Go.Proofs.Ytlbfjaifemnkpaa
section
open Go.RowKit
set_option maxRecDepth 100000
theorem putL_oct (m : Int) : ∀ k, Oct (putL m k)
  | 0 => fun x hx => by cases hx
  | k + 1 => fun x hx => by
    rw [putL] at hx
    rcases List.mem_cons.1 hx with rfl | hx
    · omega
    · exact putL_oct m k x hx
theorem fldL_oct (s : Nat) (l : List Int) : Oct (fldL s l) := fun x hx => by
  obtain ⟨y, _, hx⟩ := List.mem_flatMap.1 hx
  exact putL_oct y s x hx
theorem flat_oct {α : Type} (f : α → List Int) (l : List α) (h : ∀ a, Oct (f a)) : Oct (l.flatMap f) := fun x hx => by
  obtain ⟨y, _, hx⟩ := List.mem_flatMap.1 hx
  exact h y x hx
theorem repL_rep (v : Int) (k : Nat) : repL [v] 1 k = List.replicate k v := by
  unfold repL
  simp [Nat.mod_one, List.map_const']
theorem sizeL_oct (h : HV) (cs : List Cp) : Oct (sizeL h cs) := by
  unfold sizeL
  exact (((fldL_oct _ _).app (fldL_oct _ _)).app (fldL_oct _ _)).app (flat_oct _ _ fun c => fldL_oct _ _)
theorem fld1 (x : Int) : fldL 1 [x] = [x % 256] := by
  show [x / 2 ^ (8 * 0) % 256] = [x % 256]
  simp
theorem codL_oct (LV BW BH PR ST OD LY : Int) (RC SO EP : Bool) (k : Nat) : Oct (codL LV BW BH PR ST OD LY RC SO EP k) := by
  unfold codL
  refine (((fldL_oct _ _).app (fldL_oct _ _)).app (fldL_oct _ _)).app ?_
  rw [fld1, repL_rep]
  intro x hx
  have := List.eq_of_mem_replicate hx
  omega
theorem bandsB_oct (r : Int) (cs : List Cp) (k : Nat) : Oct (bandsB r cs k) := by
  unfold bandsB
  exact (fldL_oct _ _).app (flat_oct _ _ fun g => fldL_oct _ _)
theorem fld2 (m n : Int) : fldL 2 [m, n] = [m / 256 % 256, m % 256, n / 256 % 256, n % 256] := by
  show [m / 2 ^ (8 * 1) % 256, m / 2 ^ (8 * 0) % 256, n / 2 ^ (8 * 1) % 256, n / 2 ^ (8 * 0) % 256] = _
  simp
theorem segL_is (mk : Int) (X : List Int) (a b : Int) (ha : mk / 256 % 256 = a) (hb : mk % 256 = b) : segL mk X = a :: b :: ((2 + (X.length : Int)) / 256 % 256) :: ((2 + (X.length : Int)) % 256) :: X := by
  unfold segL
  rw [fld2, ha, hb]
  rfl
/-- A head's numbers, as far as the law makes them. -/
structure HOk (h : HV) (cs : List Cp) (k q : Nat) : Prop where
  n : cs.length = h.N
  n4 : h.N ≤ 4
  x : 0 ≤ h.X ∧ h.X ≤ 1000
  y : 0 ≤ h.Y ∧ h.Y ≤ 1000
  ox : 0 ≤ h.OX ∧ h.OX ≤ 1000
  oy : 0 ≤ h.OY ∧ h.OY ≤ 1000
  tx : 0 ≤ h.TX ∧ h.TX ≤ 1000
  ty : 0 ≤ h.TY ∧ h.TY ≤ 1000
  lv : h.LV = (k : Int)
  k5 : k ≤ 5
  bw : 2 ≤ h.BW ∧ h.BW ≤ 200
  bh : 2 ≤ h.BH ∧ h.BH ≤ 200
  pr : h.PR = (q : Int)
  pr1 : 1 ≤ q ∧ q ≤ 15
  st : 0 ≤ h.ST ∧ h.ST ≤ 63
  od : 0 ≤ h.OD ∧ h.OD ≤ 255
  ly : 1 ≤ h.LY ∧ h.LY ≤ 8
  c : ∀ c ∈ cs, (1 ≤ c.d ∧ c.d ≤ 100) ∧ (0 ≤ c.dx ∧ c.dx ≤ 255) ∧ (0 ≤ c.dy ∧ c.dy ≤ 255)
def cpT (c : Cp) : Int × Int × Int := (depthF c, c.dx, c.dy)
theorem cpT_cp {c : Cp} (h : 1 ≤ c.d ∧ c.d ≤ 100) : cpOf (cpT c) = ⟨c.d, c.sg, c.dx, c.dy, none, 0, 0⟩ := by
  obtain ⟨d, sg, dx, dy, A, n, cap⟩ := c
  unfold cpOf cpT depthF
  cases sg
  · simp only [Cp.mk.injEq, Bool.false_eq_true, if_false, and_true, decide_eq_false_iff_not]
    simp only at h
    omega
  · simp only [Cp.mk.injEq, if_true, and_true, decide_eq_true_eq]
    simp only at h
    omega
theorem cpT_rng {c : Cp} (h : (1 ≤ c.d ∧ c.d ≤ 100) ∧ (0 ≤ c.dx ∧ c.dx ≤ 255) ∧ (0 ≤ c.dy ∧ c.dy ≤ 255)) : (0 ≤ (cpT c).1 ∧ (cpT c).1 ≤ 255) ∧ (0 ≤ (cpT c).2.1 ∧ (cpT c).2.1 ≤ 255) ∧ (0 ≤ (cpT c).2.2 ∧ (cpT c).2.2 ≤ 255) := by
  obtain ⟨d, sg, dx, dy, A, n, cap⟩ := c
  unfold cpT depthF
  simp only at h ⊢
  cases sg
  · simp; omega
  · simp; omega
theorem trips {cs : List Cp} (h : ∀ c ∈ cs, (1 ≤ c.d ∧ c.d ≤ 100) ∧ (0 ≤ c.dx ∧ c.dx ≤ 255) ∧ (0 ≤ c.dy ∧ c.dy ≤ 255)) : (cs.flatMap fun c => fldL 1 [depthF c, c.dx, c.dy]) = (cs.map cpT).flatMap trip := by
  induction cs with
  | nil => rfl
  | cons c cs ih =>
    rw [List.flatMap_cons, List.map_cons, List.flatMap_cons, ih fun x hx => h x (List.mem_cons_of_mem _ hx)]
    congr 1
    have r := cpT_rng (h c List.mem_cons_self)
    show [depthF c / 2 ^ (8 * 0) % 256, c.dx / 2 ^ (8 * 0) % 256, c.dy / 2 ^ (8 * 0) % 256] = [depthF c, c.dx, c.dy]
    simp only [cpT] at r
    simp only [Nat.mul_zero, Int.pow_zero, Int.ediv_one]
    rw [Int.emod_eq_of_lt (by omega) (by omega), Int.emod_eq_of_lt (by omega) (by omega), Int.emod_eq_of_lt (by omega) (by omega)]
theorem fld4 (m : Int) (L : List Int) : fldL 4 (m :: L) = [m / 16777216 % 256, m / 65536 % 256, m / 256 % 256, m % 256] ++ fldL 4 L := by
  show [m / 2 ^ (8 * 3) % 256, m / 2 ^ (8 * 2) % 256, m / 2 ^ (8 * 1) % 256, m / 2 ^ (8 * 0) % 256] ++ fldL 4 L = _
  simp
theorem fld2s (m : Int) : fldL 2 [m] = [m / 256 % 256, m % 256] := by
  show [m / 2 ^ (8 * 1) % 256, m / 2 ^ (8 * 0) % 256] = _
  simp
theorem four (m : Int) (h : 0 ≤ m ∧ m ≤ 1000) : ((m / 16777216 % 256 * 256 + m / 65536 % 256) * 256 + m / 256 % 256) * 256 + m % 256 = m := by omega
/-- What is said behind the size. -/
def S1 (h : HV) (cs : List Cp) : Sa := { Sa.zero with X := h.X, Y := h.Y, OX := h.OX, OY := h.OY, TX := h.TX, TY := h.TY, cs := (cs.map cpT).map cpOf, sz := true }
theorem siz_c {h : HV} {cs : List Cp} {k pr : Nat} (H : HOk h cs k pr) (R : List Int) (hO : Oct R) (hl : R.length ≤ 900000) (s : Sa) (hs : s.sz = false) (n : Int) (hn : n = 2 + ((sizeL h cs).length : Int)) :
    SegC s 65361 (n / 256 % 256 :: n % 256 :: (sizeL h cs ++ R)) 0 { s with X := h.X, Y := h.Y, OX := h.OX, OY := h.OY, TX := h.TX, TY := h.TY, cs := (cs.map cpT).map cpOf, sz := true } R := by
  intro w P p m lo hP
  have hlen := sizeL_len h cs
  have h4 := H.n4
  have hnn := H.n
  have hso := sizeL_oct h cs
  have hO2 : Oct (n / 256 % 256 :: n % 256 :: (sizeL h cs ++ R)) := fun x hx => by
    rcases List.mem_cons.1 hx with rfl | hx
    · omega
    rcases List.mem_cons.1 hx with rfl | hx
    · omega
    exact (hso.app hO) x hx
  have hct : [0, 0, h.X / 16777216 % 256, h.X / 65536 % 256, h.X / 256 % 256, h.X % 256, h.Y / 16777216 % 256, h.Y / 65536 % 256, h.Y / 256 % 256, h.Y % 256, h.OX / 16777216 % 256, h.OX / 65536 % 256, h.OX / 256 % 256, h.OX % 256, h.OY / 16777216 % 256, h.OY / 65536 % 256, h.OY / 256 % 256, h.OY % 256, h.TX / 16777216 % 256, h.TX / 65536 % 256, h.TX / 256 % 256, h.TX % 256, h.TY / 16777216 % 256, h.TY / 65536 % 256, h.TY / 256 % 256, h.TY % 256, 0, 0, 0, 0, 0, 0, 0, 0, (h.N : Int) / 256 % 256, (h.N : Int) % 256] ++ (cs.map cpT).flatMap trip = sizeL h cs := by
    unfold sizeL
    rw [← trips H.c]
    simp only [fld4, fld2s]
    rfl
  have hOc : Oct [0, 0, h.X / 16777216 % 256, h.X / 65536 % 256, h.X / 256 % 256, h.X % 256, h.Y / 16777216 % 256, h.Y / 65536 % 256, h.Y / 256 % 256, h.Y % 256, h.OX / 16777216 % 256, h.OX / 65536 % 256, h.OX / 256 % 256, h.OX % 256, h.OY / 16777216 % 256, h.OY / 65536 % 256, h.OY / 256 % 256, h.OY % 256, h.TX / 16777216 % 256, h.TX / 65536 % 256, h.TX / 256 % 256, h.TX % 256, h.TY / 16777216 % 256, h.TY / 65536 % 256, h.TY / 256 % 256, h.TY % 256, 0, 0, 0, 0, 0, 0, 0, 0, (h.N : Int) / 256 % 256, (h.N : Int) % 256] := fun x hx => hso x (by rw [← hct]; exact List.mem_append_left _ hx)
  refine (segS_siz _ _ _ _ _ _ _ _ _ _ _ _ _ _ _ _ _ _ _ _ _ _ _ _ _ _ h.X h.Y h.OX h.OY h.TX h.TY (cs.map cpT) (sizeL h cs) hct hP hO2 (by omega) (by rw [List.length_append]; omega) hs (four _ H.x) (four _ H.y) (four _ H.ox) (four _ H.oy) (four _ H.tx) (four _ H.ty) (by rw [List.length_map, hnn]; omega) (by rw [List.length_map]; omega) hOc ?_).mono ?_
  · intro z hz
    obtain ⟨c, hc, rfl⟩ := List.mem_map.1 hz
    exact cpT_rng (H.c c hc)
  · rintro e w' ⟨rfl, h1, h2⟩
    exact ⟨rfl, fun _ => h1, h2⟩
theorem cod_is {h : HV} {cs : List Cp} {k pr : Nat} (H : HOk h cs k pr) : [1 + (if h.SO then 2 else 0) + (if h.EP then 4 else 0), h.OD, h.LY / 256 % 256, h.LY % 256, if h.RC then 1 else 0, (k : Int), h.BW - 2, h.BH - 2, h.ST, 1] ++ List.replicate (k + 1) (17 * (pr : Int)) = codH h k := by
  obtain ⟨_, _, _, _, _, _, _, _, lv, k5, bw, bh, hpr, pr1, st, od, ly, _⟩ := H
  unfold codH codL
  rw [fld1, repL_rep, hpr, lv]
  have e1 : (17 * (pr : Int)) % 256 = 17 * (pr : Int) := by omega
  rw [e1]
  congr 1
  show _ = [(1 + (if h.SO then (2 : Int) else 0) + (if h.EP then 4 else 0)) / 2 ^ (8 * 0) % 256, h.OD / 2 ^ (8 * 0) % 256, h.LY / 2 ^ (8 * 1) % 256, h.LY / 2 ^ (8 * 0) % 256, (if h.RC then (1 : Int) else 0) / 2 ^ (8 * 0) % 256, (k : Int) / 2 ^ (8 * 0) % 256, (h.BW - 2) / 2 ^ (8 * 0) % 256, (h.BH - 2) / 2 ^ (8 * 0) % 256, h.ST / 2 ^ (8 * 0) % 256, (1 : Int) / 2 ^ (8 * 0) % 256]
  have p0 : (2 : Int) ^ (8 * 0) = 1 := rfl
  have p1 : (2 : Int) ^ (8 * 1) = 256 := rfl
  rw [p0, p1]
  simp only [Int.ediv_one, List.cons.injEq, and_true]
  refine ⟨?_, ?_, trivial, trivial, ?_, ?_, ?_, ?_, ?_, ?_⟩
  · cases h.SO <;> cases h.EP <;> rfl
  · omega
  · cases h.RC <;> rfl
  · omega
  · omega
  · omega
  · omega
  · rfl
/-- What is said behind the coding. -/
def sCod (h : HV) (k pr : Nat) (s : Sa) : Sa := { s with LV := (k : Int), BW := h.BW - 2 + 2, BH := h.BH - 2 + 2, PR := (pr : Int), ST := h.ST, OD := h.OD, LY := h.LY / 256 % 256 * 256 + h.LY % 256, RC := h.RC, SO := h.SO, EP := h.EP, cd := true }
theorem pair_oct {n : Int} {ct R : List Int} (h1 : Oct ct) (h2 : Oct R) : Oct (n / 256 % 256 :: n % 256 :: (ct ++ R)) := fun x hx => by
  rcases List.mem_cons.1 hx with rfl | hx
  · omega
  rcases List.mem_cons.1 hx with rfl | hx
  · omega
  exact (h1.app h2) x hx
theorem cod_c {h : HV} {cs : List Cp} {k pr : Nat} (H : HOk h cs k pr) (R : List Int) (hO : Oct R) (hl : R.length ≤ 900000) (s : Sa) (hs : s.cd = false) (n : Int) (hn : n = 2 + ((codH h k).length : Int)) :
    SegC s 65362 (n / 256 % 256 :: n % 256 :: (codH h k ++ R)) 0 (sCod h k pr s) R := by
  intro w P p m lo hP
  have hlen : (codH h k).length = 10 + (k + 1) := codL_len _ _ _ _ _ _ _ _ _ _ _
  have hk := H.k5
  have hco : Oct (codH h k) := codL_oct _ _ _ _ _ _ _ _ _ _ _
  have h1 := H.ly
  have h2 := H.od
  have h3 := H.bw
  have h4 := H.bh
  have h5 := H.st
  refine (segS_cod k pr _ h.OD _ _ _ (k : Int) _ _ _ h.SO h.EP h.RC (codH h k) (cod_is H) hP (pair_oct hco hO) (by omega) (by rw [List.length_append]; omega) hs rfl rfl rfl (by omega) H.pr1 (by omega) (by omega) (by omega) (by omega) (by omega) (by omega) (by omega)).mono ?_
  rintro e w' ⟨rfl, h1, h2⟩
  exact ⟨rfl, fun _ => h1, h2⟩
theorem cway_c (ct R : List Int) (hc : Oct ct) (hO : Oct R) (hl : ct.length + R.length ≤ 900000) (s s' : Sa) (l' : List Int) (hs : s.cd = false) (hc10 : 10 ≤ ct.length) (hct : ct.length ≤ 60000) (hw : ct.getD 9 0 = 0) (n : Int) (hn : n = 2 + (ct.length : Int)) :
    SegC s 65362 (n / 256 % 256 :: n % 256 :: (ct ++ R)) 13 s' l' := by
  intro w P p m lo hP
  refine (segS_cway ct hP (pair_oct hc hO) (by omega) (by rw [List.length_append]; omega) hs hc10 hw).mono ?_
  rintro e w' ⟨rfl, h2⟩
  exact ⟨rfl, fun h => absurd h (by decide), h2⟩
theorem qway_c (ct R : List Int) (hc : Oct ct) (hO : Oct R) (hl : ct.length + R.length ≤ 900000) (s s' : Sa) (l' : List Int) (hs : s.qc = none) (hct : ct.length ≤ 60000) (hw : ct.head?.getD 0 % 32 ≠ 0) (n : Int) (hn : n = 2 + (ct.length : Int)) :
    SegC s 65372 (n / 256 % 256 :: n % 256 :: (ct ++ R)) 13 s' l' := by
  intro w P p m lo hP
  refine (segS_qway ct hP (pair_oct hc hO) (by omega) (by rw [List.length_append]; omega) hs hw).mono ?_
  rintro e w' ⟨rfl, h2⟩
  exact ⟨rfl, fun h => absurd h (by decide), h2⟩
theorem qcd_c (ct R : List Int) (hc : Oct ct) (hO : Oct R) (hl : ct.length + R.length ≤ 900000) (s : Sa) (hs : s.qc = none) (hct : ct.length ≤ 60000) (hw : ct.head?.getD 0 % 32 = 0) (n : Int) (hn : n = 2 + (ct.length : Int)) :
    SegC s 65372 (n / 256 % 256 :: n % 256 :: (ct ++ R)) 0 { s with qc := some ct } R := by
  intro w P p m lo hP
  refine (segS_qcd ct hP (pair_oct hc hO) (by omega) (by rw [List.length_append]; omega) hs hw).mono ?_
  rintro e w' ⟨rfl, h1, h2⟩
  exact ⟨rfl, fun _ => h1, h2⟩
/-- A head as Parse reads it. -/
def restQ (B R : List Int) : List Int := 255 :: 92 :: (2 + (B.length : Int)) / 256 % 256 :: (2 + (B.length : Int)) % 256 :: (B ++ R)
def restC (C B R : List Int) : List Int := 255 :: 82 :: (2 + (C.length : Int)) / 256 % 256 :: (2 + (C.length : Int)) % 256 :: (C ++ restQ B R)
def restS (S C B R : List Int) : List Int := (2 + (S.length : Int)) / 256 % 256 :: (2 + (S.length : Int)) % 256 :: (S ++ restC C B R)
theorem mainL_form (h : HV) (cs : List Cp) (l : List Int) (k : Nat) (T : List Int) : mainL h cs l k ++ T = 255 :: 79 :: 255 :: 81 :: restS (sizeL h cs) (codH h k) (bandsB (if h.RC then 1 else 0) cs k) ((if 0 < h.sn then segL 65380 (fldL 2 [1] ++ l) else []) ++ T) := by
  unfold mainL headL
  rw [segL_is 65361 _ 255 81 rfl rfl, segL_is 65362 _ 255 82 rfl rfl, segL_is 65372 _ 255 92 rfl rfl]
  simp only [List.append_assoc, List.cons_append]
  rfl
theorem restQ_oct {B R : List Int} (h1 : Oct B) (h2 : Oct R) : Oct (restQ B R) := fun x hx => by
  rcases List.mem_cons.1 hx with rfl | hx
  · omega
  rcases List.mem_cons.1 hx with rfl | hx
  · omega
  exact pair_oct h1 h2 x hx
theorem restC_oct {C B R : List Int} (h0 : Oct C) (h1 : Oct B) (h2 : Oct R) : Oct (restC C B R) := fun x hx => by
  rcases List.mem_cons.1 hx with rfl | hx
  · omega
  rcases List.mem_cons.1 hx with rfl | hx
  · omega
  exact pair_oct h0 (restQ_oct h1 h2) x hx
theorem restQ_len (B R : List Int) : (restQ B R).length = 4 + B.length + R.length := by
  unfold restQ
  simp only [List.length_cons, List.length_append]
  omega
theorem restC_len (C B R : List Int) : (restC C B R).length = 4 + C.length + (4 + B.length + R.length) := by
  unfold restC
  simp only [List.length_cons, List.length_append, restQ_len]
  omega
/-- The coding chooses the other way. -/
theorem run_cway {h : HV} {cs : List Cp} {k pr : Nat} (H : HOk h cs k pr) (C B R : List Int) (hC : Oct C) (hB : Oct B) (hR : Oct R) (hcl : 10 ≤ C.length ∧ C.length ≤ 60000) (hbl : B.length ≤ 60000) (hrl : R.length ≤ 60000) (hw : C.getD 9 0 = 0) :
    Run 2 Sa.zero 65361 (restS (sizeL h cs) C B R) 13 Sa.zero [] := by
  have hl := restC_len C B R
  have hq := restQ_len B R
  refine Run.next 1 _ _ _ _ 255 82 _ _ _ 13 (by decide) (siz_c H (restC C B R) (restC_oct hC hB hR) (by omega) _ rfl _ rfl) (restC_oct hC hB hR) (by have := hl; unfold restC at this; simp only [List.length_cons] at this ⊢; omega) ?_
  exact Run.fail 0 _ _ _ 13 _ _ (by decide) (by decide) (cway_c C (restQ B R) hC (restQ_oct hB hR) (by omega) _ _ _ rfl hcl.1 hcl.2 hw _ rfl)
/-- The quantization chooses the other way. -/
theorem run_qway {h : HV} {cs : List Cp} {k pr : Nat} (H : HOk h cs k pr) (B R : List Int) (hB : Oct B) (hR : Oct R) (hbl : B.length ≤ 60000) (hrl : R.length ≤ 60000) (hw : B.head?.getD 0 % 32 ≠ 0) :
    Run 3 Sa.zero 65361 (restS (sizeL h cs) (codH h k) B R) 13 Sa.zero [] := by
  have hC : Oct (codH h k) := codL_oct _ _ _ _ _ _ _ _ _ _ _
  have hlen : (codH h k).length = 10 + (k + 1) := codL_len _ _ _ _ _ _ _ _ _ _ _
  have hk := H.k5
  have hl := restC_len (codH h k) B R
  have hq := restQ_len B R
  refine Run.next 2 _ _ _ _ 255 82 _ _ _ 13 (by decide) (siz_c H (restC (codH h k) B R) (restC_oct hC hB hR) (by omega) _ rfl _ rfl) (restC_oct hC hB hR) (by have := hl; unfold restC at this; simp only [List.length_cons] at this ⊢; omega) ?_
  refine Run.next 1 _ _ _ _ 255 92 _ _ _ 13 (by decide) (cod_c H (restQ B R) (restQ_oct hB hR) (by omega) _ rfl _ rfl) (restQ_oct hB hR) (by have := hq; unfold restQ at this; simp only [List.length_cons] at this ⊢; omega) ?_
  exact Run.fail 0 _ _ _ 13 _ _ (by decide) (by decide) (qway_c B R hB hR (by omega) _ _ _ rfl hbl hw _ rfl)
/-- A byte of the coding changed. -/
theorem set_C (S C B R : List Int) (j : Nat) (hj : j < C.length) (v : Int) : (255 :: 79 :: 255 :: 81 :: restS S C B R).set (6 + S.length + 4 + j) v = 255 :: 79 :: 255 :: 81 :: restS S (C.set j v) B R := by
  unfold restS restC
  rw [show 6 + S.length + 4 + j = (S.length + (j + 4)) + 6 by omega]
  simp only [List.set_cons_succ]
  rw [List.set_append_right _ _ (by omega), show S.length + (j + 4) - S.length = j + 4 by omega]
  simp only [List.set_cons_succ]
  rw [List.set_append_left _ _ hj, List.length_set]
/-- A byte of the bands changed. -/
theorem set_B (S C B R : List Int) (j : Nat) (hj : j < B.length) (v : Int) : (255 :: 79 :: 255 :: 81 :: restS S C B R).set (6 + S.length + 4 + C.length + 4 + j) v = 255 :: 79 :: 255 :: 81 :: restS S C (B.set j v) R := by
  unfold restS restC restQ
  rw [show 6 + S.length + 4 + C.length + 4 + j = (S.length + ((C.length + (j + 4)) + 4)) + 6 by omega]
  simp only [List.set_cons_succ]
  rw [List.set_append_right _ _ (by omega), show S.length + ((C.length + (j + 4)) + 4) - S.length = (C.length + (j + 4)) + 4 by omega]
  simp only [List.set_cons_succ]
  rw [List.set_append_right _ _ (by omega), show C.length + (j + 4) - C.length = j + 4 by omega]
  simp only [List.set_cons_succ]
  rw [List.set_append_left _ _ hj, List.length_set]
theorem get_B (S C B R : List Int) (j : Nat) (hj : j < B.length) : (255 :: 79 :: 255 :: 81 :: restS S C B R)[6 + S.length + 4 + C.length + 4 + j]? = B[j]? := by
  unfold restS restC restQ
  rw [show 6 + S.length + 4 + C.length + 4 + j = (S.length + ((C.length + (j + 4)) + 4)) + 6 by omega]
  simp only [List.getElem?_cons_succ]
  rw [List.getElem?_append_right (by omega), show S.length + ((C.length + (j + 4)) + 4) - S.length = (C.length + (j + 4)) + 4 by omega]
  simp only [List.getElem?_cons_succ]
  rw [List.getElem?_append_right (by omega), show C.length + (j + 4) - C.length = j + 4 by omega]
  simp only [List.getElem?_cons_succ]
  rw [List.getElem?_append_left hj]
theorem bandsB_cons (r : Int) (cs : List Cp) (k : Nat) : ∃ t, bandsB r cs k = 96 :: t := ⟨_, rfl⟩
theorem oct_set {l : List Int} (h : Oct l) (j : Nat) (v : Int) (hv : 0 ≤ v ∧ v ≤ 255) : Oct (l.set j v) := fun x hx => by
  rcases List.mem_or_eq_of_mem_set hx with h1 | rfl
  · exact h x h1
  · exact hv
end
section
open Go.RowKit
set_option maxRecDepth 100000
attribute [local go_sem ↓] appSem_eq
theorem clone_by {w : World} {B m c : Nat} {A : Option Addr} {T : List Int} (h : By B w (.slice A m c) T) (hl : T.length ≤ 1000) :
    ∃ A' m' c' w1, (appSem #[25, 25] 25 #[.slice (some ⟨w.heap.size, 0, none⟩) 0 0, .slice A m c]).run Try.prog (w.alloc (Obj.cells #[] 5)) = .ok (.slice A' m' c') w1 ∧ By w.heap.size w1 (.slice A' m' c') T ∧ Below w.heap.size w w1 := by
  have hb : Below w.heap.size w (w.alloc (Obj.cells #[] 5)) := (Below.refl _ _).alloc (Nat.le_refl _) _
  have h1 : By w.heap.size (w.alloc (Obj.cells #[] 5)) (.slice (some ⟨w.heap.size, 0, none⟩) 0 0) [] := World.ownsRow_made w #[] 0 (Nat.le_refl _) (by unfold maxLen; omega) rfl
  obtain ⟨A', m', c', w1, hr, ho, hg⟩ := app_by h1 (h.below ((Below.refl _ _).alloc (Nat.le_refl _) _)) hb.size (by simpa using (by omega : T.length ≤ 1000000))
  exact ⟨A', m', c', w1, hr, by simpa using ho, h1.bel hb hb.size hg⟩
theorem mainL_len2 (h : HV) (cs : List Cp) (l : List Int) (k : Nat) (hn : h.sn = 0) : (mainL h cs l k).length = 42 + 3 * cs.length + 15 + k + 6 + 3 * k := by
  unfold mainL
  rw [hn, List.length_append, headL_len]
  simp
  omega
set_option maxHeartbeats 16000000 in
theorem walk_marksWays (f : FN) (A0 : Option Addr) (len0 cap0 : Nat) (z0 : List Int) (a1 : Int) (a2 : Bool) (w : World) (w0 : IsRow .i64 w A0 len0 cap0 z0) (s0 : -9223372036854775808 ≤ f.sb ∧ f.sb ≤ 9223372036854775807) (wf1 : (Lit.int .i64 a1).wf = true) :
    Calls Try.prog 8 #[.agg (f.arr A0 len0 cap0), .int .i64 a1, .bool a2] w fun e w' => e = .returned (.bool true) ∧ Below w.heap.size w w' := by
  have MH0 := Lib.hid (fun (u : World) A2 C2 cs SA sn sc l h1 h2 h3 h4 h5 h6 h7 => main_hv f (w := u) (A2 := A2) (C2 := C2) (cs := cs) (SA := SA) (sn := sn) (sc := sc) (l := l) h1 h2 h3 h4 h5 h6 h7)
  have HDV := Lib.hid (fun SA sn sc u hu => head_hv f A0 len0 cap0 z0 SA sn sc u hu s0)
  obtain ⟨fc, hfc⟩ : ∃ fc, f.arr A0 len0 cap0 = fc := ⟨_, rfl⟩
  have hfs : fc.size = 21 := by rw [← hfc]; rfl
  rw [hfc] at HDV ⊢
  have HFS := Lib.hid hfs
  clear hfc hfs
  have hok := mkPN_ok f 8 (by omega)
  obtain ⟨M, hM⟩ : ∃ M, mkPN f 8 = M := ⟨_, rfl⟩
  rw [hM] at hok
  have HOK := Lib.hid hok
  clear hok
  obtain ⟨N, hN⟩ : ∃ N, mkN f = N := ⟨_, rfl⟩
  have hNb : 1 ≤ N ∧ N ≤ 4 := by
    have := within_rng f.nc 4 (by omega)
    rw [← hN]
    unfold mkN
    omega
  obtain ⟨DP, hDP⟩ : ∃ D, mkDP f = D := ⟨_, rfl⟩
  have HDP : Hid (1 ≤ DP ∧ DP ≤ 10) := Lib.hid (by
    have := within_rng f.dp 10 (by omega)
    rw [← hDP]
    unfold mkDP
    omega)
  rw [hM, hN, hDP] at HDV MH0
  clear hM hN hDP
  go_enter Try.func8, Try.ntmps8
  go_wp2_with fail
  obtain ⟨B0, hB0⟩ : ∃ B, w.heap.size = B := ⟨_, rfl⟩
  obtain ⟨Wf, hWf⟩ : ∃ Wf, w.alloc (Obj.cells fc 24) = Wf := ⟨_, rfl⟩
  have HF0 : Hid (MkW w B0 [(fc, 24)] Wf) := Lib.hid (by
    have h0 : MkW w B0 [] w := ⟨fun i c e => by simp at e, Below.refl _ _, by simp; omega⟩
    have h1 := h0.more (by simp; omega) fc 24
    rw [← hWf]; exact h1)
  rw [hWf, hB0]
  have HBE := Lib.hid hB0
  clear hWf hB0
  refine (known17 _).mono ?_
  rintro e W0 ⟨rfl, hb⟩
  have HF1 := Lib.hid (HF0.out.keep hb)
  clear hb HF0
  obtain ⟨lo, hlo⟩ : ∃ lo, W0.heap.size = lo := ⟨_, rfl⟩
  have HLO : Hid (W0.heap.size = lo ∧ B0 < lo ∧ W0.heap[B0]? = some (.cells fc 24 (0, 0))) := Lib.hid ⟨hlo, by have := HF1.out.sz; simp at this; omega, HF1.out.b 0 _ rfl⟩
  clear hlo
  obtain ⟨Q, hQ⟩ : ∃ Q : List Cp → Prop, Q = fun cs => cs.length = N ∧ (∀ i c, cs[i]? = some c → KeyIs M.X M.Y M.OX M.OY f.sb DP f.sg i c) ∧ ((1 ≤ M.TX ∧ M.TX ≤ 832) ∧ (1 ≤ M.TY ∧ M.TY ≤ 832) ∧ cntT M.X M.Y M.TX M.TY ≤ 6) := ⟨_, rfl⟩
  have HQ := Lib.hid hQ
  have HD : Hid (∀ SA sn sc u, Below lo W0 u → lo ≤ u.heap.size → Calls Try.prog 12 #[.agg fc, .slice SA sn sc] u fun e w' => ∃ (A2 : Option Addr) (C2 : Nat) (cs : List Cp), e = .returned (.agg (M.hv A2 N C2 SA sn sc).arr) ∧ CRow u.heap.size w' (.slice A2 N C2) cs ∧ Q cs ∧ Below u.heap.size u w') := Lib.hid fun SA sn sc u hb hl => by
    refine (HDV.out SA sn sc u (IsRow.below w0 ?_)).mono ?_
    · exact (by rw [HBE.out]; exact HF1.out.bel : Below w.heap.size w W0).trans (hb.mono (by have := HLO.out.2.1; have := HBE.out; omega))
    · rintro e w' ⟨A2, C2, cs, he, hl, hc, hk, hb, htx⟩
      exact ⟨A2, C2, cs, he, hc, by rw [HQ.out]; exact ⟨hl, hk, htx⟩, hb⟩
  clear hQ HDV w0 s0
  go_wp2_with (refine wpList_load_row rfl 24 _ rfl B0 rfl 24 fc (0, 0) _ HLO.out.2.2 Try.underlying24 rfl (by rw [HFS.out]; kernel_rfl) ?_)
  refine (HD.out none 0 0 W0 (by rw [← HLO.out.1]; exact Below.refl _ _) (by rw [HLO.out.1]; exact Nat.le_refl _)).mono ?_
  rintro e W1 ⟨A, C, cs, rfl, hrow, KQ, hb1⟩
  rw [HQ.out] at KQ
  obtain ⟨ha, hha⟩ : ∃ ha, (M.hv A N C none 0 0).arr = ha := ⟨_, rfl⟩
  have hg4 : ha[4]? = some (.slice A N C) := by rw [← hha]; rfl
  have hg7 : ha[7]? = some (.int .i64 (M.LV : Int)) := by rw [← hha]; rfl
  have hhs : ha.size = 18 := by rw [← hha]; rfl
  have hho : ha.all (·.oneCell') = true := by rw [← hha]; kernel_rfl
  rw [hha]
  go_upto_region 4 with (refine wpList_store_row rfl 33 _ _ rfl W1.heap.size ha rfl rfl 33 #[.int .i64 0, .int .i64 0, .int .i64 0, .int .i64 0, .slice none 0 0, .int .i64 0, .int .i64 0, .int .i64 0, .int .i64 0, .int .i64 0, .int .i64 0, .int .i64 0, .int .i64 0, .int .i64 0, .bool false, .bool false, .bool false, .slice none 0 0] (World.alloc_heap_new W1 _) (by rw [hhs]; kernel_rfl) (by rw [hhs]; rfl) hho ?_)
  obtain ⟨W2, hW2⟩ : ∃ W2, (W1.alloc (Obj.cells #[.int .i64 0, .int .i64 0, .int .i64 0, .int .i64 0, .slice none 0 0, .int .i64 0, .int .i64 0, .int .i64 0, .int .i64 0, .int .i64 0, .int .i64 0, .int .i64 0, .int .i64 0, .int .i64 0, .bool false, .bool false, .bool false, .slice none 0 0] 33)).setRow W1.heap.size ha = W2 := ⟨_, rfl⟩
  obtain ⟨g, hgg⟩ : ∃ g, W1.heap.size = g := ⟨_, rfl⟩
  have KG : W2.heap[g]? = some (.cells ha 33 (0, 0)) := by rw [← hW2, ← hgg]; exact setRow_heap _ _ _ _ _ _ (World.alloc_heap_new W1 _)
  have KB : Below W1.heap.size W1 W2 := by rw [← hW2]; exact below_setRow ((Below.refl _ _).alloc (Nat.le_refl _) _) (Nat.le_refl _) _
  rw [hW2, hgg]
  clear hW2
  have MH := MH0.out W2 A C cs none 0 0 [] KQ.1 (hrow.cpl.below KB) KQ.2.1 KQ.2.2 Lst.nil rfl (by omega)
  have hlen := mainL_len2 (M.hv A N C none 0 0) cs [] M.LV rfl
  rw [KQ.1] at hlen
  obtain ⟨ML, hML⟩ : ∃ X, mainL (M.hv A N C none 0 0) cs [] M.LV = X := ⟨_, rfl⟩
  rw [hML, hha] at MH
  rw [hML] at hlen
  have HML := Lib.hid hML
  have HKQ := Lib.hid KQ
  have HBW : Hid (Below w.heap.size w W2) := Lib.hid (by
    have h0 : Below w.heap.size w W0 := by rw [HBE.out]; exact HF1.out.bel
    have h1 : Below w.heap.size w W1 := h0.trans (hb1.mono h0.size)
    exact h1.trans (KB.mono h1.size))
  have HKG := Lib.hid KG
  clear hML KQ KB hb1 hrow hgg hha HD HQ KG
  go_wp2_with (refine wpList_load_row rfl 33 _ rfl g rfl 33 ha (0, 0) _ HKG.out Try.underlying33 rfl (by rw [hhs]; kernel_rfl) ?_)
  refine MH.mono ?_
  rintro e W3 ⟨v, rfl, hy, hb3⟩
  obtain ⟨A5, c5, rfl, hA5, _⟩ := By.form hy
  have hbk : Below W3.heap.size W3 (W3.alloc (Obj.cells #[.int .u8 255, .int .u8 144] 5)) := (Below.refl _ _).alloc (Nat.le_refl _) _
  have hlst : Lst (W3.alloc (Obj.cells #[.int .u8 255, .int .u8 144] 5)) (W3.alloc (Obj.cells #[.int .u8 255, .int .u8 144] 5)).heap.size (some ⟨W3.heap.size, 0, none⟩) (([255, 144] : List Int).map (Value.int .u8)) := by
    intro i u hu
    refine ⟨W3.heap.size, 0, rfl, by simp, ?_⟩
    rw [rb_cell (World.alloc_heap_new W3 _) (0 + i)]
    simpa using hu
  have hb3' : Below W2.heap.size W2 (W3.alloc (Obj.cells #[.int .u8 255, .int .u8 144] 5)) := hb3.trans (hbk.mono hb3.size)
  have hML6 : ML.length ≤ 1000 := by
    have h5 : M.LV ≤ 5 := HOK.out.lv
    have h4 := hNb.2
    omega
  obtain ⟨W4, hW4⟩ : ∃ W4, W3.alloc (Obj.cells #[.int .u8 255, .int .u8 144] 5) = W4 := ⟨_, rfl⟩
  rw [hW4] at hbk hlst hb3'
  obtain ⟨A6, m6, c6, W5, hr, hown, hg⟩ := app_lst (m := 2) (c := 2) (hy.below hbk) (by simp) hlst rfl hb3'.size (by omega)
  have hbel := (hy.below hbk).bel hb3' hb3'.size hg
  obtain ⟨gT, cT, hv, hgl, hgl2, _, _⟩ := own_form hown (by simp)
  injection hv with hv1 hv2 hv3
  subst hv1 hv2 hv3
  obtain ⟨T, hT⟩ : ∃ T, ML ++ [255, 144] = T := ⟨_, rfl⟩
  rw [hT] at hown hr
  have hTl : T.length = ML.length + 2 := by rw [← hT]; simp
  have HT_ := Lib.hid hT
  have HOWN := Lib.hid hown
  have HB5 := Lib.hid hbel
  have k4 : W5.cell? ⟨g, 4, none⟩ = some (.slice A N C) := ((hbel.cell (p := ⟨g, 4, none⟩) (blk_lt HKG.out)).trans (rb_cell HKG.out 4)).trans hg4
  have k7 : W5.cell? ⟨g, 7, none⟩ = some (.int .i64 (M.LV : Int)) := ((hbel.cell (p := ⟨g, 7, none⟩) (blk_lt HKG.out)).trans (rb_cell HKG.out 7)).trans hg7
  obtain ⟨LV, hLV⟩ : ∃ v, M.LV = v := ⟨_, rfl⟩
  have hlv : M.LV ≤ 5 := HOK.out.lv
  rw [hLV] at hlv hlen k7
  have HLV := Lib.hid hLV
  obtain ⟨m5, hm5⟩ : ∃ m, T.length = m := ⟨_, rfl⟩
  rw [hm5] at hTl hr
  have HM5 := Lib.hid hm5
  have HM : Hid (m5 = 42 + 3 * N + 15 + LV + 6 + 3 * LV + 2) := Lib.hid (by omega)
  have hn4 : N ≤ 4 := hNb.2
  clear hm5 hLV hT hown hbel hy hb3 hb3' hbk hlst hML6 hA5 MH hg hg4 hg7 hho hgl hgl2 hlen hTl
  go_upto_region 7 with fail
  obtain ⟨K, hK⟩ : ∃ K : Nat, 42 + 3 * N = K := ⟨_, rfl⟩
  obtain ⟨K2, hK2⟩ : ∃ K2 : Nat, 42 + 3 * N + 15 + LV = K2 := ⟨_, rfl⟩
  rw [show 42 + 3 * (N : Int) + 15 + (LV : Int) = (K2 : Int) by omega, show 42 + 3 * (N : Int) = (K : Int) by omega]
  have HK := Lib.hid (And.intro hK hK2)
  have hKm : K + 13 < m5 ∧ K ≤ 100 := by have := HM.out; omega
  have hKi : (K : Int) + 4 + 9 < (m5 : Int) := by omega
  have hK2m : K2 + 4 < m5 ∧ K2 ≤ 200 := by have := HM.out; omega
  have hK2i : (K2 : Int) + 4 < (m5 : Int) := by omega
  have hm5 : m5 ≤ 1000 := by have := HM.out; omega
  obtain ⟨A7, m7, c7, W6, hr, hoX, hbX⟩ := clone_by HOWN.out (by rw [HM5.out]; exact hm5)
  obtain ⟨gX, cX, hv, hgX, hgX2, _, _⟩ := own_form hoX (by rw [HM5.out]; omega)
  injection hv with hv1 hv2 hv3
  subst hv1 hv2 hv3
  rw [HM5.out] at hr
  have hoT : By W2.heap.size W6 (.slice (some ⟨gT, 0, none⟩) T.length c6) T := HOWN.out.below hbX
  have HOX := Lib.hid hoX
  have hx0 : ∃ x0, T[K + 13]? = some x0 := ⟨_, List.getElem?_eq_getElem (by rw [HM5.out]; omega)⟩
  obtain ⟨x0, hx0⟩ := hx0
  have c8 : W6.cell? ⟨gX, K + 4 + 9, none⟩ = some (.int .u8 x0) := by
    have h := World.ownsRow.cellAt hoX (K + 13) (by rw [HM5.out]; omega)
    rw [show K + 4 + 9 = K + 13 from rfl, h, List.getElem?_map, hx0]; rfl
  have f8 : W6.frozen? ⟨gX, K + 4 + 9, none⟩ = false := World.ownsRow.frozenAt hoX _
  have HBX := Lib.hid hbX
  have HOT := Lib.hid hoT
  clear hoX hbX hoT hx0
  go_upto_region 9 with fail
  obtain ⟨W7, hW7⟩ : ∃ W7, W6.setCell ⟨gX, K + 4 + 9, none⟩ (.int .u8 0) = W7 := ⟨_, rfl⟩
  have HX7 : Hid (By W5.heap.size W7 (.slice (some ⟨gX, 0, none⟩) T.length c7) (T.set (K + 13) 0)) := Lib.hid (by
    have h := (World.ownsRow.stored HOX.out (K + 4 + 9) (.int .u8 0)).1
    rw [hW7] at h
    unfold By
    rw [List.length_set, List.map_set]
    exact h)
  have HB7 : Hid (Below W5.heap.size W5 W7) := Lib.hid (by rw [← hW7]; exact HBX.out.setCell hgX _)
  rw [hW7]
  clear hW7 c8 f8 hr HOX HBX HOT
  have HT7 := Lib.hid (HOWN.out.below HB7.out)
  obtain ⟨A8, m8, c8, W8, hr, hoY, hbY⟩ := clone_by HT7.out (by rw [HM5.out]; exact hm5)
  obtain ⟨gY, cY, hv, hgY, hgY2, _, _⟩ := own_form hoY (by rw [HM5.out]; omega)
  injection hv with hv1 hv2 hv3
  subst hv1 hv2 hv3
  rw [HM5.out] at hr
  have HOY := Lib.hid hoY
  have HBY := Lib.hid hbY
  have HX8 := Lib.hid (HX7.out.below hbY)
  clear hoY hbY
  go_upto_region 10 with fail
  have hS := sizeL_len (M.hv A N C none 0 0) cs
  have hC : (codH (M.hv A N C none 0 0) M.LV).length = 10 + (M.LV + 1) := codL_len _ _ _ _ _ _ _ _ _ _ _
  have hTf := HT_.out
  rw [← HML.out, mainL_form] at hTf
  rw [HKQ.out.1] at hS
  obtain ⟨tB, htB⟩ := bandsB_cons (if M.RC then 1 else 0) cs M.LV
  obtain ⟨SS, hSS⟩ : ∃ SS, sizeL (M.hv A N C none 0 0) cs = SS := ⟨_, rfl⟩
  obtain ⟨CC, hCC⟩ : ∃ CC, codH (M.hv A N C none 0 0) M.LV = CC := ⟨_, rfl⟩
  have hTf2 : T = 255 :: 79 :: 255 :: 81 :: restS SS CC (96 :: tB) [255, 144] := by
    rw [← hTf, ← hSS, ← hCC, ← htB]
    rfl
  rw [hSS] at hS
  rw [hCC, HLV.out] at hC
  have HTF := Lib.hid (And.intro hTf2 (And.intro hS (And.intro hC (And.intro hSS (And.intro hCC htB)))))
  have hy96 : T[K2 + 4]? = some 96 := by
    rw [hTf2, show K2 + 4 = 6 + SS.length + 4 + CC.length + 4 + 0 by have := HK.out; omega, get_B _ _ _ _ 0 (by simp)]
    rfl
  have c9 : W8.drew.cell? ⟨gY, K2 + 4, none⟩ = some (.int .u8 96) := by
    have h := World.ownsRow.cellAt HOY.out (K2 + 4) (by rw [HM5.out]; omega)
    show W8.cell? ⟨gY, K2 + 4, none⟩ = _
    rw [h, List.getElem?_map, hy96]; rfl
  have f9 : W8.drew.frozen? ⟨gY, K2 + 4, none⟩ = false := World.ownsRow.frozenAt HOY.out _
  clear hS hC hTf hTf2 hSS hCC htB hy96
  obtain ⟨q, hq, hq1⟩ : ∃ q : Nat, a1 % 31 = (q : Int) ∧ q ≤ 30 := ⟨(a1 % 31).toNat, by omega, by omega⟩
  have WN : Calls Try.prog 19 #[.int .i64 a1, .int .i64 31] W8.drew fun e w' => e = .returned (.int .i64 (q : Int)) ∧ w' = W8.drew := by
    have := within17 a1 31 W8.drew (by omega) (by omega)
    rw [hq] at this
    exact this.mono fun e w' h => ⟨h.1, h.2.symm⟩
  have t0 : IntKind.i64.wrap (1 + (q : Int)) = 1 + (q : Int) := IntWalk.i64_in _ (by omega)
  have t1 : IntKind.u8.wrap (1 + (q : Int)) = 1 + (q : Int) := by show (1 + (q : Int)) % 256 = _; omega
  have t2 : IntKind.u8.wrap (96 + (1 + (q : Int))) = 97 + (q : Int) := by show (96 + (1 + (q : Int))) % 256 = _; omega
  obtain ⟨j9, hj9⟩ : ∃ j, K2 + 4 = j := ⟨_, rfl⟩
  have t3 : IntKind.i64.wrap ((K2 : Int) + 4) = (j9 : Int) := by rw [IntWalk.i64_in _ (by omega)]; omega
  have t4 : (0 : Int) ≤ (j9 : Int) := by omega
  have t5 : (j9 : Int) < (m5 : Int) := by omega
  rw [hj9] at c9 f9
  have HJ9 := Lib.hid hj9
  clear hj9
  refine wp_region_still_tail 11 (by kernel_rfl) (by kernel_rfl) ?_
  simp only [List.take_succ_cons, List.take_zero, List.drop_succ_cons, List.drop_zero]
  repeat still_step
  still_call WN
  repeat still_step
  refine wpStill_nil ?_
  change wpList _ _ _ _ _ W8.drew
  go_upto_region 11 with fail
  obtain ⟨W9, hW9⟩ : ∃ W9, (W8.setCell ⟨gY, j9, none⟩ (.int .u8 (97 + (q : Int)))).drew = W9 := ⟨_, rfl⟩
  have HB9 : Hid (Below W7.heap.size W7 W9) := Lib.hid (by rw [← hW9]; exact (HBY.out.setCell hgY _).drew)
  have HY9 : Hid (By W7.heap.size W9 (.slice (some ⟨gY, 0, none⟩) T.length c8) (T.set (K2 + 4) (97 + (q : Int)))) := Lib.hid (by
    have h := (World.ownsRow.stored HOY.out j9 (.int .u8 (97 + (q : Int)))).1
    rw [← HJ9.out] at h
    rw [← hW9, ← HJ9.out]
    unfold By
    rw [List.length_set, List.map_set]
    exact h)
  have HX9 := Lib.hid (HX7.out.below HB9.out)
  have HW9 : Hid (Below w.heap.size w W9) := Lib.hid (by
    have h1 : Below w.heap.size w W5 := HBW.out.trans (HB5.out.mono HBW.out.size)
    have h2 : Below w.heap.size w W7 := h1.trans (HB7.out.mono h1.size)
    exact h2.trans (HB9.out.mono h2.size))
  rw [hW9]
  have HHOK : Hid (HOk (M.hv A N C none 0 0) cs M.LV M.PR) := Lib.hid (by
    have h := HOK.out
    have kq := HKQ.out
    have hd := HDP.out
    have hn := hNb
    refine ⟨kq.1, hn.2, ?_, ?_, ?_, ?_, ?_, ?_, rfl, h.lv, ?_, ?_, rfl, ?_, ?_, ?_, ?_, ?_⟩
    all_goals first
      | (have := h.x; have := h.y; have := h.ox; have := h.oy; have := h.tx; have := h.ty; have := h.bw; have := h.bh; have := h.pr; have := h.st; have := h.od; have := h.ly; have := kq.2.2; (try simp only); omega)
      | skip
    intro c hc
    obtain ⟨i, hi, rfl⟩ := List.getElem_of_mem hc
    have hk := kq.2.1 i cs[i] (List.getElem?_eq_getElem hi)
    have hb := cpK_bd (sb := f.sb) i hd
    have h1 := hk.1
    have h2 := hk.2.2.1
    have h3 := hk.2.2.2.1
    omega)
  have HGX : Hid (gX < W7.heap.size) := Lib.hid (own_lt HX7.out rfl).2
  have HBw : Hid (w.heap.size ≤ W7.heap.size) := Lib.hid (by
    have h1 : Below w.heap.size w W5 := HBW.out.trans (HB5.out.mono HBW.out.size)
    exact Nat.le_trans h1.size HB7.out.size)
  clear hW9 HOY HBY HJ9 HB9 HX8 HT7 HX7 HB7 HB5 HOWN c9 f9 t0 t1 t2 t3 t4 t5 hr WN k4 k7 hhs hKi hK2i HKG
  have hRO : Oct [255, 144] := fun x hx => by simp at hx; omega
  have HTL : Hid (T.set (K + 13) 0 = 255 :: 79 :: 255 :: 81 :: restS SS (CC.set 9 0) (96 :: tB) [255, 144] ∧ T.set (K2 + 4) (97 + (q : Int)) = 255 :: 79 :: 255 :: 81 :: restS SS CC ((97 + (q : Int)) :: tB) [255, 144] ∧ (T.set (K2 + 4) (97 + (q : Int))).set (K + 13) 0 = 255 :: 79 :: 255 :: 81 :: restS SS (CC.set 9 0) ((97 + (q : Int)) :: tB) [255, 144]) := Lib.hid (by
    obtain ⟨e1, e2, e3, _⟩ := HTF.out
    have hk := HK.out
    have hy : T.set (K2 + 4) (97 + (q : Int)) = 255 :: 79 :: 255 :: 81 :: restS SS CC ((97 + (q : Int)) :: tB) [255, 144] := by
      rw [e1, show K2 + 4 = 6 + SS.length + 4 + CC.length + 4 + 0 by omega, set_B _ _ _ _ 0 (by simp)]
      rfl
    refine ⟨?_, hy, ?_⟩
    · rw [e1, show K + 13 = 6 + SS.length + 4 + 9 by omega, set_C _ _ _ _ 9 (by omega)]
    · rw [hy, show K + 13 = 6 + SS.length + 4 + 9 by omega, set_C _ _ _ _ 9 (by omega)])
  have hSO : Oct SS := by rw [← HTF.out.2.2.2.1]; exact sizeL_oct _ _
  have hCO : Oct CC := by rw [← HTF.out.2.2.2.2.1]; exact codL_oct _ _ _ _ _ _ _ _ _ _ _
  have hBO : Oct (96 :: tB) := by rw [← HTF.out.2.2.2.2.2]; exact bandsB_oct _ _ _
  have hYO : Oct ((97 + (q : Int)) :: tB) := fun x hx => by
    rcases List.mem_cons.1 hx with rfl | hx
    · omega
    · exact hBO.tl x hx
  have hC0 : Oct (CC.set 9 0) := oct_set hCO _ _ (by omega)
  have hC9 : (CC.set 9 0).getD 9 0 = 0 := by
    have h3 := HTF.out.2.2.1
    rw [List.getD_eq_getElem?_getD, List.getElem?_set_self (by omega)]
    rfl
  have hBl : tB.length ≤ 1000 := by
    have h1 := congrArg List.length HTF.out.1
    rw [HM5.out] at h1
    unfold restS restC restQ at h1
    simp only [List.length_cons, List.length_append] at h1
    omega
  have hCl := HTF.out.2.2.1
  have RX : Run 2 Sa.zero 65361 (restS SS (CC.set 9 0) (96 :: tB) [255, 144]) 13 Sa.zero [] := by
    rw [← HTF.out.2.2.2.1]
    exact run_cway HHOK.out _ _ _ hC0 hBO hRO (by rw [List.length_set]; omega) (by simp; omega) (by simp) hC9
  have RY : Run 3 Sa.zero 65361 (restS SS CC ((97 + (q : Int)) :: tB) [255, 144]) 13 Sa.zero [] := by
    rw [← HTF.out.2.2.2.1, ← HTF.out.2.2.2.2.1]
    exact run_qway HHOK.out _ _ hYO hRO (by simp; omega) (by simp) (by simp only [List.head?_cons, Option.getD_some]; omega)
  have RZ : Run 2 Sa.zero 65361 (restS SS (CC.set 9 0) ((97 + (q : Int)) :: tB) [255, 144]) 13 Sa.zero [] := by
    rw [← HTF.out.2.2.2.1]
    exact run_cway HHOK.out _ _ _ hC0 hYO hRO (by rw [List.length_set]; omega) (by simp; omega) (by simp) hC9
  have restO : ∀ C' B', Oct C' → Oct B' → Oct (255 :: 79 :: 255 :: 81 :: restS SS C' B' [255, 144]) := fun C' B' h1 h2 x hx => by
    rcases List.mem_cons.1 hx with rfl | hx
    · omega
    rcases List.mem_cons.1 hx with rfl | hx
    · omega
    rcases List.mem_cons.1 hx with rfl | hx
    · omega
    rcases List.mem_cons.1 hx with rfl | hx
    · omega
    exact pair_oct hSO (restC_oct h1 h2 hRO) x hx
  have PX : Hid (∀ u, By W5.heap.size u (.slice (some ⟨gX, 0, none⟩) T.length c7) (T.set (K + 13) 0) → Calls Try.prog 16 #[.slice (some ⟨gX, 0, none⟩) m5 c7] u fun e w' => ∃ cs : Array Value, e = .returned (.tuple #[.agg cs, .int .i64 0, .int .i64 13]) ∧ cs.size = 18 ∧ cs.all (·.oneCell') = true ∧ Below u.heap.size u w') := Lib.hid fun u hu => by
    have hn : (T.set (K + 13) 0).length = m5 := by rw [List.length_set]; exact HM5.out
    rw [HTL.out.1] at hu hn
    exact parse_err _ m5 c7 2 _ [] Sa.zero 13 u hn (by simp) (by omega) hu.lst (restO _ _ hC0 hBO) RX (by decide)
  have PY : Hid (∀ u, By W7.heap.size u (.slice (some ⟨gY, 0, none⟩) T.length c8) (T.set (K2 + 4) (97 + (q : Int))) → Calls Try.prog 16 #[.slice (some ⟨gY, 0, none⟩) m5 c8] u fun e w' => ∃ cs : Array Value, e = .returned (.tuple #[.agg cs, .int .i64 0, .int .i64 13]) ∧ cs.size = 18 ∧ cs.all (·.oneCell') = true ∧ Below u.heap.size u w') := Lib.hid fun u hu => by
    have hn : (T.set (K2 + 4) (97 + (q : Int))).length = m5 := by rw [List.length_set]; exact HM5.out
    rw [HTL.out.2.1] at hu hn
    exact parse_err _ m5 c8 3 _ [] Sa.zero 13 u hn (by simp) (by omega) hu.lst (restO _ _ hCO hYO) RY (by decide)
  have PZ : Hid (∀ u, By W7.heap.size u (.slice (some ⟨gY, 0, none⟩) T.length c8) ((T.set (K2 + 4) (97 + (q : Int))).set (K + 13) 0) → Calls Try.prog 16 #[.slice (some ⟨gY, 0, none⟩) m5 c8] u fun e w' => ∃ cs : Array Value, e = .returned (.tuple #[.agg cs, .int .i64 0, .int .i64 13]) ∧ cs.size = 18 ∧ cs.all (·.oneCell') = true ∧ Below u.heap.size u w') := Lib.hid fun u hu => by
    have hn : ((T.set (K2 + 4) (97 + (q : Int))).set (K + 13) 0).length = m5 := by rw [List.length_set, List.length_set]; exact HM5.out
    rw [HTL.out.2.2] at hu hn
    exact parse_err _ m5 c8 2 _ [] Sa.zero 13 u hn (by simp) (by omega) hu.lst (restO _ _ hC0 hYO) RZ (by decide)
  clear RX RY RZ restO hRO hSO hCO hBO hYO hC0 hC9 hBl hCl HTL HTF HHOK HKQ MH0 HM HK HML HT_
  cases a2
  · go_wp2_with fail
    refine (PX.out _ HX9.out).mono ?_
    rintro e Wp ⟨cx, rfl, hcs, hco, hbp⟩
    have HYp := Lib.hid (HY9.out.below hbp)
    have HWp := Lib.hid (HW9.out.trans (hbp.mono HW9.out.size))
    clear hbp
    go_upto_region 14 with (refine wpList_store_row rfl 33 _ _ rfl Wp.heap.size cx rfl rfl 33 #[.int .i64 0, .int .i64 0, .int .i64 0, .int .i64 0, .slice none 0 0, .int .i64 0, .int .i64 0, .int .i64 0, .int .i64 0, .int .i64 0, .int .i64 0, .int .i64 0, .int .i64 0, .int .i64 0, .bool false, .bool false, .bool false, .slice none 0 0] (World.alloc_heap_new Wp _) (by rw [hcs]; kernel_rfl) (by rw [hcs]; rfl) hco ?_)
    have hbq : Below Wp.heap.size Wp ((Wp.alloc (Obj.cells #[.int .i64 0, .int .i64 0, .int .i64 0, .int .i64 0, .slice none 0 0, .int .i64 0, .int .i64 0, .int .i64 0, .int .i64 0, .int .i64 0, .int .i64 0, .int .i64 0, .int .i64 0, .int .i64 0, .bool false, .bool false, .bool false, .slice none 0 0] 33)).setRow Wp.heap.size cx) := below_setRow ((Below.refl _ _).alloc (Nat.le_refl _) _) (Nat.le_refl _) _
    obtain ⟨Wq, hWq⟩ : ∃ Wq, (Wp.alloc (Obj.cells #[.int .i64 0, .int .i64 0, .int .i64 0, .int .i64 0, .slice none 0 0, .int .i64 0, .int .i64 0, .int .i64 0, .int .i64 0, .int .i64 0, .int .i64 0, .int .i64 0, .int .i64 0, .int .i64 0, .bool false, .bool false, .bool false, .slice none 0 0] 33)).setRow Wp.heap.size cx = Wq := ⟨_, rfl⟩
    rw [hWq] at hbq ⊢
    have HYq := Lib.hid (HYp.out.below hbq)
    have HWq := Lib.hid (HWp.out.trans (hbq.mono HWp.out.size))
    clear hWq hbq hcs hco HYp HWp
    go_wp2_with fail
    refine (PY.out _ HYq.out).mono ?_
    rintro e Wr ⟨cy, rfl, hcs, hco, hbr⟩
    have HWr := Lib.hid (HWq.out.trans (hbr.mono HWq.out.size))
    clear hbr
    go_upto_region 15 with (refine wpList_store_row rfl 33 _ _ rfl Wr.heap.size cy rfl rfl 33 #[.int .i64 0, .int .i64 0, .int .i64 0, .int .i64 0, .slice none 0 0, .int .i64 0, .int .i64 0, .int .i64 0, .int .i64 0, .int .i64 0, .int .i64 0, .int .i64 0, .int .i64 0, .int .i64 0, .bool false, .bool false, .bool false, .slice none 0 0] (World.alloc_heap_new Wr _) (by rw [hcs]; kernel_rfl) (by rw [hcs]; rfl) hco ?_)
    have hbs : Below Wr.heap.size Wr ((Wr.alloc (Obj.cells #[.int .i64 0, .int .i64 0, .int .i64 0, .int .i64 0, .slice none 0 0, .int .i64 0, .int .i64 0, .int .i64 0, .int .i64 0, .int .i64 0, .int .i64 0, .int .i64 0, .int .i64 0, .int .i64 0, .bool false, .bool false, .bool false, .slice none 0 0] 33)).setRow Wr.heap.size cy) := below_setRow ((Below.refl _ _).alloc (Nat.le_refl _) _) (Nat.le_refl _) _
    obtain ⟨Ws, hWs⟩ : ∃ Ws, (Wr.alloc (Obj.cells #[.int .i64 0, .int .i64 0, .int .i64 0, .int .i64 0, .slice none 0 0, .int .i64 0, .int .i64 0, .int .i64 0, .int .i64 0, .int .i64 0, .int .i64 0, .int .i64 0, .int .i64 0, .int .i64 0, .bool false, .bool false, .bool false, .slice none 0 0] 33)).setRow Wr.heap.size cy = Ws := ⟨_, rfl⟩
    rw [hWs] at hbs ⊢
    have HWs := Lib.hid (HWr.out.trans (hbs.mono HWr.out.size))
    clear hWs hbs hcs hco
    go_wp2
    go_ret
    first | exact HWs.out | exact ⟨rfl, HWs.out⟩
  · obtain ⟨x1, hx1⟩ : ∃ x1, (T.set (K2 + 4) (97 + (q : Int)))[K + 13]? = some x1 := ⟨_, List.getElem?_eq_getElem (by rw [List.length_set, HM5.out]; omega)⟩
    have h9 := HY9.out
    unfold By at h9
    rw [List.length_set] at h9
    have H9 := Lib.hid h9
    clear h9
    have cc8 : W9.cell? ⟨gY, K + 4 + 9, none⟩ = some (.int .u8 x1) := by
      have h := World.ownsRow.cellAt H9.out (K + 13) (by rw [HM5.out]; omega)
      rw [show K + 4 + 9 = K + 13 from rfl, h, List.getElem?_map, hx1]; rfl
    have ff8 : W9.frozen? ⟨gY, K + 4 + 9, none⟩ = false := World.ownsRow.frozenAt H9.out _
    have hKi : (K : Int) + 4 + 9 < (m5 : Int) := by omega
    clear hx1
    go_upto_region 13 with fail
    obtain ⟨Wd, hWd⟩ : ∃ Wd, W9.setCell ⟨gY, K + 4 + 9, none⟩ (.int .u8 0) = Wd := ⟨_, rfl⟩
    have HYd : Hid (By W7.heap.size Wd (.slice (some ⟨gY, 0, none⟩) T.length c8) ((T.set (K2 + 4) (97 + (q : Int))).set (K + 13) 0)) := Lib.hid (by
      have h := (World.ownsRow.stored H9.out (K + 4 + 9) (.int .u8 0)).1
      rw [hWd] at h
      unfold By
      rw [List.length_set, List.length_set, List.map_set]
      exact h)
    have HWd : Hid (Below w.heap.size w Wd) := Lib.hid (by rw [← hWd]; exact HW9.out.setCell (by show _ ≤ gY; have := HBw.out; omega) _)
    have HXd : Hid (By W5.heap.size Wd (.slice (some ⟨gX, 0, none⟩) T.length c7) (T.set (K + 13) 0)) := Lib.hid (by
      have h : Below W7.heap.size W9 Wd := by rw [← hWd]; exact (Below.refl _ _).setCell hgY _
      exact ownsRow_keep HX9.out (by rw [← hWd]; simp) (fun k e => h.block k (by have e2 : gX = k := Option.some.inj e; have := HGX.out; omega)))
    rw [hWd]
    clear hWd cc8 ff8 hKi HY9 HX9 HW9
    go_wp2_with fail
    refine (PX.out _ HXd.out).mono ?_
    rintro e Wp ⟨cx, rfl, hcs, hco, hbp⟩
    have HYp := Lib.hid (HYd.out.below hbp)
    have HWp := Lib.hid (HWd.out.trans (hbp.mono HWd.out.size))
    clear hbp
    go_upto_region 14 with (refine wpList_store_row rfl 33 _ _ rfl Wp.heap.size cx rfl rfl 33 #[.int .i64 0, .int .i64 0, .int .i64 0, .int .i64 0, .slice none 0 0, .int .i64 0, .int .i64 0, .int .i64 0, .int .i64 0, .int .i64 0, .int .i64 0, .int .i64 0, .int .i64 0, .int .i64 0, .bool false, .bool false, .bool false, .slice none 0 0] (World.alloc_heap_new Wp _) (by rw [hcs]; kernel_rfl) (by rw [hcs]; rfl) hco ?_)
    have hbq : Below Wp.heap.size Wp ((Wp.alloc (Obj.cells #[.int .i64 0, .int .i64 0, .int .i64 0, .int .i64 0, .slice none 0 0, .int .i64 0, .int .i64 0, .int .i64 0, .int .i64 0, .int .i64 0, .int .i64 0, .int .i64 0, .int .i64 0, .int .i64 0, .bool false, .bool false, .bool false, .slice none 0 0] 33)).setRow Wp.heap.size cx) := below_setRow ((Below.refl _ _).alloc (Nat.le_refl _) _) (Nat.le_refl _) _
    obtain ⟨Wq, hWq⟩ : ∃ Wq, (Wp.alloc (Obj.cells #[.int .i64 0, .int .i64 0, .int .i64 0, .int .i64 0, .slice none 0 0, .int .i64 0, .int .i64 0, .int .i64 0, .int .i64 0, .int .i64 0, .int .i64 0, .int .i64 0, .int .i64 0, .int .i64 0, .bool false, .bool false, .bool false, .slice none 0 0] 33)).setRow Wp.heap.size cx = Wq := ⟨_, rfl⟩
    rw [hWq] at hbq ⊢
    have HYq := Lib.hid (HYp.out.below hbq)
    have HWq := Lib.hid (HWp.out.trans (hbq.mono HWp.out.size))
    clear hWq hbq hcs hco HYp HWp
    go_wp2_with fail
    refine (PZ.out _ HYq.out).mono ?_
    rintro e Wr ⟨cy, rfl, hcs, hco, hbr⟩
    have HWr := Lib.hid (HWq.out.trans (hbr.mono HWq.out.size))
    clear hbr
    go_upto_region 15 with (refine wpList_store_row rfl 33 _ _ rfl Wr.heap.size cy rfl rfl 33 #[.int .i64 0, .int .i64 0, .int .i64 0, .int .i64 0, .slice none 0 0, .int .i64 0, .int .i64 0, .int .i64 0, .int .i64 0, .int .i64 0, .int .i64 0, .int .i64 0, .int .i64 0, .int .i64 0, .bool false, .bool false, .bool false, .slice none 0 0] (World.alloc_heap_new Wr _) (by rw [hcs]; kernel_rfl) (by rw [hcs]; rfl) hco ?_)
    have hbs : Below Wr.heap.size Wr ((Wr.alloc (Obj.cells #[.int .i64 0, .int .i64 0, .int .i64 0, .int .i64 0, .slice none 0 0, .int .i64 0, .int .i64 0, .int .i64 0, .int .i64 0, .int .i64 0, .int .i64 0, .int .i64 0, .int .i64 0, .int .i64 0, .bool false, .bool false, .bool false, .slice none 0 0] 33)).setRow Wr.heap.size cy) := below_setRow ((Below.refl _ _).alloc (Nat.le_refl _) _) (Nat.le_refl _) _
    obtain ⟨Ws, hWs⟩ : ∃ Ws, (Wr.alloc (Obj.cells #[.int .i64 0, .int .i64 0, .int .i64 0, .int .i64 0, .slice none 0 0, .int .i64 0, .int .i64 0, .int .i64 0, .int .i64 0, .int .i64 0, .int .i64 0, .int .i64 0, .int .i64 0, .int .i64 0, .bool false, .bool false, .bool false, .slice none 0 0] 33)).setRow Wr.heap.size cy = Ws := ⟨_, rfl⟩
    rw [hWs] at hbs ⊢
    have HWs := Lib.hid (HWr.out.trans (hbs.mono HWr.out.size))
    clear hWs hbs hcs hco
    go_wp2
    go_ret
    first | exact HWs.out | exact ⟨rfl, HWs.out⟩
end
end Go.Proofs.Ytlbfjaifemnkpaa
