/- marks: a head that Main wrote: it is read as it was; its fronts are bad. -/
import Derived.Test.YtlbfjaifemnkpaaMkQ9
import Derived.Test.YtlbfjaifemnkpaaMkW6
import Derived.Test.YtlbfjaifemnkpaaMkW7
import Derived.Deep.CutBlock
import Derived.MapKept
import Derived.Test.YtlbfjaifemnkpaaMkSc
import Derived.Laws.Rows
import Derived.Deep.MidRow
import Derived.Test.YtlbfjaifemnkpaaMkFo
set_option linter.unusedVariables false
set_option linter.unusedSimpArgs false
namespace Go.Proofs.Ytlbfjaifemnkpaa
section
section
section
section
section
section
section
open Go.RowKit
set_option maxRecDepth 100000
theorem putL_oct (m : Int) : ∀ k, Oct (putL m k)
  | 0 => fun x hx => by cases hx
  | k + 1 => fun x hx => by
    rw [putL] at hx
    rcases List.mem_cons.1 hx with rfl | hx
    · omega
    · exact putL_oct m k x hx
theorem fldL_oct (s : Nat) (l : List Int) : Oct (fldL s l) := fun x hx => by
  obtain ⟨y, _, hx⟩ := List.mem_flatMap.1 hx
  exact putL_oct y s x hx
theorem flat_oct {α : Type} (f : α → List Int) (l : List α) (h : ∀ a, Oct (f a)) : Oct (l.flatMap f) := fun x hx => by
  obtain ⟨y, _, hx⟩ := List.mem_flatMap.1 hx
  exact h y x hx
theorem repL_rep (v : Int) (k : Nat) : repL [v] 1 k = List.replicate k v := by
  unfold repL
  simp [Nat.mod_one, List.map_const']
theorem sizeL_oct (h : HV) (cs : List Cp) : Oct (sizeL h cs) := by
  unfold sizeL
  exact (((fldL_oct _ _).app (fldL_oct _ _)).app (fldL_oct _ _)).app (flat_oct _ _ fun c => fldL_oct _ _)
theorem fld1 (x : Int) : fldL 1 [x] = [x % 256] := by
  show [x / 2 ^ (8 * 0) % 256] = [x % 256]
  simp
theorem codL_oct (LV BW BH PR ST OD LY : Int) (RC SO EP : Bool) (k : Nat) : Oct (codL LV BW BH PR ST OD LY RC SO EP k) := by
  unfold codL
  refine (((fldL_oct _ _).app (fldL_oct _ _)).app (fldL_oct _ _)).app ?_
  rw [fld1, repL_rep]
  intro x hx
  have := List.eq_of_mem_replicate hx
  omega
theorem bandsB_oct (r : Int) (cs : List Cp) (k : Nat) : Oct (bandsB r cs k) := by
  unfold bandsB
  exact (fldL_oct _ _).app (flat_oct _ _ fun g => fldL_oct _ _)
theorem fld2 (m n : Int) : fldL 2 [m, n] = [m / 256 % 256, m % 256, n / 256 % 256, n % 256] := by
  show [m / 2 ^ (8 * 1) % 256, m / 2 ^ (8 * 0) % 256, n / 2 ^ (8 * 1) % 256, n / 2 ^ (8 * 0) % 256] = _
  simp
theorem segL_is (mk : Int) (X : List Int) (a b : Int) (ha : mk / 256 % 256 = a) (hb : mk % 256 = b) : segL mk X = a :: b :: ((2 + (X.length : Int)) / 256 % 256) :: ((2 + (X.length : Int)) % 256) :: X := by
  unfold segL
  rw [fld2, ha, hb]
  rfl
/-- A head's numbers, as far as the law makes them. -/
structure HOk (h : HV) (cs : List Cp) (k q : Nat) : Prop where
  n : cs.length = h.N
  n4 : h.N ≤ 5
  x : 0 ≤ h.X ∧ h.X ≤ 1000
  y : 0 ≤ h.Y ∧ h.Y ≤ 1000
  ox : 0 ≤ h.OX ∧ h.OX ≤ 1000
  oy : 0 ≤ h.OY ∧ h.OY ≤ 1000
  tx : 0 ≤ h.TX ∧ h.TX ≤ 1000
  ty : 0 ≤ h.TY ∧ h.TY ≤ 1000
  lv : h.LV = (k : Int)
  k5 : k ≤ 5
  bw : 2 ≤ h.BW ∧ h.BW ≤ 200
  bh : 2 ≤ h.BH ∧ h.BH ≤ 200
  pr : h.PR = (q : Int)
  pr1 : 1 ≤ q ∧ q ≤ 15
  st : 0 ≤ h.ST ∧ h.ST ≤ 63
  od : 0 ≤ h.OD ∧ h.OD ≤ 255
  ly : 1 ≤ h.LY ∧ h.LY ≤ 8
  c : ∀ c ∈ cs, (1 ≤ c.d ∧ c.d ≤ 100) ∧ (0 ≤ c.dx ∧ c.dx ≤ 255) ∧ (0 ≤ c.dy ∧ c.dy ≤ 255)
def cpT (c : Cp) : Int × Int × Int := (depthF c, c.dx, c.dy)
theorem cpT_cp {c : Cp} (h : 1 ≤ c.d ∧ c.d ≤ 100) : cpOf (cpT c) = ⟨c.d, c.sg, c.dx, c.dy, none, 0, 0⟩ := by
  obtain ⟨d, sg, dx, dy, A, n, cap⟩ := c
  unfold cpOf cpT depthF
  cases sg
  · simp only [Cp.mk.injEq, Bool.false_eq_true, if_false, and_true, decide_eq_false_iff_not]
    simp only at h
    omega
  · simp only [Cp.mk.injEq, if_true, and_true, decide_eq_true_eq]
    simp only at h
    omega
theorem cpT_rng {c : Cp} (h : (1 ≤ c.d ∧ c.d ≤ 100) ∧ (0 ≤ c.dx ∧ c.dx ≤ 255) ∧ (0 ≤ c.dy ∧ c.dy ≤ 255)) : (0 ≤ (cpT c).1 ∧ (cpT c).1 ≤ 255) ∧ (0 ≤ (cpT c).2.1 ∧ (cpT c).2.1 ≤ 255) ∧ (0 ≤ (cpT c).2.2 ∧ (cpT c).2.2 ≤ 255) := by
  obtain ⟨d, sg, dx, dy, A, n, cap⟩ := c
  unfold cpT depthF
  simp only at h ⊢
  cases sg
  · simp; omega
  · simp; omega
theorem trips {cs : List Cp} (h : ∀ c ∈ cs, (1 ≤ c.d ∧ c.d ≤ 100) ∧ (0 ≤ c.dx ∧ c.dx ≤ 255) ∧ (0 ≤ c.dy ∧ c.dy ≤ 255)) : (cs.flatMap fun c => fldL 1 [depthF c, c.dx, c.dy]) = (cs.map cpT).flatMap trip := by
  induction cs with
  | nil => rfl
  | cons c cs ih =>
    rw [List.flatMap_cons, List.map_cons, List.flatMap_cons, ih fun x hx => h x (List.mem_cons_of_mem _ hx)]
    congr 1
    have r := cpT_rng (h c List.mem_cons_self)
    show [depthF c / 2 ^ (8 * 0) % 256, c.dx / 2 ^ (8 * 0) % 256, c.dy / 2 ^ (8 * 0) % 256] = [depthF c, c.dx, c.dy]
    simp only [cpT] at r
    simp only [Nat.mul_zero, Int.pow_zero, Int.ediv_one]
    rw [Int.emod_eq_of_lt (by omega) (by omega), Int.emod_eq_of_lt (by omega) (by omega), Int.emod_eq_of_lt (by omega) (by omega)]
theorem fld4 (m : Int) (L : List Int) : fldL 4 (m :: L) = [m / 16777216 % 256, m / 65536 % 256, m / 256 % 256, m % 256] ++ fldL 4 L := by
  show [m / 2 ^ (8 * 3) % 256, m / 2 ^ (8 * 2) % 256, m / 2 ^ (8 * 1) % 256, m / 2 ^ (8 * 0) % 256] ++ fldL 4 L = _
  simp
theorem fld2s (m : Int) : fldL 2 [m] = [m / 256 % 256, m % 256] := by
  show [m / 2 ^ (8 * 1) % 256, m / 2 ^ (8 * 0) % 256] = _
  simp
theorem four (m : Int) (h : 0 ≤ m ∧ m ≤ 1000) : ((m / 16777216 % 256 * 256 + m / 65536 % 256) * 256 + m / 256 % 256) * 256 + m % 256 = m := by omega
/-- What is said behind the size. -/
def S1 (h : HV) (cs : List Cp) : Sa := { Sa.zero with X := h.X, Y := h.Y, OX := h.OX, OY := h.OY, TX := h.TX, TY := h.TY, cs := (cs.map cpT).map cpOf, sz := true }
theorem siz_c {h : HV} {cs : List Cp} {k pr : Nat} (H : HOk h cs k pr) (R : List Int) (hO : Oct R) (hl : R.length ≤ 900000) (s : Sa) (hs : s.sz = false) (n : Int) (hn : n = 2 + ((sizeL h cs).length : Int)) :
    SegC s 65361 (n / 256 % 256 :: n % 256 :: (sizeL h cs ++ R)) 0 { s with X := h.X, Y := h.Y, OX := h.OX, OY := h.OY, TX := h.TX, TY := h.TY, cs := (cs.map cpT).map cpOf, sz := true } R := by
  intro w P p m lo hP
  have hlen := sizeL_len h cs
  have h4 := H.n4
  have hnn := H.n
  have hso := sizeL_oct h cs
  have hO2 : Oct (n / 256 % 256 :: n % 256 :: (sizeL h cs ++ R)) := fun x hx => by
    rcases List.mem_cons.1 hx with rfl | hx
    · omega
    rcases List.mem_cons.1 hx with rfl | hx
    · omega
    exact (hso.app hO) x hx
  have hct : [0, 0, h.X / 16777216 % 256, h.X / 65536 % 256, h.X / 256 % 256, h.X % 256, h.Y / 16777216 % 256, h.Y / 65536 % 256, h.Y / 256 % 256, h.Y % 256, h.OX / 16777216 % 256, h.OX / 65536 % 256, h.OX / 256 % 256, h.OX % 256, h.OY / 16777216 % 256, h.OY / 65536 % 256, h.OY / 256 % 256, h.OY % 256, h.TX / 16777216 % 256, h.TX / 65536 % 256, h.TX / 256 % 256, h.TX % 256, h.TY / 16777216 % 256, h.TY / 65536 % 256, h.TY / 256 % 256, h.TY % 256, 0, 0, 0, 0, 0, 0, 0, 0, (h.N : Int) / 256 % 256, (h.N : Int) % 256] ++ (cs.map cpT).flatMap trip = sizeL h cs := by
    unfold sizeL
    rw [← trips H.c]
    simp only [fld4, fld2s]
    rfl
  have hOc : Oct [0, 0, h.X / 16777216 % 256, h.X / 65536 % 256, h.X / 256 % 256, h.X % 256, h.Y / 16777216 % 256, h.Y / 65536 % 256, h.Y / 256 % 256, h.Y % 256, h.OX / 16777216 % 256, h.OX / 65536 % 256, h.OX / 256 % 256, h.OX % 256, h.OY / 16777216 % 256, h.OY / 65536 % 256, h.OY / 256 % 256, h.OY % 256, h.TX / 16777216 % 256, h.TX / 65536 % 256, h.TX / 256 % 256, h.TX % 256, h.TY / 16777216 % 256, h.TY / 65536 % 256, h.TY / 256 % 256, h.TY % 256, 0, 0, 0, 0, 0, 0, 0, 0, (h.N : Int) / 256 % 256, (h.N : Int) % 256] := fun x hx => hso x (by rw [← hct]; exact List.mem_append_left _ hx)
  refine (segS_siz _ _ _ _ _ _ _ _ _ _ _ _ _ _ _ _ _ _ _ _ _ _ _ _ _ _ h.X h.Y h.OX h.OY h.TX h.TY (cs.map cpT) (sizeL h cs) hct hP hO2 (by omega) (by rw [List.length_append]; omega) hs (four _ H.x) (four _ H.y) (four _ H.ox) (four _ H.oy) (four _ H.tx) (four _ H.ty) (by rw [List.length_map, hnn]; omega) (by rw [List.length_map]; omega) hOc ?_).mono ?_
  · intro z hz
    obtain ⟨c, hc, rfl⟩ := List.mem_map.1 hz
    exact cpT_rng (H.c c hc)
  · rintro e w' ⟨rfl, h1, h2⟩
    exact ⟨rfl, fun _ => h1, h2⟩
theorem cod_is {h : HV} {cs : List Cp} {k pr : Nat} (H : HOk h cs k pr) : [1 + (if h.SO then 2 else 0) + (if h.EP then 4 else 0), h.OD, h.LY / 256 % 256, h.LY % 256, if h.RC then 1 else 0, (k : Int), h.BW - 2, h.BH - 2, h.ST, 1] ++ List.replicate (k + 1) (17 * (pr : Int)) = codH h k := by
  obtain ⟨_, _, _, _, _, _, _, _, lv, k5, bw, bh, hpr, pr1, st, od, ly, _⟩ := H
  unfold codH codL
  rw [fld1, repL_rep, hpr, lv]
  have e1 : (17 * (pr : Int)) % 256 = 17 * (pr : Int) := by omega
  rw [e1]
  congr 1
  show _ = [(1 + (if h.SO then (2 : Int) else 0) + (if h.EP then 4 else 0)) / 2 ^ (8 * 0) % 256, h.OD / 2 ^ (8 * 0) % 256, h.LY / 2 ^ (8 * 1) % 256, h.LY / 2 ^ (8 * 0) % 256, (if h.RC then (1 : Int) else 0) / 2 ^ (8 * 0) % 256, (k : Int) / 2 ^ (8 * 0) % 256, (h.BW - 2) / 2 ^ (8 * 0) % 256, (h.BH - 2) / 2 ^ (8 * 0) % 256, h.ST / 2 ^ (8 * 0) % 256, (1 : Int) / 2 ^ (8 * 0) % 256]
  have p0 : (2 : Int) ^ (8 * 0) = 1 := rfl
  have p1 : (2 : Int) ^ (8 * 1) = 256 := rfl
  rw [p0, p1]
  simp only [Int.ediv_one, List.cons.injEq, and_true]
  refine ⟨?_, ?_, trivial, trivial, ?_, ?_, ?_, ?_, ?_, ?_⟩
  · cases h.SO <;> cases h.EP <;> rfl
  · omega
  · cases h.RC <;> rfl
  · omega
  · omega
  · omega
  · omega
  · rfl
/-- What is said behind the coding. -/
def sCod (h : HV) (k pr : Nat) (s : Sa) : Sa := { s with LV := (k : Int), BW := h.BW - 2 + 2, BH := h.BH - 2 + 2, PR := (pr : Int), ST := h.ST, OD := h.OD, LY := h.LY / 256 % 256 * 256 + h.LY % 256, RC := h.RC, SO := h.SO, EP := h.EP, cd := true }
theorem pair_oct {n : Int} {ct R : List Int} (h1 : Oct ct) (h2 : Oct R) : Oct (n / 256 % 256 :: n % 256 :: (ct ++ R)) := fun x hx => by
  rcases List.mem_cons.1 hx with rfl | hx
  · omega
  rcases List.mem_cons.1 hx with rfl | hx
  · omega
  exact (h1.app h2) x hx
theorem cod_c {h : HV} {cs : List Cp} {k pr : Nat} (H : HOk h cs k pr) (R : List Int) (hO : Oct R) (hl : R.length ≤ 900000) (s : Sa) (hs : s.cd = false) (n : Int) (hn : n = 2 + ((codH h k).length : Int)) :
    SegC s 65362 (n / 256 % 256 :: n % 256 :: (codH h k ++ R)) 0 (sCod h k pr s) R := by
  intro w P p m lo hP
  have hlen : (codH h k).length = 10 + (k + 1) := codL_len _ _ _ _ _ _ _ _ _ _ _
  have hk := H.k5
  have hco : Oct (codH h k) := codL_oct _ _ _ _ _ _ _ _ _ _ _
  have h1 := H.ly
  have h2 := H.od
  have h3 := H.bw
  have h4 := H.bh
  have h5 := H.st
  refine (segS_cod k pr _ h.OD _ _ _ (k : Int) _ _ _ h.SO h.EP h.RC (codH h k) (cod_is H) hP (pair_oct hco hO) (by omega) (by rw [List.length_append]; omega) hs rfl rfl rfl (by omega) H.pr1 (by omega) (by omega) (by omega) (by omega) (by omega) (by omega) (by omega)).mono ?_
  rintro e w' ⟨rfl, h1, h2⟩
  exact ⟨rfl, fun _ => h1, h2⟩
theorem cway_c (ct R : List Int) (hc : Oct ct) (hO : Oct R) (hl : ct.length + R.length ≤ 900000) (s s' : Sa) (l' : List Int) (hs : s.cd = false) (hc10 : 10 ≤ ct.length) (hct : ct.length ≤ 60000) (hw : ct.getD 9 0 = 0) (n : Int) (hn : n = 2 + (ct.length : Int)) :
    SegC s 65362 (n / 256 % 256 :: n % 256 :: (ct ++ R)) 13 s' l' := by
  intro w P p m lo hP
  refine (segS_cway ct hP (pair_oct hc hO) (by omega) (by rw [List.length_append]; omega) hs hc10 hw).mono ?_
  rintro e w' ⟨rfl, h2⟩
  exact ⟨rfl, fun h => absurd h (by decide), h2⟩
theorem qway_c (ct R : List Int) (hc : Oct ct) (hO : Oct R) (hl : ct.length + R.length ≤ 900000) (s s' : Sa) (l' : List Int) (hs : s.qc = none) (hct : ct.length ≤ 60000) (hw : ct.head?.getD 0 % 32 ≠ 0) (n : Int) (hn : n = 2 + (ct.length : Int)) :
    SegC s 65372 (n / 256 % 256 :: n % 256 :: (ct ++ R)) 13 s' l' := by
  intro w P p m lo hP
  refine (segS_qway ct hP (pair_oct hc hO) (by omega) (by rw [List.length_append]; omega) hs hw).mono ?_
  rintro e w' ⟨rfl, h2⟩
  exact ⟨rfl, fun h => absurd h (by decide), h2⟩
theorem qcd_c (ct R : List Int) (hc : Oct ct) (hO : Oct R) (hl : ct.length + R.length ≤ 900000) (s : Sa) (hs : s.qc = none) (hct : ct.length ≤ 60000) (hw : ct.head?.getD 0 % 32 = 0) (n : Int) (hn : n = 2 + (ct.length : Int)) :
    SegC s 65372 (n / 256 % 256 :: n % 256 :: (ct ++ R)) 0 { s with qc := some ct } R := by
  intro w P p m lo hP
  refine (segS_qcd ct hP (pair_oct hc hO) (by omega) (by rw [List.length_append]; omega) hs hw).mono ?_
  rintro e w' ⟨rfl, h1, h2⟩
  exact ⟨rfl, fun _ => h1, h2⟩
/-- A head as Parse reads it. -/
def restQ (B R : List Int) : List Int := 255 :: 92 :: (2 + (B.length : Int)) / 256 % 256 :: (2 + (B.length : Int)) % 256 :: (B ++ R)
def restC (C B R : List Int) : List Int := 255 :: 82 :: (2 + (C.length : Int)) / 256 % 256 :: (2 + (C.length : Int)) % 256 :: (C ++ restQ B R)
def restS (S C B R : List Int) : List Int := (2 + (S.length : Int)) / 256 % 256 :: (2 + (S.length : Int)) % 256 :: (S ++ restC C B R)
theorem mainL_form (h : HV) (cs : List Cp) (l : List Int) (k : Nat) (T : List Int) : mainL h cs l k ++ T = 255 :: 79 :: 255 :: 81 :: restS (sizeL h cs) (codH h k) (bandsB (if h.RC then 1 else 0) cs k) ((if 0 < h.sn then segL 65380 (fldL 2 [1] ++ l) else []) ++ T) := by
  unfold mainL headL
  rw [segL_is 65361 _ 255 81 rfl rfl, segL_is 65362 _ 255 82 rfl rfl, segL_is 65372 _ 255 92 rfl rfl]
  simp only [List.append_assoc, List.cons_append]
  rfl
theorem restQ_oct {B R : List Int} (h1 : Oct B) (h2 : Oct R) : Oct (restQ B R) := fun x hx => by
  rcases List.mem_cons.1 hx with rfl | hx
  · omega
  rcases List.mem_cons.1 hx with rfl | hx
  · omega
  exact pair_oct h1 h2 x hx
theorem restC_oct {C B R : List Int} (h0 : Oct C) (h1 : Oct B) (h2 : Oct R) : Oct (restC C B R) := fun x hx => by
  rcases List.mem_cons.1 hx with rfl | hx
  · omega
  rcases List.mem_cons.1 hx with rfl | hx
  · omega
  exact pair_oct h0 (restQ_oct h1 h2) x hx
theorem restQ_len (B R : List Int) : (restQ B R).length = 4 + B.length + R.length := by
  unfold restQ
  simp only [List.length_cons, List.length_append]
  omega
theorem restC_len (C B R : List Int) : (restC C B R).length = 4 + C.length + (4 + B.length + R.length) := by
  unfold restC
  simp only [List.length_cons, List.length_append, restQ_len]
  omega
/-- The coding chooses the other way. -/
theorem run_cway {h : HV} {cs : List Cp} {k pr : Nat} (H : HOk h cs k pr) (C B R : List Int) (hC : Oct C) (hB : Oct B) (hR : Oct R) (hcl : 10 ≤ C.length ∧ C.length ≤ 60000) (hbl : B.length ≤ 60000) (hrl : R.length ≤ 60000) (hw : C.getD 9 0 = 0) :
    Run 2 Sa.zero 65361 (restS (sizeL h cs) C B R) 13 Sa.zero [] := by
  have hl := restC_len C B R
  have hq := restQ_len B R
  refine Run.next 1 _ _ _ _ 255 82 _ _ _ 13 (by decide) (siz_c H (restC C B R) (restC_oct hC hB hR) (by omega) _ rfl _ rfl) (restC_oct hC hB hR) (by have := hl; unfold restC at this; simp only [List.length_cons] at this ⊢; omega) ?_
  exact Run.fail 0 _ _ _ 13 _ _ (by decide) (by decide) (cway_c C (restQ B R) hC (restQ_oct hB hR) (by omega) _ _ _ rfl hcl.1 hcl.2 hw _ rfl)
/-- The quantization chooses the other way. -/
theorem run_qway {h : HV} {cs : List Cp} {k pr : Nat} (H : HOk h cs k pr) (B R : List Int) (hB : Oct B) (hR : Oct R) (hbl : B.length ≤ 60000) (hrl : R.length ≤ 60000) (hw : B.head?.getD 0 % 32 ≠ 0) :
    Run 3 Sa.zero 65361 (restS (sizeL h cs) (codH h k) B R) 13 Sa.zero [] := by
  have hC : Oct (codH h k) := codL_oct _ _ _ _ _ _ _ _ _ _ _
  have hlen : (codH h k).length = 10 + (k + 1) := codL_len _ _ _ _ _ _ _ _ _ _ _
  have hk := H.k5
  have hl := restC_len (codH h k) B R
  have hq := restQ_len B R
  refine Run.next 2 _ _ _ _ 255 82 _ _ _ 13 (by decide) (siz_c H (restC (codH h k) B R) (restC_oct hC hB hR) (by omega) _ rfl _ rfl) (restC_oct hC hB hR) (by have := hl; unfold restC at this; simp only [List.length_cons] at this ⊢; omega) ?_
  refine Run.next 1 _ _ _ _ 255 92 _ _ _ 13 (by decide) (cod_c H (restQ B R) (restQ_oct hB hR) (by omega) _ rfl _ rfl) (restQ_oct hB hR) (by have := hq; unfold restQ at this; simp only [List.length_cons] at this ⊢; omega) ?_
  exact Run.fail 0 _ _ _ 13 _ _ (by decide) (by decide) (qway_c B R hB hR (by omega) _ _ _ rfl hbl hw _ rfl)
/-- A byte of the coding changed. -/
theorem set_C (S C B R : List Int) (j : Nat) (hj : j < C.length) (v : Int) : (255 :: 79 :: 255 :: 81 :: restS S C B R).set (6 + S.length + 4 + j) v = 255 :: 79 :: 255 :: 81 :: restS S (C.set j v) B R := by
  unfold restS restC
  rw [show 6 + S.length + 4 + j = (S.length + (j + 4)) + 6 by omega]
  simp only [List.set_cons_succ]
  rw [List.set_append_right _ _ (by omega), show S.length + (j + 4) - S.length = j + 4 by omega]
  simp only [List.set_cons_succ]
  rw [List.set_append_left _ _ hj, List.length_set]
/-- A byte of the bands changed. -/
theorem set_B (S C B R : List Int) (j : Nat) (hj : j < B.length) (v : Int) : (255 :: 79 :: 255 :: 81 :: restS S C B R).set (6 + S.length + 4 + C.length + 4 + j) v = 255 :: 79 :: 255 :: 81 :: restS S C (B.set j v) R := by
  unfold restS restC restQ
  rw [show 6 + S.length + 4 + C.length + 4 + j = (S.length + ((C.length + (j + 4)) + 4)) + 6 by omega]
  simp only [List.set_cons_succ]
  rw [List.set_append_right _ _ (by omega), show S.length + ((C.length + (j + 4)) + 4) - S.length = (C.length + (j + 4)) + 4 by omega]
  simp only [List.set_cons_succ]
  rw [List.set_append_right _ _ (by omega), show C.length + (j + 4) - C.length = j + 4 by omega]
  simp only [List.set_cons_succ]
  rw [List.set_append_left _ _ hj, List.length_set]
theorem get_B (S C B R : List Int) (j : Nat) (hj : j < B.length) : (255 :: 79 :: 255 :: 81 :: restS S C B R)[6 + S.length + 4 + C.length + 4 + j]? = B[j]? := by
  unfold restS restC restQ
  rw [show 6 + S.length + 4 + C.length + 4 + j = (S.length + ((C.length + (j + 4)) + 4)) + 6 by omega]
  simp only [List.getElem?_cons_succ]
  rw [List.getElem?_append_right (by omega), show S.length + ((C.length + (j + 4)) + 4) - S.length = (C.length + (j + 4)) + 4 by omega]
  simp only [List.getElem?_cons_succ]
  rw [List.getElem?_append_right (by omega), show C.length + (j + 4) - C.length = j + 4 by omega]
  simp only [List.getElem?_cons_succ]
  rw [List.getElem?_append_left hj]
theorem bandsB_cons (r : Int) (cs : List Cp) (k : Nat) : ∃ t, bandsB r cs k = 96 :: t := ⟨_, rfl⟩
theorem oct_set {l : List Int} (h : Oct l) (j : Nat) (v : Int) (hv : 0 ≤ v ∧ v ≤ 255) : Oct (l.set j v) := fun x hx => by
  rcases List.mem_or_eq_of_mem_set hx with h1 | rfl
  · exact h x h1
  · exact hv
end
section
open Go.RowKit
set_option maxRecDepth 100000
theorem look_any {w : World} {P m ck : Nat} {E : List (Int × Value × Nat)} {es : Array MapEntry} (k : Int) (hm : w.heap[m]? = some (.map es ck)) (he : es.toList = E.map mkE) :
    ∃ v, (Instr.lookup 67 (.map (some m)) (.int .i64 k) true).run Try.prog w = .ok (.tuple #[v, .bool (lookE E k 0).isSome]) w ∧ ∀ j u, lookE E k 0 = some (j, u) → v = u := by
  cases hE : lookE E k 0 with
  | none => exact ⟨_, look_none k hm (by rw [he, find_map, hE]), fun j u h => by cases h⟩
  | some r => exact ⟨r.2, look_some (j := r.1) k hm (by rw [he, find_map, hE]), fun j u h => by cases h; rfl⟩
set_option maxHeartbeats 4000000 in
/-- No coding, or no quantization: 10. -/
theorem fin_bad (s : Sa) (h : s.cd = false ∨ s.qc = none) : FinC s 10 := by
  intro w P p m lo l H
  obtain ⟨A, C, SA, sc, E, es, ck, h1, h2, h3, h4, h5⟩ := H
  have c19 : w.cell? ⟨P, 19, none⟩ = some (.map (some m)) := rb_cell h1.pb 19
  obtain ⟨v1, l1, _⟩ := look_any (P := P) 65362 h1.mp h2
  obtain ⟨v2, l2, _⟩ := look_any (P := P) 65372 h1.mp h2
  obtain ⟨b1, hb1⟩ : ∃ b, (lookE E 65362 0).isSome = b := ⟨_, rfl⟩
  obtain ⟨b2, hb2⟩ : ∃ b, (lookE E 65372 0).isSome = b := ⟨_, rfl⟩
  have hb : b1 = false ∨ b2 = false := by
    rcases h with h | h
    · exact .inl (by rw [← hb1, h5.c, h])
    · exact .inr (by rw [← hb2, h5.qn h]; rfl)
  rw [hb1] at l1
  rw [hb2] at l2
  clear h1 h2 h3 h4 h5 hb1 hb2 h
  cases b1
  · cases b2 <;> (go_enter Try.func36, Try.ntmps36; go_wp2; go_ret; first | done | exact ⟨rfl, Below.refl _ _⟩ | exact Below.refl _ _)
  · obtain rfl : b2 = false := by simpa using hb
    go_enter Try.func36, Try.ntmps36
    go_wp2
    go_ret
    first | done | exact ⟨rfl, Below.refl _ _⟩ | exact Below.refl _ _
end
end
section
open Go.RowKit
set_option maxRecDepth 100000
theorem Rdb.lst {w : World} {P : Nat} {A : Option Addr} {L : List Int} (h : Rdb w P A L) : Lst w w.heap.size A (L.map (Value.int .u8)) := by
  intro i u hu
  obtain ⟨x, hx, rfl⟩ : ∃ x, L[i]? = some x ∧ Value.int .u8 x = u := by
    rw [List.getElem?_map] at hu
    cases hL : L[i]? with
    | none => rw [hL] at hu; cases hu
    | some x => rw [hL] at hu; exact ⟨x, rfl, by simpa using hu⟩
  obtain ⟨g, o, h1, h2, h3, h4⟩ := h i x hx
  exact ⟨g, o, h1, h3, h4⟩
/-- A Head that a parser holds. -/
@[reducible] def Sa.hv (s : Sa) (A : Option Addr) (C : Nat) (SA : Option Addr) (sc : Nat) : HV := ⟨s.X, s.Y, s.OX, s.OY, A, s.cs.length, C, s.TX, s.TY, s.LV, s.BW, s.BH, s.PR, s.ST, s.OD, s.LY, s.RC, s.SO, s.EP, SA, s.com.length, sc⟩
/-- The Head within a parser. -/
theorem rg18 {w : World} {P p m : Nat} {s : Sa} {A : Option Addr} {C : Nat} {SA : Option Addr} {sc : Nat} (h : w.heap[P]? = some (.cells (s.cells p m A C SA sc) 69 (0, 0))) : w.rangeAt P 1 (s.hv A C SA sc).arr.toList := by
  intro j v hv
  rw [rb_cell h (1 + j)]
  match j, hv with
  | 0, hv => exact hv
  | 1, hv => exact hv
  | 2, hv => exact hv
  | 3, hv => exact hv
  | 4, hv => exact hv
  | 5, hv => exact hv
  | 6, hv => exact hv
  | 7, hv => exact hv
  | 8, hv => exact hv
  | 9, hv => exact hv
  | 10, hv => exact hv
  | 11, hv => exact hv
  | 12, hv => exact hv
  | 13, hv => exact hv
  | 14, hv => exact hv
  | 15, hv => exact hv
  | 16, hv => exact hv
  | 17, hv => exact hv
set_option maxHeartbeats 8000000 in
/-- Coding and quantization stand: as Frame says; with the bits of the bands as they should be. -/
theorem fin_go (s : Sa) (L : List Int) (fr : Int) (k : Nat) (hc : s.cd = true) (hq : s.qc = some L) (hcs : 1 ≤ s.cs.length) (hfr : frameF s.X s.Y s.OX s.OY s.cs s.TX s.TY s.LV s.BW s.BH s.PR s.ST s.OD s.LY s.RC = fr)
    (her : fr ≠ 0 ∨ (fr = 0 ∧ s.LV = (k : Int) ∧ k ≤ 6 ∧ s.cs.length ≤ 4 ∧ s.com.length ≤ 100000 ∧ (∀ c ∈ s.cs, 0 ≤ c.d ∧ c.d ≤ 100) ∧ L = bandsB (if s.RC then 1 else 0) s.cs k)) : FinC s fr := by
  intro w P p m lo l H
  obtain ⟨A, C, SA, sc, E, es, ck, h1, h2, h3, h4, h5⟩ := H
  have c19 : w.cell? ⟨P, 19, none⟩ = some (.map (some m)) := rb_cell h1.pb 19
  obtain ⟨v1, l1, hv1⟩ := look_any (P := P) 65362 h1.mp h2
  obtain ⟨j, A9, cz, g1, g2⟩ := h5.qs L hq
  obtain ⟨v2, l2, hv2⟩ := look_any (P := P) 65372 h1.mp h2
  obtain rfl := hv2 _ _ g1
  rw [h5.c, hc] at l1
  rw [g1] at l2
  have hl2 : (Option.isSome (some (j, Value.slice A9 L.length cz))) = true := rfl
  rw [hl2] at l2
  have hd : Below w.heap.size w w.drew := below_drewN (Below.refl _ _) 1
  have hp2 : w.drew.heap[P]? = some (.cells (s.cells p m A C SA sc) 69 (0, 0)) := h1.pb
  have CF := Lib.hid (frame_any s.X s.Y s.OX s.OY s.TX s.TY s.LV s.BW s.BH s.PR s.ST s.OD s.LY s.RC s.SO s.EP (h3.cpl.below hd).at (h3.cpl.caps hcs))
  rw [hfr] at CF
  have H1 := Lib.hid h1.pb
  have H3 := Lib.hid h3.cpl
  have H4 := Lib.hid h4.lst
  have H9 := Lib.hid g2
  have HE := Lib.hid her
  clear hv1 h1 h2 h3 h4 h5 hc hq hfr g1 g2 hv2 hd her hl2
  obtain ⟨wd, hwd⟩ : ∃ wd, w.drew = wd := ⟨_, rfl⟩
  rw [hwd] at hp2 CF
  have c1 : wd.cell? ⟨P, 1, none⟩ = some (.int .i64 s.X) := rb_cell hp2 1
  have c2 : wd.cell? ⟨P, 2, none⟩ = some (.int .i64 s.Y) := rb_cell hp2 2
  have c3 : wd.cell? ⟨P, 3, none⟩ = some (.int .i64 s.OX) := rb_cell hp2 3
  have c4 : wd.cell? ⟨P, 4, none⟩ = some (.int .i64 s.OY) := rb_cell hp2 4
  have c5 : wd.cell? ⟨P, 5, none⟩ = some (.slice A s.cs.length C) := rb_cell hp2 5
  have c6 : wd.cell? ⟨P, 6, none⟩ = some (.int .i64 s.TX) := rb_cell hp2 6
  have c7 : wd.cell? ⟨P, 7, none⟩ = some (.int .i64 s.TY) := rb_cell hp2 7
  have c8 : wd.cell? ⟨P, 8, none⟩ = some (.int .i64 s.LV) := rb_cell hp2 8
  have c9 : wd.cell? ⟨P, 9, none⟩ = some (.int .i64 s.BW) := rb_cell hp2 9
  have c10 : wd.cell? ⟨P, 10, none⟩ = some (.int .i64 s.BH) := rb_cell hp2 10
  have c11 : wd.cell? ⟨P, 11, none⟩ = some (.int .i64 s.PR) := rb_cell hp2 11
  have c12 : wd.cell? ⟨P, 12, none⟩ = some (.int .i64 s.ST) := rb_cell hp2 12
  have c13 : wd.cell? ⟨P, 13, none⟩ = some (.int .i64 s.OD) := rb_cell hp2 13
  have c14 : wd.cell? ⟨P, 14, none⟩ = some (.int .i64 s.LY) := rb_cell hp2 14
  have c15 : wd.cell? ⟨P, 15, none⟩ = some (.bool s.RC) := rb_cell hp2 15
  have c16 : wd.cell? ⟨P, 16, none⟩ = some (.bool s.SO) := rb_cell hp2 16
  have c17 : wd.cell? ⟨P, 17, none⟩ = some (.bool s.EP) := rb_cell hp2 17
  clear hp2
  have HWD : Hid (Below w.heap.size w wd) := Lib.hid (by rw [← hwd]; exact below_drewN (Below.refl _ _) 1)
  go_enter Try.func36, Try.ntmps36
  go_upto_region 5 with fail
  refine wp_region_still_tail 10 (by kernel_rfl) (by kernel_rfl) ?_
  simp only [List.take_succ_cons, List.take_zero, List.drop_succ_cons, List.drop_zero]
  rw [show ({ w with drawn := w.drawn + 1 } : World) = wd from hwd]
  repeat still_step
  refine wpStill_nil ?_
  change wpList _ _ _ _ _ wd
  clear c1 c2 c3 c4 c5 c6 c7 c8 c9 c10 c11 c12 c13 c14 c15 c16 c17 hwd
  go_wp2_with fail
  refine CF.out.mono ?_
  rintro e w1 ⟨rfl, hb⟩
  have hb1 : Below w.heap.size w w1 := HWD.out.trans (hb.mono HWD.out.size)
  have HB1 := Lib.hid hb1
  clear hb CF HWD l1 l2 c19
  by_cases hfe : fr = 0
  · subst hfe
    obtain ⟨_, e1, e2, e3, e4, e5, e6⟩ := HE.out.resolve_left (by simp)
    have hp1 : w1.heap[P]? = some (.cells (s.cells p m A C SA sc) 69 (0, 0)) := (hb1.block P (blk_lt H1.out)).trans H1.out
    have RG := Lib.hid (rg18 hp1)
    have hok : HdOk w1 (s.hv A C SA sc) s.cs s.com := ⟨H3.out.below hb1, rfl, e3, (H4.out.below hb1).more hb1.size, rfl, e4⟩
    have BA0 := bands_any k hok e5 e1 e2
    rw [show (bandsB (if (s.hv A C SA sc).RC then 1 else 0) s.cs k) = L from e6.symm] at BA0
    obtain ⟨ha, hha⟩ : ∃ ha, (s.hv A C SA sc).arr = ha := ⟨_, rfl⟩
    have hhs : ha.toList.length = 18 := by rw [← hha]; rfl
    rw [hha] at BA0 RG
    have BA := Lib.hid BA0
    clear BA0 hha
    have H9L := Lib.hid (((Lst.own H9.out).below hb1).more hb1.size)
    have hlb := bandsB_len (if s.RC then 1 else 0) s.cs k
    rw [← e6] at hlb
    have HLB : Hid (L.length ≤ 100000) := Lib.hid (by omega)
    clear hlb e2 hok hp1 hb1 e1 e3 e4 e5 e6 HE H1 H3 H4 H9
    go_wp2_with (refine wpList_load_mid rfl 33 _ rfl P 1 rfl ha.toList _ RG.out Try.underlying33 rfl (by rw [hhs]; kernel_rfl) ?_)
    refine BA.out.mono ?_
    rintro e w2 ⟨v, rfl, hy, hb2⟩
    obtain ⟨A5, cy, rfl, _⟩ := By.form hy
    have EQ := Lib.hid (eqb_any A9 A5 cz cy L L w2 ((H9L.out.below hb2).more hb2.size) hy.lst HLB.out HLB.out)
    have HB2 := Lib.hid hb2
    clear hy hb2 BA hhs RG
    go_wp2_with fail
    refine EQ.out.mono ?_
    rintro e w3 ⟨b, rfl, hb, hb3⟩
    obtain rfl : b = true := by simpa using hb
    have HB3 : Hid (Below w.heap.size w w3) := Lib.hid (by
      have h1 := HB1.out.trans (HB2.out.mono HB1.out.size)
      exact h1.trans (hb3.mono h1.size))
    clear hb hb3 EQ
    go_wp2
    go_ret
    first | exact HB3.out | exact ⟨rfl, HB3.out⟩
  · have ce : (fr != 0) = true := by simpa using hfe
    go_wp2
    go_ret
    first | exact HB1.out | exact ⟨rfl, HB1.out⟩
end
end
section
open Go.RowKit
set_option maxRecDepth 100000
/-- What Parse gives where a tile begins. -/
structure FinOut (N : Nat) (s2 : Sa) (l2 : List Int) (fe : Int) (u w' : World) (cs : Array Value) (n' : Int) : Prop where
  size : cs.size = 18
  one : cs.all (·.oneCell') = true
  bel : Below u.heap.size u w'
  no : fe ≠ 0 → n' = 0
  yes : fe = 0 → n' = (N : Int) - (l2.length : Int) - 2 ∧ ∃ (A' : Option Addr) (C' : Nat) (SA : Option Addr) (sc lo : Nat), cs = (s2.hv A' C' SA sc).arr ∧ u.heap.size < lo ∧ CRow lo w' (.slice A' s2.cs.length C') s2.cs ∧ Lst w' w'.heap.size SA (s2.com.map (Value.int .u8))
set_option maxHeartbeats 16000000 in
/-- A tile begins: what finish says; the Head that was read, and where the tile begins. -/
theorem parse_fin (A : Option Addr) (N c n : Nat) (l0 l2 : List Int) (s2 : Sa) (fe : Int) (u : World) (hN : (255 :: 79 :: 255 :: 81 :: l0).length = N) (hAn : A = none → N = 0 ∧ c = 0) (hNb : N ≤ 1000000) (hL : Lst u u.heap.size A ((255 :: 79 :: 255 :: 81 :: l0).map (Value.int .u8))) (hO : Oct (255 :: 79 :: 255 :: 81 :: l0))
    (hrun : Run n Sa.zero 65361 l0 0 s2 l2) (hl2 : l2.length ≤ 1000000) (hf : FinC s2 fe) :
    Calls Try.prog 16 #[.slice A N c] u fun e w' => ∃ (cs : Array Value) (n' : Int), e = .returned (.tuple #[.agg cs, .int .i64 n', .int .i64 fe]) ∧ FinOut N s2 l2 fe u w' cs n' := by
  obtain ⟨Z0, hZ0⟩ : ∃ Z0 : Array Value, #[.int .i64 0, .int .i64 0, .int .i64 0, .int .i64 0, .slice none 0 0, .int .i64 0, .int .i64 0, .int .i64 0, .int .i64 0, .int .i64 0, .int .i64 0, .int .i64 0, .int .i64 0, .int .i64 0, .bool false, .bool false, .bool false, .slice none 0 0] = Z0 := ⟨_, rfl⟩
  have hZ := Lib.hid hZ0
  clear hZ0
  have HO := Lib.hid hO
  have HRUN := Lib.hid hrun
  have hl0 : l0.length + 4 = N := by simpa using hN
  clear hO hrun
  have hmm := @run_makeMap Try.prog
  go_enter Try.func16, Try.ntmps16
  go_wp2_with fail
  have hA : Below u.heap.size u (u.alloc (Obj.cells #[.int .i64 0, .int .i64 0, .int .i64 0, .int .i64 0, .slice none 0 0, .int .i64 0, .int .i64 0, .int .i64 0, .int .i64 0, .int .i64 0, .int .i64 0, .int .i64 0, .int .i64 0, .int .i64 0, .bool false, .bool false, .bool false, .slice none 0 0] 33)) := (Below.refl _ _).alloc (Nat.le_refl _) _
  obtain ⟨U1, hU1⟩ : ∃ U1, u.alloc (Obj.cells #[.int .i64 0, .int .i64 0, .int .i64 0, .int .i64 0, .slice none 0 0, .int .i64 0, .int .i64 0, .int .i64 0, .int .i64 0, .int .i64 0, .int .i64 0, .int .i64 0, .int .i64 0, .int .i64 0, .bool false, .bool false, .bool false, .slice none 0 0] 33) = U1 := ⟨_, rfl⟩
  have hH : U1.heap[u.heap.size]? = some (.cells #[.int .i64 0, .int .i64 0, .int .i64 0, .int .i64 0, .slice none 0 0, .int .i64 0, .int .i64 0, .int .i64 0, .int .i64 0, .int .i64 0, .int .i64 0, .int .i64 0, .int .i64 0, .int .i64 0, .bool false, .bool false, .bool false, .slice none 0 0] 33 (0, 0)) := by rw [← hU1]; exact World.alloc_heap_new u _
  rw [hU1] at hA ⊢
  have HA := Lib.hid hA
  have HH := Lib.hid hH
  have hL1 := (hL.below hA).more hA.size
  clear hU1 hA hH hL
  refine (new_any A N c (255 :: 79 :: 255 :: 81 :: l0) U1 hN hAn hL1 (by omega)).mono ?_
  rintro e w2 ⟨p, rfl, hR, hb⟩
  have HR := Lib.hid hR
  have HB := Lib.hid hb
  have HP : Hid (U1.heap.size ≤ p ∧ p < w2.heap.size) := Lib.hid ⟨hR.1, hR.lt⟩
  have HH2 : Hid (w2.heap[u.heap.size]? = some (.cells #[.int .i64 0, .int .i64 0, .int .i64 0, .int .i64 0, .slice none 0 0, .int .i64 0, .int .i64 0, .int .i64 0, .int .i64 0, .int .i64 0, .int .i64 0, .int .i64 0, .int .i64 0, .int .i64 0, .bool false, .bool false, .bool false, .slice none 0 0] 33 (0, 0))) := Lib.hid ((hb.block _ (blk_lt HH.out)).trans HH.out)
  clear hR hb hL1
  go_upto_region 2 with fail
  have hB3 : Below w2.heap.size w2 ((w2.alloc (Obj.map #[] 0)).alloc (Obj.cells #[.pointer (some ⟨p, 0, none⟩), .int .i64 0, .int .i64 0, .int .i64 0, .int .i64 0, .slice none 0 0, .int .i64 0, .int .i64 0, .int .i64 0, .int .i64 0, .int .i64 0, .int .i64 0, .int .i64 0, .int .i64 0, .int .i64 0, .bool false, .bool false, .bool false, .slice none 0 0, .map (some w2.heap.size)] 69)) := ((Below.refl _ _).alloc (Nat.le_refl _) _).alloc (by unfold World.alloc; simp) _
  have hC3 : ((w2.alloc (Obj.map #[] 0)).alloc (Obj.cells #[.pointer (some ⟨p, 0, none⟩), .int .i64 0, .int .i64 0, .int .i64 0, .int .i64 0, .slice none 0 0, .int .i64 0, .int .i64 0, .int .i64 0, .int .i64 0, .int .i64 0, .int .i64 0, .int .i64 0, .int .i64 0, .int .i64 0, .bool false, .bool false, .bool false, .slice none 0 0, .map (some w2.heap.size)] 69)).heap[w2.heap.size + 1]? = some (.cells #[.pointer (some ⟨p, 0, none⟩), .int .i64 0, .int .i64 0, .int .i64 0, .int .i64 0, .slice none 0 0, .int .i64 0, .int .i64 0, .int .i64 0, .int .i64 0, .int .i64 0, .int .i64 0, .int .i64 0, .int .i64 0, .int .i64 0, .bool false, .bool false, .bool false, .slice none 0 0, .map (some w2.heap.size)] 69 (0, 0)) := by
    have := World.alloc_heap_new (w2.alloc (Obj.map #[] 0)) (Obj.cells #[.pointer (some ⟨p, 0, none⟩), .int .i64 0, .int .i64 0, .int .i64 0, .int .i64 0, .slice none 0 0, .int .i64 0, .int .i64 0, .int .i64 0, .int .i64 0, .int .i64 0, .int .i64 0, .int .i64 0, .int .i64 0, .int .i64 0, .bool false, .bool false, .bool false, .slice none 0 0, .map (some w2.heap.size)] 69)
    rwa [show (w2.alloc (Obj.map #[] 0)).heap.size = w2.heap.size + 1 from by unfold World.alloc; simp] at this
  obtain ⟨w3, hw3⟩ : ∃ w3, (w2.alloc (Obj.map #[] 0)).alloc (Obj.cells #[.pointer (some ⟨p, 0, none⟩), .int .i64 0, .int .i64 0, .int .i64 0, .int .i64 0, .slice none 0 0, .int .i64 0, .int .i64 0, .int .i64 0, .int .i64 0, .int .i64 0, .int .i64 0, .int .i64 0, .int .i64 0, .int .i64 0, .bool false, .bool false, .bool false, .slice none 0 0, .map (some w2.heap.size)] 69) = w3 := ⟨_, rfl⟩
  rw [hw3] at hB3 hC3 ⊢
  have HM3 : Hid (w3.heap[w2.heap.size]? = some (.map #[] 0)) := Lib.hid (by rw [← hw3]; exact (Below.heap_alloc _ _ _ (by unfold World.alloc; simp)).trans (World.alloc_heap_new w2 _))
  clear hw3
  have HC3 := Lib.hid hC3
  have HB3 := Lib.hid hB3
  have HR3 := Lib.hid (HR.out.below hB3 HP.out.2)
  have HH3 := Lib.hid ((hB3.block _ (blk_lt HH2.out)).trans HH2.out)
  clear hB3 hC3
  have hc0 : w3.cell? ⟨w2.heap.size + 1, 0, none⟩ = some (.pointer (some ⟨p, 0, none⟩)) := by rw [rb_cell HC3.out]; rfl
  go_wp2_with fail
  clear hc0
  have GT := Lib.hid (get2 HR3.out HO.out (by simp only [List.length_cons]; omega))
  rw [show (255 : Int) * 256 + 79 = 65359 from rfl] at GT
  refine GT.out.mono ?_
  rintro e w4 ⟨rfl, hR4, hg4⟩
  have HG4 := Lib.hid hg4
  have HR4 := Lib.hid hR4
  have HO4 := Lib.hid HO.out.tl.tl
  have HP4 : Hid (w4.heap[w2.heap.size + 1]? = some (.cells (Sa.zero.cells p w2.heap.size none 0 none 0) 69 (0, 0)) ∧ w4.heap[w2.heap.size]? = some (.map #[] 0)) := Lib.hid (by
    have h1 := HP.out.2
    refine ⟨(hg4.block _ (blk_lt HC3.out) (fun e => by injection e with e; omega)).trans HC3.out, (hg4.block _ (blk_lt HM3.out) (fun e => by injection e with e; omega)).trans HM3.out⟩)
  have HH4 := Lib.hid ((hg4.block _ (blk_lt HH3.out) (by have := HP.out.1; have := blk_lt HH.out; intro e; injection e with e; omega)).trans HH3.out)
  obtain ⟨m, hm⟩ : ∃ k, w2.heap.size = k := ⟨_, rfl⟩
  have HE4 : Hid (Below u.heap.size u w4 ∧ p < m ∧ u.heap.size < U1.heap.size ∧ U1.heap.size ≤ p ∧ m + 1 < w4.heap.size) := Lib.hid (by
    have h1 := HP.out
    have b1 : Below u.heap.size u w2 := HA.out.trans (HB.out.mono HA.out.size)
    have b2 : Below u.heap.size u w3 := b1.trans (HB3.out.mono b1.size)
    have b3 := b2.grown hg4 b2.size (fun k e => by injection e with e; have := HA.out.size; omega)
    exact ⟨b3, by omega, blk_lt HH.out, h1.1, by rw [← hm]; exact blk_lt HP4.out.1⟩)
  clear hg4 hR4 HR HR3 HC3 HB3 HB HH HH2 HH3 HA GT HO HM3
  rw [hm] at HP4 ⊢
  obtain ⟨lo, hlo⟩ : ∃ k, U1.heap.size = k := ⟨_, rfl⟩
  rw [hlo] at HR4 HE4
  clear hm HP hlo
  have c0 := rb_cell HP4.out.1 0
  simp only [List.getElem?_toArray, List.getElem?_cons_succ, List.getElem?_cons_zero] at c0
  have GT := Lib.hid (get2 HR4.out HO4.out (by first | omega | (simp only [List.length_cons]; omega)))
  rw [show (255 : Int) * 256 + 81 = 65361 from rfl] at GT
  go_wp2_with fail
  clear c0
  refine GT.out.mono ?_
  rintro e w5 ⟨rfl, hR5, hg5⟩
  obtain ⟨P, hPm⟩ : ∃ k, m + 1 = k := ⟨_, rfl⟩
  rw [hPm] at HP4 ⊢
  have HPS : Hid (PSt w5 P p m lo l0 Sa.zero) := Lib.hid (by
    have h1 := HE4.out
    refine ⟨none, 0, none, 0, [], #[], 0, ⟨(hg5.block _ (blk_lt HP4.out.1) (fun e => by injection e with e; omega)).trans HP4.out.1, hR5, (hg5.block _ (blk_lt HP4.out.2) (fun e => by injection e with e; omega)).trans HP4.out.2, by omega⟩, rfl, CRow.nil _ _, fun i u hu => by simp [Sa.zero] at hu, ⟨rfl, rfl, fun _ => rfl, fun L hL => by cases hL⟩⟩)
  have HH5 := Lib.hid ((hg5.block _ (blk_lt HH4.out) (fun e => by injection e with e; have := HE4.out; omega)).trans HH4.out)
  have HE5 : Hid (Below u.heap.size u w5 ∧ p < m ∧ m < P ∧ u.heap.size < lo ∧ lo ≤ p) := Lib.hid (by
    have h1 := HE4.out
    exact ⟨h1.1.grown hg5 h1.1.size (fun k e => by injection e with e; omega), h1.2.1, by omega, h1.2.2.1, h1.2.2.2.1⟩)
  clear hR5 hg5 GT HP4 HR4 HH4 HE4 HO4 hPm
  go_wp2_with fail
  have HF := Lib.hid hf
  clear hf
  go_loopg [6] (n + 1) (fun g v wr => ∃ mk : Int, v = .int .i64 mk ∧ Hid ((∃ (s : Sa) (l : List Int) (k : Nat), k + 1 ≤ g ∧ Run k s mk l 0 s2 l2 ∧ PSt wr P p m lo l s) ∧ Below u.heap.size u wr ∧ wr.heap[u.heap.size]? = some (.cells #[.int .i64 0, .int .i64 0, .int .i64 0, .int .i64 0, .slice none 0 0, .int .i64 0, .int .i64 0, .int .i64 0, .int .i64 0, .int .i64 0, .int .i64 0, .int .i64 0, .int .i64 0, .int .i64 0, .bool false, .bool false, .bool false, .slice none 0 0] 33 (0, 0)) ∧ wr.cell? ⟨P, 0, none⟩ = some (.pointer (some ⟨p, 0, none⟩))))
  case atStart => exact ⟨65361, rfl, Lib.hid ⟨⟨Sa.zero, l0, n, by omega, HRUN.out, HPS.out⟩, HE5.out.1, HH5.out, by obtain ⟨A_, C_, SA_, sc_, E_, es_, ck_, h1, _⟩ := HPS.out; exact rb_cell h1.pb 0⟩⟩
  case round =>
    obtain ⟨mk, rfl, HI⟩ := hrel
    obtain ⟨wa, hwa⟩ : ∃ wa, wa = wr := ⟨wr, rfl⟩
    subst hwa
    have hbl : ∀ k ∈ [p, P, m], u.heap.size < k := fun k hk => by have := HE5.out; simp at hk; omega
    have HBL := Lib.hid hbl
    have keepH : ∀ w', Eff [p, P, m] wa w' → Below u.heap.size u w' ∧ w'.heap[u.heap.size]? = some (.cells #[.int .i64 0, .int .i64 0, .int .i64 0, .int .i64 0, .slice none 0 0, .int .i64 0, .int .i64 0, .int .i64 0, .int .i64 0, .int .i64 0, .int .i64 0, .int .i64 0, .int .i64 0, .int .i64 0, .bool false, .bool false, .bool false, .slice none 0 0] 33 (0, 0)) := fun w' he => by
      have h1 := HI.out.2.1
      have h2 := HI.out.2.2.1
      refine ⟨⟨he.os.trans h1.os, he.tape.trans h1.tape, he.output.trans h1.output, Nat.le_trans h1.size he.size, fun k hk => (he.block k (Nat.lt_of_lt_of_le hk h1.size) (fun h3 => by have := HBL.out k h3; omega)).trans (h1.block k hk)⟩, (he.block _ (blk_lt h2) (fun h3 => by have := HBL.out _ h3; omega)).trans h2⟩
    have KH := Lib.hid keepH
    clear hbl keepH
    obtain ⟨s, l, k, hkg, hR, hP⟩ := HI.out.1
    cases hR with
    | sot =>
      have HX : Hid (wa.heap[u.heap.size]? = some (.cells #[.int .i64 0, .int .i64 0, .int .i64 0, .int .i64 0, .slice none 0 0, .int .i64 0, .int .i64 0, .int .i64 0, .int .i64 0, .int .i64 0, .int .i64 0, .int .i64 0, .int .i64 0, .int .i64 0, .bool false, .bool false, .bool false, .slice none 0 0] 33 (0, 0)) ∧ Below u.heap.size u wa) := Lib.hid ⟨HI.out.2.2.1, HI.out.2.1⟩
      have FN := Lib.hid (HF.out wa P p m lo l2 hP)
      obtain ⟨A6, C6, SA6, sc6, E6, es6, ck6, hp1, hp2, hp3, hp4, hp5⟩ := hP
      have c0 := rb_cell hp1.pb 0
      simp only [List.getElem?_toArray, List.getElem?_cons_succ, List.getElem?_cons_zero] at c0
      have LF0 := left_any hp1.rd (by omega)
      rw [if_pos rfl] at LF0
      have LF := Lib.hid LF0
      clear LF0
      have HQ := Lib.hid (And.intro hp1.pb (And.intro hp3 hp4))
      have HPP := Lib.hid HE5.out
      clear hp1 hp2 hp3 hp4 hp5 HI
      go_wp2_with fail
      refine LF.out.mono ?_
      rintro e_ w6 ⟨rfl, rfl⟩
      go_wp2_with fail
      refine FN.out.mono ?_
      rintro e_ w7 ⟨rfl, hb7⟩
      have HB7 := Lib.hid hb7
      have HX7 : Hid (w7.heap[u.heap.size]? = some (.cells #[.int .i64 0, .int .i64 0, .int .i64 0, .int .i64 0, .slice none 0 0, .int .i64 0, .int .i64 0, .int .i64 0, .int .i64 0, .int .i64 0, .int .i64 0, .int .i64 0, .int .i64 0, .int .i64 0, .bool false, .bool false, .bool false, .slice none 0 0] 33 (0, 0)) ∧ Below u.heap.size u w7) := Lib.hid ⟨(hb7.block _ (blk_lt HX.out.1)).trans HX.out.1, HX.out.2.trans (hb7.mono HX.out.2.size)⟩
      have HP7 : Hid (w7.heap[P]? = some (.cells (s2.cells p m A6 C6 SA6 sc6) 69 (0, 0))) := Lib.hid ((hb7.block _ (blk_lt HQ.out.1)).trans HQ.out.1)
      clear hb7 FN LF HX c0
      by_cases hfe : fe = 0
      · subst hfe
        have rg := rg18 HP7.out
        obtain ⟨ha, hha⟩ : ∃ ha, (s2.hv A6 C6 SA6 sc6).arr = ha := ⟨_, rfl⟩
        rw [hha] at rg
        have RG := Lib.hid rg
        clear rg
        have hhs : ha.size = 18 := by rw [← hha]; rfl
        have hho : ha.all (·.oneCell') = true := by rw [← hha]; kernel_rfl
        have HHA := Lib.hid hha
        clear hha
        go_wp2_with (first | refine wpList_load_mid rfl 33 _ rfl P 1 rfl ha.toList _ RG.out Try.underlying33 rfl (by rw [Array.length_toList, hhs]; kernel_rfl) ?_ | refine wpList_store_row rfl 33 _ _ rfl u.heap.size ha rfl rfl 33 #[.int .i64 0, .int .i64 0, .int .i64 0, .int .i64 0, .slice none 0 0, .int .i64 0, .int .i64 0, .int .i64 0, .int .i64 0, .int .i64 0, .int .i64 0, .int .i64 0, .int .i64 0, .int .i64 0, .bool false, .bool false, .bool false, .slice none 0 0] HX7.out.1 (by rw [hhs]; kernel_rfl) (by rw [hhs]; rfl) hho ?_)
        go_wp2_with fail
        obtain ⟨w8, hw8⟩ : ∃ w8, w7.setRow u.heap.size ha = w8 := ⟨_, rfl⟩
        have HZ5 : Hid (w8.heap[u.heap.size]? = some (.cells ha 33 (0, 0)) ∧ Below u.heap.size u w8) := Lib.hid ⟨by rw [← hw8]; exact setRow_heap w7 u.heap.size _ ha _ _ HX7.out.1, by rw [← hw8]; exact below_setRow HX7.out.2 (Nat.le_refl _) _⟩
        have HC8 : Hid (CRow (P + 1) w8 (.slice A6 s2.cs.length C6) s2.cs ∧ Lst w8 w8.heap.size SA6 (s2.com.map (Value.int .u8)) ∧ u.heap.size < P + 1) := Lib.hid (by
          have h1 := HPP.out
          have hsz : w8.heap.size = w7.heap.size := by rw [← hw8]; simp
          have hk : ∀ k, P < k → k < wa.heap.size → w8.heap[k]? = wa.heap[k]? := fun k h2 h3 => by
            rw [← hw8, setRow_other _ _ _ _ (by omega)]
            exact HB7.out.block k h3
          have hs : wa.heap.size ≤ w8.heap.size := by rw [hsz]; exact HB7.out.size
          exact ⟨HQ.out.2.1.keepB hs (fun k h2 h3 => hk k (by omega) h3), (HQ.out.2.2.keep hs hk).lst, by omega⟩)
        rw [hw8]
        clear hw8
        refine bodyPost_ret (v := .tuple #[.agg ha, .int .i64 ((N : Int) - (l2.length : Int) - 2), .int .i64 0]) ?_ rfl ?_
        · have := run_loadVar_row (P := Try.prog) _ u.heap.size 33 33 ha (0, 0) _ HZ5.out.1 Try.underlying33 rfl (by rw [hhs]; kernel_rfl)
          exact res3 (p := 2) (a := 3) (b := 4) rfl rfl rfl rfl this
        exact ⟨ha, _, rfl, ⟨hhs, hho, HZ5.out.2, fun h => absurd rfl h, fun _ => ⟨rfl, A6, C6, SA6, sc6, P + 1, HHA.out.symm, HC8.out.2.2, HC8.out.1, HC8.out.2.1⟩⟩⟩
      · have ce : (fe != 0) = true := by simpa using hfe
        go_wp2_with (refine wpList_store_row rfl 33 _ _ rfl u.heap.size #[.int .i64 0, .int .i64 0, .int .i64 0, .int .i64 0, .slice none 0 0, .int .i64 0, .int .i64 0, .int .i64 0, .int .i64 0, .int .i64 0, .int .i64 0, .int .i64 0, .int .i64 0, .int .i64 0, .bool false, .bool false, .bool false, .slice none 0 0] rfl rfl 33 #[.int .i64 0, .int .i64 0, .int .i64 0, .int .i64 0, .slice none 0 0, .int .i64 0, .int .i64 0, .int .i64 0, .int .i64 0, .int .i64 0, .int .i64 0, .int .i64 0, .int .i64 0, .int .i64 0, .bool false, .bool false, .bool false, .slice none 0 0] HX7.out.1 (by kernel_rfl) rfl (by kernel_rfl) ?_)
        go_wp2_with fail
        have HZ5 : Hid ((w7.setRow u.heap.size #[.int .i64 0, .int .i64 0, .int .i64 0, .int .i64 0, .slice none 0 0, .int .i64 0, .int .i64 0, .int .i64 0, .int .i64 0, .int .i64 0, .int .i64 0, .int .i64 0, .int .i64 0, .int .i64 0, .bool false, .bool false, .bool false, .slice none 0 0]).heap[u.heap.size]? = some (.cells Z0 33 (0, 0)) ∧ Below u.heap.size u (w7.setRow u.heap.size #[.int .i64 0, .int .i64 0, .int .i64 0, .int .i64 0, .slice none 0 0, .int .i64 0, .int .i64 0, .int .i64 0, .int .i64 0, .int .i64 0, .int .i64 0, .int .i64 0, .int .i64 0, .int .i64 0, .bool false, .bool false, .bool false, .slice none 0 0])) := Lib.hid ⟨by rw [← hZ.out]; exact setRow_heap w7 u.heap.size _ #[.int .i64 0, .int .i64 0, .int .i64 0, .int .i64 0, .slice none 0 0, .int .i64 0, .int .i64 0, .int .i64 0, .int .i64 0, .int .i64 0, .int .i64 0, .int .i64 0, .int .i64 0, .int .i64 0, .bool false, .bool false, .bool false, .slice none 0 0] _ _ HX7.out.1, below_setRow HX7.out.2 (Nat.le_refl _) _⟩
        refine bodyPost_ret (v := .tuple #[.agg Z0, .int .i64 0, .int .i64 fe]) ?_ rfl ?_
        · have := run_loadVar_row (P := Try.prog) _ u.heap.size 33 33 Z0 (0, 0) _ HZ5.out.1 Try.underlying33 rfl (by rw [← hZ.out]; kernel_rfl)
          exact res3 (p := 2) (a := 3) (b := 4) rfl rfl rfl rfl this
        exact ⟨Z0, 0, rfl, ⟨by rw [← hZ.out]; rfl, by rw [← hZ.out]; kernel_rfl, HZ5.out.2, fun _ => rfl, fun h => absurd h hfe⟩⟩
    | fail k' _ _ _ _ s' l' hmk he hS => exact absurd rfl he
    | next k' _ s' _ _ a b _ l' _ _ hmk hS hO hl hR' =>
      obtain ⟨g1, rfl⟩ : ∃ g1, gk = g1 + 1 := ⟨gk - 1, by omega⟩
      have CS := Lib.hid (hS wa P p m lo hP)
      have HR2 := Lib.hid hR'
      have HO2 := Lib.hid hO
      clear hS hP HI hR' hO
      go_wp2_with fail
      refine CS.out.mono ?_
      rintro e_ w6 ⟨rfl, hP6, hE⟩
      have HP6 := Lib.hid (hP6 (by first | rfl | trivial))
      have HX := Lib.hid (KH.out w6 hE)
      clear hP6 hE CS
      obtain ⟨A6, C6, SA6, sc6, E6, es6, ck6, hp1, hp2, hp3, hp4, hp5⟩ := HP6.out
      have c0 := rb_cell hp1.pb 0
      simp only [List.getElem?_toArray, List.getElem?_cons_succ, List.getElem?_cons_zero] at c0
      have HQ := Lib.hid (show _ ∧ _ ∧ _ ∧ _ ∧ _ from ⟨hp1, hp2, hp3, hp4, hp5⟩)
      have GT := Lib.hid (get2 hp1.rd HO2.out hl)
      clear hp1 hp2 hp3 hp4 hp5
      go_wp2_with fail
      refine GT.out.mono ?_
      rintro e_ w7 ⟨rfl, hR7, hg7⟩
      have HN : Hid ((∃ (s : Sa) (l : List Int) (k : Nat), k + 1 ≤ g1 ∧ Run k s (a * 256 + b) l 0 s2 l2 ∧ PSt w7 P p m lo l s) ∧ Below u.heap.size u w7 ∧ w7.heap[u.heap.size]? = some (.cells #[.int .i64 0, .int .i64 0, .int .i64 0, .int .i64 0, .slice none 0 0, .int .i64 0, .int .i64 0, .int .i64 0, .int .i64 0, .int .i64 0, .int .i64 0, .int .i64 0, .int .i64 0, .int .i64 0, .bool false, .bool false, .bool false, .slice none 0 0] 33 (0, 0)) ∧ w7.cell? ⟨P, 0, none⟩ = some (.pointer (some ⟨p, 0, none⟩))) := Lib.hid (by
        obtain ⟨q1, q2, q3, q4, q5⟩ := HQ.out
        have hpp := HE5.out
        have hi : ∀ k, P < k → k < w6.heap.size → w7.heap[k]? = w6.heap[k]? := fun k h1 h2 => hg7.block k h2 (fun e => by injection e with e; omega)
        have hps := q1.get hR7 hg7
        refine ⟨⟨s', l', k', by omega, HR2.out, ⟨A6, C6, SA6, sc6, E6, es6, ck6, hps, q2, q3.keepB hg7.size (fun k h1 h2 => hi k (by omega) h2), q4.keep hg7.size hi, q5.keep hg7.size hi⟩⟩, HX.out.1.grown hg7 HX.out.1.size (fun k e => by injection e with e; omega), (hg7.block _ (blk_lt HX.out.2) (fun e => by injection e with e; omega)).trans HX.out.2, rb_cell hps.pb 0⟩)
      clear hR7 hg7 GT c0 HQ HX HP6
      go_wp2
      go_roundg g1
      case measure => omega
      case rel => exact ⟨a * 256 + b, rfl, HN⟩
end
end
section
open Go.RowKit
set_option maxRecDepth 100000
set_option maxHeartbeats 4000000 in
theorem other_way (mk : Int) (V : Value) (w : World) (h : mk = 65363 ∨ mk = 65373 ∨ mk = 65374 ∨ mk = 65375 ∨ mk = 65376 ∨ mk = 65377) :
    Calls Try.prog 65 #[.int .i64 mk, V] w fun e w' => e = .returned (.bool true) ∧ w = w' := by
  rcases h with rfl | rfl | rfl | rfl | rfl | rfl <;> (go_enter Try.func65, Try.ntmps65; go_wp2; go_ret; first | done | exact ⟨rfl, rfl⟩ | rfl)
set_option maxHeartbeats 4000000 in
theorem allows_not (p : Nat) (mk : Int) (w : World) (h : mk = 65359 ∨ mk = 65425 ∨ mk = 65426 ∨ mk = 65427 ∨ mk = 65497) :
    Calls Try.prog 62 #[.pointer (some ⟨p, 0, none⟩), .int .i64 mk] w fun e w' => e = .returned (.bool false) ∧ w = w' := by
  rcases h with rfl | rfl | rfl | rfl | rfl <;> (go_enter Try.func62, Try.ntmps62; go_wp2; go_ret; first | done | exact ⟨rfl, rfl⟩ | rfl)
theorem PSt.grow {w w' : World} {P p m lo : Nat} {l l' : List Int} {s : Sa} {A : Option Addr} {C : Nat} {SA : Option Addr} {sc : Nat} {E : List (Int × Value × Nat)} {es : Array MapEntry} {ck : Nat}
    (h1 : PS w P p m lo l (s.cells p m A C SA sc) es ck) (h2 : es.toList = E.map mkE) (h3 : CRow (P + 1) w (.slice A s.cs.length C) s.cs) (h4 : Rdb w P SA s.com) (h5 : MK w P E s)
    (hp : PS w' P p m lo l' (s.cells p m A C SA sc) es ck) (he : Eff [p] w w') : PSt w' P p m lo l' s := by
  have hps := h1.sep
  have hlow : ∀ k ∈ [p], k ≤ P := fun k hk => by simp at hk; omega
  have hi := he.hi hlow
  exact ⟨A, C, SA, sc, E, es, ck, hp, h2, h3.keepB he.size (fun k q1 q2 => hi k (by omega) q2), h4.keep he.size hi, h5.keep he.size hi⟩
section
variable {w : World} {P p m lo : Nat} {s : Sa} {a b : Int} {tl : List Int}
set_option maxHeartbeats 4000000 in
/-- A segment that is passed over. -/
theorem segS_skip (mk : Int) (ct : List Int) (H : PSt w P p m lo (a :: b :: (ct ++ tl)) s) (hO : Oct (a :: b :: (ct ++ tl))) (hL : a * 256 + b = (ct.length : Int) + 2) (hlen : (ct ++ tl).length ≤ 1000000)
    (hmk : 65280 ≤ mk ∧ mk ≤ 65535) (hna : ¬ (65328 ≤ mk ∧ mk ≤ 65343)) (hal : mk ≠ 65359 ∧ mk ≠ 65425 ∧ mk ≠ 65426 ∧ mk ≠ 65427 ∧ mk ≠ 65497 ∧ mk ≠ 65361 ∧ mk ≠ 65362 ∧ mk ≠ 65372)
    (hno : mk ≠ 65363 ∧ mk ≠ 65373 ∧ mk ≠ 65374 ∧ mk ≠ 65375 ∧ mk ≠ 65376 ∧ mk ≠ 65377) (hnc : mk ≠ 65380) :
    Calls Try.prog 34 #[.pointer (some ⟨P, 0, none⟩), .int .i64 mk] w fun e w' => e = .returned (.int .i64 0) ∧ PSt w' P p m lo tl s ∧ Eff [p, P, m] w w' := by
  obtain ⟨A, C, SA, sc, E, es, ck, h1, h2, h3, h4, h5⟩ := H
  refine (seg_flow P p m lo ck mk a b ct tl es _ _ _ _ _ _ _ _ _ _ _ _ _ _ _ _ _ _ w false (fun A' c' w2 ok w' => ok = true ∧ w' = w2) h1 hO hL hlen hmk hna (allows_yes P mk w hal)
    (fun A' c' w2 ho => other_no mk _ w2 ⟨hno.1, hno.2.1, hno.2.2.1, hno.2.2.2.1, hno.2.2.2.2.1, hno.2.2.2.2.2, hal.2.2.2.2.2.2.1, hal.2.2.2.2.2.2.2⟩)
    (fun _ A' c' w2 hp2 ho => by
      refine (keep_other P mk _ w2 ⟨hal.2.2.2.2.2.1, hal.2.2.2.2.2.2.1, hal.2.2.2.2.2.2.2, hnc⟩).mono ?_
      rintro e w' ⟨rfl, rfl⟩
      exact ⟨true, rfl, rfl, rfl⟩)).mono ?_
  rintro e w' ⟨A', c', w2, hp2, ho2, he2, hh⟩
  rcases hh with ⟨hh, _⟩ | ⟨_, ok, rfl, hok, rfl⟩
  · cases hh
  · subst hok
    exact ⟨rfl, PSt.grow h1 h2 h3 h4 h5 hp2 he2, he2.more (by simp)⟩
set_option maxHeartbeats 4000000 in
/-- A way that is not known here. -/
theorem segS_way (mk : Int) (ct : List Int) (H : PSt w P p m lo (a :: b :: (ct ++ tl)) s) (hO : Oct (a :: b :: (ct ++ tl))) (hL : a * 256 + b = (ct.length : Int) + 2) (hlen : (ct ++ tl).length ≤ 1000000)
    (hmk : mk = 65363 ∨ mk = 65373 ∨ mk = 65374 ∨ mk = 65375 ∨ mk = 65376 ∨ mk = 65377) :
    Calls Try.prog 34 #[.pointer (some ⟨P, 0, none⟩), .int .i64 mk] w fun e w' => e = .returned (.int .i64 13) ∧ Eff [p, P, m] w w' := by
  obtain ⟨A, C, SA, sc, E, es, ck, h1, h2, h3, h4, h5⟩ := H
  refine (seg_flow P p m lo ck mk a b ct tl es _ _ _ _ _ _ _ _ _ _ _ _ _ _ _ _ _ _ w true (fun A' c' w2 ok w' => True) h1 hO hL hlen (by omega) (by omega) (allows_yes P mk w (by omega))
    (fun A' c' w2 ho => other_way mk _ w2 hmk)
    (fun h => by cases h)).mono ?_
  rintro e w' ⟨A', c', w2, hp2, ho2, he2, hh⟩
  rcases hh with ⟨_, rfl, rfl⟩ | ⟨hh, _⟩
  · exact ⟨rfl, he2.more (by simp)⟩
  · cases hh
set_option maxHeartbeats 4000000 in
/-- A remark that is too short. -/
theorem segS_cshort (ct : List Int) (H : PSt w P p m lo (a :: b :: (ct ++ tl)) s) (hO : Oct (a :: b :: (ct ++ tl))) (hL : a * 256 + b = (ct.length : Int) + 2) (hlen : (ct ++ tl).length ≤ 1000000) (hct : ct.length < 2) :
    Calls Try.prog 34 #[.pointer (some ⟨P, 0, none⟩), .int .i64 65380] w fun e w' => e = .returned (.int .i64 10) ∧ Eff [p, P, m] w w' := by
  obtain ⟨A, C, SA, sc, E, es, ck, h1, h2, h3, h4, h5⟩ := H
  refine (seg_flow P p m lo ck 65380 a b ct tl es _ _ _ _ _ _ _ _ _ _ _ _ _ _ _ _ _ _ w false (fun A' c' w2 ok w' => ok = false ∧ w' = w2) h1 hO hL hlen (by decide) (by decide) (allows_yes P 65380 w (by decide))
    (fun A' c' w2 ho => other_no 65380 _ w2 (by decide))
    (fun _ A' c' w2 hp2 ho => by
      refine (keep_cshort P ct.length c' A' w2 hct).mono ?_
      rintro e w' ⟨rfl, rfl⟩
      exact ⟨false, rfl, rfl, rfl⟩)).mono ?_
  rintro e w' ⟨A', c', w2, hp2, ho2, he2, hh⟩
  rcases hh with ⟨hh, _⟩ | ⟨_, ok, rfl, hok, rfl⟩
  · cases hh
  · subst hok
    exact ⟨rfl, he2.more (by simp)⟩
set_option maxHeartbeats 4000000 in
/-- A remark. -/
theorem segS_com (x y : Int) (l : List Int) (H : PSt w P p m lo (a :: b :: ((x :: y :: l) ++ tl)) s) (hO : Oct (a :: b :: ((x :: y :: l) ++ tl))) (hL : a * 256 + b = ((x :: y :: l).length : Int) + 2) (hlen : ((x :: y :: l) ++ tl).length ≤ 1000000) :
    Calls Try.prog 34 #[.pointer (some ⟨P, 0, none⟩), .int .i64 65380] w fun e w' => e = .returned (.int .i64 0) ∧ PSt w' P p m lo tl { s with com := l } ∧ Eff [p, P, m] w w' := by
  obtain ⟨A, C, SA, sc, E, es, ck, h1, h2, h3, h4, h5⟩ := H
  have hps := h1.sep
  refine (seg_flow P p m lo ck 65380 a b (x :: y :: l) tl es _ _ _ _ _ _ _ _ _ _ _ _ _ _ _ _ _ _ w false (fun A' c' w2 ok w' => ok = true ∧ ∃ (SA' : Option Addr) (sc' : Nat), w'.heap[P]? = some (.cells (({ s with com := l } : Sa).cells p m A C SA' sc') 69 (0, 0)) ∧ Rdb w' P SA' l ∧ Eff [P] w2 w') h1 hO hL hlen (by decide) (by decide) (allows_yes P 65380 w (by decide))
    (fun A' c' w2 ho => other_no 65380 _ w2 (by decide))
    (fun _ A' c' w2 hp2 ho => by
      have hown := ho
      rcases ho.2 with h0 | ⟨g, cap, cur, hv, hg, hcur, r⟩
      · exact absurd h0.1 (by intro e; injection e with _ e3; simp at e3)
      · injection hv with hv1 hv2 hv3
        subst hv1
        subst hv3
        obtain ⟨A3, c3, e3, _, hcc, _⟩ := own_any hown
        injection e3 with _ _ e6
        have hcells : ∀ (i : Nat) (u : Int), l[i]? = some u → w2.cell? ⟨g, 2 + i, none⟩ = some (.int .u8 u) := by
          intro i u hu
          obtain ⟨b', o', q1, q2, q3⟩ := (Lst.own hown) (2 + i) (.int .u8 u) (by rw [show 2 + i = i + 1 + 1 by omega]; simpa using hu)
          injection q1 with q1
          injection q1 with q4 q5
          subst q4
          subst q5
          simpa using q3
        have hHC := Lib.hid hcells
        refine (keep_com P g (x :: y :: l).length c' _ _ _ _ _ _ _ _ _ _ _ _ _ _ _ _ _ _ _ _ w2 hp2.pb ⟨by simp, by subst e6; simpa using hcc⟩).mono ?_
        rintro e w' ⟨q, rfl, k1, k2, k3⟩
        refine ⟨true, rfl, rfl, some ⟨g, q, none⟩, c' - 2, k1, ?_, k3⟩
        intro i u hu
        have hl : 1 ≤ l.length := by
          have := (List.getElem?_eq_some_iff.1 hu).1
          omega
        have hq : q = 2 := k2.resolve_left (by simp only [List.length_cons]; omega)
        subst hq
        have hc := hHC.out i u hu
        have hgs : g < w2.heap.size := blk_lt hcur
        refine ⟨g, 2, rfl, by omega, Nat.lt_of_lt_of_le hgs k3.size, ?_⟩
        have hb := k3.block g hgs (by simp; omega)
        rw [← hc]
        simp [World.cell?, hb])).mono ?_
  rintro e w' ⟨A', c', w2, hp2, ho2, he2, hh⟩
  rcases hh with ⟨hh, _⟩ | ⟨_, ok, rfl, hok, SA', sc', k1, k2, k3⟩
  · cases hh
  · subst hok
    have hlow2 : ∀ k ∈ [P], k ≤ P := fun k hk => by simp at hk; omega
    have hsz := he2.size
    have hlow : ∀ k ∈ [p], k ≤ P := fun k hk => by simp at hk; omega
    have hi1 := he2.hi hlow
    have hi2 := k3.hi hlow2
    have hi : ∀ k, P < k → k < w.heap.size → w'.heap[k]? = w.heap[k]? := fun k q1 q2 => (hi2 k q1 (Nat.lt_of_lt_of_le q2 hsz)).trans (hi1 k q1 q2)
    have hs2 : w.heap.size ≤ w'.heap.size := Nat.le_trans hsz k3.size
    have h6 := h5.keep hs2 hi
    have hm2 : w'.heap[m]? = some (.map es ck) := (k3.block m (blk_lt hp2.mp) (by simp; omega)).trans hp2.mp
    exact ⟨rfl, ⟨A, C, SA', sc', E, es, ck, hp2.eff k1 hm2 (k3.more (by simp)), h2, h3.keepB hs2 (fun k q1 q2 => hi k (by omega) q2), k2, ⟨h6.z, h6.c, h6.qn, h6.qs⟩⟩, (he2.more (by simp)).trans (k3.more (by simp))⟩
end
theorem Eff.rfl' {bs : List Nat} (w : World) : Eff bs w w := Eff.of_below (Below.refl _ _)
theorem com_c (x y : Int) (ct R : List Int) (hc : Oct (x :: y :: ct)) (hO : Oct R) (hl : ct.length + R.length ≤ 900000) (hct : ct.length ≤ 60000) (s : Sa) (n : Int) (hn : n = 2 + ((x :: y :: ct).length : Int)) :
    SegC s 65380 (n / 256 % 256 :: n % 256 :: ((x :: y :: ct) ++ R)) 0 { s with com := ct } R := by
  intro w P p m lo hP
  have hn2 : n = ct.length + 4 := by rw [hn]; simp only [List.length_cons]; omega
  refine (segS_com x y ct hP (pair_oct hc hO) (by simp only [List.length_cons]; omega) (by simp only [List.length_append, List.length_cons]; omega)).mono ?_
  rintro e w' ⟨rfl, h1, h2⟩
  exact ⟨rfl, fun _ => h1, h2⟩
theorem cshort_c (ct R : List Int) (hc : Oct ct) (hO : Oct R) (hl : R.length ≤ 900000) (hct : ct.length < 2) (s s' : Sa) (l' : List Int) (n : Int) (hn : n = 2 + (ct.length : Int)) :
    SegC s 65380 (n / 256 % 256 :: n % 256 :: (ct ++ R)) 10 s' l' := by
  intro w P p m lo hP
  refine (segS_cshort ct hP (pair_oct hc hO) (by omega) (by simp only [List.length_append]; omega) hct).mono ?_
  rintro e w' ⟨rfl, h2⟩
  exact ⟨rfl, fun h => absurd h (by decide), h2⟩
theorem skip_c (mk : Int) (ct R : List Int) (hc : Oct ct) (hO : Oct R) (hl : ct.length + R.length ≤ 900000) (hct : ct.length ≤ 60000) (s : Sa) (n : Int) (hn : n = 2 + (ct.length : Int))
    (hmk : 65280 ≤ mk ∧ mk ≤ 65535) (hna : ¬ (65328 ≤ mk ∧ mk ≤ 65343)) (hal : mk ≠ 65359 ∧ mk ≠ 65425 ∧ mk ≠ 65426 ∧ mk ≠ 65427 ∧ mk ≠ 65497 ∧ mk ≠ 65361 ∧ mk ≠ 65362 ∧ mk ≠ 65372)
    (hno : mk ≠ 65363 ∧ mk ≠ 65373 ∧ mk ≠ 65374 ∧ mk ≠ 65375 ∧ mk ≠ 65376 ∧ mk ≠ 65377) (hnc : mk ≠ 65380) :
    SegC s mk (n / 256 % 256 :: n % 256 :: (ct ++ R)) 0 s R := by
  intro w P p m lo hP
  refine (segS_skip mk ct hP (pair_oct hc hO) (by omega) (by simp only [List.length_append]; omega) hmk hna hal hno hnc).mono ?_
  rintro e w' ⟨rfl, h1, h2⟩
  exact ⟨rfl, fun _ => h1, h2⟩
theorem way_c (mk : Int) (ct R : List Int) (hc : Oct ct) (hO : Oct R) (hl : ct.length + R.length ≤ 900000) (hct : ct.length ≤ 60000) (s s' : Sa) (l' : List Int) (n : Int) (hn : n = 2 + (ct.length : Int))
    (hmk : mk = 65363 ∨ mk = 65373 ∨ mk = 65374 ∨ mk = 65375 ∨ mk = 65376 ∨ mk = 65377) :
    SegC s mk (n / 256 % 256 :: n % 256 :: (ct ++ R)) 13 s' l' := by
  intro w P p m lo hP
  refine (segS_way mk ct hP (pair_oct hc hO) (by omega) (by simp only [List.length_append]; omega) hmk).mono ?_
  rintro e w' ⟨rfl, h2⟩
  exact ⟨rfl, fun h => absurd h (by decide), h2⟩
theorem alone_c (mk : Int) (s : Sa) (l : List Int) (hmk : 65328 ≤ mk ∧ mk ≤ 65343) : SegC s mk l 0 s l := by
  intro w P p m lo hP
  refine (seg_alone P mk w hmk).mono ?_
  rintro e w' ⟨rfl, rfl⟩
  exact ⟨rfl, fun _ => hP, Eff.rfl' w⟩
theorem not_c (mk : Int) (s s' : Sa) (l l' : List Int) (hmk : mk = 65359 ∨ mk = 65425 ∨ mk = 65426 ∨ mk = 65427 ∨ mk = 65497) : SegC s mk l 10 s' l' := by
  intro w P p m lo hP
  refine (seg_no P mk w (by omega) (allows_not P mk w hmk)).mono ?_
  rintro e w' ⟨rfl, rfl⟩
  exact ⟨rfl, fun h => absurd h (by decide), Eff.rfl' w⟩
/-- Once more: the size, the coding, the quantization. -/
theorem again_c (mk : Int) (s s' : Sa) (l l' : List Int) (hmk : (mk = 65361 ∧ s.sz = true) ∨ (mk = 65362 ∧ s.cd = true) ∨ (mk = 65372 ∧ s.qc.isSome = true)) : SegC s mk l 10 s' l' := by
  intro w P p m lo hP
  obtain ⟨A, C, SA, sc, E, es, ck, h1, h2, h3, h4, h5⟩ := hP
  have hk : (mk = 65361 ∨ mk = 65362 ∨ mk = 65372) ∧ (lookE E mk 0).isSome = true := by
    rcases hmk with ⟨rfl, h⟩ | ⟨rfl, h⟩ | ⟨rfl, h⟩
    · exact ⟨.inl rfl, h5.z.trans h⟩
    · exact ⟨.inr (.inl rfl), h5.c.trans h⟩
    · refine ⟨.inr (.inr rfl), ?_⟩
      cases hq : s.qc with
      | none => rw [hq] at h; cases h
      | some L =>
        obtain ⟨j, A9, c9, g1, _⟩ := h5.qs L hq
        rw [g1]
        rfl
  obtain ⟨hk1, hk2⟩ := hk
  cases hE : lookE E mk 0 with
  | none => rw [hE] at hk2; cases hk2
  | some r =>
    have hf : Instr.findNow (.int .i64) (.int .i64 mk) es.toList 0 = some (some (r.1, r.2)) := by rw [h2, find_map, hE]
    refine (seg_no P mk w (by omega) (allows_again P m ck r.1 es r.2 mk w hk1 (rb_cell h1.pb 19) h1.mp hf)).mono ?_
    rintro e w' ⟨rfl, rfl⟩
    exact ⟨rfl, fun h => absurd h (by decide), Eff.rfl' w⟩
end
end
section
open Go.RowKit
set_option maxRecDepth 100000
def stripC (c : Cp) : Cp := ⟨c.d, c.sg, c.dx, c.dy, none, 0, 0⟩
theorem strips {cs : List Cp} (h : ∀ c ∈ cs, 1 ≤ c.d ∧ c.d ≤ 100) : (cs.map cpT).map cpOf = cs.map stripC := by
  rw [List.map_map]
  exact List.map_congr_left fun c hc => cpT_cp (h c hc)
theorem bitsF_strip (r : Int) (cs : List Cp) : bitsF r (cs.map stripC) = bitsF r cs := by
  unfold bitsF
  rw [List.foldl_map]
  rfl
theorem bandsB_strip (r : Int) (cs : List Cp) (k : Nat) : bandsB r (cs.map stripC) k = bandsB r cs k := by
  unfold bandsB
  rw [bitsF_strip]
theorem alikeF_strip (cs : List Cp) : alikeF (cs.map stripC) = alikeF cs := by
  match cs with
  | [] => rfl
  | [_] => rfl
  | [_, _] => rfl
  | _ :: _ :: _ :: _ => rfl
theorem compB_strip (cs : List Cp) : (cs.map stripC).all compB = cs.all compB := by
  rw [List.all_map]
  rfl
theorem frameF_strip (x y ox oy : Int) (cs : List Cp) (tx ty lv bw bh pr st od ly : Int) (rct : Bool) :
    frameF x y ox oy (cs.map stripC) tx ty lv bw bh pr st od ly rct = frameF x y ox oy cs tx ty lv bw bh pr st od ly rct := by
  unfold frameF
  rw [List.length_map, compB_strip, alikeF_strip]
/-- What was read is this head. -/
structure Rds (h : HV) (cs : List Cp) (l : List Int) (k : Nat) (s : Sa) : Prop where
  x : s.X = h.X
  y : s.Y = h.Y
  ox : s.OX = h.OX
  oy : s.OY = h.OY
  tx : s.TX = h.TX
  ty : s.TY = h.TY
  lv : s.LV = h.LV
  bw : s.BW = h.BW
  bh : s.BH = h.BH
  pr : s.PR = h.PR
  st : s.ST = h.ST
  od : s.OD = h.OD
  ly : s.LY = h.LY
  rc : s.RC = h.RC
  so : s.SO = h.SO
  ep : s.EP = h.EP
  cl : s.cs = cs.map stripC
  com : s.com = l
  cd : s.cd = true
  qc : s.qc = some (bandsB (if h.RC then 1 else 0) cs k)
/-- What is said behind size, coding, quantization and a remark. -/
def sAll (h : HV) (cs : List Cp) (k pr : Nat) (l : List Int) : Sa := { sCod h k pr (S1 h cs) with qc := some (bandsB (if h.RC then 1 else 0) cs k), com := l }
theorem sAll_rds {h : HV} {cs : List Cp} {k pr : Nat} (H : HOk h cs k pr) (l : List Int) : Rds h cs l k (sAll h cs k pr l) := by
  have hc : (cs.map cpT).map cpOf = cs.map stripC := strips fun c hc => (H.c c hc).1
  have h1 := H.ly
  refine ⟨rfl, rfl, rfl, rfl, rfl, rfl, H.lv.symm, ?_, ?_, H.pr.symm, rfl, rfl, ?_, rfl, rfl, rfl, hc, rfl, rfl, rfl⟩
  · show h.BW - 2 + 2 = h.BW
    omega
  · show h.BH - 2 + 2 = h.BH
    omega
  · show h.LY / 256 % 256 * 256 + h.LY % 256 = h.LY
    omega
theorem Rds.fin {h : HV} {cs : List Cp} {l : List Int} {k pr : Nat} {s : Sa} (R : Rds h cs l k s) (H : HOk h cs k pr) (hcs : 1 ≤ cs.length) (fr : Int) (hf : frameF h.X h.Y h.OX h.OY cs h.TX h.TY h.LV h.BW h.BH h.PR h.ST h.OD h.LY h.RC = fr)
    (hor : fr ≠ 0 ∨ (fr = 0 ∧ cs.length ≤ 4 ∧ l.length ≤ 100000)) : FinC s fr := by
  have hk := H.k5
  refine fin_go s (bandsB (if h.RC then 1 else 0) cs k) fr k R.cd R.qc (by rw [R.cl, List.length_map]; exact hcs) ?_ ?_
  · rw [R.x, R.y, R.ox, R.oy, R.cl, R.tx, R.ty, R.lv, R.bw, R.bh, R.pr, R.st, R.od, R.ly, R.rc, frameF_strip, hf]
  · refine hor.imp (fun h => h) fun h2 => ⟨h2.1, R.lv.trans H.lv, by omega, by rw [R.cl, List.length_map]; exact h2.2.1, by rw [R.com]; exact h2.2.2, fun c hc => ?_, ?_⟩
    · rw [R.cl] at hc
      obtain ⟨c', hc', rfl⟩ := List.mem_map.1 hc
      have := (H.c c' hc').1
      show 0 ≤ c'.d ∧ c'.d ≤ 100
      omega
    · rw [R.rc, R.cl, bandsB_strip]
theorem likeL_strip (cs : List Cp) : likeL (cs.map stripC) cs := by
  refine ⟨List.length_map _, fun i c c' h1 h2 => ?_⟩
  rw [List.getElem?_map, h2] at h1
  injection h1 with h1
  subst h1
  simp [likeC, stripC]
theorem Rds.same {h : HV} {cs : List Cp} {l : List Int} {k : Nat} {s : Sa} (R : Rds h cs l k s) (A : Option Addr) (C : Nat) (SA : Option Addr) (sc : Nat) : (s.hv A C SA sc).same h s.cs cs s.com l := by
  refine ⟨⟨R.x, R.y, R.ox, R.oy⟩, ?_, ⟨R.tx, R.ty, R.lv, R.bw, R.bh, R.pr, R.st, R.od, R.ly, R.rc, R.so, R.ep⟩, R.com⟩
  rw [R.cl]
  exact likeL_strip cs
/-- Size, coding, quantization; then whatever comes. -/
theorem run_three {h : HV} {cs : List Cp} {k pr n : Nat} (H : HOk h cs k pr) (a b e : Int) (R l2 : List Int) (s2 : Sa) (hO : Oct (a :: b :: R)) (hl : R.length ≤ 60000)
    (hR : Run n { sCod h k pr (S1 h cs) with qc := some (bandsB (if h.RC then 1 else 0) cs k) } (a * 256 + b) R e s2 l2) :
    Run (n + 3) Sa.zero 65361 (restS (sizeL h cs) (codH h k) (bandsB (if h.RC then 1 else 0) cs k) (a :: b :: R)) e s2 l2 := by
  have hC : Oct (codH h k) := codL_oct _ _ _ _ _ _ _ _ _ _ _
  have hlen : (codH h k).length = 10 + (k + 1) := codL_len _ _ _ _ _ _ _ _ _ _ _
  have hB : Oct (bandsB (if h.RC then 1 else 0) cs k) := bandsB_oct _ _ _
  have hbl := bandsB_len (if h.RC then 1 else 0) cs k
  have hk := H.k5
  obtain ⟨B, hBe⟩ : ∃ B, bandsB (if h.RC then 1 else 0) cs k = B := ⟨_, rfl⟩
  have hw : B.head?.getD 0 % 32 = 0 := by
    obtain ⟨t, ht⟩ := bandsB_cons (if h.RC then 1 else 0) cs k
    rw [← hBe, ht]
    rfl
  rw [hBe] at hB hbl hR ⊢
  have hl1 := restC_len (codH h k) B (a :: b :: R)
  have hq := restQ_len B (a :: b :: R)
  simp only [List.length_cons] at hl1 hq
  refine Run.next (n + 2) _ _ _ _ 255 82 _ _ _ e (by decide) (siz_c H (restC (codH h k) B (a :: b :: R)) (restC_oct hC hB hO) (by omega) _ rfl _ rfl) (restC_oct hC hB hO) (by have := hl1; unfold restC at this; simp only [List.length_cons] at this ⊢; omega) ?_
  refine Run.next (n + 1) _ _ _ _ 255 92 _ _ _ e (by decide) (cod_c H (restQ B (a :: b :: R)) (restQ_oct hB hO) (by omega) _ rfl _ rfl) (restQ_oct hB hO) (by have := hq; unfold restQ at this; simp only [List.length_cons] at this ⊢; omega) ?_
  exact Run.next n _ _ _ _ a b _ _ _ e (by decide) (qcd_c B (a :: b :: R) hB hO (by simp only [List.length_cons]; omega) _ rfl (by omega) hw _ rfl) hO (by omega) hR
end
end
section
open Go.RowKit
set_option maxRecDepth 100000
/-- A marker that may stand there. -/
def MayC (s : Sa) (mk : Int) : Prop := (mk ≠ 65359 ∧ mk ≠ 65425 ∧ mk ≠ 65426 ∧ mk ≠ 65427 ∧ mk ≠ 65497 ∧ mk ≠ 65361 ∧ mk ≠ 65362 ∧ mk ≠ 65372) ∨ (mk = 65361 ∧ s.sz = false) ∨ (mk = 65362 ∧ s.cd = false) ∨ (mk = 65372 ∧ s.qc = none)
theorem may_any {w : World} {P p m lo ck : Nat} {l : List Int} {s : Sa} {A : Option Addr} {C : Nat} {SA : Option Addr} {sc : Nat} {E : List (Int × Value × Nat)} {es : Array MapEntry} {mk : Int}
    (h1 : PS w P p m lo l (s.cells p m A C SA sc) es ck) (h2 : es.toList = E.map mkE) (h5 : MK w P E s) (h : MayC s mk) :
    Calls Try.prog 62 #[.pointer (some ⟨P, 0, none⟩), .int .i64 mk] w fun e w' => e = .returned (.bool true) ∧ w = w' := by
  rcases h with h | h
  · exact allows_yes P mk w h
  · have hk : (mk = 65361 ∨ mk = 65362 ∨ mk = 65372) ∧ lookE E mk 0 = none := by
      rcases h with ⟨rfl, h⟩ | ⟨rfl, h⟩ | ⟨rfl, h⟩
      · exact ⟨.inl rfl, none_of (h5.z.trans h)⟩
      · exact ⟨.inr (.inl rfl), none_of (h5.c.trans h)⟩
      · exact ⟨.inr (.inr rfl), h5.qn h⟩
    have hf : Instr.findNow (.int .i64) (.int .i64 mk) es.toList 0 = some none := by rw [h2, find_map, hk.2]
    exact allows_new P m ck es mk w hk.1 (rb_cell h1.pb 19) h1.mp hf
/-- No length: bad. -/
theorem short_c (mk : Int) (s s' : Sa) (l l' : List Int) (hl : l.length < 2) (hmk : 65280 ≤ mk ∧ mk ≤ 65535) (hna : ¬ (65328 ≤ mk ∧ mk ≤ 65343)) (hal : MayC s mk) : SegC s mk l 10 s' l' := by
  intro w P p m lo hP
  obtain ⟨A, C, SA, sc, E, es, ck, h1, h2, h3, h4, h5⟩ := hP
  refine (seg_short P p m lo ck mk l es _ _ _ _ _ _ _ _ _ _ _ _ _ _ _ _ _ _ w h1 ⟨hl, by omega⟩ hmk hna (may_any h1 h2 h5 hal)).mono ?_
  rintro e w' ⟨rfl, h6⟩
  exact ⟨rfl, fun h => absurd h (by decide), h6.more (by simp)⟩
/-- Cut within: bad. -/
theorem long_c (mk a b : Int) (s s' : Sa) (l l' : List Int) (hO : Oct (a :: b :: l)) (hl : (l.length : Int) < a * 256 + b - 2) (hb : l.length ≤ 1000000) (hmk : 65280 ≤ mk ∧ mk ≤ 65535) (hna : ¬ (65328 ≤ mk ∧ mk ≤ 65343)) (hal : MayC s mk) : SegC s mk (a :: b :: l) 10 s' l' := by
  intro w P p m lo hP
  obtain ⟨A, C, SA, sc, E, es, ck, h1, h2, h3, h4, h5⟩ := hP
  have ha := hO.hd
  have hb2 := hO.tl.hd
  refine (seg_long P p m lo ck mk a b _ l es _ _ _ _ _ _ _ _ _ _ _ _ _ _ _ _ _ _ w h1 hO rfl ⟨by omega, hl⟩ (by omega) hb hmk hna (may_any h1 h2 h5 hal)).mono ?_
  rintro e w' ⟨rfl, h6⟩
  exact ⟨rfl, fun h => absurd h (by decide), h6.more (by simp)⟩
theorem oct_take {l : List Int} (h : Oct l) (j : Nat) : Oct (l.take j) := fun x hx => h x (List.mem_of_mem_take hx)
/-- Each front of a segment and what stands behind it is bad, if each front of that is. -/
theorem front_seg (s s' : Sa) (mk a b n : Int) (ct r : List Int) (hmk : 65280 ≤ mk ∧ mk ≤ 65535) (hsot : mk ≠ 65424) (hna : ¬ (65328 ≤ mk ∧ mk ≤ 65343)) (hal : MayC s mk) (hO : Oct ct) (hO2 : Oct (a :: b :: r)) (hn : n = 2 + (ct.length : Int)) (hc : ct.length ≤ 60000) (hr : r.length ≤ 60000)
    (hS : ∀ R, Oct R → R.length ≤ 60002 → SegC s mk (n / 256 % 256 :: n % 256 :: (ct ++ R)) 0 s' R)
    (hF : ∀ j, j < r.length → ∃ N s2 l2, Run N s' (a * 256 + b) (r.take j) 10 s2 l2) :
    ∀ j, j < 4 + ct.length + r.length → ∃ N s2 l2, Run N s mk ((n / 256 % 256 :: n % 256 :: (ct ++ a :: b :: r)).take j) 10 s2 l2 := by
  intro j hj
  by_cases h1 : j < 2
  · exact ⟨1, Sa.zero, [], Run.fail 0 _ _ _ 10 _ _ hsot (by decide) (short_c mk s _ _ _ (by rw [List.length_take]; omega) hmk hna hal)⟩
  · obtain ⟨i, rfl⟩ : ∃ i, j = i + 2 := ⟨j - 2, by omega⟩
    rw [List.take_succ_cons, List.take_succ_cons]
    by_cases h2 : i < ct.length
    · refine ⟨1, Sa.zero, [], Run.fail 0 _ _ _ 10 _ _ hsot (by decide) (long_c mk _ _ s _ _ _ ?_ ?_ ?_ hmk hna hal)⟩
      · have h3 := oct_take (hO.app hO2) i
        intro x hx
        rcases List.mem_cons.1 hx with rfl | hx
        · omega
        rcases List.mem_cons.1 hx with rfl | hx
        · omega
        exact h3 x hx
      · rw [List.length_take]
        omega
      · rw [List.length_take]
        omega
    · obtain ⟨q, rfl⟩ : ∃ q, i = ct.length + q := ⟨i - ct.length, by omega⟩
      rw [List.take_append, List.take_of_length_le (by omega), show ct.length + q - ct.length = q by omega]
      have hO3 := oct_take hO2 q
      by_cases h3 : q < 2
      · exact ⟨2, Sa.zero, [], Run.cut 0 _ s' _ _ _ _ _ hsot (hS _ hO3 (by rw [List.length_take]; omega)) (by rw [List.length_take]; omega)⟩
      · obtain ⟨t, rfl⟩ : ∃ t, q = t + 2 := ⟨q - 2, by omega⟩
        rw [List.take_succ_cons, List.take_succ_cons] at hO3 ⊢
        obtain ⟨N, s2, l2, hR⟩ := hF t (by omega)
        exact ⟨N + 1, s2, l2, Run.next N _ s' _ _ a b _ _ _ 10 hsot (hS _ hO3 (by simp only [List.length_cons, List.length_take]; omega)) hO3 (by rw [List.length_take]; omega) hR⟩
set_option maxHeartbeats 16000000 in
/-- Fewer bytes than two markers: bad. -/
theorem parse_tiny (A : Option Addr) (N c : Nat) (l : List Int) (u : World) (hN : l.length = N) (hAn : A = none → N = 0 ∧ c = 0) (hNb : N < 4) (hL : Lst u u.heap.size A (l.map (Value.int .u8))) (hO : Oct l) (hpre : 2 ≤ N → ∃ t, l = 255 :: 79 :: t) :
    Calls Try.prog 16 #[.slice A N c] u fun e w' => ∃ cs : Array Value, e = .returned (.tuple #[.agg cs, .int .i64 0, .int .i64 10]) ∧ cs.size = 18 ∧ cs.all (·.oneCell') = true ∧ Below u.heap.size u w' := by
  obtain ⟨Z0, hZ0⟩ : ∃ Z0 : Array Value, #[.int .i64 0, .int .i64 0, .int .i64 0, .int .i64 0, .slice none 0 0, .int .i64 0, .int .i64 0, .int .i64 0, .int .i64 0, .int .i64 0, .int .i64 0, .int .i64 0, .int .i64 0, .int .i64 0, .bool false, .bool false, .bool false, .slice none 0 0] = Z0 := ⟨_, rfl⟩
  have hZ := Lib.hid hZ0
  clear hZ0
  have HO := Lib.hid hO
  have HPR := Lib.hid hpre
  clear hO hpre
  have hmm := @run_makeMap Try.prog
  go_enter Try.func16, Try.ntmps16
  go_wp2_with fail
  have hA : Below u.heap.size u (u.alloc (Obj.cells #[.int .i64 0, .int .i64 0, .int .i64 0, .int .i64 0, .slice none 0 0, .int .i64 0, .int .i64 0, .int .i64 0, .int .i64 0, .int .i64 0, .int .i64 0, .int .i64 0, .int .i64 0, .int .i64 0, .bool false, .bool false, .bool false, .slice none 0 0] 33)) := (Below.refl _ _).alloc (Nat.le_refl _) _
  obtain ⟨U1, hU1⟩ : ∃ U1, u.alloc (Obj.cells #[.int .i64 0, .int .i64 0, .int .i64 0, .int .i64 0, .slice none 0 0, .int .i64 0, .int .i64 0, .int .i64 0, .int .i64 0, .int .i64 0, .int .i64 0, .int .i64 0, .int .i64 0, .int .i64 0, .bool false, .bool false, .bool false, .slice none 0 0] 33) = U1 := ⟨_, rfl⟩
  have hH : U1.heap[u.heap.size]? = some (.cells #[.int .i64 0, .int .i64 0, .int .i64 0, .int .i64 0, .slice none 0 0, .int .i64 0, .int .i64 0, .int .i64 0, .int .i64 0, .int .i64 0, .int .i64 0, .int .i64 0, .int .i64 0, .int .i64 0, .bool false, .bool false, .bool false, .slice none 0 0] 33 (0, 0)) := by rw [← hU1]; exact World.alloc_heap_new u _
  rw [hU1] at hA ⊢
  have HA := Lib.hid hA
  have HH := Lib.hid hH
  have hL1 := (hL.below hA).more hA.size
  clear hU1 hA hH hL
  refine (new_any A N c l U1 hN hAn hL1 (by omega)).mono ?_
  rintro e w2 ⟨p, rfl, hR, hb⟩
  have HR := Lib.hid hR
  have HB := Lib.hid hb
  have HP : Hid (U1.heap.size ≤ p ∧ p < w2.heap.size) := Lib.hid ⟨hR.1, hR.lt⟩
  have HH2 : Hid (w2.heap[u.heap.size]? = some (.cells #[.int .i64 0, .int .i64 0, .int .i64 0, .int .i64 0, .slice none 0 0, .int .i64 0, .int .i64 0, .int .i64 0, .int .i64 0, .int .i64 0, .int .i64 0, .int .i64 0, .int .i64 0, .int .i64 0, .bool false, .bool false, .bool false, .slice none 0 0] 33 (0, 0))) := Lib.hid ((hb.block _ (blk_lt HH.out)).trans HH.out)
  clear hR hb hL1
  go_upto_region 2 with fail
  have hB3 : Below w2.heap.size w2 ((w2.alloc (Obj.map #[] 0)).alloc (Obj.cells #[.pointer (some ⟨p, 0, none⟩), .int .i64 0, .int .i64 0, .int .i64 0, .int .i64 0, .slice none 0 0, .int .i64 0, .int .i64 0, .int .i64 0, .int .i64 0, .int .i64 0, .int .i64 0, .int .i64 0, .int .i64 0, .int .i64 0, .bool false, .bool false, .bool false, .slice none 0 0, .map (some w2.heap.size)] 69)) := ((Below.refl _ _).alloc (Nat.le_refl _) _).alloc (by unfold World.alloc; simp) _
  have hC3 : ((w2.alloc (Obj.map #[] 0)).alloc (Obj.cells #[.pointer (some ⟨p, 0, none⟩), .int .i64 0, .int .i64 0, .int .i64 0, .int .i64 0, .slice none 0 0, .int .i64 0, .int .i64 0, .int .i64 0, .int .i64 0, .int .i64 0, .int .i64 0, .int .i64 0, .int .i64 0, .int .i64 0, .bool false, .bool false, .bool false, .slice none 0 0, .map (some w2.heap.size)] 69)).heap[w2.heap.size + 1]? = some (.cells #[.pointer (some ⟨p, 0, none⟩), .int .i64 0, .int .i64 0, .int .i64 0, .int .i64 0, .slice none 0 0, .int .i64 0, .int .i64 0, .int .i64 0, .int .i64 0, .int .i64 0, .int .i64 0, .int .i64 0, .int .i64 0, .int .i64 0, .bool false, .bool false, .bool false, .slice none 0 0, .map (some w2.heap.size)] 69 (0, 0)) := by
    have := World.alloc_heap_new (w2.alloc (Obj.map #[] 0)) (Obj.cells #[.pointer (some ⟨p, 0, none⟩), .int .i64 0, .int .i64 0, .int .i64 0, .int .i64 0, .slice none 0 0, .int .i64 0, .int .i64 0, .int .i64 0, .int .i64 0, .int .i64 0, .int .i64 0, .int .i64 0, .int .i64 0, .int .i64 0, .bool false, .bool false, .bool false, .slice none 0 0, .map (some w2.heap.size)] 69)
    rwa [show (w2.alloc (Obj.map #[] 0)).heap.size = w2.heap.size + 1 from by unfold World.alloc; simp] at this
  obtain ⟨w3, hw3⟩ : ∃ w3, (w2.alloc (Obj.map #[] 0)).alloc (Obj.cells #[.pointer (some ⟨p, 0, none⟩), .int .i64 0, .int .i64 0, .int .i64 0, .int .i64 0, .slice none 0 0, .int .i64 0, .int .i64 0, .int .i64 0, .int .i64 0, .int .i64 0, .int .i64 0, .int .i64 0, .int .i64 0, .int .i64 0, .bool false, .bool false, .bool false, .slice none 0 0, .map (some w2.heap.size)] 69) = w3 := ⟨_, rfl⟩
  rw [hw3] at hB3 hC3 ⊢
  have HM3 : Hid (w3.heap[w2.heap.size]? = some (.map #[] 0)) := Lib.hid (by rw [← hw3]; exact (Below.heap_alloc _ _ _ (by unfold World.alloc; simp)).trans (World.alloc_heap_new w2 _))
  clear hw3
  have HC3 := Lib.hid hC3
  have HB3 := Lib.hid hB3
  have HR3 := Lib.hid (HR.out.below hB3 HP.out.2)
  have HH3 := Lib.hid ((hB3.block _ (blk_lt HH2.out)).trans HH2.out)
  clear hB3 hC3
  have hc0 : w3.cell? ⟨w2.heap.size + 1, 0, none⟩ = some (.pointer (some ⟨p, 0, none⟩)) := by rw [rb_cell HC3.out]; rfl
  go_wp2_with fail
  clear hc0
  by_cases h2 : N < 2
  · have GT := Lib.hid (get_no 2 HR3.out (.inr (.inl (by omega))) (by omega))
    refine GT.out.mono ?_
    rintro e w4 ⟨rfl, _, _, hg4⟩
    have HX : Hid (w4.heap[u.heap.size]? = some (.cells #[.int .i64 0, .int .i64 0, .int .i64 0, .int .i64 0, .slice none 0 0, .int .i64 0, .int .i64 0, .int .i64 0, .int .i64 0, .int .i64 0, .int .i64 0, .int .i64 0, .int .i64 0, .int .i64 0, .bool false, .bool false, .bool false, .slice none 0 0] 33 (0, 0)) ∧ Below u.heap.size u w4) := Lib.hid (by
      have h1 := HP.out
      have b1 : Below u.heap.size u w2 := HA.out.trans (HB.out.mono HA.out.size)
      have b2 : Below u.heap.size u w3 := b1.trans (HB3.out.mono b1.size)
      exact ⟨(hg4.block _ (blk_lt HH3.out) (by have := blk_lt HH.out; intro e; injection e with e; omega)).trans HH3.out, b2.grown hg4 b2.size (fun k e => by injection e with e; have := HA.out.size; omega)⟩)
    clear hg4 GT
    go_wp2_with (refine wpList_store_row rfl 33 _ _ rfl u.heap.size #[.int .i64 0, .int .i64 0, .int .i64 0, .int .i64 0, .slice none 0 0, .int .i64 0, .int .i64 0, .int .i64 0, .int .i64 0, .int .i64 0, .int .i64 0, .int .i64 0, .int .i64 0, .int .i64 0, .bool false, .bool false, .bool false, .slice none 0 0] rfl rfl 33 #[.int .i64 0, .int .i64 0, .int .i64 0, .int .i64 0, .slice none 0 0, .int .i64 0, .int .i64 0, .int .i64 0, .int .i64 0, .int .i64 0, .int .i64 0, .int .i64 0, .int .i64 0, .int .i64 0, .bool false, .bool false, .bool false, .slice none 0 0] HX.out.1 (by kernel_rfl) rfl (by kernel_rfl) ?_)
    go_wp2_with fail
    have HZ5 : Hid ((w4.setRow u.heap.size #[.int .i64 0, .int .i64 0, .int .i64 0, .int .i64 0, .slice none 0 0, .int .i64 0, .int .i64 0, .int .i64 0, .int .i64 0, .int .i64 0, .int .i64 0, .int .i64 0, .int .i64 0, .int .i64 0, .bool false, .bool false, .bool false, .slice none 0 0]).heap[u.heap.size]? = some (.cells Z0 33 (0, 0)) ∧ Below u.heap.size u (w4.setRow u.heap.size #[.int .i64 0, .int .i64 0, .int .i64 0, .int .i64 0, .slice none 0 0, .int .i64 0, .int .i64 0, .int .i64 0, .int .i64 0, .int .i64 0, .int .i64 0, .int .i64 0, .int .i64 0, .int .i64 0, .bool false, .bool false, .bool false, .slice none 0 0])) := Lib.hid ⟨by rw [← hZ.out]; exact setRow_heap w4 u.heap.size _ #[.int .i64 0, .int .i64 0, .int .i64 0, .int .i64 0, .slice none 0 0, .int .i64 0, .int .i64 0, .int .i64 0, .int .i64 0, .int .i64 0, .int .i64 0, .int .i64 0, .int .i64 0, .int .i64 0, .bool false, .bool false, .bool false, .slice none 0 0] _ _ HX.out.1, below_setRow HX.out.2 (Nat.le_refl _) _⟩
    refine bodyPost_ret (v := .tuple #[.agg Z0, .int .i64 0, .int .i64 10]) ?_ rfl ?_
    · have := run_loadVar_row (P := Try.prog) _ u.heap.size 33 33 Z0 (0, 0) _ HZ5.out.1 Try.underlying33 rfl (by rw [← hZ.out]; kernel_rfl)
      exact res3 (p := 2) (a := 3) (b := 4) rfl rfl rfl rfl this
    exact ⟨Z0, rfl, by rw [← hZ.out]; rfl, by rw [← hZ.out]; kernel_rfl, HZ5.out.2⟩
  · obtain ⟨t, rfl⟩ := HPR.out (by omega)
    have GT := Lib.hid (get2 HR3.out HO.out (by simp only [List.length_cons] at hN; omega))
    rw [show (255 : Int) * 256 + 79 = 65359 from rfl] at GT
    refine GT.out.mono ?_
    rintro e w4 ⟨rfl, hR4, hg4⟩
    have HG4 := Lib.hid hg4
    have HR4 := Lib.hid hR4
    have HO4 := Lib.hid HO.out.tl.tl
    have HP4 : Hid (w4.heap[w2.heap.size + 1]? = some (.cells (Sa.zero.cells p w2.heap.size none 0 none 0) 69 (0, 0)) ∧ w4.heap[w2.heap.size]? = some (.map #[] 0)) := Lib.hid (by
      have h1 := HP.out.2
      refine ⟨(hg4.block _ (blk_lt HC3.out) (fun e => by injection e with e; omega)).trans HC3.out, (hg4.block _ (blk_lt HM3.out) (fun e => by injection e with e; omega)).trans HM3.out⟩)
    have HH4 := Lib.hid ((hg4.block _ (blk_lt HH3.out) (by have := HP.out.1; have := blk_lt HH.out; intro e; injection e with e; omega)).trans HH3.out)
    obtain ⟨m, hm⟩ : ∃ k, w2.heap.size = k := ⟨_, rfl⟩
    have HE4 : Hid (Below u.heap.size u w4 ∧ p < m ∧ u.heap.size < U1.heap.size ∧ U1.heap.size ≤ p ∧ m + 1 < w4.heap.size) := Lib.hid (by
      have h1 := HP.out
      have b1 : Below u.heap.size u w2 := HA.out.trans (HB.out.mono HA.out.size)
      have b2 : Below u.heap.size u w3 := b1.trans (HB3.out.mono b1.size)
      have b3 := b2.grown hg4 b2.size (fun k e => by injection e with e; have := HA.out.size; omega)
      exact ⟨b3, by omega, blk_lt HH.out, h1.1, by rw [← hm]; exact blk_lt HP4.out.1⟩)
    clear hg4 hR4 HR HR3 HC3 HB3 HB HH HH2 HH3 HA GT HO HM3
    rw [hm] at HP4 ⊢
    obtain ⟨lo, hlo⟩ : ∃ k, U1.heap.size = k := ⟨_, rfl⟩
    rw [hlo] at HR4 HE4
    clear hm HP hlo
    have c0 := rb_cell HP4.out.1 0
    simp only [List.getElem?_toArray, List.getElem?_cons_succ, List.getElem?_cons_zero] at c0
    have GT := Lib.hid (get_no 2 HR4.out (.inr (.inl (by simp only [List.length_cons] at hN; omega))) (by simp only [List.length_cons] at hN; omega))
    go_wp2_with fail
    clear c0
    refine GT.out.mono ?_
    rintro e w5 ⟨rfl, _, _, hg5⟩
    have HX : Hid (w5.heap[u.heap.size]? = some (.cells #[.int .i64 0, .int .i64 0, .int .i64 0, .int .i64 0, .slice none 0 0, .int .i64 0, .int .i64 0, .int .i64 0, .int .i64 0, .int .i64 0, .int .i64 0, .int .i64 0, .int .i64 0, .int .i64 0, .bool false, .bool false, .bool false, .slice none 0 0] 33 (0, 0)) ∧ Below u.heap.size u w5) := Lib.hid (by
      have h1 := HE4.out
      exact ⟨(hg5.block _ (blk_lt HH4.out) (fun e => by injection e with e; omega)).trans HH4.out, h1.1.grown hg5 h1.1.size (fun k e => by injection e with e; omega)⟩)
    clear hg5 GT
    go_wp2_with (refine wpList_store_row rfl 33 _ _ rfl u.heap.size #[.int .i64 0, .int .i64 0, .int .i64 0, .int .i64 0, .slice none 0 0, .int .i64 0, .int .i64 0, .int .i64 0, .int .i64 0, .int .i64 0, .int .i64 0, .int .i64 0, .int .i64 0, .int .i64 0, .bool false, .bool false, .bool false, .slice none 0 0] rfl rfl 33 #[.int .i64 0, .int .i64 0, .int .i64 0, .int .i64 0, .slice none 0 0, .int .i64 0, .int .i64 0, .int .i64 0, .int .i64 0, .int .i64 0, .int .i64 0, .int .i64 0, .int .i64 0, .int .i64 0, .bool false, .bool false, .bool false, .slice none 0 0] HX.out.1 (by kernel_rfl) rfl (by kernel_rfl) ?_)
    go_wp2_with fail
    have HZ5 : Hid ((w5.setRow u.heap.size #[.int .i64 0, .int .i64 0, .int .i64 0, .int .i64 0, .slice none 0 0, .int .i64 0, .int .i64 0, .int .i64 0, .int .i64 0, .int .i64 0, .int .i64 0, .int .i64 0, .int .i64 0, .int .i64 0, .bool false, .bool false, .bool false, .slice none 0 0]).heap[u.heap.size]? = some (.cells Z0 33 (0, 0)) ∧ Below u.heap.size u (w5.setRow u.heap.size #[.int .i64 0, .int .i64 0, .int .i64 0, .int .i64 0, .slice none 0 0, .int .i64 0, .int .i64 0, .int .i64 0, .int .i64 0, .int .i64 0, .int .i64 0, .int .i64 0, .int .i64 0, .int .i64 0, .bool false, .bool false, .bool false, .slice none 0 0])) := Lib.hid ⟨by rw [← hZ.out]; exact setRow_heap w5 u.heap.size _ #[.int .i64 0, .int .i64 0, .int .i64 0, .int .i64 0, .slice none 0 0, .int .i64 0, .int .i64 0, .int .i64 0, .int .i64 0, .int .i64 0, .int .i64 0, .int .i64 0, .int .i64 0, .int .i64 0, .bool false, .bool false, .bool false, .slice none 0 0] _ _ HX.out.1, below_setRow HX.out.2 (Nat.le_refl _) _⟩
    refine bodyPost_ret (v := .tuple #[.agg Z0, .int .i64 0, .int .i64 10]) ?_ rfl ?_
    · have := run_loadVar_row (P := Try.prog) _ u.heap.size 33 33 Z0 (0, 0) _ HZ5.out.1 Try.underlying33 rfl (by rw [← hZ.out]; kernel_rfl)
      exact res3 (p := 2) (a := 3) (b := 4) rfl rfl rfl rfl this
    exact ⟨Z0, rfl, by rw [← hZ.out]; rfl, by rw [← hZ.out]; kernel_rfl, HZ5.out.2⟩
end
end
section
open Go.RowKit
set_option maxRecDepth 100000
theorem row_u8 {w : World} {a : Option Addr} {len cap : Nat} {zs : List Int} (h : IsRow .u8 w a len cap zs) : ∀ x ∈ zs.take len, 0 ≤ x ∧ x ≤ 255 := by
  rcases h with ⟨rfl, rfl, rfl, rfl⟩ | ⟨x, rfl, hl, hm, hz, hc, hw⟩
  · simp
  · intro y hy
    have := hw y (List.mem_of_mem_take hy)
    have hmin : IntKind.u8.min = 0 := rfl
    have hmax : IntKind.u8.max = 255 := rfl
    simp only [Lit.wf, Bool.and_eq_true, decide_eq_true_eq] at this
    omega

theorem Rd.drew {w w' : World} {lo p : Nat} {l : List Int} {err : Int} (h : Rd w lo p l err) (d : Drew w w') : Rd w' lo p l err := by
  obtain ⟨n, rfl⟩ := d
  exact h
theorem end_is {n : Nat} {e : Int} (h : e ≠ 0) : endE n e = e := if_neg (by omega)
/-- A head that the law makes keeps its bounds, and Frame says OK. -/
theorem hok_make (f : FN) {A : Option Addr} {C : Nat} {SA : Option Addr} {sn sc : Nat} {cs : List Cp} (hl : cs.length = mkN f) (hk : ∀ i c, cs[i]? = some c → KeyIs (mkPN f 8).X (mkPN f 8).Y (mkPN f 8).OX (mkPN f 8).OY f.sb (mkDP f) f.sg i c)
    (ht : (1 ≤ (mkPN f 8).TX ∧ (mkPN f 8).TX ≤ 832) ∧ (1 ≤ (mkPN f 8).TY ∧ (mkPN f 8).TY ≤ 832) ∧ cntT (mkPN f 8).X (mkPN f 8).Y (mkPN f 8).TX (mkPN f 8).TY ≤ 6) :
    HOk ((mkPN f 8).hv A (mkN f) C SA sn sc) cs (mkPN f 8).LV (mkPN f 8).PR ∧ (1 ≤ cs.length ∧ cs.length ≤ 4) ∧
      frameF ((mkPN f 8).hv A (mkN f) C SA sn sc).X ((mkPN f 8).hv A (mkN f) C SA sn sc).Y ((mkPN f 8).hv A (mkN f) C SA sn sc).OX ((mkPN f 8).hv A (mkN f) C SA sn sc).OY cs ((mkPN f 8).hv A (mkN f) C SA sn sc).TX ((mkPN f 8).hv A (mkN f) C SA sn sc).TY ((mkPN f 8).hv A (mkN f) C SA sn sc).LV ((mkPN f 8).hv A (mkN f) C SA sn sc).BW ((mkPN f 8).hv A (mkN f) C SA sn sc).BH ((mkPN f 8).hv A (mkN f) C SA sn sc).PR ((mkPN f 8).hv A (mkN f) C SA sn sc).ST ((mkPN f 8).hv A (mkN f) C SA sn sc).OD ((mkPN f 8).hv A (mkN f) C SA sn sc).LY ((mkPN f 8).hv A (mkN f) C SA sn sc).RC = 0 := by
  have hF := frame_ok f hl hk ht
  have hok := mkPN_ok f 8 (by omega)
  have hN : 1 ≤ mkN f ∧ mkN f ≤ 4 := by
    have := within_rng f.nc 4 (by omega)
    unfold mkN
    omega
  have hD : 1 ≤ mkDP f ∧ mkDP f ≤ 10 := by
    have := within_rng f.dp 10 (by omega)
    unfold mkDP
    omega
  refine ⟨?_, by omega, hF⟩
  generalize mkPN f 8 = M at *
  refine ⟨hl, by show mkN f ≤ 5; omega, ?_, ?_, ?_, ?_, ?_, ?_, rfl, hok.lv, ?_, ?_, rfl, ?_, ?_, ?_, ?_, ?_⟩
  all_goals first
    | (have := hok.x; have := hok.y; have := hok.ox; have := hok.oy; have := hok.tx; have := hok.ty; have := hok.bw; have := hok.bh; have := hok.pr; have := hok.st; have := hok.od; have := hok.ly; have := ht; (try simp only); omega)
    | skip
  intro c hc
  obtain ⟨i, hi, rfl⟩ := List.getElem_of_mem hc
  have hk := hk i cs[i] (List.getElem?_eq_getElem hi)
  have hb := cpK_bd (sb := f.sb) i hD
  have h1 := hk.1
  have h2 := hk.2.2.1
  have h3 := hk.2.2.2.1
  omega
/-- What stands behind the quantization: a remark, or none; then a tile. -/
def remL (l more : List Int) : List Int := if l.length = 0 then 255 :: 144 :: more else 255 :: 100 :: (4 + (l.length : Int)) / 256 % 256 :: (4 + (l.length : Int)) % 256 :: ((0 :: 1 :: l) ++ 255 :: 144 :: more)
theorem remL_is (sn : Nat) (l more : List Int) (hl : l.length = sn) : (if 0 < sn then segL 65380 (fldL 2 [1] ++ l) else []) ++ 255 :: 144 :: more = remL l more := by
  unfold remL
  rw [hl]
  by_cases h : sn = 0
  · rw [if_neg (by omega), if_pos h]
    rfl
  · rw [if_pos (by omega), if_neg h, segL_is 65380 _ 255 100 rfl rfl]
    have e : fldL 2 [1] = [0, 1] := rfl
    rw [e]
    have e2 : (2 : Int) + (([0, 1] ++ l).length : Int) = 4 + (sn : Int) := by simp; omega
    rw [e2]
    rfl
theorem remL_oct {l more : List Int} (h : Oct l) (h2 : Oct more) : Oct (remL l more) := by
  unfold remL
  intro x hx
  split at hx
  · simp only [List.mem_cons] at hx
    rcases hx with rfl | rfl | hx
    · omega
    · omega
    · exact h2 x hx
  · simp only [List.mem_cons, List.mem_append] at hx
    rcases hx with rfl | rfl | rfl | rfl | (rfl | rfl | hx) | rfl | rfl | hx
    any_goals omega
    · exact h x hx
    · exact h2 x hx
theorem remL_len (l more : List Int) : (remL l more).length = (if l.length = 0 then 0 else 6 + l.length) + 2 + more.length := by
  unfold remL
  split
  · simp; omega
  · simp; omega
theorem main_is (h : HV) (cs : List Cp) (l more : List Int) (k : Nat) (hl : l.length = h.sn) : mainL h cs l k ++ 255 :: 144 :: more = 255 :: 79 :: 255 :: 81 :: restS (sizeL h cs) (codH h k) (bandsB (if h.RC then 1 else 0) cs k) (remL l more) := by
  rw [mainL_form, remL_is h.sn l more hl]
theorem restS_oct {S C B R : List Int} (h : Oct S) (h0 : Oct C) (h1 : Oct B) (h2 : Oct R) : Oct (restS S C B R) := pair_oct h (restC_oct h0 h1 h2)
theorem soc_oct {L : List Int} (h : Oct L) : Oct (255 :: 79 :: 255 :: 81 :: L) := fun x hx => by
  rcases List.mem_cons.1 hx with rfl | hx
  · omega
  rcases List.mem_cons.1 hx with rfl | hx
  · omega
  rcases List.mem_cons.1 hx with rfl | hx
  · omega
  rcases List.mem_cons.1 hx with rfl | hx
  · omega
  exact h x hx
theorem main_oct (h : HV) (cs : List Cp) (k : Nat) {R : List Int} (hR : Oct R) : Oct (255 :: 79 :: 255 :: 81 :: restS (sizeL h cs) (codH h k) (bandsB (if h.RC then 1 else 0) cs k) R) :=
  soc_oct (restS_oct (sizeL_oct _ _) (codL_oct _ _ _ _ _ _ _ _ _ _ _) (bandsB_oct _ _ _) hR)
/-- A whole head is read. -/
theorem run_main {h : HV} {cs : List Cp} {k pr : Nat} (H : HOk h cs k pr) (l more : List Int) (hO : Oct l) (hO2 : Oct more) (hl : l.length ≤ 1000) (hm : more.length ≤ 1000) :
    Run 4 Sa.zero 65361 (restS (sizeL h cs) (codH h k) (bandsB (if h.RC then 1 else 0) cs k) (remL l more)) 0 (sAll h cs k pr l) more := by
  have hO3 := remL_oct hO hO2
  have hlen := remL_len l more
  unfold remL at hO3 hlen ⊢
  by_cases h0 : l.length = 0
  · rw [if_pos h0] at hO3 ⊢
    obtain rfl : l = [] := List.eq_nil_of_length_eq_zero h0
    exact run_three (n := 1) H 255 144 0 more more _ hO3 (by omega) (Run.sot 1 _ more)
  · rw [if_neg h0] at hO3 ⊢
    have hO4 : Oct (255 :: 144 :: more) := fun x hx => hO3 x (by simp only [List.mem_cons, List.mem_append] at hx ⊢; rcases hx with h | h | h <;> simp [h])
    have hO5 : Oct (0 :: 1 :: l) := fun x hx => hO3 x (by simp only [List.mem_cons, List.mem_append] at hx ⊢; rcases hx with h | h | h <;> simp [h])
    refine run_three (n := 1) H 255 100 0 _ more _ hO3 (by simp only [List.length_cons, List.length_append]; omega) ?_
    exact Run.next 0 _ _ _ _ 255 144 _ more more 0 (by decide) (com_c 0 1 l (255 :: 144 :: more) hO5 hO4 (by simp only [List.length_cons]; omega) (by omega) _ _ (by simp only [List.length_cons]; omega)) hO4 (by omega) (Run.sot 0 _ more)
/-- Each front of size, coding, quantization and what stands behind them. -/
theorem fronts_three {h : HV} {cs : List Cp} {k pr : Nat} (H : HOk h cs k pr) (a b : Int) (R : List Int) (hO : Oct (a :: b :: R)) (hl : R.length ≤ 50000)
    (hF : ∀ j, j < R.length → ∃ N s2 l2, Run N { sCod h k pr (S1 h cs) with qc := some (bandsB (if h.RC then 1 else 0) cs k) } (a * 256 + b) (R.take j) 10 s2 l2) :
    ∀ j, j < (restS (sizeL h cs) (codH h k) (bandsB (if h.RC then 1 else 0) cs k) (a :: b :: R)).length → ∃ N s2 l2, Run N Sa.zero 65361 ((restS (sizeL h cs) (codH h k) (bandsB (if h.RC then 1 else 0) cs k) (a :: b :: R)).take j) 10 s2 l2 := by
  have hC : Oct (codH h k) := codL_oct _ _ _ _ _ _ _ _ _ _ _
  have hS : Oct (sizeL h cs) := sizeL_oct _ _
  have hsl := sizeL_len h cs
  have hn4 := H.n4
  have hnn := H.n
  have hlen : (codH h k).length = 10 + (k + 1) := codL_len _ _ _ _ _ _ _ _ _ _ _
  have hB : Oct (bandsB (if h.RC then 1 else 0) cs k) := bandsB_oct _ _ _
  have hbl := bandsB_len (if h.RC then 1 else 0) cs k
  have hk := H.k5
  obtain ⟨B, hBe⟩ : ∃ B, bandsB (if h.RC then 1 else 0) cs k = B := ⟨_, rfl⟩
  have hw : B.head?.getD 0 % 32 = 0 := by
    obtain ⟨t, ht⟩ := bandsB_cons (if h.RC then 1 else 0) cs k
    rw [← hBe, ht]
    rfl
  rw [hBe] at hB hbl hF ⊢
  have F3 := front_seg (sCod h k pr (S1 h cs)) _ 65372 a b _ B R (by decide) (by decide) (by decide) (.inr (.inr (.inr ⟨rfl, rfl⟩))) hB hO rfl (by omega) (by omega) (fun R' h1 h2 => qcd_c B R' hB h1 (by omega) _ rfl (by omega) hw _ rfl) hF
  have hq : ((2 + (B.length : Int)) / 256 % 256 :: (2 + (B.length : Int)) % 256 :: (B ++ a :: b :: R)).length = 4 + B.length + R.length := by simp only [List.length_cons, List.length_append]; omega
  have F2 := front_seg (S1 h cs) _ 65362 255 92 _ (codH h k) _ (by decide) (by decide) (by decide) (.inr (.inr (.inl ⟨rfl, rfl⟩))) hC (restQ_oct hB hO) rfl (by omega) (by rw [hq]; omega) (fun R' h1 h2 => cod_c (pr := pr) H R' h1 (by omega) _ rfl _ rfl) (fun j hj => F3 j (by rw [hq] at hj; exact hj))
  have hq2 : ((2 + ((codH h k).length : Int)) / 256 % 256 :: (2 + ((codH h k).length : Int)) % 256 :: (codH h k ++ restQ B (a :: b :: R))).length = 4 + (codH h k).length + (4 + B.length + R.length) := by
    simp only [List.length_cons, List.length_append, restQ_len]
    omega
  have F1 := front_seg Sa.zero (S1 h cs) 65361 255 82 _ (sizeL h cs) _ (by decide) (by decide) (by decide) (.inr (.inl ⟨rfl, rfl⟩)) hS (restC_oct hC hB hO) rfl (by omega) (by rw [hq2]; omega) (fun R' h1 h2 => siz_c H R' h1 (by omega) _ rfl _ rfl) (fun j hj => F2 j (by rw [hq2] at hj; rw [hq]; exact hj))
  have hq3 : (restS (sizeL h cs) (codH h k) B (a :: b :: R)).length = 4 + (sizeL h cs).length + (4 + (codH h k).length + (4 + B.length + R.length)) := by
    unfold restS
    simp only [List.length_cons, List.length_append, restC_len]
    omega
  intro j hj
  rw [hq3] at hj
  exact F1 j (by rw [hq2]; exact hj)
/-- Each front of a head with a tile's marker behind it. -/
theorem fronts_main {h : HV} {cs : List Cp} {k pr : Nat} (H : HOk h cs k pr) (l : List Int) (hO : Oct l) (hl : l.length ≤ 1000) :
    ∀ j, j < (restS (sizeL h cs) (codH h k) (bandsB (if h.RC then 1 else 0) cs k) (remL l [])).length → ∃ N s2 l2, Run N Sa.zero 65361 ((restS (sizeL h cs) (codH h k) (bandsB (if h.RC then 1 else 0) cs k) (remL l [])).take j) 10 s2 l2 := by
  have hO3 := remL_oct hO (show Oct [] from fun x hx => by cases hx)
  have hlen := remL_len l []
  unfold remL at hO3 hlen ⊢
  by_cases h0 : l.length = 0
  · rw [if_pos h0] at hO3 ⊢
    exact fronts_three (pr := pr) H 255 144 [] hO3 (by simp) (fun j hj => by simp at hj)
  · rw [if_neg h0] at hO3 ⊢
    have hO4 : Oct [255, 144] := fun x hx => hO3 x (by simp only [List.mem_cons, List.mem_append] at hx ⊢; rcases hx with h | h | h <;> simp [h])
    have hO5 : Oct (0 :: 1 :: l) := fun x hx => hO3 x (by simp only [List.mem_cons, List.mem_append] at hx ⊢; rcases hx with h | h | h <;> simp [h])
    have F4 := front_seg { sCod h k pr (S1 h cs) with qc := some (bandsB (if h.RC then 1 else 0) cs k) } _ 65380 255 144 (4 + (l.length : Int)) (0 :: 1 :: l) [] (by decide) (by decide) (by decide) (.inl (by decide)) hO5 hO4 (by simp only [List.length_cons]; omega) (by simp only [List.length_cons]; omega) (by simp) (fun R' h1 h2 => com_c 0 1 l R' hO5 h1 (by omega) (by omega) _ _ (by simp only [List.length_cons]; omega)) (fun j hj => by simp at hj)
    have hq : ((4 + (l.length : Int)) / 256 % 256 :: (4 + (l.length : Int)) % 256 :: ((0 :: 1 :: l) ++ [255, 144])).length = 4 + (0 :: 1 :: l).length + ([] : List Int).length := by simp only [List.length_cons, List.length_append, List.length_nil]; omega
    exact fronts_three (pr := pr) H 255 100 _ hO3 (by rw [hq]; simp only [List.length_cons, List.length_nil]; omega) (fun j hj => F4 j (by rw [hq] at hj; exact hj))
/-- Parse of a front. -/
theorem parse_front {h : HV} {cs : List Cp} {k pr : Nat} (H : HOk h cs k pr) (l : List Int) (hO : Oct l) (hl : l.length = h.sn) (hlm : l.length ≤ 1000) (T : List Int) (hT : mainL h cs l k ++ [255, 144] = T) (j g c : Nat) (hj : j < T.length) (hTl : T.length ≤ 100000) (u : World)
    (hL : Lst u u.heap.size (some ⟨g, 0, none⟩) (T.map (Value.int .u8))) :
    Calls Try.prog 16 #[.slice (some ⟨g, 0, none⟩) j c] u fun e w' => ∃ cs : Array Value, e = .returned (.tuple #[.agg cs, .int .i64 0, .int .i64 10]) ∧ cs.size = 18 ∧ cs.all (·.oneCell') = true ∧ Below u.heap.size u w' := by
  have hT2 := main_is h cs l [] k hl
  rw [hT] at hT2
  have hOT : Oct T := by rw [hT2]; exact main_oct h cs k (remL_oct hO (fun x hx => by cases hx))
  have hL2 : Lst u u.heap.size (some ⟨g, 0, none⟩) ((T.take j).map (Value.int .u8)) := by
    intro i v hv
    refine hL i v ?_
    rw [List.getElem?_map] at hv ⊢
    rw [List.getElem?_take] at hv
    split at hv
    · exact hv
    · cases hv
  have hlt : (T.take j).length = j := by rw [List.length_take]; omega
  by_cases h4 : j < 4
  · refine parse_tiny _ j c (T.take j) u hlt (by simp) h4 hL2 (oct_take hOT j) (fun h2 => ?_)
    obtain ⟨i, rfl⟩ : ∃ i, j = i + 2 := ⟨j - 2, by omega⟩
    rw [hT2]
    exact ⟨_, rfl⟩
  · obtain ⟨i, rfl⟩ : ∃ i, j = i + 4 := ⟨j - 4, by omega⟩
    obtain ⟨N, s2, l2, hR⟩ := fronts_main (pr := pr) H l hO hlm i (by rw [hT2] at hj; simp only [List.length_cons] at hj; omega)
    have e : T.take (i + 4) = 255 :: 79 :: 255 :: 81 :: (restS (sizeL h cs) (codH h k) (bandsB (if h.RC then 1 else 0) cs k) (remL l [])).take i := by rw [hT2]; rfl
    have hO6 := oct_take hOT (i + 4)
    rw [e] at hL2 hlt hO6
    exact parse_err _ (i + 4) c N _ l2 s2 10 u hlt (by simp) (by omega) hL2 hO6 hR (by decide)
end
end Go.Proofs.Ytlbfjaifemnkpaa
