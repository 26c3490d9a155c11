/- marks: MarksTwice walked. -/
import Derived.Test.YtlbfjaifemnkpaaMkRA
import Derived.Test.YtlbfjaifemnkpaaMkSd
import Derived.Laws.Rows
import Derived.Deep.CutRange
import Derived.Deep.CutBlock
import Derived.Deep.LoopGhost
set_option linter.unusedVariables false
set_option linter.unusedSimpArgs false
namespace Go.Proofs.Ytlbfjaifemnkpaa
section
open Go.RowKit
set_option maxRecDepth 100000
theorem run_s {h : HV} {cs : List Cp} {k pr n : Nat} (H : HOk h cs k pr) (a b e : Int) (R l2 : List Int) (s2 : Sa) (hO : Oct (a :: b :: R)) (hl : (a :: b :: R).length ≤ 60000)
    (hR : Run n (S1 h cs) (a * 256 + b) R e s2 l2) :
    Run (n + 1) Sa.zero 65361 ((2 + ((sizeL h cs).length : Int)) / 256 % 256 :: (2 + ((sizeL h cs).length : Int)) % 256 :: (sizeL h cs ++ a :: b :: R)) e s2 l2 :=
  Run.next n _ _ _ _ a b _ _ _ e (by decide) (siz_c H (a :: b :: R) hO (by omega) _ rfl _ rfl) hO (by simp only [List.length_cons] at hl; omega) hR
theorem run_c {h : HV} {cs : List Cp} {k pr n : Nat} (H : HOk h cs k pr) (s : Sa) (hs : s.cd = false) (a b e : Int) (R l2 : List Int) (s2 : Sa) (hO : Oct (a :: b :: R)) (hl : (a :: b :: R).length ≤ 60000)
    (hR : Run n (sCod h k pr s) (a * 256 + b) R e s2 l2) :
    Run (n + 1) s 65362 ((2 + ((codH h k).length : Int)) / 256 % 256 :: (2 + ((codH h k).length : Int)) % 256 :: (codH h k ++ a :: b :: R)) e s2 l2 :=
  Run.next n _ _ _ _ a b _ _ _ e (by decide) (cod_c H (a :: b :: R) hO (by omega) _ hs _ rfl) hO (by simp only [List.length_cons] at hl; omega) hR
theorem run_q {h : HV} {cs : List Cp} {k pr n : Nat} (H : HOk h cs k pr) (s : Sa) (hs : s.qc = none) (a b e : Int) (R l2 : List Int) (s2 : Sa) (hO : Oct (a :: b :: R)) (hl : (a :: b :: R).length ≤ 60000)
    (hR : Run n { s with qc := some (bandsB (if h.RC then 1 else 0) cs k) } (a * 256 + b) R e s2 l2) :
    Run (n + 1) s 65372 ((2 + ((bandsB (if h.RC then 1 else 0) cs k).length : Int)) / 256 % 256 :: (2 + ((bandsB (if h.RC then 1 else 0) cs k).length : Int)) % 256 :: (bandsB (if h.RC then 1 else 0) cs k ++ a :: b :: R)) e s2 l2 := by
  have hB : Oct (bandsB (if h.RC then 1 else 0) cs k) := bandsB_oct _ _ _
  have hbl := bandsB_len (if h.RC then 1 else 0) cs k
  have hk := H.k5
  have hw : (bandsB (if h.RC then 1 else 0) cs k).head?.getD 0 % 32 = 0 := by
    obtain ⟨t, ht⟩ := bandsB_cons (if h.RC then 1 else 0) cs k
    rw [ht]
    rfl
  exact Run.next n _ _ _ _ a b _ _ _ e (by decide) (qcd_c _ (a :: b :: R) hB hO (by omega) _ hs (by omega) hw _ rfl) hO (by simp only [List.length_cons] at hl; omega) hR
def pS (h : HV) (cs : List Cp) : List Int := 255 :: 79 :: 255 :: 81 :: (2 + ((sizeL h cs).length : Int)) / 256 % 256 :: (2 + ((sizeL h cs).length : Int)) % 256 :: sizeL h cs
def pC (h : HV) (k : Nat) : List Int := 255 :: 82 :: (2 + ((codH h k).length : Int)) / 256 % 256 :: (2 + ((codH h k).length : Int)) % 256 :: codH h k
def pQ (h : HV) (cs : List Cp) (k : Nat) : List Int := 255 :: 92 :: (2 + ((bandsB (if h.RC then 1 else 0) cs k).length : Int)) / 256 % 256 :: (2 + ((bandsB (if h.RC then 1 else 0) cs k).length : Int)) % 256 :: bandsB (if h.RC then 1 else 0) cs k
theorem main_parts (h : HV) (cs : List Cp) (l : List Int) (k : Nat) (hs : h.sn = 0) : mainL h cs l k = pS h cs ++ (pC h k ++ pQ h cs k) := by
  have := mainL_form h cs l k []
  have e : (if 0 < h.sn then segL 65380 (fldL 2 [1] ++ l) else []) = [] := by rw [hs]; rfl
  rw [List.append_nil, e] at this
  rw [this]
  unfold restS restC restQ pS pC pQ
  simp
theorem pS_len (h : HV) (cs : List Cp) : (pS h cs).length = 42 + 3 * cs.length := by
  have := sizeL_len h cs
  unfold pS
  simp only [List.length_cons]
  omega
theorem pC_len (h : HV) (k : Nat) : (pC h k).length = 15 + k := by
  have : (codH h k).length = 10 + (k + 1) := codL_len _ _ _ _ _ _ _ _ _ _ _
  unfold pC
  simp only [List.length_cons]
  omega
theorem pQ_len (h : HV) (cs : List Cp) (k : Nat) : (pQ h cs k).length = 6 + 3 * k := by
  have := bandsB_len (if h.RC then 1 else 0) cs k
  unfold pQ
  simp only [List.length_cons]
  omega
theorem pC_oct (h : HV) (k : Nat) {R : List Int} (hR : Oct R) : Oct (pC h k ++ R) := fun x hx => by
  have h1 : Oct (codH h k ++ R) := (codL_oct _ _ _ _ _ _ _ _ _ _ _).app hR
  unfold pC at hx
  simp only [List.cons_append, List.mem_cons] at hx
  rcases hx with rfl | rfl | rfl | rfl | hx
  any_goals omega
  exact h1 x hx
theorem pQ_oct (h : HV) (cs : List Cp) (k : Nat) {R : List Int} (hR : Oct R) : Oct (pQ h cs k ++ R) := fun x hx => by
  have h1 : Oct (bandsB (if h.RC then 1 else 0) cs k ++ R) := (bandsB_oct _ _ _).app hR
  unfold pQ at hx
  simp only [List.cons_append, List.mem_cons] at hx
  rcases hx with rfl | rfl | rfl | rfl | hx
  any_goals omega
  exact h1 x hx
theorem pS_oct (h : HV) (cs : List Cp) {R : List Int} (hR : Oct R) : Oct (pS h cs ++ R) := fun x hx => by
  have h1 : Oct (sizeL h cs ++ R) := (sizeL_oct _ _).app hR
  unfold pS at hx
  simp only [List.cons_append, List.mem_cons] at hx
  rcases hx with rfl | rfl | rfl | rfl | rfl | rfl | hx
  any_goals omega
  exact h1 x hx
/-- The pieces, by which. -/
def selP (h : HV) (cs : List Cp) (k q : Nat) : List (List Int) :=
  match q with
  | 0 => [pS h cs, pQ h cs k, pC h k]
  | 1 => [pS h cs, pC h k]
  | 2 => [pS h cs, pQ h cs k]
  | 3 => [pS h cs, pC h k, pQ h cs k, pC h k]
  | 4 => [pS h cs, pQ h cs k, pC h k, pQ h cs k]
  | _ => [pS h cs]
theorem oct2 : Oct [255, 144] := fun x hx => by simp at hx; omega
/-- What Parse says of them. -/
theorem parse_twice {h : HV} {cs : List Cp} {k pr : Nat} (H : HOk h cs k pr) (hcs : 1 ≤ cs.length ∧ cs.length ≤ 4)
    (hf : frameF h.X h.Y h.OX h.OY cs h.TX h.TY h.LV h.BW h.BH h.PR h.ST h.OD h.LY h.RC = 0) (q : Nat) (hq : q < 6) (A : Option Addr) (N c : Nat) (X : List Int) (hX : (selP h cs k q).flatten ++ [255, 144] = X) (hN : X.length = N) (hA : A = none → N = 0 ∧ c = 0) (u : World)
    (hL : Lst u u.heap.size A (X.map (Value.int .u8))) :
    Calls Try.prog 16 #[.slice A N c] u fun e w' => ∃ (cx : Array Value) (n' er : Int), e = .returned (.tuple #[.agg cx, .int .i64 n', .int .i64 er]) ∧ cx.size = 18 ∧ cx.all (·.oneCell') = true ∧ Below u.heap.size u w' ∧
      (q ≠ 0 → er = 10 ∧ n' = 0) ∧ (q = 0 → er = 0 ∧ n' = (N : Int) - 2 ∧ ∃ (h' : HV) (cs' : List Cp), cx = h'.arr ∧ HdOk w' h' cs' [] ∧ h'.same h cs' cs [] []) := by
  have lS := pS_len h cs
  have lC := pC_len h k
  have lQ := pQ_len h cs k
  have hk := H.k5
  have oC := pC_oct h k oct2
  have oQ := pQ_oct h cs k oct2
  have oCQ := pC_oct h k oQ
  have oQC := pQ_oct h cs k oC
  have oCQC := pC_oct h k oQC
  have oQCQ := pQ_oct h cs k oCQ
  have loC : (pC h k ++ [255, 144]).length ≤ 60000 := by simp only [List.length_append, List.length_cons, List.length_nil]; omega
  have loQ : (pQ h cs k ++ [255, 144]).length ≤ 60000 := by simp only [List.length_append, List.length_cons, List.length_nil]; omega
  have loCQ : (pC h k ++ (pQ h cs k ++ [255, 144])).length ≤ 60000 := by simp only [List.length_append, List.length_cons, List.length_nil]; omega
  have loQC : (pQ h cs k ++ (pC h k ++ [255, 144])).length ≤ 60000 := by simp only [List.length_append, List.length_cons, List.length_nil]; omega
  have loCQC : (pC h k ++ (pQ h cs k ++ (pC h k ++ [255, 144]))).length ≤ 60000 := by simp only [List.length_append, List.length_cons, List.length_nil]; omega
  have loQCQ : (pQ h cs k ++ (pC h k ++ (pQ h cs k ++ [255, 144]))).length ≤ 60000 := by simp only [List.length_append, List.length_cons, List.length_nil]; omega
  have key : ∃ l0, X = 255 :: 79 :: 255 :: 81 :: l0 ∧ Oct X ∧ X.length ≤ 1000 ∧ ((q = 0 ∧ ∃ n s2, Run n Sa.zero 65361 l0 0 s2 [] ∧ Rds h cs [] k s2) ∨ (q ≠ 0 ∧ ((∃ n s2, Run n Sa.zero 65361 l0 0 s2 [] ∧ FinC s2 10) ∨ (∃ n s2 l2, Run n Sa.zero 65361 l0 10 s2 l2)))) := by
    have hsot : ∀ (n : Nat) (s : Sa), Run n s (255 * 256 + 144) [] 0 s [] := fun n s => Run.sot n s []
    match q, hq, hX with
    | 0, _, hX =>
      have e : X = pS h cs ++ (pQ h cs k ++ (pC h k ++ [255, 144])) := by rw [← hX]; simp [selP]
      refine ⟨_, e, by rw [e]; exact pS_oct h cs oQC, by rw [e]; simp only [List.length_append, List.length_cons, List.length_nil]; omega, .inl ⟨rfl, 3, sCod h k pr { S1 h cs with qc := some (bandsB (if h.RC then 1 else 0) cs k) }, ?_, ?_⟩⟩
      · exact run_s (n := 2) H 255 92 0 _ [] _ oQC loQC
          (run_q (n := 1) H _ rfl 255 82 0 _ [] _ oC loC
            (run_c (n := 0) H _ rfl 255 144 0 [] [] _ oct2 (by simp) (hsot 0 _)))
      · have r := sAll_rds H []
        exact ⟨r.x, r.y, r.ox, r.oy, r.tx, r.ty, r.lv, r.bw, r.bh, r.pr, r.st, r.od, r.ly, r.rc, r.so, r.ep, r.cl, r.com, r.cd, r.qc⟩
    | 1, _, hX =>
      have e : X = pS h cs ++ (pC h k ++ [255, 144]) := by rw [← hX]; simp [selP]
      refine ⟨_, e, by rw [e]; exact pS_oct h cs oC, by rw [e]; simp only [List.length_append, List.length_cons, List.length_nil]; omega, .inr ⟨by decide, .inl ⟨2, sCod h k pr (S1 h cs), ?_, fin_bad _ (.inr rfl)⟩⟩⟩
      exact run_s (n := 1) H 255 82 0 _ [] _ oC loC
        (run_c (n := 0) H _ rfl 255 144 0 [] [] _ oct2 (by simp) (hsot 0 _))
    | 2, _, hX =>
      have e : X = pS h cs ++ (pQ h cs k ++ [255, 144]) := by rw [← hX]; simp [selP]
      refine ⟨_, e, by rw [e]; exact pS_oct h cs oQ, by rw [e]; simp only [List.length_append, List.length_cons, List.length_nil]; omega, .inr ⟨by decide, .inl ⟨2, { S1 h cs with qc := some (bandsB (if h.RC then 1 else 0) cs k) }, ?_, fin_bad _ (.inl rfl)⟩⟩⟩
      exact run_s (n := 1) H 255 92 0 _ [] _ oQ loQ
        (run_q (n := 0) H _ rfl 255 144 0 [] [] _ oct2 (by simp) (hsot 0 _))
    | 3, _, hX =>
      have e : X = pS h cs ++ (pC h k ++ (pQ h cs k ++ (pC h k ++ [255, 144]))) := by rw [← hX]; simp [selP]
      refine ⟨_, e, by rw [e]; exact pS_oct h cs oCQC, by rw [e]; simp only [List.length_append, List.length_cons, List.length_nil]; omega, .inr ⟨by decide, .inr ⟨4, Sa.zero, [], ?_⟩⟩⟩
      exact run_s (n := 3) H 255 82 10 _ [] _ oCQC loCQC
        (run_c (n := 2) H _ rfl 255 92 10 _ [] _ oQC loQC
          (run_q (n := 1) H _ rfl 255 82 10 _ [] _ oC loC
            (Run.fail 0 _ _ _ 10 _ _ (by decide) (by decide) (again_c 65362 _ _ _ _ (.inr (.inl ⟨rfl, rfl⟩))))))
    | 4, _, hX =>
      have e : X = pS h cs ++ (pQ h cs k ++ (pC h k ++ (pQ h cs k ++ [255, 144]))) := by rw [← hX]; simp [selP]
      refine ⟨_, e, by rw [e]; exact pS_oct h cs oQCQ, by rw [e]; simp only [List.length_append, List.length_cons, List.length_nil]; omega, .inr ⟨by decide, .inr ⟨4, Sa.zero, [], ?_⟩⟩⟩
      exact run_s (n := 3) H 255 92 10 _ [] _ oQCQ loQCQ
        (run_q (n := 2) H _ rfl 255 82 10 _ [] _ oCQ loCQ
          (run_c (n := 1) H _ rfl 255 92 10 _ [] _ oQ loQ
            (Run.fail 0 _ _ _ 10 _ _ (by decide) (by decide) (again_c 65372 _ _ _ _ (.inr (.inr ⟨rfl, rfl⟩))))))
    | 5, _, hX =>
      have e : X = pS h cs ++ [255, 144] := by rw [← hX]; simp [selP]
      refine ⟨_, e, by rw [e]; exact pS_oct h cs oct2, by rw [e]; simp only [List.length_append, List.length_cons, List.length_nil]; omega, .inr ⟨by decide, .inl ⟨1, S1 h cs, ?_, fin_bad _ (.inl rfl)⟩⟩⟩
      exact run_s (n := 0) H 255 144 0 [] [] _ oct2 (by simp) (hsot 0 _)
  obtain ⟨l0, rfl, hO, hXl, hcase⟩ := key
  rcases hcase with ⟨hq0, n, s2, hR, hr⟩ | ⟨hq0, ⟨n, s2, hR, hfb⟩ | ⟨n, s2, l2, hR⟩⟩
  · refine (parse_fin A N c n l0 [] s2 0 u hN hA (by omega) hL hO hR (by simp) (hr.fin H hcs.1 0 hf (.inr ⟨rfl, hcs.2, by simp⟩))).mono ?_
    rintro e w' ⟨cx, n', rfl, ho⟩
    obtain ⟨y1, A', C', SA, sc, lo, y2, y3, y4, y5⟩ := ho.yes rfl
    refine ⟨cx, n', 0, rfl, ho.size, ho.one, ho.bel, fun h => absurd hq0 h, fun _ => ⟨rfl, by rw [y1]; simp, s2.hv A' C' SA sc, s2.cs, y2, ⟨y4.cpl, rfl, by rw [show (s2.hv A' C' SA sc).N = s2.cs.length from rfl, hr.cl, List.length_map]; exact hcs.2, ?_, ?_, ?_⟩, ?_⟩⟩
    · have := hr.com
      rw [this] at y5
      exact y5
    · show ([] : List Int).length = s2.com.length
      rw [hr.com]
    · show s2.com.length ≤ 100000
      rw [hr.com]
      simp
    · have := hr.same A' C' SA sc
      rw [hr.com] at this
      exact this
  · refine (parse_fin A N c n l0 [] s2 10 u hN hA (by omega) hL hO hR (by simp) hfb).mono ?_
    rintro e w' ⟨cx, n', rfl, ho⟩
    exact ⟨cx, n', 10, rfl, ho.size, ho.one, ho.bel, fun _ => ⟨rfl, ho.no (by decide)⟩, fun h => absurd h hq0⟩
  · refine (parse_err A N c n l0 l2 s2 10 u hN hA (by omega) hL hO hR (by decide)).mono ?_
    rintro e w' ⟨cx, rfl, h1, h2, h3⟩
    exact ⟨cx, 0, 10, rfl, h1, h2, h3, fun _ => ⟨rfl, rfl⟩, fun h => absurd h hq0⟩
end
section
open Go.RowKit
set_option maxRecDepth 100000
attribute [local go_sem ↓] appSem_eq
theorem allocs : ∀ (os : List Obj) (w : World), (os.foldl World.alloc w).heap.size = w.heap.size + os.length ∧ Below w.heap.size w (os.foldl World.alloc w) ∧ ∀ i o, os[i]? = some o → (os.foldl World.alloc w).heap[w.heap.size + i]? = some o
  | [], w => ⟨rfl, Below.refl _ _, fun i o h => by simp at h⟩
  | x :: os, w => by
    obtain ⟨h1, h2, h3⟩ := allocs os (w.alloc x)
    have hz : (w.alloc x).heap.size = w.heap.size + 1 := by unfold World.alloc; simp
    have hb : Below w.heap.size w (w.alloc x) := (Below.refl _ _).alloc (Nat.le_refl _) _
    refine ⟨by rw [List.foldl_cons, h1, hz, List.length_cons]; omega, hb.trans (h2.mono hb.size), fun i o h => ?_⟩
    rw [List.foldl_cons]
    cases i with
    | zero =>
      have hx : x = o := by simpa using h
      subst hx
      have h4 := h2.block w.heap.size (by rw [hz]; omega)
      rw [Nat.add_zero, h4]
      unfold World.alloc
      simp
    | succ i =>
      have h4 := h3 i o (by simpa using h)
      rw [hz] at h4
      rw [show w.heap.size + (i + 1) = w.heap.size + 1 + i by omega]
      exact h4
/-- A piece of bytes that is there. -/
def PieceOk (w : World) (x : Value × List Int) : Prop := ∃ (A : Option Addr) (n c : Nat), x.1 = .slice A n c ∧ A ≠ none ∧ x.2.length = n ∧ Lst w w.heap.size A (x.2.map (Value.int .u8)) ∧ n ≤ 1000
theorem piece_len {ps : List (Value × List Int)} {n : Nat} (h : ∀ y ∈ ps, y.2.length ≤ 1000) (hn : ps.length ≤ n) : ((ps.map (·.2)).flatten).length ≤ n * 1000 := by
  refine Nat.le_trans ?_ (Nat.mul_le_mul_right 1000 hn)
  clear hn
  induction ps with
  | nil => simp
  | cons y ps ih =>
    have h1 := h y List.mem_cons_self
    have h2 := ih fun z hz => h z (List.mem_cons_of_mem _ hz)
    simp only [List.map_cons, List.flatten_cons, List.length_append, List.length_cons]
    omega
set_option maxHeartbeats 16000000 in
theorem walk_marksTwice (f : FN) (A0 : Option Addr) (len0 cap0 : Nat) (z0 : List Int) (a1 : Int) (w : World) (w0 : IsRow .i64 w A0 len0 cap0 z0) (s0 : -9223372036854775808 ≤ f.sb ∧ f.sb ≤ 9223372036854775807) (wf1 : (Lit.int .i64 a1).wf = true) :
    Calls Try.prog 10 #[.agg (f.arr A0 len0 cap0), .int .i64 a1] w fun e w' => e = .returned (.bool true) ∧ Below w.heap.size w w' := by
  have HOKM := Lib.hid (fun (A : Option Addr) (C : Nat) (SA : Option Addr) (sn sc : Nat) (cs : List Cp) h1 h2 h3 => hok_make f (A := A) (C := C) (SA := SA) (sn := sn) (sc := sc) (cs := cs) h1 h2 h3)
  have MH0 := Lib.hid (fun (u : World) A2 C2 cs SA sn sc l h1 h2 h3 h4 h5 h6 h7 => main_hv f (w := u) (A2 := A2) (C2 := C2) (cs := cs) (SA := SA) (sn := sn) (sc := sc) (l := l) h1 h2 h3 h4 h5 h6 h7)
  have HDV := Lib.hid (fun SA sn sc u hu => head_hv f A0 len0 cap0 z0 SA sn sc u hu s0)
  obtain ⟨fc, hfc⟩ : ∃ fc, f.arr A0 len0 cap0 = fc := ⟨_, rfl⟩
  have hfs : fc.size = 21 := by rw [← hfc]; rfl
  rw [hfc] at HDV ⊢
  have HFS := Lib.hid hfs
  clear hfc hfs
  have hok := mkPN_ok f 8 (by omega)
  obtain ⟨M, hM⟩ : ∃ M, mkPN f 8 = M := ⟨_, rfl⟩
  rw [hM] at hok
  have HOK := Lib.hid hok
  clear hok
  obtain ⟨N, hN⟩ : ∃ N, mkN f = N := ⟨_, rfl⟩
  have hNb : 1 ≤ N ∧ N ≤ 4 := by
    have := within_rng f.nc 4 (by omega)
    rw [← hN]
    unfold mkN
    omega
  obtain ⟨DP, hDP⟩ : ∃ D, mkDP f = D := ⟨_, rfl⟩
  have HDP : Hid (1 ≤ DP ∧ DP ≤ 10) := Lib.hid (by
    have := within_rng f.dp 10 (by omega)
    rw [← hDP]
    unfold mkDP
    omega)
  rw [hM, hN, hDP] at HDV MH0 HOKM
  clear hM hN hDP
  go_enter Try.func10, Try.ntmps10
  go_wp2_with fail
  obtain ⟨B0, hB0⟩ : ∃ B, w.heap.size = B := ⟨_, rfl⟩
  obtain ⟨Wf, hWf⟩ : ∃ Wf, w.alloc (Obj.cells fc 24) = Wf := ⟨_, rfl⟩
  have HF0 : Hid (MkW w B0 [(fc, 24)] Wf) := Lib.hid (by
    have h0 : MkW w B0 [] w := ⟨fun i c e => by simp at e, Below.refl _ _, by simp; omega⟩
    have h1 := h0.more (by simp; omega) fc 24
    rw [← hWf]; exact h1)
  rw [hWf, hB0]
  have HBE := Lib.hid hB0
  clear hWf hB0
  refine (known17 _).mono ?_
  rintro e W0 ⟨rfl, hb⟩
  have HF1 := Lib.hid (HF0.out.keep hb)
  clear hb HF0
  obtain ⟨lo, hlo⟩ : ∃ lo, W0.heap.size = lo := ⟨_, rfl⟩
  have HLO : Hid (W0.heap.size = lo ∧ B0 < lo ∧ W0.heap[B0]? = some (.cells fc 24 (0, 0))) := Lib.hid ⟨hlo, by have := HF1.out.sz; simp at this; omega, HF1.out.b 0 _ rfl⟩
  clear hlo
  obtain ⟨Q, hQ⟩ : ∃ Q : List Cp → Prop, Q = fun cs => cs.length = N ∧ (∀ i c, cs[i]? = some c → KeyIs M.X M.Y M.OX M.OY f.sb DP f.sg i c) ∧ ((1 ≤ M.TX ∧ M.TX ≤ 832) ∧ (1 ≤ M.TY ∧ M.TY ≤ 832) ∧ cntT M.X M.Y M.TX M.TY ≤ 6) := ⟨_, rfl⟩
  have HQ := Lib.hid hQ
  have HD : Hid (∀ SA sn sc u, Below lo W0 u → lo ≤ u.heap.size → Calls Try.prog 12 #[.agg fc, .slice SA sn sc] u fun e w' => ∃ (A2 : Option Addr) (C2 : Nat) (cs : List Cp), e = .returned (.agg (M.hv A2 N C2 SA sn sc).arr) ∧ CRow u.heap.size w' (.slice A2 N C2) cs ∧ Q cs ∧ Below u.heap.size u w') := Lib.hid fun SA sn sc u hb hl => by
    refine (HDV.out SA sn sc u (IsRow.below w0 ?_)).mono ?_
    · exact (by rw [HBE.out]; exact HF1.out.bel : Below w.heap.size w W0).trans (hb.mono (by have := HLO.out.2.1; have := HBE.out; omega))
    · rintro e w' ⟨A2, C2, cs, he, hl, hc, hk, hb, htx⟩
      exact ⟨A2, C2, cs, he, hc, by rw [HQ.out]; exact ⟨hl, hk, htx⟩, hb⟩
  clear hQ HDV w0 s0
  go_wp2_with (refine wpList_load_row rfl 24 _ rfl B0 rfl 24 fc (0, 0) _ HLO.out.2.2 Try.underlying24 rfl (by rw [HFS.out]; kernel_rfl) ?_)
  refine (HD.out none 0 0 W0 (by rw [← HLO.out.1]; exact Below.refl _ _) (by rw [HLO.out.1]; exact Nat.le_refl _)).mono ?_
  rintro e W1 ⟨A, C, cs, rfl, hrow, KQ, hb1⟩
  rw [HQ.out] at KQ
  have HK := HOKM.out A C none 0 0 cs KQ.1 KQ.2.1 KQ.2.2
  obtain ⟨hh, hhh⟩ : ∃ hh, M.hv A N C none 0 0 = hh := ⟨_, rfl⟩
  have HKK : Hid (HOk hh cs M.LV M.PR ∧ (1 ≤ cs.length ∧ cs.length ≤ 4) ∧ frameF hh.X hh.Y hh.OX hh.OY cs hh.TX hh.TY hh.LV hh.BW hh.BH hh.PR hh.ST hh.OD hh.LY hh.RC = 0) := Lib.hid (by rw [← hhh]; exact HK)
  have hsn : hh.sn = 0 := by rw [← hhh]
  have hNN : hh.N = N ∧ hh.A = A ∧ hh.C = C ∧ hh.SA = none := by rw [← hhh]; exact ⟨rfl, rfl, rfl, rfl⟩
  obtain ⟨ha, hha⟩ : ∃ ha, hh.arr = ha := ⟨_, rfl⟩
  have hg4 : ha[4]? = some (.slice A N C) := by rw [← hha, ← hhh]; rfl
  have hg7 : ha[7]? = some (.int .i64 (M.LV : Int)) := by rw [← hha, ← hhh]; rfl
  have hhs : ha.size = 18 := by rw [← hha]; rfl
  have hho : ha.all (·.oneCell') = true := by rw [← hha]; kernel_rfl
  have MH1 := Lib.hid (fun (W2 : World) hb => MH0.out W2 A C cs none 0 0 [] KQ.1 hb KQ.2.1 KQ.2.2 Lst.nil rfl (by omega))
  rw [hhh, hha] at MH1 ⊢
  go_upto_region 4 with (refine wpList_store_row rfl 33 _ _ rfl W1.heap.size ha rfl rfl 33 #[.int .i64 0, .int .i64 0, .int .i64 0, .int .i64 0, .slice none 0 0, .int .i64 0, .int .i64 0, .int .i64 0, .int .i64 0, .int .i64 0, .int .i64 0, .int .i64 0, .int .i64 0, .int .i64 0, .bool false, .bool false, .bool false, .slice none 0 0] (World.alloc_heap_new W1 _) (by rw [hhs]; kernel_rfl) (by rw [hhs]; rfl) hho ?_)
  obtain ⟨W2, hW2⟩ : ∃ W2, (W1.alloc (Obj.cells #[.int .i64 0, .int .i64 0, .int .i64 0, .int .i64 0, .slice none 0 0, .int .i64 0, .int .i64 0, .int .i64 0, .int .i64 0, .int .i64 0, .int .i64 0, .int .i64 0, .int .i64 0, .int .i64 0, .bool false, .bool false, .bool false, .slice none 0 0] 33)).setRow W1.heap.size ha = W2 := ⟨_, rfl⟩
  obtain ⟨g, hgg⟩ : ∃ g, W1.heap.size = g := ⟨_, rfl⟩
  have KG : W2.heap[g]? = some (.cells ha 33 (0, 0)) := by rw [← hW2, ← hgg]; exact setRow_heap _ _ _ _ _ _ (World.alloc_heap_new W1 _)
  have KB : Below W1.heap.size W1 W2 := by rw [← hW2]; exact below_setRow ((Below.refl _ _).alloc (Nat.le_refl _) _) (Nat.le_refl _) _
  rw [hW2, hgg]
  clear hW2
  have hcpl : CpL W2 (.slice A N C) cs := hrow.cpl.below KB
  have MH := MH1.out W2 hcpl
  have hpt := main_parts hh cs [] M.LV hsn
  obtain ⟨T, hT⟩ : ∃ X, mainL hh cs [] M.LV = X := ⟨_, rfl⟩
  rw [hT] at MH hpt
  have hlS := pS_len hh cs
  have hlC := pC_len hh M.LV
  have hlQ := pQ_len hh cs M.LV
  rw [KQ.1] at hlS
  have hlv : M.LV ≤ 5 := HOK.out.lv
  have hlT : T.length = 42 + 3 * N + (15 + M.LV + (6 + 3 * M.LV)) := by rw [hpt, List.length_append, List.length_append, hlS, hlC, hlQ]
  have HPT := Lib.hid (And.intro hpt (And.intro hlS hlC))
  have HCP := Lib.hid (And.intro hcpl (And.intro KQ.1 (And.intro hNN (And.intro hsn hha))))
  have HBW : Hid (Below w.heap.size w W2) := Lib.hid (by
    have h0 : Below w.heap.size w W0 := by rw [HBE.out]; exact HF1.out.bel
    have h1 : Below w.heap.size w W1 := h0.trans (hb1.mono h0.size)
    exact h1.trans (KB.mono h1.size))
  have HKG := Lib.hid KG
  clear hT KQ KB hb1 hrow hgg hha hhh HK HD HQ KG hcpl hNN hsn hpt hlS hlC hlQ MH1 MH0 HOKM
  go_wp2_with (refine wpList_load_row rfl 33 _ rfl g rfl 33 ha (0, 0) _ HKG.out Try.underlying33 rfl (by rw [hhs]; kernel_rfl) ?_)
  refine MH.mono ?_
  rintro e W3 ⟨v, rfl, hy, hb3⟩
  obtain ⟨gT, cT, hv, hgl, hgl2, hcc, hcm⟩ := own_form hy (by omega)
  subst hv
  have k4 : W3.cell? ⟨g, 4, none⟩ = some (.slice A N C) := ((hb3.cell (p := ⟨g, 4, none⟩) (blk_lt HKG.out)).trans (rb_cell HKG.out 4)).trans hg4
  have k7 : W3.cell? ⟨g, 7, none⟩ = some (.int .i64 (M.LV : Int)) := ((hb3.cell (p := ⟨g, 7, none⟩) (blk_lt HKG.out)).trans (rb_cell HKG.out 7)).trans hg7
  obtain ⟨LV, hLV⟩ : ∃ v, M.LV = v := ⟨_, rfl⟩
  rw [hLV] at hlv hlT k7
  have HLV := Lib.hid hLV
  obtain ⟨m5, hm5⟩ : ∃ m, T.length = m := ⟨_, rfl⟩
  rw [hm5] at hlT hcc ⊢
  have HM5 := Lib.hid hm5
  have HY3 := Lib.hid hy
  have HB3 := Lib.hid hb3
  have HCM := Lib.hid hcm
  have HLT := Lib.hid hlT
  have hlt2 : 42 + 3 * N + 15 + LV ≤ m5 ∧ m5 ≤ 1000 := by omega
  have hn4 : N ≤ 4 := hNb.2
  clear hlT hm5 hLV hy hb3 hgl hgl2 hg4 hg7 hho MH hcm
  go_upto_region 7 with fail
  clear k4 k7
  obtain ⟨K, hK⟩ : ∃ K : Nat, 42 + 3 * N = K := ⟨_, rfl⟩
  obtain ⟨K2, hK2⟩ : ∃ K2 : Nat, 42 + 3 * N + 15 + LV = K2 := ⟨_, rfl⟩
  rw [show 42 + 3 * (N : Int) + 15 + (LV : Int) = (K2 : Int) by omega, show 42 + 3 * (N : Int) = (K : Int) by omega]
  have HKN : Hid (42 + 3 * N = K ∧ 42 + 3 * N + 15 + LV = K2 ∧ m5 ≤ 1000) := Lib.hid ⟨hK, hK2, by omega⟩
  have hKn : K ≤ K2 ∧ K2 ≤ m5 ∧ m5 ≤ cT := by omega
  have hKi : (0 : Int) ≤ (K : Int) ∧ (K : Int) ≤ (K2 : Int) ∧ (K2 : Int) ≤ (m5 : Int) ∧ (m5 : Int) ≤ (cT : Int) ∧ (K : Int) ≤ (cT : Int) ∧ (K2 : Int) ≤ (cT : Int) ∧ (K : Int) ≤ (m5 : Int) ∧ (0 : Int) ≤ (K2 : Int) := by omega
  have hKc : K < cT ∧ K2 < cT := by have := HLT.out; omega
  have HR0 : Hid (Below W3.heap.size W3 W3) := Lib.hid (Below.refl _ _)
  have hKe : ¬ cT = K ∧ ¬ cT = K2 := by have := HLT.out; omega
  clear hK hK2 hlv hcc
  obtain ⟨VL, hVL⟩ : ∃ VL : Nat → List (Nat × Nat × Value), VL = fun z => [(0, 38, .slice (some ⟨gT, 0, none⟩) m5 cT), (1, 39, .int .i64 (K : Int)), (2, 40, .slice (some ⟨gT, 0, none⟩) K cT), (3, 41, .slice (some ⟨gT, 0, none⟩) m5 cT), (4, 42, .int .i64 (K : Int)), (5, 43, .int .i64 (K2 : Int)), (6, 44, .slice (some ⟨gT, K, none⟩) (K2 - K) (cT - K)), (7, 45, .slice (some ⟨gT, 0, none⟩) m5 cT), (8, 46, .int .i64 (K2 : Int)), (9, 47, .slice (some ⟨gT, K2, none⟩) (m5 - K2) (cT - K2)), (10, 48, .slice (some ⟨z, 0, none⟩) 2 2), (11, 9, .slice (some ⟨gT, 0, none⟩) K cT), (12, 10, .slice (some ⟨gT, K, none⟩) (K2 - K) (cT - K)), (13, 11, .slice (some ⟨gT, K2, none⟩) (m5 - K2) (cT - K2)), (14, 12, .slice (some ⟨z, 0, none⟩) 2 2)] := ⟨_, rfl⟩
  have hok : ∀ z, manyOk 121 (VL z) := fun z => by rw [hVL]; exact okB_ok rfl
  have HVL := Lib.hid hVL
  have hvi : ∀ z, ∀ x ∈ VL z, x.1 < 15 := fun z => by rw [hVL]; exact ltB_ok rfl
  have HOK := Lib.hid hok
  have HVI := Lib.hid hvi
  clear hVL hok hvi
  refine (wpIn_wide (n := 9)).1 (regionIn_many (N := 121) (w := _) VL (fun L z w' => (Below W3.heap.size W3 w' ∧ (L 10 = true → w'.heap[z]? = some (.cells #[.int .u8 255, .int .u8 144] 5 (0, 0)))) ∧ True) [(6, .slice (some ⟨gT, 0, none⟩) m5 cT), (7, .int .i64 (K : Int)), (8, .int .i64 (K2 : Int))] (by kernel_rfl) (by kernel_rfl) rfl (by simp only [List.forall_mem_cons, List.not_mem_nil, false_imp_iff, implies_true, and_true]; exact ⟨rfl, rfl, rfl⟩) HVI.out 0 ?start ?step ?fin)
  case start => exact ⟨⟨HR0.out.drew, fun h => (by cases h)⟩, trivial⟩
  case step =>
    intro gg_ hgN hgF ii_ hii_ L z w' hph hs hu
    obtain ⟨hcm, hph⟩ := hph
    have hF6 := hgF (6, .slice (some ⟨gT, 0, none⟩) m5 cT) (by simp)
    have hF7 := hgF (7, .int .i64 (K : Int)) (by simp)
    have hF8 := hgF (8, .int .i64 (K2 : Int)) (by simp)
    have hL := hu.1
    have hii_ : ii_ < 15 := hii_
    clear hgF
    obtain rfl | rfl | rfl | rfl | rfl | rfl | rfl | rfl | rfl | rfl | rfl | rfl | rfl | rfl | rfl := (by omega : ii_ = 0 ∨ ii_ = 1 ∨ ii_ = 2 ∨ ii_ = 3 ∨ ii_ = 4 ∨ ii_ = 5 ∨ ii_ = 6 ∨ ii_ = 7 ∨ ii_ = 8 ∨ ii_ = 9 ∨ ii_ = 10 ∨ ii_ = 11 ∨ ii_ = 12 ∨ ii_ = 13 ∨ ii_ = 14)
    · skip
      have n14 : L 14 = false := not_yet hL fun h => shut_at hs 14 0 (by kernel_rfl) (h)
      have e6 : (many gg_ L (VL z))[6]?.getD undef = .slice (some ⟨gT, 0, none⟩) m5 cT := many_out3 hgN (HOK.out z) (by rw [HVL.out]; rfl) hF6
      refine opIn_run (v := .slice (some ⟨gT, 0, none⟩) m5 cT) (w' := w') rfl rfl (fun c h => by cases h) (fun _ => trivial) ?_ ⟨z, by exact many_put3 (HOK.out _) (by rw [HVL.out]; rfl) hL, hcm, hph⟩
      go_simp
    · skip
      have n14 : L 14 = false := not_yet hL fun h => shut_at hs 14 1 (by kernel_rfl) (h)
      have e7 : (many gg_ L (VL z))[7]?.getD undef = .int .i64 (K : Int) := many_out3 hgN (HOK.out z) (by rw [HVL.out]; rfl) hF7
      refine opIn_run (v := .int .i64 (K : Int)) (w' := w') rfl rfl (fun c h => by cases h) (fun _ => trivial) ?_ ⟨z, by exact many_put3 (HOK.out _) (by rw [HVL.out]; rfl) hL, hcm, hph⟩
      go_simp
    · skip
      have y0 : L 0 = true := up_at hu 0 (by kernel_rfl)
      have y1 : L 1 = true := up_at hu 1 (by kernel_rfl)
      have n14 : L 14 = false := not_yet hL fun h => shut_at hs 14 2 (by kernel_rfl) (h)
      have e38 : (many gg_ L (VL z))[38]?.getD undef = .slice (some ⟨gT, 0, none⟩) m5 cT := many_eval3 hgN (HOK.out z) (by rw [HVL.out]; rfl) y0
      have e39 : (many gg_ L (VL z))[39]?.getD undef = .int .i64 (K : Int) := many_eval3 hgN (HOK.out z) (by rw [HVL.out]; rfl) y1
      refine opIn_run (v := .slice (some ⟨gT, 0, none⟩) K cT) (w' := w') rfl rfl (fun c h => by cases h) (fun _ => trivial) ?_ ⟨z, by exact many_put3 (HOK.out _) (by rw [HVL.out]; rfl) hL, hcm, trivial⟩
      go_simp
    · skip
      have n14 : L 14 = false := not_yet hL fun h => shut_at hs 14 3 (by kernel_rfl) (h)
      have e6 : (many gg_ L (VL z))[6]?.getD undef = .slice (some ⟨gT, 0, none⟩) m5 cT := many_out3 hgN (HOK.out z) (by rw [HVL.out]; rfl) hF6
      refine opIn_run (v := .slice (some ⟨gT, 0, none⟩) m5 cT) (w' := w') rfl rfl (fun c h => by cases h) (fun _ => trivial) ?_ ⟨z, by exact many_put3 (HOK.out _) (by rw [HVL.out]; rfl) hL, hcm, hph⟩
      go_simp
    · skip
      have n14 : L 14 = false := not_yet hL fun h => shut_at hs 14 4 (by kernel_rfl) (h)
      have e7 : (many gg_ L (VL z))[7]?.getD undef = .int .i64 (K : Int) := many_out3 hgN (HOK.out z) (by rw [HVL.out]; rfl) hF7
      refine opIn_run (v := .int .i64 (K : Int)) (w' := w') rfl rfl (fun c h => by cases h) (fun _ => trivial) ?_ ⟨z, by exact many_put3 (HOK.out _) (by rw [HVL.out]; rfl) hL, hcm, hph⟩
      go_simp
    · skip
      have n14 : L 14 = false := not_yet hL fun h => shut_at hs 14 5 (by kernel_rfl) (h)
      have e8 : (many gg_ L (VL z))[8]?.getD undef = .int .i64 (K2 : Int) := many_out3 hgN (HOK.out z) (by rw [HVL.out]; rfl) hF8
      refine opIn_run (v := .int .i64 (K2 : Int)) (w' := w') rfl rfl (fun c h => by cases h) (fun _ => trivial) ?_ ⟨z, by exact many_put3 (HOK.out _) (by rw [HVL.out]; rfl) hL, hcm, hph⟩
      go_simp
    · skip
      have y3 : L 3 = true := up_at hu 3 (by kernel_rfl)
      have y4 : L 4 = true := up_at hu 4 (by kernel_rfl)
      have y5 : L 5 = true := up_at hu 5 (by kernel_rfl)
      have n14 : L 14 = false := not_yet hL fun h => shut_at hs 14 6 (by kernel_rfl) (h)
      have e41 : (many gg_ L (VL z))[41]?.getD undef = .slice (some ⟨gT, 0, none⟩) m5 cT := many_eval3 hgN (HOK.out z) (by rw [HVL.out]; rfl) y3
      have e42 : (many gg_ L (VL z))[42]?.getD undef = .int .i64 (K : Int) := many_eval3 hgN (HOK.out z) (by rw [HVL.out]; rfl) y4
      have e43 : (many gg_ L (VL z))[43]?.getD undef = .int .i64 (K2 : Int) := many_eval3 hgN (HOK.out z) (by rw [HVL.out]; rfl) y5
      refine opIn_run (v := .slice (some ⟨gT, K, none⟩) (K2 - K) (cT - K)) (w' := w') rfl rfl (fun c h => by cases h) (fun _ => trivial) ?_ ⟨z, by exact many_put3 (HOK.out _) (by rw [HVL.out]; rfl) hL, hcm, trivial⟩
      go_simp
    · skip
      have n14 : L 14 = false := not_yet hL fun h => shut_at hs 14 7 (by kernel_rfl) (h)
      have e6 : (many gg_ L (VL z))[6]?.getD undef = .slice (some ⟨gT, 0, none⟩) m5 cT := many_out3 hgN (HOK.out z) (by rw [HVL.out]; rfl) hF6
      refine opIn_run (v := .slice (some ⟨gT, 0, none⟩) m5 cT) (w' := w') rfl rfl (fun c h => by cases h) (fun _ => trivial) ?_ ⟨z, by exact many_put3 (HOK.out _) (by rw [HVL.out]; rfl) hL, hcm, hph⟩
      go_simp
    · skip
      have n14 : L 14 = false := not_yet hL fun h => shut_at hs 14 8 (by kernel_rfl) (h)
      have e8 : (many gg_ L (VL z))[8]?.getD undef = .int .i64 (K2 : Int) := many_out3 hgN (HOK.out z) (by rw [HVL.out]; rfl) hF8
      refine opIn_run (v := .int .i64 (K2 : Int)) (w' := w') rfl rfl (fun c h => by cases h) (fun _ => trivial) ?_ ⟨z, by exact many_put3 (HOK.out _) (by rw [HVL.out]; rfl) hL, hcm, hph⟩
      go_simp
    · skip
      have y7 : L 7 = true := up_at hu 7 (by kernel_rfl)
      have y8 : L 8 = true := up_at hu 8 (by kernel_rfl)
      have n14 : L 14 = false := not_yet hL fun h => shut_at hs 14 9 (by kernel_rfl) (h)
      have e45 : (many gg_ L (VL z))[45]?.getD undef = .slice (some ⟨gT, 0, none⟩) m5 cT := many_eval3 hgN (HOK.out z) (by rw [HVL.out]; rfl) y7
      have e46 : (many gg_ L (VL z))[46]?.getD undef = .int .i64 (K2 : Int) := many_eval3 hgN (HOK.out z) (by rw [HVL.out]; rfl) y8
      refine opIn_run (v := .slice (some ⟨gT, K2, none⟩) (m5 - K2) (cT - K2)) (w' := w') rfl rfl (fun c h => by cases h) (fun _ => trivial) ?_ ⟨z, by exact many_put3 (HOK.out _) (by rw [HVL.out]; rfl) hL, hcm, trivial⟩
      go_simp
    · skip
      have n14 : L 14 = false := not_yet hL fun h => shut_at hs 14 10 (by kernel_rfl) (h)
      refine opIn_run (v := (.slice (some ⟨w'.heap.size, 0, none⟩) 2 2)) (w' := w'.alloc (.cells #[.int .u8 255, .int .u8 144] 5)) rfl rfl (fun c h => by cases h) (fun _ => trivial) ?_ ⟨w'.heap.size, by rw [show many gg_ L (VL z) = many gg_ L (VL w'.heap.size) from by rw [HVL.out]; simp only [many, n14, hL, cond_false, cond_true]]; exact many_put3 (HOK.out _) (by rw [HVL.out]; rfl) hL, ⟨hcm.1.alloc hcm.1.size _, fun _ => World.alloc_heap_new w' _⟩, trivial⟩
      go_simp
    · skip
      have y0 : L 0 = true := up_at hu 0 (by kernel_rfl)
      have y1 : L 1 = true := up_at hu 1 (by kernel_rfl)
      have y2 : L 2 = true := up_at hu 2 (by kernel_rfl)
      have n14 : L 14 = false := not_yet hL fun h => shut_at hs 14 11 (by kernel_rfl) (h)
      have e40 : (many gg_ L (VL z))[40]?.getD undef = .slice (some ⟨gT, 0, none⟩) K cT := many_eval3 hgN (HOK.out z) (by rw [HVL.out]; rfl) y2
      refine opIn_run (v := .slice (some ⟨gT, 0, none⟩) K cT) (w' := w') rfl rfl (fun c h => by cases h) (fun _ => trivial) ?_ ⟨z, by exact many_put3 (HOK.out _) (by rw [HVL.out]; rfl) hL, hcm, hph⟩
      go_simp
    · skip
      have y0 : L 0 = true := up_at hu 0 (by kernel_rfl)
      have y1 : L 1 = true := up_at hu 1 (by kernel_rfl)
      have y2 : L 2 = true := up_at hu 2 (by kernel_rfl)
      have y3 : L 3 = true := up_at hu 3 (by kernel_rfl)
      have y4 : L 4 = true := up_at hu 4 (by kernel_rfl)
      have y5 : L 5 = true := up_at hu 5 (by kernel_rfl)
      have y6 : L 6 = true := up_at hu 6 (by kernel_rfl)
      have y11 : L 11 = true := up_at hu 11 (by kernel_rfl)
      have n14 : L 14 = false := not_yet hL fun h => shut_at hs 14 12 (by kernel_rfl) (h)
      have e44 : (many gg_ L (VL z))[44]?.getD undef = .slice (some ⟨gT, K, none⟩) (K2 - K) (cT - K) := many_eval3 hgN (HOK.out z) (by rw [HVL.out]; rfl) y6
      refine opIn_run (v := .slice (some ⟨gT, K, none⟩) (K2 - K) (cT - K)) (w' := w') rfl rfl (fun c h => by cases h) (fun _ => trivial) ?_ ⟨z, by exact many_put3 (HOK.out _) (by rw [HVL.out]; rfl) hL, hcm, hph⟩
      go_simp
    · skip
      have y0 : L 0 = true := up_at hu 0 (by kernel_rfl)
      have y1 : L 1 = true := up_at hu 1 (by kernel_rfl)
      have y2 : L 2 = true := up_at hu 2 (by kernel_rfl)
      have y3 : L 3 = true := up_at hu 3 (by kernel_rfl)
      have y4 : L 4 = true := up_at hu 4 (by kernel_rfl)
      have y5 : L 5 = true := up_at hu 5 (by kernel_rfl)
      have y6 : L 6 = true := up_at hu 6 (by kernel_rfl)
      have y7 : L 7 = true := up_at hu 7 (by kernel_rfl)
      have y8 : L 8 = true := up_at hu 8 (by kernel_rfl)
      have y9 : L 9 = true := up_at hu 9 (by kernel_rfl)
      have y11 : L 11 = true := up_at hu 11 (by kernel_rfl)
      have y12 : L 12 = true := up_at hu 12 (by kernel_rfl)
      have n14 : L 14 = false := not_yet hL fun h => shut_at hs 14 13 (by kernel_rfl) (h)
      have e47 : (many gg_ L (VL z))[47]?.getD undef = .slice (some ⟨gT, K2, none⟩) (m5 - K2) (cT - K2) := many_eval3 hgN (HOK.out z) (by rw [HVL.out]; rfl) y9
      refine opIn_run (v := .slice (some ⟨gT, K2, none⟩) (m5 - K2) (cT - K2)) (w' := w') rfl rfl (fun c h => by cases h) (fun _ => trivial) ?_ ⟨z, by exact many_put3 (HOK.out _) (by rw [HVL.out]; rfl) hL, hcm, hph⟩
      go_simp
    · skip
      have y0 : L 0 = true := up_at hu 0 (by kernel_rfl)
      have y1 : L 1 = true := up_at hu 1 (by kernel_rfl)
      have y2 : L 2 = true := up_at hu 2 (by kernel_rfl)
      have y3 : L 3 = true := up_at hu 3 (by kernel_rfl)
      have y4 : L 4 = true := up_at hu 4 (by kernel_rfl)
      have y5 : L 5 = true := up_at hu 5 (by kernel_rfl)
      have y6 : L 6 = true := up_at hu 6 (by kernel_rfl)
      have y7 : L 7 = true := up_at hu 7 (by kernel_rfl)
      have y8 : L 8 = true := up_at hu 8 (by kernel_rfl)
      have y9 : L 9 = true := up_at hu 9 (by kernel_rfl)
      have y10 : L 10 = true := up_at hu 10 (by kernel_rfl)
      have y11 : L 11 = true := up_at hu 11 (by kernel_rfl)
      have y12 : L 12 = true := up_at hu 12 (by kernel_rfl)
      have y13 : L 13 = true := up_at hu 13 (by kernel_rfl)
      have e48 : (many gg_ L (VL z))[48]?.getD undef = .slice (some ⟨z, 0, none⟩) 2 2 := many_eval3 hgN (HOK.out z) (by rw [HVL.out]; rfl) y10
      refine opIn_run (v := .slice (some ⟨z, 0, none⟩) 2 2) (w' := w') rfl rfl (fun c h => by cases h) (fun _ => trivial) ?_ ⟨z, by exact many_put3 (HOK.out _) (by rw [HVL.out]; rfl) hL, hcm, hph⟩
      go_simp
  case fin =>
    intro L z w' hall hph
    obtain ⟨hcm, hph⟩ := hph
    have HC7 := Lib.hid (And.intro hcm.1 (hcm.2 (hall 10 (by decide))))
    clear hcm hph
    rw [HVL.out]
    dsimp only [manyL, List.set_cons_zero, List.set_cons_succ]
    clear hall HVL HOK HVI
    obtain ⟨W4, hW4⟩ : ∃ W, w' = W := ⟨_, rfl⟩
    rw [hW4] at HC7 ⊢
    clear hW4
    obtain ⟨s, hs⟩ : ∃ s, W4.heap.size = s := ⟨_, rfl⟩
    have HS := Lib.hid hs
    go_upto_region 9 with fail
    obtain ⟨W8, hW8⟩ : ∃ W, ([Obj.cells #[.slice (some ⟨gT, 0, none⟩) K cT, .slice (some ⟨gT, K2, none⟩) (m5 - K2) (cT - K2), .slice (some ⟨gT, K, none⟩) (K2 - K) (cT - K)] 25, Obj.cells #[.slice (some ⟨gT, 0, none⟩) K cT, .slice (some ⟨gT, K, none⟩) (K2 - K) (cT - K)] 25, Obj.cells #[.slice (some ⟨gT, 0, none⟩) K cT, .slice (some ⟨gT, K2, none⟩) (m5 - K2) (cT - K2)] 25, Obj.cells #[.slice (some ⟨gT, 0, none⟩) K cT, .slice (some ⟨gT, K, none⟩) (K2 - K) (cT - K), .slice (some ⟨gT, K2, none⟩) (m5 - K2) (cT - K2), .slice (some ⟨gT, K, none⟩) (K2 - K) (cT - K)] 25, Obj.cells #[.slice (some ⟨gT, 0, none⟩) K cT, .slice (some ⟨gT, K2, none⟩) (m5 - K2) (cT - K2), .slice (some ⟨gT, K, none⟩) (K2 - K) (cT - K), .slice (some ⟨gT, K2, none⟩) (m5 - K2) (cT - K2)] 25, Obj.cells #[.slice (some ⟨gT, 0, none⟩) K cT] 25, Obj.cells #[.slice (some ⟨s, 0, none⟩) 3 3, .slice (some ⟨s + 1, 0, none⟩) 2 2, .slice (some ⟨s + 1 + 1, 0, none⟩) 2 2, .slice (some ⟨s + 1 + 1 + 1, 0, none⟩) 4 4, .slice (some ⟨s + 1 + 1 + 1 + 1, 0, none⟩) 4 4, .slice (some ⟨s + 1 + 1 + 1 + 1 + 1, 0, none⟩) 1 1] 54] : List Obj).foldl World.alloc W4 = W := ⟨_, rfl⟩
    rw [show (((((((W4.alloc (Obj.cells #[.slice (some ⟨gT, 0, none⟩) K cT, .slice (some ⟨gT, K2, none⟩) (m5 - K2) (cT - K2), .slice (some ⟨gT, K, none⟩) (K2 - K) (cT - K)] 25)).alloc (Obj.cells #[.slice (some ⟨gT, 0, none⟩) K cT, .slice (some ⟨gT, K, none⟩) (K2 - K) (cT - K)] 25)).alloc (Obj.cells #[.slice (some ⟨gT, 0, none⟩) K cT, .slice (some ⟨gT, K2, none⟩) (m5 - K2) (cT - K2)] 25)).alloc (Obj.cells #[.slice (some ⟨gT, 0, none⟩) K cT, .slice (some ⟨gT, K, none⟩) (K2 - K) (cT - K), .slice (some ⟨gT, K2, none⟩) (m5 - K2) (cT - K2), .slice (some ⟨gT, K, none⟩) (K2 - K) (cT - K)] 25)).alloc (Obj.cells #[.slice (some ⟨gT, 0, none⟩) K cT, .slice (some ⟨gT, K2, none⟩) (m5 - K2) (cT - K2), .slice (some ⟨gT, K, none⟩) (K2 - K) (cT - K), .slice (some ⟨gT, K2, none⟩) (m5 - K2) (cT - K2)] 25)).alloc (Obj.cells #[.slice (some ⟨gT, 0, none⟩) K cT] 25)).alloc (Obj.cells #[.slice (some ⟨s, 0, none⟩) 3 3, .slice (some ⟨s + 1, 0, none⟩) 2 2, .slice (some ⟨s + 1 + 1, 0, none⟩) 2 2, .slice (some ⟨s + 1 + 1 + 1, 0, none⟩) 4 4, .slice (some ⟨s + 1 + 1 + 1 + 1, 0, none⟩) 4 4, .slice (some ⟨s + 1 + 1 + 1 + 1 + 1, 0, none⟩) 1 1] 54)) = W8 from hW8]
    have HA8 : Hid (W8.heap.size = s + 7 ∧ Below W4.heap.size W4 W8 ∧ ∀ i o, ([Obj.cells #[.slice (some ⟨gT, 0, none⟩) K cT, .slice (some ⟨gT, K2, none⟩) (m5 - K2) (cT - K2), .slice (some ⟨gT, K, none⟩) (K2 - K) (cT - K)] 25, Obj.cells #[.slice (some ⟨gT, 0, none⟩) K cT, .slice (some ⟨gT, K, none⟩) (K2 - K) (cT - K)] 25, Obj.cells #[.slice (some ⟨gT, 0, none⟩) K cT, .slice (some ⟨gT, K2, none⟩) (m5 - K2) (cT - K2)] 25, Obj.cells #[.slice (some ⟨gT, 0, none⟩) K cT, .slice (some ⟨gT, K, none⟩) (K2 - K) (cT - K), .slice (some ⟨gT, K2, none⟩) (m5 - K2) (cT - K2), .slice (some ⟨gT, K, none⟩) (K2 - K) (cT - K)] 25, Obj.cells #[.slice (some ⟨gT, 0, none⟩) K cT, .slice (some ⟨gT, K2, none⟩) (m5 - K2) (cT - K2), .slice (some ⟨gT, K, none⟩) (K2 - K) (cT - K), .slice (some ⟨gT, K2, none⟩) (m5 - K2) (cT - K2)] 25, Obj.cells #[.slice (some ⟨gT, 0, none⟩) K cT] 25, Obj.cells #[.slice (some ⟨s, 0, none⟩) 3 3, .slice (some ⟨s + 1, 0, none⟩) 2 2, .slice (some ⟨s + 1 + 1, 0, none⟩) 2 2, .slice (some ⟨s + 1 + 1 + 1, 0, none⟩) 4 4, .slice (some ⟨s + 1 + 1 + 1 + 1, 0, none⟩) 4 4, .slice (some ⟨s + 1 + 1 + 1 + 1 + 1, 0, none⟩) 1 1] 54] : List Obj)[i]? = some o → W8.heap[s + i]? = some o) := Lib.hid (by
      have h := allocs ([Obj.cells #[.slice (some ⟨gT, 0, none⟩) K cT, .slice (some ⟨gT, K2, none⟩) (m5 - K2) (cT - K2), .slice (some ⟨gT, K, none⟩) (K2 - K) (cT - K)] 25, Obj.cells #[.slice (some ⟨gT, 0, none⟩) K cT, .slice (some ⟨gT, K, none⟩) (K2 - K) (cT - K)] 25, Obj.cells #[.slice (some ⟨gT, 0, none⟩) K cT, .slice (some ⟨gT, K2, none⟩) (m5 - K2) (cT - K2)] 25, Obj.cells #[.slice (some ⟨gT, 0, none⟩) K cT, .slice (some ⟨gT, K, none⟩) (K2 - K) (cT - K), .slice (some ⟨gT, K2, none⟩) (m5 - K2) (cT - K2), .slice (some ⟨gT, K, none⟩) (K2 - K) (cT - K)] 25, Obj.cells #[.slice (some ⟨gT, 0, none⟩) K cT, .slice (some ⟨gT, K2, none⟩) (m5 - K2) (cT - K2), .slice (some ⟨gT, K, none⟩) (K2 - K) (cT - K), .slice (some ⟨gT, K2, none⟩) (m5 - K2) (cT - K2)] 25, Obj.cells #[.slice (some ⟨gT, 0, none⟩) K cT] 25, Obj.cells #[.slice (some ⟨s, 0, none⟩) 3 3, .slice (some ⟨s + 1, 0, none⟩) 2 2, .slice (some ⟨s + 1 + 1, 0, none⟩) 2 2, .slice (some ⟨s + 1 + 1 + 1, 0, none⟩) 4 4, .slice (some ⟨s + 1 + 1 + 1 + 1, 0, none⟩) 4 4, .slice (some ⟨s + 1 + 1 + 1 + 1 + 1, 0, none⟩) 1 1] 54] : List Obj) W4
      rw [hW8, hs] at h
      exact ⟨h.1, by rw [hs]; exact h.2.1, h.2.2⟩)
    obtain ⟨b6, hb6⟩ : ∃ b, s + 1 + 1 + 1 + 1 + 1 + 1 = b := ⟨_, rfl⟩
    rw [hb6]
    clear hs hW8
    have w8o : Below W3.heap.size W3 W8 := HC7.out.1.trans (HA8.out.2.1.mono HC7.out.1.size)
    obtain ⟨q, hq, hq6⟩ : ∃ q : Nat, a1 % 6 = (q : Int) ∧ q < 6 := ⟨(a1 % 6).toNat, by omega, by omega⟩
    have WN := within17 a1 6 W8 (by omega) (by omega)
    rw [hq] at WN
    have HT8 : Hid (Lst W8 W8.heap.size (some ⟨gT, 0, none⟩) (T.map (Value.int .u8))) := Lib.hid (HY3.out.below w8o).lst
    have HKv : Hid ((pS hh cs).length = K ∧ (pC hh M.LV).length = K2 - K ∧ (pQ hh cs M.LV).length = m5 - K2) := Lib.hid (by
      have h1 := HPT.out
      have h2 := HKN.out
      have h3 := HLV.out
      have h4 := pQ_len hh cs M.LV
      have h5 := HLT.out
      omega)
    have HPC : Hid (PieceOk W8 (.slice (some ⟨gT, 0, none⟩) K cT, pS hh cs) ∧ PieceOk W8 (.slice (some ⟨gT, K, none⟩) (K2 - K) (cT - K), pC hh M.LV) ∧ PieceOk W8 (.slice (some ⟨gT, K2, none⟩) (m5 - K2) (cT - K2), pQ hh cs M.LV)) := Lib.hid (by
      obtain ⟨l1, l2, l3⟩ := HKv.out
      have hT := HT8.out
      have hTe := HPT.out.1
      have h2 := HKN.out
      refine ⟨⟨some ⟨gT, 0, none⟩, K, cT, rfl, by simp, l1, ?_, by omega⟩, ⟨some ⟨gT, K, none⟩, K2 - K, cT - K, rfl, by simp, l2, ?_, by omega⟩, ⟨some ⟨gT, K2, none⟩, m5 - K2, cT - K2, rfl, by simp, l3, ?_, by omega⟩⟩
      · have h := hT.take K
        rw [hTe, ← List.map_take, List.take_append_of_le_length (by omega), List.take_of_length_le (by omega)] at h
        exact h
      · have h := (hT.drop (k := K) rfl).take (K2 - K)
        rw [hTe, ← List.map_drop, ← List.map_take, List.drop_append_of_le_length (by omega), List.drop_of_length_le (by omega), List.nil_append, List.take_append_of_le_length (by omega), List.take_of_length_le (by omega), Nat.zero_add] at h
        exact h
      · have h := hT.drop (k := K2) rfl
        rw [hTe, ← List.map_drop, ← List.append_assoc, List.drop_append_of_le_length (by rw [List.length_append]; omega), List.drop_of_length_le (by rw [List.length_append]; omega), List.nil_append, Nat.zero_add] at h
        exact h)
    obtain ⟨x1, hx1⟩ : ∃ x : Value × List Int, x = (.slice (some ⟨gT, 0, none⟩) K cT, pS hh cs) := ⟨_, rfl⟩
    obtain ⟨x2, hx2⟩ : ∃ x : Value × List Int, x = (.slice (some ⟨gT, K, none⟩) (K2 - K) (cT - K), pC hh M.LV) := ⟨_, rfl⟩
    obtain ⟨x3, hx3⟩ : ∃ x : Value × List Int, x = (.slice (some ⟨gT, K2, none⟩) (m5 - K2) (cT - K2), pQ hh cs M.LV) := ⟨_, rfl⟩
    have hps : ∃ (bk : Nat) (ps : List (Value × List Int)), W8.cell? ⟨b6, q, none⟩ = some (.slice (some ⟨bk, 0, none⟩) ps.length ps.length) ∧ W8.heap[bk]? = some (.cells (ps.map (·.1)).toArray 25 (0, 0)) ∧ ps.map (·.2) = selP hh cs M.LV q ∧ (∀ x ∈ ps, PieceOk W8 x) ∧ ps.length ≤ 4 ∧ b6 < W8.heap.size ∧ bk < W8.heap.size := by
      obtain ⟨p1, p2, p3⟩ := HPC.out
      rw [← hx1] at p1
      rw [← hx2] at p2
      rw [← hx3] at p3
      have hz := HA8.out.1
      have ho := HA8.out.2.2
      have h6 := ho 6 _ rfl
      rw [show s + 6 = b6 from hb6] at h6
      have hc6 := rb_cell h6 q
      have hb6l := blk_lt h6
      have h0 := ho 0 _ rfl
      have h1 := ho 1 _ rfl
      have h2 := ho 2 _ rfl
      have h3 := ho 3 _ rfl
      have h4 := ho 4 _ rfl
      have h5 := ho 5 _ rfl
      have e0 : s + 0 = s := rfl
      rw [e0] at h0
      obtain rfl | rfl | rfl | rfl | rfl | rfl : q = 0 ∨ q = 1 ∨ q = 2 ∨ q = 3 ∨ q = 4 ∨ q = 5 := by omega
      · exact ⟨s, [x1, x3, x2], hc6, by rw [h0, hx1, hx2, hx3]; rfl, by rw [hx1, hx2, hx3]; rfl, by intro x hx; simp at hx; rcases hx with rfl | rfl | rfl <;> assumption, by simp, hb6l, blk_lt h0⟩
      · exact ⟨s + 1, [x1, x2], hc6, by rw [h1, hx1, hx2]; rfl, by rw [hx1, hx2]; rfl, by intro x hx; simp at hx; rcases hx with rfl | rfl <;> assumption, by simp, hb6l, blk_lt h1⟩
      · exact ⟨s + 2, [x1, x3], hc6, by rw [h2, hx1, hx3]; rfl, by rw [hx1, hx3]; rfl, by intro x hx; simp at hx; rcases hx with rfl | rfl <;> assumption, by simp, hb6l, blk_lt h2⟩
      · exact ⟨s + 3, [x1, x2, x3, x2], hc6, by rw [h3, hx1, hx2, hx3]; rfl, by rw [hx1, hx2, hx3]; rfl, by intro x hx; simp at hx; rcases hx with rfl | rfl | rfl | rfl <;> assumption, by simp, hb6l, blk_lt h3⟩
      · exact ⟨s + 4, [x1, x3, x2, x3], hc6, by rw [h4, hx1, hx2, hx3]; rfl, by rw [hx1, hx2, hx3]; rfl, by intro x hx; simp at hx; rcases hx with rfl | rfl | rfl | rfl <;> assumption, by simp, hb6l, blk_lt h4⟩
      · exact ⟨s + 5, [x1], hc6, by rw [h5, hx1]; rfl, by rw [hx1]; rfl, by intro x hx; simp at hx; subst hx; assumption, by simp, hb6l, blk_lt h5⟩
    obtain ⟨bk, ps, hc6, hbk, hsel, hpk, hpl, hb6s, hbks⟩ := hps
    obtain ⟨np, hnp⟩ : ∃ n, ps.length = n := ⟨_, rfl⟩
    rw [hnp] at hc6 hpl
    have HPS := Lib.hid (And.intro hc6 (And.intro hbk (And.intro hsel (And.intro hpk (And.intro hb6s (And.intro hbks hnp))))))
    have HE8 : Hid (Lst W8 W8.heap.size (some ⟨z, 0, none⟩) (([255, 144] : List Int).map (Value.int .u8))) := Lib.hid (by
      have h0 := HC7.out.2
      have hz := blk_lt h0
      have h1 := (HA8.out.2.1.block z hz).trans h0
      intro i u hu
      refine ⟨z, 0, rfl, blk_lt h1, ?_⟩
      rw [rb_cell h1 (0 + i)]
      simpa using hu)
    have HW8 : Hid (Below w.heap.size w W8 ∧ Below W2.heap.size W2 W8) := Lib.hid (by
      have h1 : Below W2.heap.size W2 W8 := HB3.out.trans (w8o.mono HB3.out.size)
      exact ⟨HBW.out.trans (h1.mono HBW.out.size), h1⟩)
    have HQ6 := Lib.hid (And.intro hq hq6)
    have hq0 : (0 : Int) ≤ (q : Int) ∧ (q : Int) < 6 := by omega
    clear hb6 hx1 hx2 hx3 HPC HKv HT8 w8o hc6 hbk hsel hpk hb6s hbks hnp hq HA8 HS HC7 HB3 HBW HR0
    go_wp2_with fail
    refine WN.mono ?_
    rintro e W9 ⟨rfl, rfl⟩
    clear WN
    have hps0 : (0 : Int) ≤ (np : Int) := by omega
    go_upto_region 12 with fail
    go_loopg [15, 16] np (fun g a v wr => ∃ (j : Nat) (A' : Option Addr) (n' c' : Nat), j + g = np ∧ a = .slice A' n' c' ∧ v = .int .i64 (j : Int) ∧ Hid (By W8.heap.size wr (.slice A' n' c') ((ps.take j).map (·.2)).flatten ∧ Below W8.heap.size W8 wr))
    case atStart => exact ⟨0, none, 0, 0, by omega, rfl, rfl, Lib.hid ⟨By.nil _ _, Below.refl _ _⟩⟩
    case round =>
      obtain ⟨j, A6, n6, c6, hjg, rfl, rfl, HI⟩ := hrel
      obtain ⟨wa, hwa⟩ : ∃ wa, wa = wr := ⟨wr, rfl⟩
      subst hwa
      have cq : wa.cell? ⟨b6, q, none⟩ = some (.slice (some ⟨bk, 0, none⟩) np np) := (HI.out.2.cell (p := ⟨b6, q, none⟩) HPS.out.2.2.2.2.1).trans HPS.out.1
      by_cases hj : j < np
      · obtain ⟨g1, rfl⟩ : ∃ g1, gk = g1 + 1 := ⟨gk - 1, by omega⟩
        have hjI : (j : Int) < (np : Int) ∧ (0 : Int) ≤ (j : Int) := by omega
        obtain ⟨x, hx⟩ : ∃ x, ps[j]? = some x := ⟨_, List.getElem?_eq_getElem (by rw [HPS.out.2.2.2.2.2.2]; exact hj)⟩
        obtain ⟨Ax, nx, cx, hxv, hxA, hxn, hxL, hx1⟩ := HPS.out.2.2.2.1 x (List.mem_of_getElem? hx)
        have cj : wa.cell? ⟨bk, j, none⟩ = some (.slice Ax nx cx) := by
          have h := (HI.out.2.cell (p := ⟨bk, j, none⟩) HPS.out.2.2.2.2.2.1).trans (rb_cell HPS.out.2.1 j)
          rw [h, List.getElem?_toArray, List.getElem?_map, hx, ← hxv]
          rfl
        have hfl : ((ps.take (j + 1)).map (·.2)).flatten = ((ps.take j).map (·.2)).flatten ++ x.2 := by
          rw [List.take_add_one, hx]
          simp
        have hlen : (((ps.take j).map (·.2)).flatten).length ≤ j * 1000 := piece_len (fun y hy => by
          obtain ⟨_, _, _, _, _, e1, _, e2⟩ := HPS.out.2.2.2.1 y (List.mem_of_mem_take hy)
          omega) (by rw [List.length_take]; omega)
        obtain ⟨A9, n9, c9, w9, hr, hy9, hg9⟩ := app_lst (m := nx) (c := cx) HI.out.1 (fun e => absurd e hxA) ((hxL.below HI.out.2).more HI.out.2.size) hxn HI.out.2.size (by omega)
        have HN : Hid (By W8.heap.size w9 (.slice A9 n9 c9) ((ps.take (j + 1)).map (·.2)).flatten ∧ Below W8.heap.size W8 w9) := Lib.hid ⟨by rw [hfl]; exact hy9, HI.out.1.bel HI.out.2 HI.out.2.size hg9⟩
        clear hx hxv hxA hxn hxL hx1 hfl hlen hy9 hg9 HI
        go_wp2
        go_roundg g1
        case measure => omega
        case rel => exact ⟨j + 1, A9, n9, c9, by omega, rfl, by simp, HN⟩
      · obtain rfl : j = np := by omega
        have hjI : ¬ (j : Int) < (j : Int) := by omega
        have hf := HI.out.1
        rw [List.take_of_length_le (by rw [HPS.out.2.2.2.2.2.2]; exact Nat.le_refl _), HPS.out.2.2.1] at hf
        have hfl : (selP hh cs M.LV q).flatten.length ≤ j * 1000 := by
          rw [← HPS.out.2.2.1]
          exact piece_len (fun y hy => by
            obtain ⟨_, _, _, _, _, e1, _, e2⟩ := HPS.out.2.2.2.1 y hy
            omega) (by rw [HPS.out.2.2.2.2.2.2]; exact Nat.le_refl _)
        obtain ⟨A9, n9, c9, w9, hr, hy9, hg9⟩ := app_lst (m := 2) (c := 2) hf (fun e => by cases e) ((HE8.out.below HI.out.2).more HI.out.2.size) rfl HI.out.2.size (by omega)
        have hb9 := HI.out.1.bel HI.out.2 HI.out.2.size hg9
        obtain ⟨gX, cX, hv, _, _, _, _⟩ := own_form hy9 (by rw [List.length_append]; simp)
        injection hv with hv1 hv2 hv3
        subst hv1 hv3
        have PT := parse_twice HKK.out.1 HKK.out.2.1 HKK.out.2.2 q HQ6.out.2 (some ⟨gX, 0, none⟩) n9 c9 _ rfl hv2.symm (by simp) w9 hy9.lst
        have HB9 := Lib.hid hb9
        have hnn : q = 0 → n9 = m5 + 2 := by
          intro e
          rw [hv2, e]
          have h1 := HPT.out
          have h2 := HLT.out
          have h4 := pQ_len hh cs M.LV
          have h5 := HLV.out
          simp [selP]
          omega
        have HNN := Lib.hid hnn
        clear hf hfl hy9 hg9 HI hb9 hv2 hnn
        go_wp2_with fail
        refine PT.mono ?_
        rintro e Wp ⟨cx, n', er, rfl, hcs, hco, hbp, hno, hyes⟩
        go_upto_region 16 with (refine wpList_store_row rfl 33 _ _ rfl Wp.heap.size cx rfl rfl 33 #[.int .i64 0, .int .i64 0, .int .i64 0, .int .i64 0, .slice none 0 0, .int .i64 0, .int .i64 0, .int .i64 0, .int .i64 0, .int .i64 0, .int .i64 0, .int .i64 0, .int .i64 0, .int .i64 0, .bool false, .bool false, .bool false, .slice none 0 0] (World.alloc_heap_new Wp _) (by rw [hcs]; kernel_rfl) (by rw [hcs]; rfl) hco ?_)
        have hbq : Below Wp.heap.size Wp ((Wp.alloc (Obj.cells #[.int .i64 0, .int .i64 0, .int .i64 0, .int .i64 0, .slice none 0 0, .int .i64 0, .int .i64 0, .int .i64 0, .int .i64 0, .int .i64 0, .int .i64 0, .int .i64 0, .int .i64 0, .int .i64 0, .bool false, .bool false, .bool false, .slice none 0 0] 33)).setRow Wp.heap.size cx) := below_setRow ((Below.refl _ _).alloc (Nat.le_refl _) _) (Nat.le_refl _) _
        obtain ⟨Wq, hWq⟩ : ∃ Wq, (Wp.alloc (Obj.cells #[.int .i64 0, .int .i64 0, .int .i64 0, .int .i64 0, .slice none 0 0, .int .i64 0, .int .i64 0, .int .i64 0, .int .i64 0, .int .i64 0, .int .i64 0, .int .i64 0, .int .i64 0, .int .i64 0, .bool false, .bool false, .bool false, .slice none 0 0] 33)).setRow Wp.heap.size cx = Wq := ⟨_, rfl⟩
        obtain ⟨gx, hgx⟩ : ∃ g, Wp.heap.size = g := ⟨_, rfl⟩
        have KX : Wq.heap[gx]? = some (.cells cx 33 (0, 0)) := by rw [← hWq, ← hgx]; exact setRow_heap _ _ _ _ _ _ (World.alloc_heap_new Wp _)
        rw [hWq] at hbq ⊢
        rw [hgx]
        have HWq : Hid (Below w.heap.size w Wq ∧ Below W2.heap.size W2 Wq ∧ Wq.heap[gx]? = some (.cells cx 33 (0, 0)) ∧ Below Wp.heap.size Wp Wq) := Lib.hid (by
          have h9 : Below W8.heap.size W8 Wq := by
            have h1 := HB9.out.trans (hbp.mono HB9.out.size)
            exact h1.trans (hbq.mono h1.size)
          exact ⟨HW8.out.1.trans (h9.mono HW8.out.1.size), HW8.out.2.trans (h9.mono HW8.out.2.size), KX, hbq⟩)
        have hxx : Hid (cx.size = 18) := Lib.hid hcs
        clear hWq hbq hcs hco hbp KX hgx HB9
        by_cases hqz : q = 0
        · subst hqz
          obtain ⟨rfl, rfl, h', cs', rfl, hok, hsm⟩ := hyes rfl
          have hn9 := HNN.out rfl
          have hni : (n9 : Int) - 2 = (m5 : Int) := by omega
          rw [hni]
          have hokq := hok.below HWq.out.2.2.2
          have hkg := (HWq.out.2.1.block g (blk_lt HKG.out)).trans HKG.out
          obtain ⟨y1, y2, ⟨y3, y4, y5, y6⟩, y7, y8⟩ := HCP.out
          have hok2 : HdOk Wq hh cs [] := ⟨by rw [y3, y4, y5]; exact y1.below HWq.out.2.1, by rw [y3]; exact y2, by rw [y3]; exact hNb.2, Lst.nil, by rw [y7]; rfl, by rw [y7]; omega⟩
          have SM := same_hv hokq hok2
          rw [y8] at SM
          have HSM := Lib.hid SM
          have HHM := Lib.hid hsm
          have HKG2 := Lib.hid hkg
          clear hno hyes hok hokq hok2 SM hsm hkg y1 y2 y3 y4 y5 y6 y7 y8 hn9 HNN
          go_wp2_with (first | (refine wpList_load_row_g rfl 33 _ rfl gx rfl 33 _ (0, 0) _ (HWq.out.2.2.1) Try.underlying33 rfl (by kernel_rfl) ?_) | (refine wpList_load_row_g rfl 33 _ rfl g rfl 33 _ (0, 0) _ (HKG2.out) Try.underlying33 rfl (by rw [hhs]; kernel_rfl) ?_))
          refine HSM.out.mono ?_
          rintro e Wr ⟨⟨b, rfl, hb⟩, hbr⟩
          obtain rfl : b = true := hb.2 HHM.out
          have HWr : Hid (Below w.heap.size w Wr) := Lib.hid (HWq.out.1.trans (hbr.mono HWq.out.1.size))
          clear hb hbr
          go_wp2
          go_ret
          first | exact HWr.out | exact ⟨rfl, HWr.out⟩
        · obtain ⟨rfl, rfl⟩ := hno hqz
          have hqI : ¬ (q : Int) = 0 := by omega
          clear hno hyes PT
          go_wp2
          go_ret
          first | exact HWq.out.1 | exact ⟨rfl, HWq.out.1⟩
end
end Go.Proofs.Ytlbfjaifemnkpaa
