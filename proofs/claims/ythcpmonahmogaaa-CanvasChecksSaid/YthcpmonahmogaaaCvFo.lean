/- canvas: pictures in memory; made ones have no fault. -/
import Derived.Test.YthcpmonahmogaaaCvMk
import Derived.Test.YthcpmonahmogaaaCvCh
import Derived.Test.YthcpmonahmogaaaCvIn
set_option linter.unusedVariables false
set_option linter.unusedSimpArgs false
namespace Go.Proofs.Ythcpmonahmogaaa
open Go.RowKit
set_option maxRecDepth 100000
theorem key_all {X Y OX OY sb DP : Int} {sg : Bool} {cs : List Cp} (hD : 1 ≤ DP ∧ DP ≤ 10) (hk : ∀ i c, cs[i]? = some c → KeyIs X Y OX OY sb DP sg i c) : cs.all compB = true := by
  rw [List.all_eq_true]
  intro c hc
  obtain ⟨i, hi, rfl⟩ := List.getElem_of_mem hc
  have h := hk i cs[i] (List.getElem?_eq_getElem hi)
  have hb := cpK_bd (sb := sb) i hD
  obtain ⟨h1, _, h2, h3, _⟩ := h
  unfold compB inB
  rw [h1, h2, h3]
  simp
  omega
theorem key_alike {X Y OX OY sb DP : Int} {sg : Bool} {cs : List Cp} (hl : 3 ≤ cs.length) (hs : sb.tmod 5 ≠ 1) (hk : ∀ i c, cs[i]? = some c → KeyIs X Y OX OY sb DP sg i c) : alikeF cs = true := by
  match cs, hl, hk with
  | a :: b :: c :: r, _, hk =>
    have e : ∀ i, cpK sb DP i = (DP, 1, 1) := fun i => by unfold cpK; rw [if_neg (fun h => hs h.1)]
    obtain ⟨a1, a2, a3, a4, _⟩ := hk 0 a rfl
    obtain ⟨b1, b2, b3, b4, _⟩ := hk 1 b rfl
    obtain ⟨c1, c2, c3, c4, _⟩ := hk 2 c rfl
    rw [e] at a1 a3 a4 b1 b3 b4 c1 c3 c4
    simp only at a1 a3 a4 b1 b3 b4 c1 c3 c4
    simp [alikeF, sameC, a1, a2, a3, a4, b1, b2, b3, b4, c1, c2, c3, c4]
theorem frame_ok12 (f : FN) {cs : List Cp} (hl : cs.length = mkN f) (hk : ∀ i c, cs[i]? = some c → KeyIs (mkPN f 12).X (mkPN f 12).Y (mkPN f 12).OX (mkPN f 12).OY f.sb (mkDP f) f.sg i c)
    (ht : (1 ≤ (mkPN f 12).TX ∧ (mkPN f 12).TX ≤ 832) ∧ (1 ≤ (mkPN f 12).TY ∧ (mkPN f 12).TY ≤ 832) ∧ cntT (mkPN f 12).X (mkPN f 12).Y (mkPN f 12).TX (mkPN f 12).TY ≤ 6) :
    frameF (mkPN f 12).X (mkPN f 12).Y (mkPN f 12).OX (mkPN f 12).OY cs (mkPN f 12).TX (mkPN f 12).TY (mkPN f 12).LV (mkPN f 12).BW (mkPN f 12).BH (mkPN f 12).PR (mkPN f 12).ST (mkPN f 12).OD (mkPN f 12).LY (mkPN f 12).RC = 0 := by
  have hok := mkPN_ok f 12 (by omega)
  have hN : 1 ≤ mkN f ∧ mkN f ≤ 4 := by
    have := within_rng f.nc 4 (by omega)
    unfold mkN
    omega
  have hD : 1 ≤ mkDP f ∧ mkDP f ≤ 10 := by
    have := within_rng f.dp 10 (by omega)
    unfold mkDP
    omega
  have hR : (mkPN f 12).RC = true → 3 ≤ mkN f ∧ f.sb.tmod 5 ≠ 1 := by
    intro h
    simp only [mkPN, Bool.and_eq_true, decide_eq_true_eq] at h
    exact h.2
  have hal := key_all hD hk
  have hlk : (mkPN f 12).RC = true → alikeF cs = true := fun h => key_alike (by rw [hl]; exact (hR h).1) (hR h).2 hk
  generalize mkPN f 12 = M at *
  obtain ⟨ox, oy, x, y, tx, ty, lv, bw, bh, pr, st, od, ly⟩ := hok
  have g0 : gridF M.X M.Y M.OX M.OY = 0 := by
    unfold gridF
    rw [if_neg (by omega), if_neg (by omega)]
  have t0 : tilesF M.X M.Y M.OX M.OY M.TX M.TY = 0 := by
    unfold tilesF
    rw [if_neg (by omega), if_neg]
    have h1 := ceil_bd M.X M.TX (by omega) ht.1.1
    have h2 := ceil_bd M.Y M.TY (by omega) ht.2.1.1
    have h3 := ht.2.2
    unfold cntT at h3
    obtain ⟨p, hp⟩ := Int.eq_ofNat_of_zero_le h1.1
    obtain ⟨q, hq⟩ := Int.eq_ofNat_of_zero_le h2.1
    rw [hp, hq] at h3 ⊢
    simp only [Int.toNat_natCast] at h3
    have h4 : (p : Int) * (q : Int) = ((q * p : Nat) : Int) := by rw [Nat.mul_comm]; simp
    rw [h4]
    omega
  have c0 : codingF M.LV M.BW M.BH M.PR M.ST M.OD M.LY = 0 := by
    unfold codingF cutsB inB
    rw [if_pos]
    simp
    omega
  unfold frameF
  rw [g0, t0, c0, hal]
  rw [if_neg (by simp), if_neg (by omega), if_neg (by simp), if_neg (by simp), if_neg (by simp), if_neg]
  rintro ⟨h1, h2⟩
  rw [hlk h1] at h2
  cases h2
/-- A component's cells. -/
theorem CRow.cells {lo : Nat} {w : World} {V : Value} {cs : List Cp} (h : CRow lo w V cs) {i : Nat} {c : Cp} (hc : cs[i]? = some c) : ∃ g cap, V = .slice (some ⟨g, 0, none⟩) cs.length cap ∧ lo ≤ g ∧ g < w.heap.size ∧ cs.length ≤ cap ∧ cap ≤ maxLen ∧
    w.cell? ⟨g, i * 5, none⟩ = some (.int .i64 c.d) ∧ w.cell? ⟨g, i * 5 + 1, none⟩ = some (.bool c.sg) ∧ w.cell? ⟨g, i * 5 + 2, none⟩ = some (.int .i64 c.dx) ∧ w.cell? ⟨g, i * 5 + 3, none⟩ = some (.int .i64 c.dy) ∧ w.cell? ⟨g, i * 5 + 4, none⟩ = some (.slice c.A c.n c.cap) := by
  have hi : i < cs.length := (List.getElem?_eq_some_iff.1 hc).1
  obtain ⟨g, cap, hv, hg, hgl, hcc, hm⟩ := own_form h.own (by omega)
  have flat : ∀ (l : List Cp) (i : Nat) (c : Cp), l[i]? = some c → ∀ k, k < 5 → (l.flatMap cpV)[i * 5 + k]? = (cpV c)[k]? := by
    intro l
    induction l with
    | nil => intro i c hc; simp at hc
    | cons a l ih =>
      intro i c hc k hk
      rw [List.flatMap_cons]
      cases i with
      | zero =>
        simp at hc
        subst hc
        rw [Nat.zero_mul, Nat.zero_add, List.getElem?_append_left (by simp [cpV]; omega)]
      | succ i =>
        rw [List.getElem?_append_right (by simp [cpV]; omega), show (i + 1) * 5 + k - (cpV a).length = i * 5 + k by simp [cpV]; omega]
        exact ih i c (by simpa using hc) k hk
  have fc : ∀ k, k < 5 → w.cell? ⟨g, i * 5 + k, none⟩ = (cpV c)[k]? := fun k hk => by
    rw [← flat cs i c hc k hk]
    have h1 := h.own
    rw [hv] at h1
    exact h1.cellAt _ (by omega)
  exact ⟨g, cap, hv, hg, hgl, hcc, hm, fc 0 (by omega), fc 1 (by omega), fc 2 (by omega), fc 3 (by omega), fc 4 (by omega)⟩
/-- A picture's components in memory, and their samples. -/
structure Pic (w : World) (AC : Option Addr) (cC : Nat) (cs : List Cp) (ds : Nat → List Int) : Prop where
  at' : CompsAt w AC cs
  cap : cs.length ≤ cC ∧ cC ≤ maxLen
  few : cs.length ≤ 1000
  dat : ∀ (i : Nat) (c : Cp), cs[i]? = some c → Lst w w.heap.size c.A ((ds i).map (Value.int .i64)) ∧ (ds i).length = c.n ∧ c.n ≤ 1000000
theorem Pic.keep {w w' : World} {AC : Option Addr} {cC : Nat} {cs : List Cp} {ds : Nat → List Int} (h : Pic w AC cC cs ds) (hb : Below w.heap.size w w') : Pic w' AC cC cs ds :=
  ⟨h.at'.keep hb, h.cap, h.few, fun i c hc => ⟨((h.dat i c hc).1.below hb).more hb.size, (h.dat i c hc).2⟩⟩
theorem ImgIn.pic {w : World} {A : Option Addr} {len cap : Nat} {cs : List Cp} {zs : Nat → List Int} (h : ImgIn w A len cap cs zs) (h6 : cs.length ≤ 6) (h5 : ∀ c ∈ cs, c.n ≤ 5000) :
    Pic w A cap cs (fun i => (zs i).take (cs.getD i ⟨0, false, 0, 0, none, 0, 0⟩).n) :=
  ⟨h.at', by rw [h.lcs]; exact h.lcap, by omega, fun i c hc => by
    have hr := h.dat i c hc
    have hd : cs.getD i ⟨0, false, 0, 0, none, 0, 0⟩ = c := by rw [List.getD_eq_getElem?_getD, hc]; rfl
    have h5' := h5 c (List.mem_of_getElem? hc)
    obtain ⟨l1, l2, l3, l4⟩ := row_len hr
    refine ⟨?_, ?_, by omega⟩
    · rw [hd]
      exact lst_of_row hr
    · rw [hd]
      exact l1⟩
theorem first_zero {x y ox oy : Int} {ds : Nat → List Int} {all : List Cp} (h : ∀ i c, all[i]? = some c → sampC x y ox oy c (ds i) = 0) : ∀ (j : Nat) (cs : List Cp), cs = all.drop j → firstBad x y ox oy ds cs j = 0
  | j, [], _ => rfl
  | j, c :: r, e => by
    have hc : all[j]? = some c := by
      have h1 : (all.drop j)[0]? = some c := by rw [← e]; rfl
      rw [List.getElem?_drop] at h1
      simpa using h1
    have hr : r = all.drop (j + 1) := by
      have h1 : (all.drop j).tail = r := by rw [← e]; rfl
      rw [← h1, List.tail_drop]
    unfold firstBad
    rw [if_pos (h j c hc)]
    exact first_zero h (j + 1) r hr
theorem CRow.pic {lo : Nat} {w : World} {A : Option Addr} {C : Nat} {cs : List Cp} (h : CRow lo w (.slice A cs.length C) cs) (h1 : 1 ≤ cs.length) (h4 : cs.length ≤ 1000) (hn : ∀ c ∈ cs, c.n ≤ 1000000) :
    ∃ ds, Pic w A C cs ds ∧ ∀ i c, cs[i]? = some c → ∀ v ∈ ds i, leastF c.d.toNat c.sg ≤ v ∧ v ≤ mostF c.d.toNat c.sg := by
  have hD : ∀ i : Nat, ∃ l : List Int, ∀ c, cs[i]? = some c → w.ownsRow lo 3 1 (.slice c.A c.n c.cap) c.n (l.map (Value.int .i64)) ∧ ∀ v ∈ l, leastF c.d.toNat c.sg ≤ v ∧ v ≤ mostF c.d.toNat c.sg := fun i => by
    cases hc : cs[i]? with
    | none => exact ⟨[], fun c h => by cases h⟩
    | some c =>
      obtain ⟨l, hl⟩ := h.dat c (List.mem_of_getElem? hc)
      exact ⟨l, fun c' h' => by injection h' with h'; subst h'; exact hl⟩
  obtain ⟨ds, hds⟩ := Classical.axiomOfChoice hD
  obtain ⟨c0, hc0⟩ : ∃ c, cs[0]? = some c := ⟨_, List.getElem?_eq_getElem (by omega)⟩
  obtain ⟨g, cap, hv, hg, hgl, hcc, hm, _⟩ := h.cells hc0
  injection hv with hA hL hC
  subst hA hC
  refine ⟨ds, ⟨fun i c hc => ?_, ⟨hcc, hm⟩, by omega, fun i c hc => ?_⟩, fun i c hc => (hds i c hc).2⟩
  · obtain ⟨g', cap', hv', hg', hgl', hcc', hm', q0, q1, q2, q3, q4⟩ := h.cells hc
    injection hv' with hA' hL' hC'
    injection hA' with hA'
    injection hA' with hA'
    subst hA'
    exact ⟨g, 0, rfl, hgl, by rw [Nat.zero_add]; exact q0, by rw [Nat.zero_add]; exact q1, by rw [Nat.zero_add]; exact q2, by rw [Nat.zero_add]; exact q3, by rw [Nat.zero_add]; exact q4⟩
  · have h2 := (hds i c hc).1
    have h3 := h2.1
    simp at h3
    exact ⟨Lst.own h2, by simpa using h3, hn c (List.mem_of_getElem? hc)⟩
/-- A made picture has no fault. -/
theorem made_good (f : FN) {cs : List Cp} {ds : Nat → List Int} (hl : cs.length = mkN f) (hk : ∀ i c, cs[i]? = some c → KeyIs (mkPN f 12).X (mkPN f 12).Y (mkPN f 12).OX (mkPN f 12).OY f.sb (mkDP f) f.sg i c)
    (hd : ∀ i c, cs[i]? = some c → ∀ v ∈ ds i, leastF c.d.toNat c.sg ≤ v ∧ v ≤ mostF c.d.toNat c.sg) : firstBad (mkPN f 12).X (mkPN f 12).Y (mkPN f 12).OX (mkPN f 12).OY ds cs 0 = 0 := by
  refine first_zero (all := cs) (fun i c hc => ?_) 0 cs (by simp)
  obtain ⟨_, _, _, _, h5⟩ := hk i c hc
  unfold sampC smpF
  unfold areaF at h5
  rw [if_pos h5, if_pos]
  exact List.all_eq_true.2 (fun v hv => by
    have := hd i c hc v hv
    unfold inB
    simp
    omega)
theorem key_n {X Y OX OY sb DP : Int} {sg : Bool} {i : Nat} {c : Cp} (hD : 1 ≤ DP ∧ DP ≤ 10) (hx : 0 ≤ OX ∧ OX ≤ X ∧ X ≤ 64) (hy : 0 ≤ OY ∧ OY ≤ Y ∧ Y ≤ 64) (h : KeyIs X Y OX OY sb DP sg i c) : c.n ≤ 4096 := by
  obtain ⟨_, _, h3, h4, h5⟩ := h
  have hb := cpK_bd (sb := sb) i hD
  rw [← h3, ← h4] at hb
  unfold areaF at h5
  have m0 := ceil_bd X c.dx (by omega) (by omega)
  have m1 := ceil_bd Y c.dy (by omega) (by omega)
  have m2 := ceil_bd OX c.dx (by omega) (by omega)
  have m3 := ceil_bd OY c.dy (by omega) (by omega)
  have m4 : ceilF OX c.dx ≤ ceilF X c.dx := ceil_mono (by omega) (by omega)
  have m5 : ceilF OY c.dy ≤ ceilF Y c.dy := ceil_mono (by omega) (by omega)
  have h6 : (ceilF X c.dx - ceilF OX c.dx) * (ceilF Y c.dy - ceilF OY c.dy) ≤ 64 * 64 := Int.mul_le_mul (by omega) (by omega) (by omega) (by omega)
  omega
end Go.Proofs.Ythcpmonahmogaaa
