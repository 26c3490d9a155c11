/- Package boxes: Write by its contract. -/
import Derived.Test.YtfjkfajhfnmjjaaBoxR
import Derived.Lib.AppendStr
import Derived.Laws.OwnMore
set_option linter.unusedVariables false
set_option linter.unusedSimpArgs false
namespace Go.Proofs.Ytfjkfajhfnmjjaa
open Go.RowKit Go.Shelf
attribute [local go_sem ↓] appSem_eq
def boxB (x : List Int × List Int) : List Int := putL (8 + (x.2.length : Int)) 4 ++ x.1 ++ x.2
def wrB (bs : List (List Int × List Int)) : List Int := bs.flatMap boxB
theorem strOf_data (ns : List Int) : (strOf ns).data.toList = ns.map fun n => UInt8.ofNat n.toNat := by
  have key : ∀ (ns : List Int) (r : ByteArray), (ns.foldl (fun r n => r.push (UInt8.ofNat n.toNat)) r).data.toList = r.data.toList ++ ns.map fun n => UInt8.ofNat n.toNat := by
    intro ns
    induction ns with
    | nil => intro r; simp
    | cons n ns ih => intro r; rw [List.foldl_cons, ih]; simp [ByteArray.push]
  unfold strOf
  rw [key]
  rfl
theorem strOf_cells (ns : List Int) (h : ∀ x ∈ ns, 0 ≤ x ∧ x ≤ 255) : Lib.strCells (strOf ns) = ns.map (Value.int .u8) := by
  unfold Lib.strCells
  rw [strOf_data, List.map_map]
  refine List.map_congr_left fun x hx => ?_
  have := h x hx
  show Value.int .u8 ((UInt8.ofNat x.toNat).toNat : Int) = _
  have e : (UInt8.ofNat x.toNat).toNat = x.toNat := by rw [UInt8.toNat_ofNat']; exact Nat.mod_eq_of_lt (by omega)
  rw [e, Int.toNat_of_nonneg this.1]
theorem strOf_size (ns : List Int) : (strOf ns).size = ns.length := by
  have := congrArg List.length (strOf_data ns)
  rw [List.length_map, Array.length_toList] at this
  exact this
theorem app_bytes {w : World} {base n m b2 : Nat} {v v2 : Value} {X L : List Int} (hown : w.ownsRow base 5 1 v n (X.map (Value.int .u8))) (h : w.ownsRow b2 5 1 v2 m (L.map (Value.int .u8))) (hb : base ≤ w.heap.size) (hlen : n + m ≤ 1000000) :
    ∃ v' w', (appSem #[24, 24] 24 #[v, v2]).run Try.prog w = .ok v' w' ∧ w'.ownsRow base 5 1 v' (n + m) ((X ++ L).map (Value.int .u8)) ∧ w.grownBy w' v.ownBlock := by
  obtain ⟨i0, hi, hz0, hz1, hz2⟩ := info_parts Try.info5
  obtain ⟨A, c, rfl, hA, hmc, hcm⟩ := own_any h
  cases A with
  | none =>
    obtain ⟨rfl, rfl⟩ := hA rfl
    obtain rfl : L = [] := by
      have := h.1
      simpa using this
    have hrun := run_append_owned_none (P := Try.prog) (w := w) base 24 24 5 i0 1 Try.underlying24 hi v n _ hown
    exact ⟨v, w, hrun, by simpa using hown, World.grownBy.refl _ _⟩
  | some a =>
    have hl := h.1
    rw [List.length_map, Nat.mul_one] at hl
    obtain ⟨v', w', hr, hown', hg, _, hat⟩ := run_append_own_at (P := Try.prog) w base 24 24 5 i0 (.int .u8 0) 1 1 Try.underlying24 hi hz0 hz1 hz2 rfl (by decide) v n _ hown a m c (L.map (Value.int .u8)) (by rw [List.length_map, hl]; simp)
      (fun j u hu => by
        obtain ⟨b, o, e, _, hc⟩ := Lst.own h j u hu
        cases e
        show w.cell? (if j = 0 then _ else _) = _
        split
        · rename_i h0; rw [h0] at hc; simpa using hc
        · exact hc) (ints_oneCell .u8 L) (by unfold maxLen; omega) (by omega) hb
    exact ⟨v', w', hr, by rw [List.map_append]; exact hown', hg⟩
theorem app_str {w : World} {base n : Nat} {v : Value} {X L : List Int} (hown : w.ownsRow base 5 1 v n (X.map (Value.int .u8))) (hL : ∀ x ∈ L, 0 ≤ x ∧ x ≤ 255) (hb : base ≤ w.heap.size) (hlen : n + L.length ≤ 1000000) :
    ∃ v' w', (appSem #[24, 9] 24 #[v, .string (strOf L)]).run Try.prog w = .ok v' w' ∧ w'.ownsRow base 5 1 v' (n + L.length) ((X ++ L).map (Value.int .u8)) ∧ w.grownBy w' v.ownBlock := by
  obtain ⟨i0, hi, hz0, hz1, hz2⟩ := info_parts Try.info5
  obtain ⟨v', w', hr, hown', hg, _⟩ := Lib.run_append_own_string (P := Try.prog) w base 24 9 24 5 i0 Try.underlying24 Try.underlying9 hi hz0 hz1 hz2 v n _ hown (strOf L) (by rw [strOf_size]; unfold maxLen; omega) (by rw [strOf_size]; omega) hb
  rw [strOf_size, strOf_cells L hL] at hown'
  exact ⟨v', w', hr, by rw [List.map_append]; exact hown', hg⟩
theorem put4 (m : Int) (w : World) : Calls Try.prog 16 #[.slice none 0 0, .int .i64 4, .int .i64 m] w fun e w' => ∃ g cap, e = .returned (.slice (some ⟨g, 0, none⟩) 4 cap) ∧ w'.ownsRow w.heap.size 5 1 (.slice (some ⟨g, 0, none⟩) 4 cap) 4 ((putL m 4).map (Value.int .u8)) ∧ Below w.heap.size w w' :=
  (put_some none 0 0 [] w 4 m rfl (by simp) Lst.nil (by simp) (by omega) (by omega)).mono fun e w' ⟨g, cap, he, ho, hb⟩ => ⟨g, cap, he, ho, hb⟩
theorem BoxL.below {w w' : World} {q : Nat} {V : Value} {bs : List (List Int × List Int)} (h : BoxL w q V bs) (hb : Below w.heap.size w w') : BoxL w' q V bs :=
  h.kept (r := none) (grown_below hb (Nat.le_refl _)) (fun k e => by cases e)
/-- The i-th box. -/
theorem BoxL.at {w : World} {q : Nat} {V : Value} {bs : List (List Int × List Int)} (h : BoxL w q V bs) {i : Nat} (hi : i < bs.length) : ∃ g c va vc, V = .slice (some ⟨g, 0, none⟩) bs.length c ∧ g < w.heap.size ∧ w.cell? ⟨g, i * 2, none⟩ = some (.string (strOf bs[i].1)) ∧ w.cell? ⟨g, i * 2 + 1, none⟩ = some (.slice va bs[i].2.length vc) ∧
    w.ownsRow q 5 1 (.slice va bs[i].2.length vc) bs[i].2.length (bs[i].2.map (Value.int .u8)) := by
  obtain ⟨its, rfl, h2, h3⟩ := h.ex
  rw [List.length_map] at hi
  obtain ⟨g, c, rfl, _⟩ := own_form h2 (by omega)
  have hm := h3 its[i] (List.getElem_mem hi)
  obtain ⟨va, vc, hv, _⟩ := own_any hm
  have key : ∀ (l : List (List Int × List Int × Value)) (i : Nat) (hi : i < l.length), (l.flatMap fun t => [Value.string (strOf t.1), t.2.2])[i * 2]? = some (.string (strOf l[i].1)) ∧ (l.flatMap fun t => [Value.string (strOf t.1), t.2.2])[i * 2 + 1]? = some l[i].2.2 := by
    intro l
    induction l with
    | nil => intro i hi; simp at hi
    | cons t l ih =>
      intro i hi
      cases i with
      | zero => exact ⟨rfl, rfl⟩
      | succ i =>
        have := ih i (by simpa using hi)
        rw [List.flatMap_cons]
        rw [show (i + 1) * 2 = i * 2 + 2 by omega, show i * 2 + 2 + 1 = (i * 2 + 1) + 2 by omega]
        exact this
  obtain ⟨k0, k1⟩ := key its i hi
  have f0 := h2.cellAt (i * 2) (by omega)
  have f1 := h2.cellAt (i * 2 + 1) (by omega)
  simp only [List.getElem_map]
  rw [hv] at hm k1
  exact ⟨g, c, va, vc, by rw [List.length_map], (own_lt h2 (k := g) rfl).2, f0.trans k0, f1.trans k1, hm⟩
set_option maxRecDepth 100000 in
set_option maxHeartbeats 4000000 in
set_option pp.deepTerms true in
set_option pp.maxSteps 10000000 in
theorem write_any {w : World} {q : Nat} {V : Value} {bs : List (List Int × List Int)} (h : BoxL w q V bs) (hlen : (wrB bs).length ≤ 100000) (hk : ∀ x ∈ bs, ∀ y ∈ x.1, 0 ≤ y ∧ y ≤ 255) (hn : bs.length ≤ 1000) :
    Calls Try.prog 9 #[V] w fun e w' => ∃ v, e = .returned v ∧ w'.ownsRow w.heap.size 5 1 v (wrB bs).length ((wrB bs).map (Value.int .u8)) ∧ Below w.heap.size w w' := by
  obtain ⟨LA, Lc, rfl⟩ := h.len
  obtain ⟨n, hnn⟩ : ∃ n, bs.length = n := ⟨_, rfl⟩
  have H := Lib.hid h
  have HK := Lib.hid hk
  have HN := Lib.hid hnn
  have HL := Lib.hid hlen
  rw [hnn] at hn ⊢
  clear h hk hnn hlen
  go_enter Try.func9, Try.ntmps9
  go_wp2
  go_loopw [3, 8] (fun v iv wr => ∃ i : Nat, i ≤ n ∧ iv = .int .i64 (i : Int) ∧ Hid (wr.ownsRow w.heap.size 5 1 v (wrB (bs.take i)).length ((wrB (bs.take i)).map (Value.int .u8)) ∧ Below w.heap.size w wr)) (fun _ iv _ => n - (intOf iv).toNat)
  case atStart => exact ⟨0, by omega, rfl, Lib.hid ⟨World.ownsRow_nil _ _ _ _, Below.refl _ _⟩⟩
  case round =>
    obtain ⟨i, hi, rfl, HI⟩ := hrel
    by_cases hlt : i < n
    · have hin : (i : Int) < (n : Int) := by omega
      have hib : i < bs.length := by rw [HN.out]; exact hlt
      obtain ⟨g, c, va, vc, hV, hgl, a0, a1, hrow⟩ := H.out.at hib
      replace a0 := (World.cell?_of_block (w' := wr) (a := ⟨g, i * 2, none⟩) (HI.out.2.block g hgl)).trans a0
      replace a1 := (World.cell?_of_block (w' := wr) (a := ⟨g, i * 2 + 1, none⟩) (HI.out.2.block g hgl)).trans a1
      obtain ⟨rfl, rfl⟩ : LA = some ⟨g, 0, none⟩ ∧ Lc = c := by cases hV; exact ⟨rfl, rfl⟩
      obtain ⟨kd, hkd⟩ : ∃ kd, bs[i].1 = kd := ⟨_, rfl⟩
      obtain ⟨d, hd⟩ : ∃ d, bs[i].2 = d := ⟨_, rfl⟩
      have htk : wrB (bs.take (i + 1)) = wrB (bs.take i) ++ (putL (8 + (d.length : Int)) 4 ++ kd ++ d) := by
        rw [List.take_succ_eq_append_getElem hib]
        unfold wrB
        rw [List.flatMap_append, List.flatMap_cons, List.flatMap_nil, List.append_nil]
        unfold boxB
        rw [hkd, hd]
      have htl : (wrB (bs.take (i + 1))).length ≤ 100000 := by
        have : (wrB (bs.take (i + 1))).length ≤ (wrB bs).length := by
          conv => rhs; rw [← List.take_append_drop (i + 1) bs]
          unfold wrB
          rw [List.flatMap_append, List.length_append]
          omega
        have := HL.out
        omega
      rw [hkd] at a0
      rw [hd] at a1 hrow
      have hkb : ∀ x ∈ kd, 0 ≤ x ∧ x ≤ 255 := fun x hx => HK.out bs[i] (List.getElem_mem hib) x (by rw [hkd]; exact hx)
      obtain ⟨X, hX⟩ : ∃ X, wrB (bs.take i) = X := ⟨_, rfl⟩
      rw [hX] at HI htk
      rw [htk] at htl
      simp only [List.length_append, putL_len] at htl
      have HTK := Lib.hid htk
      have HKB := Lib.hid hkb
      have HRW := Lib.hid hrow
      have hdl : ((d.length : Int)) ≤ 100000 := by omega
      clear hkd hd htk hkb hrow hV hX
      go_wp2_with fail
      obtain ⟨W1, hW1⟩ : ∃ W1, wr.alloc (Obj.cells #[.string (strOf kd), .slice va d.length vc] 42) = W1 := ⟨_, rfl⟩
      have hb1 : Below w.heap.size w W1 := by rw [← hW1]; exact HI.out.2.alloc HI.out.2.size _
      have hz1 : W1.heap[wr.heap.size]? = some (.cells #[.string (strOf kd), .slice va d.length vc] 42 (0, 0)) := by rw [← hW1]; exact World.alloc_heap_new wr _
      have ho1 : W1.ownsRow w.heap.size 5 1 u3 X.length (X.map (Value.int .u8)) := by rw [← hW1]; exact HI.out.1.alloc _
      rw [hW1]
      clear hW1
      refine (put4 _ _).mono ?_
      rintro e w2 ⟨g2, cap2, rfl, hp2, hb2⟩
      have ho2 := own_kept (r := none) ho1 (grown_below hb2 (Nat.le_refl _)) (fun k e => by cases e)
      have hb2' := hb1.trans (hb2.mono hb1.size)
      obtain ⟨v3, w3, r3, o3, g3⟩ := app_bytes ho2 hp2 hb2'.size (by omega)
      have lt2 : ∀ {wx : World} {m : Nat} {v : Value} {xs : List Value}, wx.ownsRow w.heap.size 5 1 v m xs → ∀ k, v.ownBlock = some k → w.heap.size ≤ k := fun h k e => (own_lt h e).1
      have hb3 := hb2'.grown g3 (by have := hb2'.size; omega) (lt2 ho2)
      obtain ⟨v4, w4, r4, o4, g4⟩ := app_str o3 HKB.out hb3.size (by omega)
      have hb4 := hb3.grown g4 (by have := hb3.size; omega) (lt2 o3)
      have hrow4 := ownsRow_keep HRW.out hb4.size (fun k hk => hb4.block k (own_lt HRW.out hk).2)
      obtain ⟨v5, w5, r5, o5, g5⟩ := app_bytes o4 hrow4 hb4.size (by omega)
      have hb5 := hb4.grown g5 (by have := hb4.size; omega) (lt2 o4)
      have HN5 : Hid (w5.ownsRow w.heap.size 5 1 v5 (wrB (bs.take (i + 1))).length ((wrB (bs.take (i + 1))).map (Value.int .u8)) ∧ Below w.heap.size w w5) := Lib.hid ⟨by
        rw [HTK.out]
        have e : (X ++ (putL (8 + (d.length : Int)) 4 ++ kd ++ d)).length = X.length + 4 + kd.length + d.length := by
          simp only [List.length_append, putL_len]; omega
        rw [e, ← List.append_assoc, ← List.append_assoc]
        exact o5, hb5⟩
      obtain ⟨A3, c3, rfl, _⟩ := own_any o3
      obtain ⟨A4, c4, rfl, _⟩ := own_any o4
      have zz : ∀ {wx : World}, W1.heap.size ≤ wx.heap.size → True := fun _ => trivial
      have q0 := blk_cell hz1 0
      have q1 := blk_cell hz1 1
      have k2 : w2.heap[wr.heap.size]? = W1.heap[wr.heap.size]? := hb2.block _ (blk_lt hz1)
      have nb : ∀ {wx : World} {m : Nat} {v : Value} {xs : List Value}, wx.ownsRow w.heap.size 5 1 v m xs → wx.heap[wr.heap.size]? = some (.cells #[.string (strOf kd), .slice va d.length vc] 42 (0, 0)) → v.ownBlock ≠ some wr.heap.size := fun h hz e => by
        obtain ⟨cs, fr, hc⟩ := own_blk h e
        rw [hz] at hc
        cases hc
      have z2 := k2.trans hz1
      have z3 := (g3.block _ (blk_lt z2) (fun e => nb ho2 z2 e.symm)).trans z2
      have z4 := (g4.block _ (blk_lt z3) (fun e => nb o3 z3 e.symm)).trans z3
      have y2 := blk_cell z3 0
      have y3 := blk_cell z4 1
      simp at y2 y3
      clear hb1 hz1 ho1 hp2 hb2 ho2 hb2' o3 g3 lt2 hb3 o4 g4 hb4 hrow4 o5 g5 hb5 zz q0 q1 k2 nb z2 z3 z4 HI HTK HRW a0 a1
      go_wp2
      go_roundw
      case rel => exact ⟨i + 1, by omega, by go_num, HN5⟩
      case measure => simp [intOf]; omega
    · obtain rfl : i = n := by omega
      have hnlt : ¬ (i : Int) < (i : Int) := by omega
      have HF := Lib.hid HI.out
      have hu := HF.out.1
      rw [List.take_of_length_le (by rw [HN.out]; exact Nat.le_refl _)] at hu
      have HU := Lib.hid (And.intro hu HF.out.2)
      clear hu
      go_wp2
      go_ret
      exact ⟨_, rfl, HU.out⟩
end Go.Proofs.Ytfjkfajhfnmjjaa
