/- boxes: rows. -/
import Derived.Test.YtfjkfajhfnmjjaaBoxX
import Derived.Test.YtfjkfajhfnmjjaaBoxU
set_option linter.unusedVariables false
set_option linter.unusedSimpArgs false
namespace Go.Proofs.Ytfjkfajhfnmjjaa
open Go.RowKit
attribute [local go_sem ↓] appSem_eq
set_option maxRecDepth 100000
/-- Boxes as they are handed in. -/
def BoxIn (w : World) (A : Option Addr) (len cap : Nat) : Prop :=
  len ≤ cap ∧ cap ≤ maxLen ∧ ∀ i, i < len → ∃ b o, A = some ⟨b, o, none⟩ ∧ b < w.heap.size ∧ ∃ S va ln cp zs, S.size ≤ 140737488351232 ∧ w.cell? ⟨b, o + i * 2, none⟩ = some (.string S) ∧ w.cell? ⟨b, o + i * 2 + 1, none⟩ = some (.slice va ln cp) ∧ IsRow .u8 w va ln cp zs
def kdOf (S : ByteArray) : List Int := (S.data.toList.map (fun (b : UInt8) => (b.toNat : Int)) ++ [97, 98, 99, 100]).take 4
theorem kdOf_len (S : ByteArray) : (kdOf S).length = 4 := by
  unfold kdOf
  rw [List.length_take, List.length_append]
  simp
theorem kdOf_bytes (S : ByteArray) : ∀ x ∈ kdOf S, 0 ≤ x ∧ x ≤ 255 := by
  intro x hx
  have hx := List.mem_of_mem_take hx
  rcases List.mem_append.1 hx with h | h
  · obtain ⟨b, _, rfl⟩ := List.mem_map.1 h
    have := b.toNat_lt
    omega
  · simp at h
    omega
theorem kdOf_str (S : ByteArray) : (S ++ ⟨#[97, 98, 99, 100]⟩).extract 0 4 = strOf (kdOf S) := by
  have e : ((S ++ ⟨#[97, 98, 99, 100]⟩).extract 0 4).data.toList = (strOf (kdOf S)).data.toList := by
    rw [strOf_data, kdOf]
    simp only [ByteArray.data_extract, ByteArray.data_append, Array.toList_extract, Array.toList_append, List.map_take, List.map_append, List.map_map]
    simp [List.extract_eq_take_drop]
    congr 1
    congr 1
    refine (List.map_id'' ?_ _).symm
    intro b
    simp
  have : ∀ (a b : ByteArray), a.data.toList = b.data.toList → a = b := by
    rintro ⟨⟨a⟩⟩ ⟨⟨b⟩⟩ h
    simp at h
    rw [h]
  exact this _ _ e
structure BoxP (w : World) (q B0 : Nat) (V : Value) (bs : List (List Int × List Int)) : Prop where
  ex : ∃ its : List (List Int × List Int × Option Addr × Nat), bs = its.map (fun t => (t.1, t.2.1)) ∧ w.ownsRow q 47 2 V its.length (its.flatMap fun t => [.string (strOf t.1), .slice t.2.2.1 t.2.1.length t.2.2.2]) ∧
    ∀ t ∈ its, (t.2.2.1 = none → t.2.1.length = 0 ∧ t.2.2.2 = 0) ∧ t.2.1.length ≤ t.2.2.2 ∧ t.2.2.2 ≤ maxLen ∧ Lst w B0 t.2.2.1 (t.2.1.map (Value.int .u8))
section
variable {w w' : World} {q B0 : Nat} {V : Value} {bs : List (List Int × List Int)}
theorem BoxP.below (h : BoxP w q B0 V bs) (hb : Below w.heap.size w w') (hB : B0 ≤ w.heap.size) : BoxP w' q B0 V bs := by
  obtain ⟨its, h1, h2, h3⟩ := h.ex
  exact ⟨its, h1, own_kept (r := none) h2 (grown_below hb (Nat.le_refl _)) (fun k e => by cases e), fun t ht => ⟨(h3 t ht).1, (h3 t ht).2.1, (h3 t ht).2.2.1, (h3 t ht).2.2.2.below (hb.mono hB)⟩⟩
theorem BoxP.len (h : BoxP w q B0 V bs) : ∃ A c, V = .slice A bs.length c := by
  obtain ⟨its, rfl, h2, h3⟩ := h.ex
  obtain ⟨A, c, rfl, _⟩ := own_any h2
  exact ⟨A, c, by rw [List.length_map]⟩
theorem BoxP.kept (h : BoxP w q B0 V bs) {r : Option Nat} (hg : w.grownBy w' r) (hB : B0 ≤ w.heap.size) (hr : ∀ k, r = some k → B0 ≤ k ∧ ∃ cs t fr, w.heap[k]? = some (.cells cs t fr) ∧ t ≠ 47) : BoxP w' q B0 V bs := by
  obtain ⟨its, h1, h2, h3⟩ := h.ex
  refine ⟨its, h1, own_kept h2 hg fun k e => .inr (hr k e).2, fun t ht => ⟨(h3 t ht).1, (h3 t ht).2.1, (h3 t ht).2.2.1, (h3 t ht).2.2.2.keep fun p hp => World.cell?_of_block (hg.block p.block (by omega) fun e => ?_)⟩⟩
  have := (hr p.block e.symm).1
  omega
theorem BoxL.kept2 (h : BoxL w q V bs) {r : Option Nat} (hg : w.grownBy w' r) (hr : ∀ k, r = some k → ∃ cs fr, w.heap[k]? = some (.cells cs 47 fr)) : BoxL w' q V bs := by
  obtain ⟨its, h1, h2, h3⟩ := h.ex
  exact ⟨its, h1, own_kept h2 hg fun k e => .inr (by obtain ⟨cs, fr, h⟩ := hr k e; exact ⟨cs, _, fr, h, by decide⟩), fun t ht => own_kept (h3 t ht) hg fun k e => .inr (by obtain ⟨cs, fr, h⟩ := hr k e; exact ⟨cs, _, fr, h, by decide⟩)⟩
theorem BoxP.blk (h : BoxP w q B0 V bs) {k : Nat} (e : V.ownBlock = some k) : q ≤ k ∧ ∃ cs fr, w.heap[k]? = some (.cells cs 47 fr) := by
  obtain ⟨its, _, h2, _⟩ := h.ex
  exact ⟨(own_lt h2 e).1, own_blk h2 e⟩
theorem BoxL.blk (h : BoxL w q V bs) {k : Nat} (e : V.ownBlock = some k) : q ≤ k ∧ ∃ cs fr, w.heap[k]? = some (.cells cs 42 fr) := by
  obtain ⟨its, _, h2, _⟩ := h.ex
  exact ⟨(own_lt h2 e).1, own_blk h2 e⟩
theorem BoxP.app {z : Nat} {k d : List Int} {va : Option Addr} {vc : Nat} (h : BoxP w q B0 V bs) (h1' : va = none → d.length = 0 ∧ vc = 0) (h2' : d.length ≤ vc) (h3' : vc ≤ maxLen) (hL : Lst w B0 va (d.map (Value.int .u8))) (hB : B0 ≤ q)
    (hz : w.heap[z]? = some (.cells #[.string (strOf k), .slice va d.length vc] 47 (0, 0))) (hb : q ≤ w.heap.size) (hm : bs.length ≤ 1000) :
    ∃ V' w', (appSem #[26, 26] 26 #[V, .slice (some ⟨z, 0, none⟩) 1 1]).run Try.prog w = .ok V' w' ∧ BoxP w' q B0 V' (bs ++ [(k, d)]) ∧ w.grownBy w' V.ownBlock := by
  obtain ⟨i0, hi, hzz⟩ := Option.map_eq_some_iff.1 info47
  simp only [Prod.mk.injEq] at hzz
  obtain ⟨hz0, hz1, hz2⟩ := hzz
  obtain ⟨its, rfl, h2, h3⟩ := h.ex
  rw [List.length_map] at hm
  obtain ⟨v', w', hr, hown', hg, _, hat⟩ := run_append_own_at (P := Try.prog) w q 26 26 47 i0 _ 2 40 (by kernel_rfl) hi hz0 hz1 hz2 rfl (by decide) V its.length _ h2 ⟨z, 0, none⟩ 1 1 [.string (strOf k), .slice va d.length vc] rfl (fun j u hu => by
    rcases j with _ | _ | j
    · simp at hu; subst hu; simp [World.cell?, Addr.add, hz]
    · simp at hu; subst hu; simp [World.cell?, Addr.add, hz]
    · simp at hu) (fun u hu => by
    simp at hu
    rcases hu with rfl | rfl <;> rfl) (by unfold maxLen; omega) (by omega) hb
  have hk : ∀ {A : Option Addr} {l : List Int}, Lst w B0 A (l.map (Value.int .u8)) → Lst w' B0 A (l.map (Value.int .u8)) := fun h => h.keep fun p hp => World.cell?_of_block (hg.block p.block (by omega) fun e => by
    have := (own_lt h2 e.symm).1
    omega)
  refine ⟨v', w', hr, ⟨its ++ [(k, d, va, vc)], by simp, by simpa using hown', fun t ht => ?_⟩, hg⟩
  rcases List.mem_append.1 ht with ht | ht
  · exact ⟨(h3 t ht).1, (h3 t ht).2.1, (h3 t ht).2.2.1, hk (h3 t ht).2.2.2⟩
  · obtain rfl : t = (k, d, va, vc) := by simpa using ht
    exact ⟨h1', h2', h3', hk hL⟩
theorem BoxP.rd (h : BoxP w q B0 V bs) (hB : B0 ≤ w.heap.size) : BxR w w.heap.size V bs := by
  obtain ⟨its, rfl, h2, h3⟩ := h.ex
  obtain ⟨A, c, rfl, _⟩ := own_any h2
  refine ⟨A, c, by rw [List.length_map], fun i k d e => ?_⟩
  rw [List.getElem?_map] at e
  obtain ⟨t, ht, htt⟩ := Option.map_eq_some_iff.1 e
  simp only [Prod.mk.injEq] at htt
  obtain ⟨rfl, rfl⟩ := htt
  have hi : i < its.length := (List.getElem?_eq_some_iff.1 ht).1
  obtain ⟨g, c', hV, _⟩ := own_form h2 (by omega)
  cases hV
  obtain ⟨a1, a2, a3, a4⟩ := h3 t (List.mem_of_getElem? ht)
  have hfm : ∀ j u, ([.string (strOf t.1), .slice t.2.2.1 t.2.1.length t.2.2.2] : List Value)[j]? = some u → (its.flatMap fun t => [Value.string (strOf t.1), .slice t.2.2.1 t.2.1.length t.2.2.2])[i * 2 + j]? = some u := by
    intro j u hu
    have hj : j < 2 := by rcases j with _ | _ | j <;> simp at hu ⊢
    have key : ∀ (l : List (List Int × List Int × Option Addr × Nat)) (i : Nat), l[i]? = some t → (l.flatMap fun t => [Value.string (strOf t.1), .slice t.2.2.1 t.2.1.length t.2.2.2])[i * 2 + j]? = some u := by
      intro l
      induction l with
      | nil => intro i h; simp at h
      | cons x l ih =>
        intro i h
        cases i with
        | zero =>
          simp at h
          subst h
          rw [List.flatMap_cons, List.getElem?_append_left (by simp; omega)]
          simpa using hu
        | succ i =>
          rw [List.flatMap_cons, List.getElem?_append_right (by simp; omega)]
          simp only [List.length_cons, List.length_nil]
          have := ih i (by simpa using h)
          rw [show (i + 1) * 2 + j - (0 + 1 + 1) = i * 2 + j by omega]
          exact this
    exact key its i ht
  have c0 := h2.cellAt (i * 2) (by omega)
  have c1 := h2.cellAt (i * 2 + 1) (by omega)
  replace c0 := c0.trans (hfm 0 _ rfl)
  replace c1 := c1.trans (hfm 1 _ rfl)
  refine ⟨g, 0, t.2.2.1, t.2.2.2, rfl, (own_lt h2 rfl).2, by simpa using c0, by simpa using c1, a1, a2, a3, a4.more hB⟩
end
set_option maxHeartbeats 8000000 in
set_option pp.deepTerms true in
set_option pp.maxSteps 10000000 in
theorem rows_any {w : World} {A : Option Addr} {len cap : Nat} (h : BoxIn w A len cap) :
    Calls Try.prog 8 #[.slice A len cap] w fun e w' => ∃ V1 V2 bs, e = .returned (.tuple #[V1, V2]) ∧ BoxL w' w.heap.size V1 bs ∧ BoxP w' w.heap.size w.heap.size V2 bs ∧ Below w.heap.size w w' ∧ bs.length ≤ 20 ∧
      ∀ x ∈ bs, x.1.length = 4 ∧ x.2.length ≤ 60 ∧ (∀ y ∈ x.1, 0 ≤ y ∧ y ≤ 255) ∧ ∀ y ∈ x.2, 0 ≤ y ∧ y ≤ 255 := by
  have hcap : len ≤ cap ∧ cap ≤ 9223372036854775807 := by
    obtain ⟨h1, h2, _⟩ := h
    unfold maxLen at h2
    omega
  obtain ⟨n, hn⟩ : ∃ n, min len 20 = n := ⟨_, rfl⟩
  have H := Lib.hid h
  clear h
  go_enter Try.func8, Try.ntmps8
  go_wp2_with fail
  go_loopg [4, 5, 6] n (fun g v4 v5 v wr => ∃ (i : Nat) (bs : List (List Int × List Int)), i + g = n ∧ v = .int .i64 (i : Int) ∧ bs.length = i ∧ Hid (BoxL wr w.heap.size v4 bs) ∧ Hid (BoxP wr w.heap.size w.heap.size v5 bs) ∧ Hid (Below w.heap.size w wr) ∧ Hid (∀ x ∈ bs, x.1.length = 4 ∧ x.2.length ≤ 60 ∧ (∀ y ∈ x.1, 0 ≤ y ∧ y ≤ 255) ∧ ∀ y ∈ x.2, 0 ≤ y ∧ y ≤ 255))
  case atStart => exact ⟨0, [], by omega, rfl, rfl, Lib.hid ⟨[], rfl, World.ownsRow_nil _ _ _ _, by simp⟩, Lib.hid ⟨[], rfl, World.ownsRow_nil _ _ _ _, by simp⟩, Lib.hid (Below.refl _ _), Lib.hid (by simp)⟩
  case round =>
    obtain ⟨i, bs, hig, rfl, hbi, HL, HP, HB, HG⟩ := hrel
    by_cases hlt : i < n
    · obtain ⟨g1, rfl⟩ : ∃ g1, gk = g1 + 1 := ⟨gk - 1, by omega⟩
      obtain ⟨b, o, rfl, hb, S, va, ln, cp, zs, hS, q0, q1, q2⟩ : ∃ b o, A = some ⟨b, o, none⟩ ∧ b < w.heap.size ∧ ∃ S va ln cp zs, S.size ≤ 140737488351232 ∧ w.cell? ⟨b, o + i * 2, none⟩ = some (.string S) ∧ w.cell? ⟨b, o + i * 2 + 1, none⟩ = some (.slice va ln cp) ∧ IsRow .u8 w va ln cp zs := by
        exact H.out.2.2 i (by omega)
      have p0 := (HB.out.cell (p := ⟨b, o + i * 2, none⟩) hb).trans q0
      have p1 := (HB.out.cell (p := ⟨b, o + i * 2 + 1, none⟩) hb).trans q1
      have hlw := lst_of_row q2
      obtain ⟨hzl, hlc, hcm, hnil⟩ := row_len q2
      have hzb := row_u8 q2
      unfold maxLen at hcm
      have hI : (i : Int) < (len : Int) ∧ (i : Int) < 20 ∧ (0 : Int) ≤ (i : Int) ∧ (len : Int) ≤ (cap : Int) := by omega
      have hsz : S.size + 4 ≤ 9223372036854775807 := by omega
      have HZ := Lib.hid (And.intro hlw (And.intro hnil hzb))
      have HZL := Lib.hid hzl
      clear q0 q1 q2 hlw hnil hzb hzl
      obtain ⟨St, hSt⟩ : ∃ St, (S ++ ⟨#[97, 98, 99, 100]⟩).extract 0 4 = St := ⟨_, rfl⟩
      have hxs : 4 ≤ (S ++ (⟨#[97, 98, 99, 100]⟩ : ByteArray)).size := by rw [ByteArray.size_append]; show 4 ≤ S.size + 4; omega
      obtain ⟨m, hm⟩ : ∃ m, min ln 60 = m := ⟨_, rfl⟩
      have hmm : m ≤ ln ∧ m ≤ 60 := by omega
      have hm1 : (if (60 : Int) < (ln : Int) then (60 : Int) else (ln : Int)) = (m : Int) := by split <;> omega
      go_wp2
      go_quiet (fail)
      obtain ⟨va4, vc4, hv4⟩ := HL.out.len
      obtain ⟨va5, vc5, hv5⟩ := HP.out.len
      rw [hbi] at hv4 hv5
      subst hv4
      subst hv5
      obtain ⟨wq, hwq⟩ : ∃ wq, wr.drewN nq = wq := ⟨_, rfl⟩
      have hl0 : BoxL wq w.heap.size (.slice va4 i vc4) bs := by rw [← hwq]; exact HL.out.below (below_drewN (Below.refl _ wr) nq)
      have hp0 : BoxP wq w.heap.size w.heap.size (.slice va5 i vc5) bs := by rw [← hwq]; exact HP.out.below (below_drewN (Below.refl _ wr) nq) HB.out.size
      have hb0 : Below w.heap.size w wq := by rw [← hwq]; exact below_drewN HB.out nq
      rw [hwq]
      obtain ⟨d, hd⟩ : ∃ d, (zs.take ln).take m = d := ⟨_, rfl⟩
      obtain ⟨hz1, hz2, hz3⟩ := HZ.out
      have hzl := HZL.out
      have hdl : d.length = m := by rw [← hd, List.length_take]; omega
      have hdb : ∀ x ∈ d, 0 ≤ x ∧ x ≤ 255 := fun x hx => hz3 x (List.mem_of_mem_take (by rw [hd]; exact hx))
      have hdL : Lst w w.heap.size va (d.map (Value.int .u8)) := by
        have := hz1.take m
        rwa [← List.map_take, hd] at this
      have hnn : va = none → m = 0 ∧ cp = 0 := fun e => by have := hz2 e; omega
      have hkd : strOf (kdOf S) = St := by rw [← kdOf_str, hSt]
      have hB0 := hb0.size
      -- the worlds
      have b1 : Below wq.heap.size wq (wq.alloc (Obj.cells #[] 5)) := (Below.refl _ _).alloc (Nat.le_refl _) _
      have o1 : (wq.alloc (Obj.cells #[] 5)).ownsRow wq.heap.size 5 1 (.slice (some ⟨wq.heap.size, 0, none⟩) 0 0) 0 (([] : List Int).map (Value.int .u8)) := World.ownsRow_made wq #[] 0 (Nat.le_refl _) (by unfold maxLen; omega) rfl
      obtain ⟨v2, w2, r2, o2, g2⟩ := app_lst (L := d) (m := m) (c := cp) (A := va) o1 hdl hnn (hdL.below (hb0.trans (b1.mono hB0))) (by simp) (by omega)
      rw [Nat.zero_add, List.nil_append] at o2
      obtain ⟨A2, c2, rfl, _⟩ := own_any o2
      have b2 : Below wq.heap.size wq w2 := b1.grown g2 (by simp) (fun k e => (own_lt o1 e).1)
      have b3 : Below wq.heap.size wq (w2.alloc (Obj.cells #[.string St, .slice A2 m c2] 42)) := b2.alloc b2.size _
      have z3 : (w2.alloc (Obj.cells #[.string St, .slice A2 m c2] 42)).heap[w2.heap.size]? = some (.cells #[.string (strOf (kdOf S)), .slice A2 d.length c2] 42 (0, 0)) := by
        rw [hkd, hdl]
        exact World.alloc_heap_new w2 _
      have o3 : (w2.alloc (Obj.cells #[.string St, .slice A2 m c2] 42)).ownsRow w.heap.size 5 1 (.slice A2 d.length c2) d.length (d.map (Value.int .u8)) := by
        rw [hdl]
        exact own_base (o2.alloc _) hB0
      have l3 := hl0.below b3
      have p3 := hp0.below b3 hB0
      have s3 := b3.size
      obtain ⟨V4, w4, r4, l4, g4⟩ := l3.app o3 z3 (by omega) (by omega)
      have p4 := p3.kept g4 (by omega) (fun k e => ⟨(l3.blk e).1, by obtain ⟨cs, fr, h⟩ := (l3.blk e).2; exact ⟨cs, _, fr, h, by decide⟩⟩)
      have bb4 : Below w.heap.size w w4 := (hb0.trans (b3.mono hB0)).grown g4 (by omega) (fun k e => (l3.blk e).1)
      have b5 : Below w4.heap.size w4 (w4.alloc (Obj.cells #[.string St, .slice va m cp] 47)) := (Below.refl _ _).alloc (Nat.le_refl _) _
      have z5 : (w4.alloc (Obj.cells #[.string St, .slice va m cp] 47)).heap[w4.heap.size]? = some (.cells #[.string (strOf (kdOf S)), .slice va d.length cp] 47 (0, 0)) := by
        rw [hkd, hdl]
        exact World.alloc_heap_new w4 _
      have l5 := l4.below b5
      have p5 := p4.below b5 bb4.size
      have bb5 := bb4.trans (b5.mono bb4.size)
      have s5 := bb5.size
      obtain ⟨V6, w6, r6, p6, g6⟩ := p5.app (by rw [hdl]; exact hnn) (by omega) (by unfold maxLen; omega) (hdL.below bb5) (Nat.le_refl _) z5 s5 (by omega)
      have l6 := l5.kept2 g6 (fun k e => (p5.blk e).2)
      have bb6 := bb5.grown g6 s5 (fun k e => (p5.blk e).1)
      have HL6 := Lib.hid l6
      have HP6 := Lib.hid p6
      have HB6 := Lib.hid bb6
      have HG6 : Hid (∀ x ∈ bs ++ [(kdOf S, d)], x.1.length = 4 ∧ x.2.length ≤ 60 ∧ (∀ y ∈ x.1, 0 ≤ y ∧ y ≤ 255) ∧ ∀ y ∈ x.2, 0 ≤ y ∧ y ≤ 255) := Lib.hid fun x hx => by
        rcases List.mem_append.1 hx with h | h
        · exact HG.out x h
        · obtain rfl : x = (kdOf S, d) := by simpa using h
          exact ⟨kdOf_len S, by simp only; omega, kdOf_bytes S, hdb⟩
      have HBI : Hid ((bs ++ [(kdOf S, d)]).length = i + 1) := Lib.hid (by rw [List.length_append, hbi]; rfl)
      obtain ⟨A4, c4, hV4⟩ := l4.len
      obtain ⟨A6, c6, hV6⟩ := p6.len
      rw [HBI.out] at hV4 hV6
      subst hV4
      subst hV6
      clear hl0 hp0 hb0 hd hz1 hz2 hz3 hzl hdb hdL hnn hB0 b1 o1 o2 g2 b2 b3 z3 o3 l3 p3 s3 l4 g4 p4 bb4 b5 z5 l5 p5 bb5 s5 p6 g6 l6 bb6 hwq HL HP HB HZ p0 p1 hdl hkd hSt hxs
      go_wp2
      go_roundg g1
      case rel => exact ⟨i + 1, bs ++ [(kdOf S, d)], by omega, by go_num, HBI.out, HL6, HP6, HB6, HG6⟩
      case measure => omega
    · obtain rfl : i = n := by omega
      have hnl : bs.length ≤ 20 := by omega
      have hfin : Hid (BoxL wr w.heap.size u4 bs ∧ BoxP wr w.heap.size w.heap.size u5 bs ∧ Below w.heap.size w wr) := Lib.hid ⟨HL.out, HP.out, HB.out⟩
      clear HL HP HB H
      by_cases h20 : (i : Int) < (len : Int)
      · have h21 : ¬ (i : Int) < 20 := by omega
        go_wp2
        go_ret2
        exact ⟨_, _, rfl, bs, hfin.out.1, hfin.out.2.1, hfin.out.2.2, hnl, fun a b h => HG.out (a, b) h⟩
      · go_wp2
        go_ret2
        exact ⟨_, _, rfl, bs, hfin.out.1, hfin.out.2.1, hfin.out.2.2, hnl, fun a b h => HG.out (a, b) h⟩
end Go.Proofs.Ytfjkfajhfnmjjaa
