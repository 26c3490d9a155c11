/- packet: bands without blocks, or whose blocks have nothing (PacketEmpty). -/
import Derived.Test.YtobbkdhndojggaaPkF
import Derived.Test.YtobbkdhndojggaaApps
set_option linter.unusedVariables false
set_option linter.unusedSimpArgs false
namespace Go.Proofs.Ytobbkdhndojggaa
open Go.RowKit
attribute [local go_sem ↓] appSem_eq
set_option maxRecDepth 100000
theorem app_u8 {w : World} {base n : Nat} {v : Value} {X L : List Value} {a : Addr} {m cs : Nat} (hown : w.ownsRow base 5 1 v n X) (hl : L.length = m) (hL : ∀ i u, L[i]? = some u → w.cell? (a.add i) = some u) (h1 : ∀ u ∈ L, u.oneCell' = true) (hb : base ≤ w.heap.size) (hlen : n + m ≤ 100000) :
    ∃ v' w', (appSem #[27, 27] 27 #[v, .slice (some a) m cs]).run Try.prog w = .ok v' w' ∧ w'.ownsRow base 5 1 v' (n + m) (X ++ L) ∧ w.grownBy w' v.ownBlock := by
  have hinfo : (Try.prog.info? 5).map (fun i => (i.zero, i.size, i.bytes)) = some (some (.int .u8 0), 1, 1) := by kernel_rfl
  obtain ⟨i0, hi, hzz⟩ := Option.map_eq_some_iff.1 hinfo
  simp only [Prod.mk.injEq] at hzz
  obtain ⟨hz0, hz1, hz2⟩ := hzz
  obtain ⟨v', w', hr, hown', hg, _, hat⟩ := run_append_own_at (P := Try.prog) w base 27 27 5 i0 (.int .u8 0) 1 1 (by kernel_rfl) hi hz0 hz1 hz2 rfl (by decide) v n _ hown a m cs L (by rw [hl]; simp) hL h1 (by unfold maxLen; omega) (by omega) hb
  exact ⟨v', w', hr, hown', hg⟩
set_option maxHeartbeats 400000 in
theorem within15 (a n : Int) (w : World) (hn : 1 ≤ n) (hm : n ≤ 4611686018427387904) :
    Calls Try.prog 6 #[.int .i64 a, .int .i64 n] w fun e w' => e = .returned (.int .i64 (a % n)) ∧ w = w' := by
  have hb := within_bd a n hn
  have hk := within_key a n hn
  have HK := Lib.hid hk
  clear hk
  have h0 : ¬ n = 0 := by omega
  by_cases hc : a.tmod n < 0
  · go_enter Try.func6, Try.ntmps6
    go_wp2
    go_ret
    refine ⟨ret_i64 ?_, rfl⟩
    rw [← HK.out, if_pos (by omega)]
  · go_enter Try.func6, Try.ntmps6
    go_wp2
    go_ret
    refine ⟨ret_i64 ?_, rfl⟩
    rw [← HK.out, if_neg (by omega)]
theorem nat15 (a : Int) (n : Nat) (w : World) (hn : 1 ≤ n) (hm : n ≤ 100000) :
    Calls Try.prog 6 #[.int .i64 a, .int .i64 (n : Int)] w fun e w' => ∃ k : Nat, e = .returned (.int .i64 (k : Int)) ∧ k < n ∧ w = w' :=
  (within15 a n w (by omega) (by omega)).mono fun e w' ⟨he, hw⟩ => by
    have h := within_rng a (n : Int) (by omega)
    exact ⟨(a % (n : Int)).toNat, by rw [he]; congr 2; omega, by omega, hw⟩
/-- A row of one Band, as a literal makes it. -/
theorem oneRow (w : World) (pb : Nat) : (w.alloc (.cells #[.pointer (some ⟨pb, 0, none⟩)] 24)).cell? ⟨w.heap.size, 0, none⟩ = some (.pointer (some ⟨pb, 0, none⟩)) := blk_cell (World.alloc_heap_new w _) 0
theorem enc_any (pb ib n of ly : Nat) (pl : Int) (w : World) (hh : BHead w pb ib n pl) (hi : BItems w ib n) (hn : n ≤ 100) (hof : 1 ≤ of ∧ of ≤ 1000) (hly : ly + 1 ≤ 1000) :
    Calls Try.prog 13 #[.slice (some ⟨w.heap.size, 0, none⟩) 1 1, .int .i64 0, .int .i64 (of : Int), .int .i64 (ly : Int)] (w.alloc (.cells #[.pointer (some ⟨pb, 0, none⟩)] 24)) fun e w' => ∃ g c, e = .returned (.tuple #[.slice (some ⟨g, 0, none⟩) 1 c, .slice none 0 0]) ∧ w'.cell? ⟨g, 0, none⟩ = some (.int .u8 0) ∧ g < w'.heap.size ∧ Below w.heap.size w w' := by
  have hb : Below w.heap.size w (w.alloc (.cells #[.pointer (some ⟨pb, 0, none⟩)] 24)) := (Below.refl _ w).alloc (Nat.le_refl _) _
  refine (encode0 w.heap.size pb ib n of ly pl 0 _ (hh.keep (hb.block _ hh.lt)) (hi.keep (hb.block _ hi.lt)) (oneRow w pb) (by omega) hof hly).mono ?_
  rintro e w' ⟨v, he, ho, hb2⟩
  obtain ⟨g, c, rfl, h1, h2, h3, h4⟩ := own_form ho (by omega)
  exact ⟨g, c, he, (ho.cellAt 0 (by omega)).trans rfl, h2, hb.trans (hb2.mono (by simp))⟩
set_option maxHeartbeats 4000000 in
theorem known15 (w : World) : Calls Try.prog 5 #[] w fun e w' => e = .returned (.bool true) ∧ Below w.heap.size w w' := by
  go_enter Try.func5, Try.ntmps5
  go_wp2_with fail
  refine (newBand_any 1 1 5 w (by omega) (by omega)).mono ?_
  rintro e w1 ⟨pb, ib, rfl, h1, h2, h3, h4, h5, hb⟩
  have HB := Lib.hid hb
  have EN := Lib.hid (enc_any pb ib _ 1 0 _ w1 h1 h2 (by omega) (by omega) (by omega))
  clear hb h1 h2 h5
  go_wp2_with fail
  refine EN.out.mono ?_
  rintro e w2 ⟨g, c, rfl, hc, hg, hb⟩
  have HB2 := Lib.hid (HB.out.trans (hb.mono HB.out.size))
  clear hb EN
  go_wp2
  go_ret
  exact ⟨rfl, HB2.out⟩
/-- Both Bands. -/
structure PE (w0 w : World) (pa ia pb ib n : Nat) : Prop where
  a : BHead w pa ia n 9
  ai : BItems w ia n
  b : BHead w pb ib n 9
  bi : BItems w ib n
  bel : Below w0.heap.size w0 w
theorem PE.below {w0 w w' : World} {pa ia pb ib n : Nat} (h : PE w0 w pa ia pb ib n) (hb : Below w.heap.size w w') : PE w0 w' pa ia pb ib n :=
  ⟨h.a.keep (hb.block _ h.a.lt), h.ai.keep (hb.block _ h.ai.lt), h.b.keep (hb.block _ h.b.lt), h.bi.keep (hb.block _ h.bi.lt), h.bel.trans (hb.mono h.bel.size)⟩
set_option maxHeartbeats 8000000 in
theorem walk_packetEmpty (a0 : Int) (a1 : Int) (a2 : Int) (w : World) (w0 : (Lit.int .i64 a0).wf = true) (w1 : (Lit.int .i64 a1).wf = true) (w2 : (Lit.int .i64 a2).wf = true) :
    Calls Try.prog 4 #[.int .i64 a0, .int .i64 a1, .int .i64 a2] w fun e w' => e = .returned (.bool true) ∧ Below w.heap.size w w' := by
  clear w0 w1 w2
  have K := Lib.hid (known15 w)
  go_enter Try.func4, Try.ntmps4
  go_wp2_with fail
  refine K.out.mono ?_
  rintro e u0 ⟨rfl, hb⟩
  have HB0 := Lib.hid hb
  clear hb K
  go_wp2_with fail
  refine (nat15 a0 5 _ (by omega) (by omega)).mono ?_
  rintro e w' ⟨W, rfl, hW, rfl⟩
  go_wp2_with fail
  refine (nat15 a1 5 _ (by omega) (by omega)).mono ?_
  rintro e w' ⟨H, rfl, hH, rfl⟩
  go_wp2_with fail
  refine (nat15 a2 8 _ (by omega) (by omega)).mono ?_
  rintro e w' ⟨q, rfl, hq, rfl⟩
  obtain ⟨of, hof⟩ : ∃ of : Nat, (1 : Int) + (q : Int) = (of : Int) := ⟨1 + q, by simp⟩
  have hofb : 1 ≤ of ∧ of ≤ 8 := by omega
  obtain ⟨n, hn⟩ : ∃ n, W * H = n := ⟨_, rfl⟩
  have hnb : n ≤ 16 := by rw [← hn]; exact Nat.mul_le_mul (by omega : W ≤ 4) (by omega : H ≤ 4)
  have NB := Lib.hid (fun u => newBand_any W H 9 u (by omega) (by omega))
  rw [hn] at NB
  clear hn
  go_wp2_with fail
  clear hof
  refine (NB.out _).mono ?_
  rintro e u1 ⟨pa, ia, rfl, a1', a2', a3, a4, a5, hb1⟩
  have HA1 := Lib.hid (And.intro a1' (And.intro a2' (HB0.out.trans (hb1.mono HB0.out.size))))
  clear a1' a2' hb1 HB0 a5
  go_wp2_with fail
  refine (NB.out _).mono ?_
  rintro e u2 ⟨pb, ib, rfl, b1, b2, b3, b4, b5, hb2⟩
  have HP : Hid (PE w u2 pa ia pb ib n) := Lib.hid ⟨HA1.out.1.keep (hb2.block _ HA1.out.1.lt), HA1.out.2.1.keep (hb2.block _ HA1.out.2.1.lt), b1, b2, HA1.out.2.2.trans (hb2.mono HA1.out.2.2.size)⟩
  clear b1 b2 hb2 HA1 NB b5 a3 a4 b3 b4
  go_wp2_with fail
  go_loopg [9] of (fun g v wr => ∃ i : Nat, i + g = of ∧ v = .int .i64 (i : Int) ∧ Hid (PE w wr pa ia pb ib n))
  case atStart => exact ⟨0, by omega, rfl, HP⟩
  case round =>
    obtain ⟨i, hig, rfl, HPr⟩ := hrel
    clear HP
    by_cases hlt : i < of
    · obtain ⟨g1, rfl⟩ : ∃ g1, gk = g1 + 1 := ⟨gk - 1, by omega⟩
      have hltI : (i : Int) < (of : Int) := by omega
      have EN := Lib.hid (enc_any pa ia n of i 9 wr HPr.out.a HPr.out.ai (by omega) (by omega) (by omega))
      go_wp2_with fail
      refine EN.out.mono ?_
      rintro e w1 ⟨g, c, rfl, hc, hg, hb⟩
      have HP1 := Lib.hid (HPr.out.below hb)
      clear hb EN HPr
      obtain ⟨W2, hW2⟩ : ∃ W2, w1.alloc (Obj.cells #[.pointer (some ⟨pb, 0, none⟩)] 24) = W2 := ⟨_, rfl⟩
      have hb2 : Below w1.heap.size w1 W2 := by rw [← hW2]; exact (Below.refl _ _).alloc (Nat.le_refl _) _
      have hs2 : W2.heap.size = w1.heap.size + 1 := by rw [← hW2]; simp
      have hr2 : W2.cell? ⟨w1.heap.size, 0, none⟩ = some (.pointer (some ⟨pb, 0, none⟩)) := by rw [← hW2]; exact oneRow w1 pb
      obtain ⟨W3, hW3⟩ : ∃ W3, W2.alloc (Obj.cells #[] 5) = W3 := ⟨_, rfl⟩
      have hb3 : Below w1.heap.size w1 W3 := by rw [← hW3]; exact hb2.alloc (by omega) _
      have hs3 : W3.heap.size = w1.heap.size + 2 := by rw [← hW3]; simp [hs2]
      have ho3 : W3.ownsRow (w1.heap.size + 1) 5 1 (.slice (some ⟨W2.heap.size, 0, none⟩) 0 0) 0 [] := by
        have h3 := World.alloc_heap_new W2 (Obj.cells #[] 5)
        rw [hW3] at h3
        exact ⟨rfl, .inr ⟨_, 0, #[], rfl, by omega, h3, Nat.le_refl _, by unfold maxLen; omega, rfl, rfl⟩⟩
      rw [hs2] at ho3
      obtain ⟨v1, w4, hr4, ho4, hg4⟩ := app_u8 (L := [.int .u8 0]) (m := 1) (cs := c) (a := ⟨g, 0, none⟩) ho3 rfl (fun j u hu => by
        rcases j with _ | j
        · simp at hu; subst hu; simpa [Addr.add] using (hb3.cell (p := ⟨g, 0, none⟩) hg).trans hc
        · simp at hu) (fun u hu => by simp at hu; subst hu; rfl) (by omega) (by omega)
      obtain ⟨q1, c1, rfl, hq1, hq2, hq3, hq4⟩ := own_form ho4 (by omega)
      have hb4 : Below w1.heap.size w1 w4 := hb3.grown hg4 (by omega) (fun k e => by simp [Value.ownBlock] at e; omega)
      have hs4 := hg4.size
      obtain ⟨W5, hW5⟩ : ∃ W5, w4.alloc (Obj.cells #[.int .u8 9] 5) = W5 := ⟨_, rfl⟩
      have h5 : W5.heap[w4.heap.size]? = some (.cells #[.int .u8 9] 5 (0, 0)) := by rw [← hW5]; exact World.alloc_heap_new w4 _
      have ho5 : W5.ownsRow (w1.heap.size + 1) 5 1 (.slice (some ⟨q1, 0, none⟩) 1 c1) 1 ([] ++ [.int .u8 0]) := by rw [← hW5]; exact ho4.alloc _
      have hb5 : Below w1.heap.size w1 W5 := by rw [← hW5]; exact hb4.alloc (by omega) _
      have hs5 : W5.heap.size = w4.heap.size + 1 := by rw [← hW5]; simp
      obtain ⟨v2, w6, hr6, ho6, hg6⟩ := app_u8 (L := [.int .u8 9]) (m := 1) (cs := 1) (a := ⟨w4.heap.size, 0, none⟩) ho5 rfl (fun j u hu => by
        rcases j with _ | j
        · simp at hu; subst hu; simpa [Addr.add] using blk_cell h5 0
        · simp at hu) (fun u hu => by simp at hu; subst hu; rfl) (by omega) (by omega)
      obtain ⟨q2, c2, rfl, hp1, hp2, hp3, hp4⟩ := own_form ho6 (by omega)
      have hb6 : Below w1.heap.size w1 w6 := hb5.grown hg6 (by omega) (fun k e => by simp [Value.ownBlock] at e; omega)
      have HP6 := Lib.hid (HP1.out.below hb6)
      have hA6 : w6.cell? ⟨w1.heap.size, 0, none⟩ = some (.pointer (some ⟨pb, 0, none⟩)) := by
        have e4 : w4.heap[w1.heap.size]? = W3.heap[w1.heap.size]? := hg4.block _ (by omega) (by simp [Value.ownBlock] <;> omega)
        have e5 : W5.heap[w1.heap.size]? = w4.heap[w1.heap.size]? := by rw [← hW5]; exact Below.heap_alloc _ _ _ (by omega)
        have e6 : w6.heap[w1.heap.size]? = W5.heap[w1.heap.size]? := hg6.block _ (by omega) (by simp [Value.ownBlock] <;> omega)
        have e3 : W3.heap[w1.heap.size]? = W2.heap[w1.heap.size]? := by rw [← hW3]; exact Below.heap_alloc _ _ _ (by omega)
        exact (World.cell?_of_block (w := W2) (e6.trans (e5.trans (e4.trans e3)))).trans hr2
      have DE := Lib.hid (decode0 w1.heap.size pb ib n 9 i c2 ⟨q2, 0, none⟩ w6 HP6.out.b hA6 (by omega) (by omega) (by omega) (Lst.own ho6) ⟨hp3, hp4⟩)
      have HC6 := Lib.hid ((hb6.cell (p := ⟨g, 0, none⟩) hg).trans hc)
      have hgl : g < w6.heap.size := Nat.lt_of_lt_of_le hg hb6.size
      have R4 := Lib.hid hr4
      have R6 := Lib.hid hr6
      clear hb2 hb3 ho3 ho4 hg4 hb4 h5 ho5 hb5 ho6 hg6 hb6 hA6 HP1 hc hr2 hs3 hs4 hs5 hq1 hq2 hq3 hq4 hp1 hp2 hp3 hp4
      go_wp2_with fail
      refine DE.out.mono ?_
      rintro e w7 ⟨rfl, hb7⟩
      have k0 : w7.cell? ⟨g, 0, none⟩ = some (.int .u8 0) := (hb7.cell (p := ⟨g, 0, none⟩) hgl).trans HC6.out
      have HP7 := Lib.hid (HP6.out.below hb7)
      clear hb7 DE HC6 HP6 hr4 hr6 hW2 hW3 hW5 hs2
      go_wp2_with fail
      go_roundg g1
      case rel => exact ⟨i + 1, by omega, by go_num, HP7⟩
      case measure => omega
    · obtain rfl : i = of := by omega
      have hnlt : ¬ (i : Int) < (i : Int) := by omega
      have BL := Lib.hid (block0 pb ib n 9 wr HPr.out.b HPr.out.bi)
      have HB := Lib.hid HPr.out.bel
      clear HPr
      go_wp2_with fail
      refine BL.out.mono ?_
      rintro e w7 ⟨rfl, hb7⟩
      have HB7 := Lib.hid (HB.out.trans (hb7.mono HB.out.size))
      have hfld : ∀ (v0 v1 v2 : Value) (u : World), (Instr.field 36 (.agg #[v0, v1, v2]) 1).run Try.prog u = .ok v1 u := fun _ _ _ _ => by kernel_rfl
      clear hb7 BL
      go_wp2
      go_ret
      exact ⟨rfl, HB7.out⟩
end Go.Proofs.Ytobbkdhndojggaa
