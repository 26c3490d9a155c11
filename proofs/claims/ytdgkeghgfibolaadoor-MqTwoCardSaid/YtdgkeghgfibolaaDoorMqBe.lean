/- MqBehind, walked. -/
import Derived.Test.YtdgkeghgfibolaaDoorMqW
set_option linter.unusedVariables false
set_option linter.unusedSimpArgs false
namespace Go.Proofs.YtdgkeghgfibolaaDoor
open Go.RowKit

/-- What holds of a decoder between two signs. -/
structure DOk (d : D) : Prop where
  a3 : 32768 ≤ d.a
  a2 : d.a < 65536
  ct : d.ct ≤ 8
theorem dNorm_ok (f : Nat → Nat) : ∀ (n : Nat) (d : D), d.a < 32768 → 32768 ≤ d.a * 2 ^ n → d.ct ≤ 8 → DOk (dNorm f n d) ∧ (dNorm f n d).at_ ≤ d.at_ + n
  | 0, d, h1, h2, _ => by omega
  | n + 1, d, h1, h2, h3 => by
    have ha := dTick_a f d
    have hc := dTick_ct f d h3
    have ht := dTick_at f d
    unfold dNorm
    split
    · exact ⟨⟨by omega, by omega, by omega⟩, by omega⟩
    · have := dNorm_ok f n (dTick f d) (by omega) (by
        rw [ha, Nat.mul_assoc, Nat.mul_left_comm, ← Nat.mul_assoc]
        rw [Nat.pow_succ] at h2
        have : d.a * 2 * 2 ^ n = d.a * (2 ^ n * 2) := by rw [Nat.mul_assoc, Nat.mul_comm 2]
        omega) (by omega)
      exact ⟨this.1, by omega⟩
theorem dB_ok {f : Nat → Nat} {d : D} {cx : List Nat} {k : Nat} (h : DOk d) (ok : COk cx) (hk : k < 19) : DOk (dB f d cx k).2.1 ∧ (dB f d cx k).2.1.at_ ≤ d.at_ + 16 ∧ COk (dB f d cx k).2.2 ∧ (dB f d cx k).1 ≤ 1 := by
  obtain ⟨q1, q2, q3, q4⟩ := qe_bd _ (ok.i k hk)
  have hm := ok.m k hk
  have h2 := h.a2
  have h3 := h.a3
  have hct := h.ct
  have hun : COk (mUn cx k (lps (cx.getD (k * 2) 0)) (swp (cx.getD (k * 2) 0))) := by
    unfold mUn
    split
    · exact (ok.setM hk (by omega)).set hk q4
    · exact ok.set hk q4
  have n1 := dNorm_ok f 16 ⟨qe (cx.getD (k * 2) 0), d.c, d.ct, d.at_⟩ (by show qe _ < _; omega) (by show _ ≤ qe _ * 2 ^ 16; omega) hct
  unfold dB
  split
  · split
    · exact ⟨n1.1, n1.2, ok.set hk q3, hm⟩
    · exact ⟨n1.1, n1.2, hun, by show 1 - _ ≤ 1; omega⟩
  · split
    · exact ⟨⟨by assumption, by show d.a - _ < _; omega, hct⟩, Nat.le_add_right _ _, ok, hm⟩
    · have n2 := dNorm_ok f 16 ⟨d.a - qe (cx.getD (k * 2) 0), wrap64 (d.c - (qe (cx.getD (k * 2) 0) : Int) * 65536), d.ct, d.at_⟩ (by show d.a - qe _ < _; omega) (by show _ ≤ (d.a - qe _) * 2 ^ 16; omega) hct
      split
      · exact ⟨n2.1, n2.2, hun, by show 1 - _ ≤ 1; omega⟩
      · exact ⟨n2.1, n2.2, ok.set hk q3, hm⟩
theorem dNew_ok (f : Nat → Nat) : DOk (dNew f) ∧ (dNew f).at_ ≤ 1 := by
  have h := dTake_ct f ⟨0, (f 0 : Nat) * 65536, 0, 0⟩
  have h2 := dTake_at f ⟨0, (f 0 : Nat) * 65536, 0, 0⟩
  unfold dNew
  exact ⟨⟨by show 32768 ≤ 32768; omega, by show 32768 < 65536; omega, by show _ - 7 ≤ 8; omega⟩, h2⟩
/-- A decoder and its contexts, behind j signs. -/
structure De (P : Nat → Prop) (W w : World) (p q j : Nat) (d : D) (bs : List Nat) (cx : List Nat) : Prop where
  dw : DW P w p d bs
  cb : Cb w q cx
  ok : COk cx
  dok : DOk d
  at_ : d.at_ ≤ 1 + 16 * j
  bel : Below W.heap.size W w
theorem De.drew {P : Nat → Prop} {W w : World} {p q j : Nat} {d : D} {bs cx : List Nat} (h : De P W w p q j d bs cx) : De P W w.drew p q j d bs cx := ⟨h.dw, h.cb, h.ok, h.dok, h.at_, below_drewN h.bel 1⟩
theorem De.next {P : Nat → Prop} {W w w' : World} {p q j k : Nat} {d : D} {bs cx : List Nat} (h : De P W w p q j d bs cx) (hk : k < 19) (hPQ : ∀ i, EC P q i → W.heap.size ≤ i) (he : DW P w' p (dB (fB bs) d cx k).2.1 bs) (hc : Cb w' q (dB (fB bs) d cx k).2.2) (ho : Only (EC P q) w w') : De P W w' p q (j + 1) (dB (fB bs) d cx k).2.1 bs (dB (fB bs) d cx k).2.2 := by
  have hb := dB_ok (f := fB bs) h.dok h.ok hk
  exact ⟨he, hc, hb.2.2.1, hb.1, by have := h.at_; omega, h.bel.trans (Only.below ho fun i hi => hPQ i hi)⟩
theorem De.only {P Q : Nat → Prop} {W w w' : World} {p q j : Nat} {d : D} {bs cx : List Nat} (h : De P W w p q j d bs cx) (o : Only Q w w') (hPQ : ∀ k, k < w.heap.size → P k → ¬ Q k) (hq : ¬ Q q) (hQ : ∀ k, Q k → W.heap.size ≤ k) : De P W w' p q j d bs cx :=
  ⟨h.dw.only o hPQ, h.cb.only o hq, h.ok, h.dok, h.at_, h.bel.trans (Only.below o fun i hi => hQ i hi)⟩
theorem De.imp {P Q : Nat → Prop} {W w : World} {p q j : Nat} {d : D} {bs cx : List Nat} (h : De P W w p q j d bs cx) (hPQ : ∀ k, k < w.heap.size → P k → Q k) : De Q W w p q j d bs cx :=
  ⟨h.dw.imp hPQ, h.cb, h.ok, h.dok, h.at_, h.bel⟩
/-- Two decoders side by side. -/
structure Pair (lo qm : Nat) (w : World) (A B : Nat → Prop) (q1 q2 : Nat) : Prop where
  a : ∀ k, A k → lo ≤ k ∧ k < w.heap.size
  b : ∀ k, B k → lo ≤ k ∧ k < w.heap.size
  ab : ∀ k, A k → ¬ B k
  hq1 : qm ≤ q1 ∧ q1 < lo
  hq2 : qm ≤ q2 ∧ q2 < lo
  qq : q1 ≠ q2
  lw : lo ≤ w.heap.size
def Sx (lo qm : Nat) (W : World) (p1 q1 ja : Nat) (da : D) (ba ca : List Nat) (p2 q2 jb : Nat) (db : D) (bb cb : List Nat) (w : World) : Prop :=
  ∃ A B, Pair lo qm w A B q1 q2 ∧ De A W w p1 q1 ja da ba ca ∧ De B W w p2 q2 jb db bb cb
theorem Sx.swap {lo qm : Nat} {W : World} {p1 q1 ja : Nat} {da : D} {ba ca : List Nat} {p2 q2 jb : Nat} {db : D} {bb cb : List Nat} {w : World} (h : Sx lo qm W p1 q1 ja da ba ca p2 q2 jb db bb cb w) : Sx lo qm W p2 q2 jb db bb cb p1 q1 ja da ba ca w := by
  obtain ⟨A, B, hP, h1, h2⟩ := h
  exact ⟨B, A, ⟨hP.b, hP.a, fun k hk hk2 => hP.ab k hk2 hk, hP.hq2, hP.hq1, hP.qq.symm, hP.lw⟩, h2, h1⟩
theorem Sx.drew {lo qm : Nat} {W : World} {p1 q1 ja : Nat} {da : D} {ba ca : List Nat} {p2 q2 jb : Nat} {db : D} {bb cb : List Nat} {w : World} (h : Sx lo qm W p1 q1 ja da ba ca p2 q2 jb db bb cb w) : Sx lo qm W p1 q1 ja da ba ca p2 q2 jb db bb cb w.drew := by
  obtain ⟨A, B, hP, h1, h2⟩ := h
  exact ⟨A, B, ⟨hP.a, hP.b, hP.ab, hP.hq1, hP.hq2, hP.qq, hP.lw⟩, h1.drew, h2.drew⟩
theorem Sx.call {lo qm : Nat} {W : World} {p1 q1 ja : Nat} {da : D} {ba ca : List Nat} {p2 q2 jb : Nat} {db : D} {bb cb : List Nat} {w : World} (h : Sx lo qm W p1 q1 ja da ba ca p2 q2 jb db bb cb w) (hT : Tab W) (hm : W.heap.size ≤ qm) {k : Nat} (hk : k < 19) (hj : ja ≤ 9000) :
    Calls Tryd.prog 27 #[.pointer (some ⟨p1, 0, none⟩), .pointer (some ⟨q1, 0, none⟩), .int .i64 (k : Int)] w fun x w' => x = .returned (.int .i64 ((dB (fB ba) da ca k).1 : Nat)) ∧ Sx lo qm W p1 q1 (ja + 1) (dB (fB ba) da ca k).2.1 ba (dB (fB ba) da ca k).2.2 p2 q2 jb db bb cb w' ∧ Below qm w w' := by
  obtain ⟨A, B, hP, h1, h2⟩ := h
  have hpos := hT.pos
  have hlw := hP.lw
  obtain ⟨hq1, hq1'⟩ := hP.hq1
  obtain ⟨hq2, hq2'⟩ := hP.hq2
  have hat := h1.at_
  have h1' := h1.imp (Q := more A w) (fun k _ h => Or.inl h)
  refine (decode_any (P := more A w) h1'.dw h1.cb (fun h => by rcases h with h | h; have := (hP.a _ h).1; omega; omega) (hT.below hpos h1.bel) (fun h => by rcases h with h | h; have := (hP.a _ h).1; omega; omega) (by omega) h1.ok h1.dok.a3 h1.dok.a2 h1.dok.ct (by omega) hk (fun k hk => Or.inr hk)).mono ?_
  rintro x w' ⟨rfl, hd, hc, ho⟩
  have hE : ∀ i, EC (more A w) q1 i → qm ≤ i := fun i hi => by
    rcases hi with (hi | hi) | hi
    · have := (hP.a i hi).1; omega
    · omega
    · omega
  refine ⟨rfl, ⟨upto (more A w) w', B, ⟨fun k hk => ⟨?_, hk.2⟩, fun k hk => ⟨(hP.b k hk).1, Nat.lt_of_lt_of_le (hP.b k hk).2 ho.size⟩, fun k hk hb => ?_, hP.hq1, hP.hq2, hP.qq, Nat.le_trans hlw ho.size⟩, ?_, ?_⟩, Only.below ho hE⟩
  · rcases hk.1 with h | h
    · exact (hP.a k h).1
    · omega
  · rcases hk.1 with h | h
    · exact hP.ab k h hb
    · have := (hP.b k hb).2; omega
  · exact (h1'.next hk (fun i hi => Nat.le_trans hm (hE i hi)) hd hc ho).imp fun k hk h => ⟨h, hk⟩
  · refine h2.only ho (fun k hk hb he => ?_) (fun he => ?_) (fun i hi => Nat.le_trans hm (hE i hi))
    · rcases he with (he | he) | he
      · exact hP.ab k he hb
      · omega
      · have := (hP.b k hb).1; omega
    · rcases he with (he | he) | he
      · have := (hP.a _ he).1; omega
      · omega
      · exact hP.qq he.symm
theorem bv_int (l : List Nat) : l.map bv = (l.map fun n : Nat => (n : Int)).map (Value.int .u8) := by rw [List.map_map]; rfl
theorem fB_behind (bs : List Nat) (m : Nat) : fB (bs ++ List.replicate m 255) = fB bs := by
  funext i
  unfold fB
  rw [List.getD_eq_getElem?_getD, List.getD_eq_getElem?_getD, List.getElem?_append]
  split
  · rfl
  · rw [List.getElem?_replicate, List.getElem?_eq_none (by omega)]
    split <;> rfl
theorem nats_of {zs : List Int} (h : ∀ n ∈ zs, (Lit.int .u8 n).wf = true) : (zs.map Int.toNat).map bv = zs.map (Value.int .u8) ∧ ∀ x ∈ zs.map Int.toNat, x ≤ 255 := by
  have hb : ∀ n ∈ zs, 0 ≤ n ∧ n ≤ 255 := fun n hn => by
    have := h n hn
    have hmin : IntKind.u8.min = 0 := rfl
    have hmax : IntKind.u8.max = 255 := rfl
    simp only [Lit.wf, Bool.and_eq_true, decide_eq_true_eq] at this
    omega
  refine ⟨?_, fun x hx => ?_⟩
  · rw [List.map_map]
    apply List.map_congr_left
    intro n hn
    have := hb n hn
    show Value.int .u8 ((n.toNat : Nat) : Int) = Value.int .u8 n
    rw [Int.toNat_of_nonneg this.1]
  · obtain ⟨n, hn, rfl⟩ := List.mem_map.1 hx
    have := hb n hn
    omega
end Go.Proofs.YtdgkeghgfibolaaDoor
