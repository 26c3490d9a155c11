/- Several coders, contexts and rows side by side, each with blocks of its own. -/
import Derived.Test.YtdgkeghgfibolaaDoorMqRl
import Derived.Test.YtdgkeghgfibolaaDoorMqRg
import Derived.Test.YtdgkeghgfibolaaDoorMqNo
set_option linter.unusedVariables false
set_option linter.unusedSimpArgs false
namespace Go.Proofs.YtdgkeghgfibolaaDoor
open Go.RowKit

/-- How many bytes are out. -/
theorem mout_any {P : Nat → Prop} {w : World} {p : Nat} {e : E} (h : EW P w p e) (hl : e.pre.length ≤ 100000) : Calls Tryd.prog 21 #[.pointer (some ⟨p, 0, none⟩)] w fun x w' => x = .returned (.int .i64 (e.pre.length : Int)) ∧ w = w' := by
  obtain ⟨_, V, hb, ho, _⟩ := h
  obtain ⟨A, c, rfl, _⟩ := own_any ho
  have k3 := hb.c3
  have e1 : ((e.pre.length + 1 : Nat) : Int) - 1 = (e.pre.length : Int) := by omega
  clear hb ho
  obtain ⟨n, hn⟩ : ∃ n, e.pre.length = n := ⟨_, rfl⟩
  rw [hn] at hl k3 e1 ⊢
  clear hn
  go_enter Tryd.func21, Tryd.ntmps21
  go_wp2
  go_ret
  exact ⟨by rw [← e1]; rfl, rfl⟩
inductive Th
  | m (p : Nat) (e : E)
  | r (p : Nat) (e : E)
  | c (q : Nat) (cx : List Nat)
  | d (q : Nat) (cx : List Nat)
  | b (V : Value) (l : List Nat)
def It (D : Nat → Prop) (w : World) : Th → Prop
  | .m p e => EW D w p e
  | .r p e => RW D w p e
  | .c q cx => D q ∧ Cb w q cx
  | .d q cx => D q ∧ Rc w q cx
  | .b V l => Row8 0 w V l ∧ ∀ k, V.ownBlock = some k → D k
theorem It.imp {D D' : Nat → Prop} {w : World} {t : Th} (h : It D w t) (hD : ∀ k, k < w.heap.size → D k → D' k) : It D' w t := by
  cases t with
  | m p e => exact EW.imp h hD
  | r p e => exact RW.imp h hD
  | c q cx => exact ⟨hD q h.2.lt h.1, h.2⟩
  | d q cx => exact ⟨hD q h.2.lt h.1, h.2⟩
  | b V l => exact ⟨h.1, fun k hk => hD k (own_lt h.1 hk).2 (h.2 k hk)⟩
theorem It.keep {D D' Q : Nat → Prop} {w w' : World} {t : Th} (h : It D w t) (o : Only Q w w') (hQ : ∀ k, k < w.heap.size → D k → ¬ Q k) (hD : ∀ k, k < w.heap.size → D k → D' k) : It D' w' t := by
  have h' := h.imp (D' := fun k => D k ∧ D' k) (fun k hk hd => ⟨hd, hD k hk hd⟩)
  refine It.imp (D := fun k => D k ∧ D' k) ?_ (fun _ _ h => h.2)
  cases t with
  | m p e => exact EW.only (P := fun k => D k ∧ D' k) (p := p) (e := e) h' o (fun k hk hd => hQ k hk hd.1)
  | r p e => exact RW.only (P := fun k => D k ∧ D' k) (p := p) (e := e) h' o (fun k hk hd => hQ k hk hd.1)
  | c q cx => exact ⟨h'.1, h.2.only o (hQ q h.2.lt h.1)⟩
  | d q cx => exact ⟨h'.1, h.2.only o (hQ q h.2.lt h.1)⟩
  | b V l => exact ⟨ownsRow_keep h.1 o.size (fun k hk => o.block k (hQ k (own_lt h.1 hk).2 (h.2 k hk))), h'.2⟩
def Dn (col : Nat → Nat) (lo : Nat) (w : World) (i : Nat) : Nat → Prop := fun k => col k = i ∧ lo ≤ k ∧ k < w.heap.size
/-- These things lie in w, each one's blocks its own, all of them from lo on. -/
def Hs (lo : Nat) (w : World) (ts : List Th) : Prop := ∃ col : Nat → Nat, ∀ i t, ts[i]? = some t → It (Dn col lo w i) w t
theorem Hs.nil (lo : Nat) (w : World) : Hs lo w [] := ⟨fun _ => 0, fun i t h => by simp at h⟩
theorem Hs.below {lo : Nat} {w w' : World} {ts : List Th} (h : Hs lo w ts) (b : Below w.heap.size w w') : Hs lo w' ts := by
  obtain ⟨col, h⟩ := h
  exact ⟨col, fun i t ht => (h i t ht).keep (Only.of_below (P := fun k => w.heap.size ≤ k) b (fun k h => h)) (fun k hk _ h => by omega) (fun k hk h => ⟨h.1, h.2.1, Nat.lt_of_lt_of_le hk b.size⟩)⟩
theorem Hs.drew {lo : Nat} {w : World} {ts : List Th} (h : Hs lo w ts) : Hs lo w.drew ts := h.below (below_drewN (Below.refl _ _) 1)
theorem Hs.upd2 {lo : Nat} {w w' : World} {ts : List Th} {col : Nat → Nat} {i j : Nat} {ti tj : Th} {Q : Nat → Prop} (h : ∀ n t, ts[n]? = some t → It (Dn col lo w n) w t) (hlo : lo ≤ w.heap.size) (o : Only Q w w')
    (hQ : ∀ k, k < w.heap.size → Q k → col k = i ∨ col k = j) (hi : It (fun k => Dn col lo w i k ∨ w.heap.size ≤ k) w' ti) (hj : It (fun k => Dn col lo w j k ∨ (i = j ∧ w.heap.size ≤ k)) w' tj) : Hs lo w' ((ts.set i ti).set j tj) := by
  refine ⟨fun k => if k < w.heap.size then col k else i, fun n t ht => ?_⟩
  have key : ∀ n k, k < w'.heap.size → (Dn col lo w n k ∨ (i = n ∧ w.heap.size ≤ k)) → Dn (fun k => if k < w.heap.size then col k else i) lo w' n k := by
    rintro n k hk (⟨h1, h2, h3⟩ | ⟨h1, h2⟩)
    · exact ⟨by simp only [if_pos h3]; exact h1, h2, hk⟩
    · exact ⟨by simp only [if_neg (show ¬ k < w.heap.size by omega)]; exact h1, by omega, hk⟩
  rw [List.getElem?_set] at ht
  split at ht
  · rename_i e
    subst e
    split at ht
    · cases ht
      exact hj.imp (fun k hk hd => key _ k hk hd)
    · cases ht
  · rename_i hnj
    rw [List.getElem?_set] at ht
    split at ht
    · rename_i e
      subst e
      split at ht
      · cases ht
        exact hi.imp (fun k hk hd => key _ k hk (hd.imp id fun h => ⟨rfl, h⟩))
      · cases ht
    · rename_i hni
      refine (h n t ht).keep o (fun k hk hd hq => ?_) (fun k hk hd => key n k (Nat.lt_of_lt_of_le hk o.size) (.inl hd))
      rcases hQ k hk hq with e | e
      · exact hni (e.symm.trans hd.1)
      · exact hnj (e.symm.trans hd.1)
theorem Hs.upd1 {lo : Nat} {w w' : World} {ts : List Th} {col : Nat → Nat} {i : Nat} {ti : Th} {Q : Nat → Prop} (h : ∀ n t, ts[n]? = some t → It (Dn col lo w n) w t) (hlo : lo ≤ w.heap.size) (o : Only Q w w')
    (hQ : ∀ k, k < w.heap.size → Q k → col k = i) (hi : It (fun k => Dn col lo w i k ∨ w.heap.size ≤ k) w' ti) : Hs lo w' (ts.set i ti) := by
  have := Hs.upd2 (j := i) (ti := ti) (tj := ti) h hlo o (fun k hk hq => .inl (hQ k hk hq)) hi (hi.imp fun k _ hd => hd.imp id fun h => ⟨rfl, h⟩)
  rwa [List.set_set] at this
theorem Hs.add {lo : Nat} {w w' : World} {ts : List Th} {t : Th} (h : Hs lo w ts) (hlo : lo ≤ w.heap.size) (b : Below w.heap.size w w') (ht : It (fun k => w.heap.size ≤ k ∧ k < w'.heap.size) w' t) : Hs lo w' (ts ++ [t]) := by
  obtain ⟨col, h⟩ := h
  refine ⟨fun k => if k < w.heap.size then col k else ts.length, fun n u hu => ?_⟩
  rw [List.getElem?_append] at hu
  split at hu
  · exact (h n u hu).keep (Only.of_below (P := fun k => w.heap.size ≤ k) b (fun k h => h)) (fun k hk _ h => by omega) (fun k hk hd => ⟨by simp only [if_pos hk]; exact hd.1, hd.2.1, Nat.lt_of_lt_of_le hk b.size⟩)
  · obtain ⟨hn, rfl⟩ : n = ts.length ∧ t = u := by
      rcases hx : n - ts.length with _ | x
      · rw [hx] at hu; exact ⟨by omega, by simpa using hu⟩
      · rw [hx] at hu; simp at hu
    subst hn
    exact ht.imp fun k hk hd => ⟨by simp only [if_neg (show ¬ k < w.heap.size by omega)], by omega, hk⟩
theorem Hs.add2 {lo : Nat} {w w' : World} {ts : List Th} {t s : Th} (h : Hs lo w ts) (hlo : lo ≤ w.heap.size) (b : Below w.heap.size w w') (ht : It (fun k => k = w.heap.size) w' t) (hs : It (fun k => k = w.heap.size + 1) w' s) : Hs lo w' (ts ++ [t, s]) := by
  obtain ⟨col, h⟩ := h
  refine ⟨fun k => if k < w.heap.size then col k else if k = w.heap.size then ts.length else ts.length + 1, fun n u hu => ?_⟩
  rw [List.getElem?_append] at hu
  split at hu
  · exact (h n u hu).keep (Only.of_below (P := fun k => w.heap.size ≤ k) b (fun k h => h)) (fun k hk _ h => by omega) (fun k hk hd => ⟨by simp only [if_pos hk]; exact hd.1, hd.2.1, Nat.lt_of_lt_of_le hk b.size⟩)
  · rcases hx : n - ts.length with _ | _ | x
    · rw [hx] at hu
      obtain rfl : t = u := by simpa using hu
      obtain rfl : n = ts.length := by omega
      exact ht.imp fun k hk hd => ⟨by simp only [if_neg (show ¬ k < w.heap.size by omega), if_pos hd], by omega, hk⟩
    · rw [hx] at hu
      obtain rfl : s = u := by simpa using hu
      obtain rfl : n = ts.length + 1 := by omega
      exact hs.imp fun k hk hd => ⟨by simp only [if_neg (show ¬ k < w.heap.size by omega), if_neg (show ¬ k = w.heap.size by omega)], by omega, hk⟩
    · rw [hx] at hu; simp at hu
section
variable {lo : Nat} {w : World} {ts : List Th} {i j p q k b : Nat} {e : E} {cx l : List Nat} {bit : Int} {V : Value}
theorem Hs.enc (h : Hs lo w ts) (hlo : lo ≤ w.heap.size) (h0 : 0 < lo) (hT : Tab w) (hi : ts[i]? = some (.m p e)) (hj : ts[j]? = some (.c q cx)) (hij : i ≠ j) (ok : COk cx) (f : Fine e) (hk : k < 19) (hb : bit % 2 = (b : Int)) (hml : e.pre.length ≤ 70000) :
    Calls Tryd.prog 19 #[.pointer (some ⟨p, 0, none⟩), .pointer (some ⟨q, 0, none⟩), .int .i64 (k : Int), .int .i64 bit] w fun x w' => x = .returned (.tuple #[]) ∧ Hs lo w' ((ts.set i (.m p (sE e cx k b))).set j (.c q (sC e cx k b))) ∧ Below lo w w' := by
  obtain ⟨col, h⟩ := h
  have h1 : EW (Dn col lo w i) w p e := h i _ hi
  have h2 : Dn col lo w j q ∧ Cb w q cx := h j _ hj
  have hq := h2.2.lt
  have h3 : col q = j := h2.1.1
  have h4 : lo ≤ q := h2.1.2.1
  refine (encode_any (P := fun k => Dn col lo w i k ∨ w.heap.size ≤ k) (bit := bit) (b := b) (h1.imp fun _ _ h => .inl h) h2.2 ?_ hT ?_ (by omega) ok f hk hb hml (fun k hk => .inr hk)).mono ?_
  · rintro (h | h)
    · exact hij (h.1.symm.trans h3)
    · omega
  · rintro (h | h)
    · have := h.2.1; omega
    · omega
  rintro x w' ⟨rfl, he, hc, o⟩
  refine ⟨rfl, Hs.upd2 h hlo o ?_ he ⟨.inl h2.1, hc⟩, o.below ?_⟩
  · rintro k hk ((h | h) | h)
    · exact .inl h.1
    · omega
    · subst h; exact .inr h3
  · rintro k ((h | h) | h)
    · exact h.2.1
    · omega
    · omega
theorem Hs.renc (h : Hs lo w ts) (hlo : lo ≤ w.heap.size) (hi : ts[i]? = some (.r p e)) (hj : ts[j]? = some (.d q cx)) (hij : i ≠ j) (ok : COk cx) (f : Fine e) (hk : k < 19) (hb : bit % 2 = (b : Int)) (hml : e.pre.length ≤ 70000) :
    Calls Tryd.prog 20 #[.pointer (some ⟨p, 0, none⟩), .pointer (some ⟨q, 0, none⟩), .int .i64 (k : Int), .int .i64 bit] w fun x w' => x = .returned (.tuple #[]) ∧ Hs lo w' ((ts.set i (.r p (sE e cx k b))).set j (.d q (sC e cx k b))) ∧ Below lo w w' := by
  obtain ⟨col, h⟩ := h
  have h1 : RW (Dn col lo w i) w p e := h i _ hi
  have h2 : Dn col lo w j q ∧ Rc w q cx := h j _ hj
  have hq := h2.2.lt
  have h3 : col q = j := h2.1.1
  have h4 : lo ≤ q := h2.1.2.1
  refine (rencode_any (P := fun k => Dn col lo w i k ∨ w.heap.size ≤ k) (bit := bit) (b := b) (h1.imp fun _ _ h => .inl h) h2.2 ?_ ok f hk hb hml (fun k hk => .inr hk)).mono ?_
  · rintro (h | h)
    · exact hij (h.1.symm.trans h3)
    · omega
  rintro x w' ⟨rfl, he, hc, o⟩
  refine ⟨rfl, Hs.upd2 h hlo o ?_ he ⟨.inl h2.1, hc⟩, o.below ?_⟩
  · rintro k hk ((h | h) | h)
    · exact .inl h.1
    · omega
    · subst h; exact .inr h3
  · rintro k ((h | h) | h)
    · exact h.2.1
    · omega
    · omega
theorem own_it {D : Nat → Prop} {w w' : World} {V : Value} {l : List Nat} (h : w'.ownsRow w.heap.size 5 1 V l.length (l.map bv)) : It (fun k => D k ∨ w.heap.size ≤ k) w' (.b V l) :=
  ⟨own_low h (Nat.zero_le _), fun k hk => .inr (own_lt h hk).1⟩
theorem Hs.flush (h : Hs lo w ts) (hlo : lo ≤ w.heap.size) (hi : ts[i]? = some (.m p e)) (f : Fine e) (hml : e.pre.length ≤ 70000) :
    Calls Tryd.prog 24 #[.pointer (some ⟨p, 0, none⟩)] w fun x w' => ∃ V, x = .returned V ∧ Hs lo w' (ts.set i (.b V (mCode e))) ∧ Below lo w w' := by
  obtain ⟨col, h⟩ := h
  have h1 : EW (Dn col lo w i) w p e := h i _ hi
  refine (flush_any (P := fun k => Dn col lo w i k ∨ w.heap.size ≤ k) (h1.imp fun _ _ h => .inl h) f hml (fun k hk => .inr hk)).mono ?_
  rintro x w' ⟨V, rfl, ho, o⟩
  refine ⟨V, rfl, Hs.upd1 h hlo o ?_ (own_it ho), o.below ?_⟩
  · rintro k hk (h | h)
    · exact h.1
    · omega
  · rintro k (h | h)
    · exact h.2.1
    · omega
theorem Hs.rflush (h : Hs lo w ts) (hlo : lo ≤ w.heap.size) (hi : ts[i]? = some (.r p e)) (f : Fine e) (hml : e.pre.length ≤ 70000) :
    Calls Tryd.prog 25 #[.pointer (some ⟨p, 0, none⟩)] w fun x w' => ∃ V, x = .returned V ∧ Hs lo w' (ts.set i (.b V (mCode e))) ∧ Below lo w w' := by
  obtain ⟨col, h⟩ := h
  have h1 : RW (Dn col lo w i) w p e := h i _ hi
  refine (rflush_any (P := fun k => Dn col lo w i k ∨ w.heap.size ≤ k) (h1.imp fun _ _ h => .inl h) f hml (fun k hk => .inr hk)).mono ?_
  rintro x w' ⟨V, rfl, ho, o⟩
  refine ⟨V, rfl, Hs.upd1 h hlo o ?_ (own_it ho), o.below ?_⟩
  · rintro k hk (h | h)
    · exact h.1
    · omega
  · rintro k (h | h)
    · exact h.2.1
    · omega
theorem Hs.cb (h : Hs lo w ts) (hj : ts[j]? = some (.c q cx)) : Cb w q cx := by obtain ⟨col, h⟩ := h; exact (h j _ hj).2
theorem Hs.rc (h : Hs lo w ts) (hj : ts[j]? = some (.d q cx)) : Rc w q cx := by obtain ⟨col, h⟩ := h; exact (h j _ hj).2
theorem Hs.out (h : Hs lo w ts) (hi : ts[i]? = some (.m p e)) (hml : e.pre.length ≤ 100000) : Calls Tryd.prog 21 #[.pointer (some ⟨p, 0, none⟩)] w fun x w' => x = .returned (.int .i64 (e.pre.length : Int)) ∧ w = w' := by
  obtain ⟨col, h⟩ := h; exact mout_any (h i _ hi) hml
theorem Hs.rout (h : Hs lo w ts) (hi : ts[i]? = some (.r p e)) (hml : e.pre.length ≤ 100000) : Calls Tryd.prog 22 #[.pointer (some ⟨p, 0, none⟩)] w fun x w' => x = .returned (.int .i64 (e.pre.length : Int)) ∧ w = w' := by
  obtain ⟨col, h⟩ := h; exact rout_any (h i _ hi) hml
theorem Hs.conv (h : Hs lo w ts) (hi : ts[i]? = some (.b V l)) : (convert 44 9 V).run Tryd.prog w = .ok (.string (strN l)) w := by
  obtain ⟨col, h⟩ := h; exact Row8.conv (lo := 0) (h i _ hi).1
end
theorem rc_load {w : World} {q : Nat} {cx : List Nat} (h : Rc w q cx) : (loadVar 32 ⟨q, 0, none⟩).run Tryd.prog w = .ok (.agg (cxA cx)) w :=
  run_loadVar_row (P := Tryd.prog) w q _ 32 (cxA cx) (0, 0) _ h.2 Tryd.underlying32 rfl (by
    have e : (cxA cx).size = 38 := by simp [cxA, h.1]
    rw [e]
    show (Tryd.prog.info? 32).map (·.size) = some 38
    kernel_rfl)
end Go.Proofs.YtdgkeghgfibolaaDoor
