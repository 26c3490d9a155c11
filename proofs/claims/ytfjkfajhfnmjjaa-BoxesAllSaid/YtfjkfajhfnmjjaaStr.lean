/- string(b): the conversion of bytes that lie in memory, as an equation. -/
import Derived.Test.YtfjkfajhfnmjjaaMem
import Derived.Laws.BytesString
import Derived.Laws.Cells
set_option linter.unusedVariables false
namespace Go.Proofs.Ytfjkfajhfnmjjaa
open Go.RowKit

/-- The bytes of a string, of numbers. -/
def strOf (ns : List Int) : ByteArray := ns.foldl (fun r n => r.push (UInt8.ofNat n.toNat)) ByteArray.empty
theorem conv_str {w : World} {B : Nat} {A : Option Addr} {n c : Nat} {ns : List Int} (hn : ns.length = n) (h : Lst w B A (ns.map (Value.int .u8))) :
    (convert 24 9 (.slice A n c)).run Try.prog w = .ok (.string (strOf ns)) w := by
  rw [run_convert_bytes_string w 24 9 5 A n c Try.underlying24 Try.underlying5 Try.underlying9]
  rcases A with _ | a
  · have : ns = [] := by
      rcases ns with _ | ⟨x, l⟩
      · rfl
      · obtain ⟨b, o, e, _⟩ := h 0 _ rfl
        cases e
    subst this
    rfl
  · have hl := run_loadCells_list (P := Try.prog) w a (ns.map (Value.int .u8)) (h.add rfl)
    rw [List.length_map, hn] at hl
    exact run_bytesToString w a n c ns hl
theorem lst_drewN {w : World} {B : Nat} {A : Option Addr} {xs : List Value} (h : Lst w B A xs) (k : Nat) : Lst (w.drewN k) B A xs := h
theorem lst_cut {w : World} {B : Nat} {A : Option Addr} {xs : List Value} (h : Lst w B A xs) (k n cap : Nat) (hk : k + n ≤ cap) (hl : k ≤ xs.length) (hn : n ≤ xs.length - k) :
    Lst w B (if cap = k then A else A.map (·.add k)) ((xs.drop k).take n) := by
  intro i u hu
  have hi : i < n := by
    rcases Nat.lt_or_ge i n with h | h
    · exact h
    · rw [List.getElem?_eq_none (by rw [List.length_take]; omega)] at hu; cases hu
  rw [if_neg (by omega)]
  rw [List.getElem?_take, if_pos hi, List.getElem?_drop] at hu
  obtain ⟨b, o, rfl, hb, hc⟩ := h _ u hu
  refine ⟨b, o + k, ?_, hb, by rw [Nat.add_assoc]; exact hc⟩
  simp only [Option.map_some, Addr.add]
  split
  · subst_vars; rfl
  · rfl
theorem own_mono {w : World} {base base' : Nat} {e : TypeId} {size n : Nat} {v : Value} {xs : List Value} (h : w.ownsRow base e size v n xs) (hb : base' ≤ base) : w.ownsRow base' e size v n xs := by
  refine ⟨h.1, ?_⟩
  rcases h.2 with h | ⟨g, cap, cur, hv, hg, r⟩
  · exact Or.inl h
  · exact Or.inr ⟨g, cap, cur, hv, by omega, r⟩
theorem lst_int {w : World} {B : Nat} {A : Option Addr} {l : List Int} (h : Lst w B A (l.map (Value.int .i64))) {k : Nat} (hk : k < l.length) :
    ∃ b o, A = some ⟨b, o, none⟩ ∧ b < B ∧ w.cell? ⟨b, o + k, none⟩ = some (.int .i64 (l.getD k 0)) := by
  have := h k (.int .i64 (l.getD k 0)) (by rw [List.getElem?_map, List.getElem?_eq_getElem hk, List.getD_eq_getElem?_getD, List.getElem?_eq_getElem hk]; rfl)
  exact this

end Go.Proofs.Ytfjkfajhfnmjjaa
