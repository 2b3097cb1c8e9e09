/-
  Plain: what strings.FieldsFunc answers at blanks are the words.
-/
import Derived.Test.YtckpojkbcbogbaaDoorOwWords
import Derived.Lib.FieldsP
import Derived.Lib.RuneCountTail
namespace Go.Proofs.YtckpojkbcbogbaaDoor
open Go

def blankR (n : Nat) : Bool := n == 32
def pieceF (s : ByteArray) (x : Nat × Nat) : Bs := (s.extract x.1 x.2).data.toList
theorem pieceF_eq (s : ByteArray) (a b : Nat) : pieceF s (a, b) = (s.data.toList.drop a).take (b - a) := by
  unfold pieceF
  rw [ByteArray.data_extract, Array.toList_extract]
theorem fields_close (s : ByteArray) (acc : List (Nat × Nat)) (st : Option Nat) (hst : ∀ a, st = some a → a < s.size ∧ Clear 32 s.data.toList a s.size) :
    (Lib.closeSpans s (acc, st)).map (pieceF s) = acc.map (pieceF s) ++ fieldsL (s.data.toList.drop (st.getD s.size)) := by
  have hl : s.data.toList.length = s.size := Array.length_toList
  cases st with
  | none =>
    show acc.map (pieceF s) = _
    rw [show (none : Option Nat).getD s.size = s.size from rfl, List.drop_eq_nil_of_le (by omega), fieldsL_nil, List.append_nil]
  | some a =>
    obtain ⟨h1, h2⟩ := hst a rfl
    show (acc ++ [(a, s.size)]).map (pieceF s) = _
    rw [List.map_append, List.map_cons, List.map_nil, pieceF_eq, show (some a).getD s.size = a from rfl, fields_end s.data.toList a s.size (by omega) (by omega) h2, List.take_of_length_le (by rw [List.length_drop]; omega)]
theorem fields_spans (s : ByteArray) : ∀ (f pos : Nat) (st : Option Nat) (acc : List (Nat × Nat)), pos ≤ s.size → s.size - pos ≤ f → (∀ a, st = some a → a < pos ∧ Clear 32 s.data.toList a pos) →
    (Lib.closeSpans s (Lib.spansFromP blankR s f pos st acc)).map (pieceF s) = acc.map (pieceF s) ++ fieldsL (s.data.toList.drop (st.getD pos))
  | 0, pos, st, acc, hp, hf, hst => by
    obtain rfl : pos = s.size := by omega
    exact fields_close s acc st hst
  | f + 1, pos, st, acc, hp, hf, hst => by
    by_cases hlt : pos < s.size
    · obtain ⟨R, K, hd, hK, hle, _, hc⟩ := dec_step s pos hlt
      rw [Lib.tail_decode, Nat.add_zero] at hd
      unfold Lib.spansFromP
      rw [if_pos hlt, hd]
      rcases hc with ⟨rfl, rfl, hb⟩ | ⟨hR, hcl⟩
      · rw [if_pos (by rfl)]
        cases st with
        | none =>
          show (Lib.closeSpans s (Lib.spansFromP blankR s f (pos + 1) none acc)).map (pieceF s) = _
          rw [fields_spans s f (pos + 1) none acc hle (by omega) (fun a h => by cases h)]
          show acc.map (pieceF s) ++ fieldsL (s.data.toList.drop (pos + 1)) = acc.map (pieceF s) ++ fieldsL (s.data.toList.drop pos)
          rw [fields_skip _ _ hb]
        | some a =>
          obtain ⟨h1, h2⟩ := hst a rfl
          show (Lib.closeSpans s (Lib.spansFromP blankR s f (pos + 1) none (acc ++ [(a, pos)]))).map (pieceF s) = _
          rw [fields_spans s f (pos + 1) none (acc ++ [(a, pos)]) hle (by omega) (fun a h => by cases h)]
          show (acc ++ [(a, pos)]).map (pieceF s) ++ fieldsL (s.data.toList.drop (pos + 1)) = acc.map (pieceF s) ++ fieldsL (s.data.toList.drop a)
          rw [fields_take _ a pos h1 h2 hb, List.map_append, List.map_cons, List.map_nil, pieceF_eq, List.append_assoc]
          rfl
      · rw [if_neg (by unfold blankR; simpa using hR)]
        cases st with
        | none =>
          show (Lib.closeSpans s (Lib.spansFromP blankR s f (pos + K) (some pos) acc)).map (pieceF s) = _
          rw [fields_spans s f (pos + K) (some pos) acc hle (by omega) (fun a h => by cases h; exact ⟨by omega, hcl⟩)]
          rfl
        | some a =>
          obtain ⟨h1, h2⟩ := hst a rfl
          show (Lib.closeSpans s (Lib.spansFromP blankR s f (pos + K) (some a) acc)).map (pieceF s) = _
          rw [fields_spans s f (pos + K) (some a) acc hle (by omega) (fun b h => by cases h; exact ⟨by omega, clear_more 32 _ a pos (pos + K) h2 hcl⟩)]
          rfl
    · obtain rfl : pos = s.size := by omega
      rw [Lib.spansFromP_end blankR s (f + 1) s.size st acc hlt]
      exact fields_close s acc st hst
/-- What FieldsFunc answers. -/
theorem goFields_words (s : ByteArray) : (Lib.goFieldsP blankR s).map (·.data.toList) = fieldsL s.data.toList := by
  have h := fields_spans s s.size 0 none [] (Nat.zero_le _) (by omega) (fun a h => by cases h)
  unfold Lib.goFieldsP Lib.spansOfP
  rw [List.map_map]
  exact h
end Go.Proofs.YtckpojkbcbogbaaDoor
