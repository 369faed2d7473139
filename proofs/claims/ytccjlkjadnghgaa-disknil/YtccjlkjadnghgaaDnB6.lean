/- Bytes as strings. -/
import Derived.Test.YtccjlkjadnghgaaDnB4
import Derived.Laws.BytesString
import Derived.Laws.Cells
set_option linter.all false
set_option maxRecDepth 100000
namespace Go.Proofs.Ytccjlkjadnghgaa
open Go.RowKit Go.Sep
theorem under9 : Try.prog.underlying 9 = some .string := by kernel_rfl
theorem fold_push : ∀ (l : List UInt8) (s : List UInt8), (l.map fun x => ((x.toNat : Nat) : Int)).foldl (fun (r : ByteArray) n => r.push (UInt8.ofNat n.toNat)) ⟨s.toArray⟩ = ⟨(s ++ l).toArray⟩
  | [], s => by simp
  | x :: l, s => by
    rw [List.map_cons, List.foldl_cons]
    have e : (⟨s.toArray⟩ : ByteArray).push (UInt8.ofNat ((x.toNat : Nat) : Int).toNat) = ⟨(s ++ [x]).toArray⟩ := by
      apply ByteArray.ext
      simp [ByteArray.push]
    rw [e, fold_push l (s ++ [x]), List.append_assoc]; rfl
theorem run_b2s {I : IM} {w : World} (hS : I.Sub w) {l : List UInt8} {a : Option Addr} {n c : Nat} (h : BSl I l (.slice a n c)) : (convert 29 9 (.slice a n c)).run Try.prog w = .ok (.string ⟨l.toArray⟩) w := by
  rw [run_convert_bytes_string w 29 9 5 a n c under34 under5 under9]
  obtain ⟨a', c', hv, hc, hr⟩ := h
  cases hv
  cases a with
  | none =>
    have : l = [] := by
      cases l with
      | nil => rfl
      | cons x l => obtain ⟨b, o, cs, T, fr, e, _⟩ := hr 0 x rfl; cases e
    subst this; rfl
  | some x =>
    have hl : (loadCells x (l.map bV).length).run Try.prog w = .ok (l.map bV).toArray w := run_loadCells_list w x (l.map bV) fun j v hv => by
      rw [List.getElem?_map, Option.map_eq_some_iff] at hv
      obtain ⟨y, hy, rfl⟩ := hv
      obtain ⟨b, o, cs, T, fr, e1, e2, e3⟩ := hr j y hy
      cases e1
      rw [addr_addO, run_cell (a := ⟨b, o + j, none⟩) (hS _ _ e2) rfl rfl]
      exact e3
    rw [List.length_map] at hl
    have e : l.map bV = (l.map fun x => ((x.toNat : Nat) : Int)).map (Value.int .u8) := by rw [List.map_map]; rfl
    rw [e] at hl
    rw [run_bytesToString w x l.length c _ hl]
    have := fold_push l []
    rw [List.nil_append] at this
    rw [show ByteArray.empty = ⟨([] : List UInt8).toArray⟩ from rfl, this]
end Go.Proofs.Ytccjlkjadnghgaa

