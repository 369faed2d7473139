/- What stands at the end of bits; stamps that are read. -/
import Derived.Test.YtgmigcmhnmmdkaaCwM19
import Derived.Test.YtgmigcmhnmmdkaaCwM20
import Derived.Test.YtgmigcmhnmmdkaaCwM14
import Derived.Test.YtgmigcmhnmmdkaaCwM18
set_option linter.all false
namespace Go.Proofs.Ytgmigcmhnmmdkaa

/-- nothing is left but noughts, up to a whole byte -/
def enB (X : List Bool) : Nat := if 8 ≤ X.length ∨ X.any id = true then 6 else 0
theorem bits_at {l : List UInt8} {p i : Nat} (h : p + i < l.length * 8) : ((bitsL l).drop p)[i]? = some (bitB l (p + i)) := by
  rw [List.getElem?_drop]
  unfold bitsL
  rw [List.getElem?_map, List.getElem?_range h]; rfl
theorem one_any {l : List UInt8} {p : Nat} : oneL l p = ((bitsL l).drop p).any id := by
  unfold oneL
  rw [Bool.eq_iff_iff, List.any_eq_true, List.any_eq_true]
  constructor
  · rintro ⟨i, hi, hb⟩
    have hi' := List.mem_range.1 hi
    exact ⟨_, List.mem_of_getElem? (bits_at (by omega)), hb⟩
  · rintro ⟨x, hx, hb⟩
    obtain ⟨i, hi, rfl⟩ := List.mem_iff_getElem.1 hx
    have hi' := hi
    rw [dropB_len] at hi'
    refine ⟨i, List.mem_range.2 hi', ?_⟩
    have := bits_at (l := l) (p := p) (i := i) (by omega)
    rw [List.getElem?_eq_getElem hi] at this
    rw [← Option.some.inj this]; exact hb
theorem eo_en {l : List UInt8} {p : Nat} : eoE l p 0 = enB ((bitsL l).drop p) := by
  unfold eoE enB; rw [one_any, dropB_len]; simp
theorem enB_zeros {z : Nat} (h : z < 8) : enB (List.replicate z false) = 0 := by
  unfold enB; rw [if_neg]; simp; omega
theorem pk_bits (bs : List Bool) : ∃ z, z < 8 ∧ bitsL (pk bs) = bs ++ List.replicate z false := by
  have hl := pk_len bs
  refine ⟨(pk bs).length * 8 - bs.length, by omega, ?_⟩
  apply List.ext_getElem?
  intro i
  by_cases h : i < (pk bs).length * 8
  · have h1 := bits_at (l := pk bs) (p := 0) (i := i) (by omega)
    rw [List.drop_zero, Nat.zero_add, pk_bit] at h1
    rw [h1]
    by_cases hb : i < bs.length
    · rw [List.getElem?_append_left hb, List.getD_eq_getElem?_getD, List.getElem?_eq_getElem hb]; rfl
    · rw [List.getElem?_append_right (by omega), List.getElem?_replicate, if_pos (by omega), List.getD_eq_getElem?_getD, List.getElem?_eq_none (by omega)]; rfl
  · rw [List.getElem?_eq_none (by rw [bitsL_len]; omega), List.getElem?_eq_none (by rw [List.length_append, List.length_replicate]; omega)]
/- stamps -/
structure Rs where
  i : Ev.T
  v : Ev.E
  er : Nat
  d : Nat
  e : Nat
noncomputable def stG (B : List Bool) : Rs :=
  if (idG 16 B).er ≠ 0 then ⟨.zero, .leaf 0, (idG 16 B).er, (idG 16 B).d, (idG 16 B).e⟩
  else if (evG 16 (B.drop (idG 16 B).d)).er ≠ 0 then ⟨.zero, .leaf 0, (evG 16 (B.drop (idG 16 B).d)).er, (idG 16 B).d + (evG 16 (B.drop (idG 16 B).d)).d, (evG 16 (B.drop (idG 16 B).d)).e⟩
  else ⟨(idG 16 B).t, (evG 16 (B.drop (idG 16 B).d)).t, 0, (idG 16 B).d + (evG 16 (B.drop (idG 16 B).d)).d, (evG 16 (B.drop (idG 16 B).d)).e⟩
theorem stG_d (B : List Bool) : (stG B).d ≤ B.length := by
  unfold stG; split
  · exact (idG_ok 16).d B
  · split <;> exact drop_le ((idG_ok 16).d B) ((evG_ok 16).d _)
theorem stG_e (B : List Bool) : (stG B).er = 0 → (stG B).e = 0 := by
  unfold stG; split
  · rename_i h; exact fun q => absurd q h
  · split
    · rename_i h; exact fun q => absurd q h
    · rename_i h; exact fun _ => (evG_ok 16).e _ (Decidable.not_not.1 h)
noncomputable def rsG (l : List UInt8) : Rs :=
  if (stG (bitsL l)).er = 0 then (if enB ((bitsL l).drop (stG (bitsL l)).d) ≠ 0 then ⟨.zero, .leaf 0, enB ((bitsL l).drop (stG (bitsL l)).d), 0, 0⟩ else ⟨(stG (bitsL l)).i, (stG (bitsL l)).v, 0, 0, 0⟩)
  else ⟨.zero, .leaf 0, (stG (bitsL l)).er, 0, 0⟩
noncomputable def rdG {α : Type} (g : List Bool → Rd α) (z : α) (l : List UInt8) : Rd α :=
  if (g (bitsL l)).er = 0 then (if enB ((bitsL l).drop (g (bitsL l)).d) ≠ 0 then ⟨z, enB ((bitsL l).drop (g (bitsL l)).d), 0, 0⟩ else ⟨(g (bitsL l)).t, 0, 0, 0⟩)
  else ⟨z, (g (bitsL l)).er, 0, 0⟩
theorem rsG_back {t : Ev.T} {e : Ev.E} (ht : t.nf ∧ t.depth ≤ 16) (he : e.nf ∧ e.depth ≤ 16 ∧ e.top ≤ 1048576) : rsG (pk (idB t ++ evB e)) = ⟨t, e, 0, 0, 0⟩ := by
  obtain ⟨z, hz, eb⟩ := pk_bits (idB t ++ evB e)
  have h1 := idG_back t 16 (evB e ++ List.replicate z false) ht.1 ht.2 (by decide)
  have h2 := evG_back e 16 (List.replicate z false) he.1 he.2.2 he.2.1 (by decide)
  have hs : stG (bitsL (pk (idB t ++ evB e))) = ⟨t, e, 0, (idB t).length + (evB e).length, 0⟩ := by
    rw [eb, List.append_assoc]
    unfold stG
    rw [h1]
    simp only [List.drop_left]
    rw [h2, if_neg (fun q => q rfl), if_neg (fun q => q rfl)]
  unfold rsG
  rw [hs]
  have hd : enB ((bitsL (pk (idB t ++ evB e))).drop ((idB t).length + (evB e).length)) = 0 := by
    rw [eb, ← List.length_append, List.drop_left]; exact enB_zeros hz
  simp only [hd]
  rw [if_pos trivial, if_neg (fun q => q rfl)]
theorem rdG_back {α : Type} {g : List Bool → Rd α} {z t : α} {bs : List Bool} (h : ∀ X, g (bs ++ X) = ⟨t, 0, bs.length, 0⟩) : rdG g z (pk bs) = ⟨t, 0, 0, 0⟩ := by
  obtain ⟨y, hy, eb⟩ := pk_bits bs
  have hs : g (bitsL (pk bs)) = ⟨t, 0, bs.length, 0⟩ := by rw [eb]; exact h _
  unfold rdG
  rw [hs]
  have hd : enB ((bitsL (pk bs)).drop bs.length) = 0 := by rw [eb, List.drop_left]; exact enB_zeros hy
  simp only [hd]
  rw [if_pos trivial, if_neg (fun q => q rfl)]
end Go.Proofs.Ytgmigcmhnmmdkaa
/- Stamps, ids and events are read of bytes. -/
set_option linter.all false
set_option maxRecDepth 100000
namespace Go.Proofs.Ytgmigcmhnmmdkaa
open Go.RowKit Go.Sep
attribute [local irreducible] Go.wpList Go.Code.wp

set_option maxHeartbeats 1000000 in
theorem getID_c {I : IM} {l : List UInt8} {a : Option Addr} {c : Nat} {r p e : Nat} {B : List Bool} (hl : BSl I l (.slice a l.length c)) (hn9 : l.length ≤ 1000000) (hp : p ≤ l.length * 8) (hB : (bitsL l).drop p = B) (he : e = 0) : FunM Try.prog 29 #[.pointer (some ⟨r, 0, none⟩)] I [(r, .cells #[.slice a l.length c, .int .i64 ((p : Nat) : Int), .int .i64 ((e : Nat) : Int)] 102)] (fun v J H' => ∃ b' : OB, H' = [b'] ∧ b'.1 = r ∧ ∃ bi pi, v = .tuple #[.agg #[.bool bi, .pointer pi], .int .i64 (((idG 16 B).er : Nat) : Int)] ∧ b' = (r, .cells #[.slice a l.length c, .int .i64 ((p + (idG 16 B).d : Nat) : Int), .int .i64 (((idG 16 B).e : Nat) : Int)] 102) ∧ Ev.TRep J (idG 16 B).t bi pi) := by
 refine enterM_rule 9 [(0, pB r)] Try.func29 rfl (by kernel_rfl) ?_
 intro w s
 refine seqR ?_
 refine ops_rule (C := []) [(r, .cells #[.slice a l.length c, .int .i64 p, .int .i64 e] 102)] [] 2 [] 1 (fun φ1 => [(3, .int .i64 0), (2, pB (φ1 0))]) (fun φ1 => [(r, .cells #[.slice a l.length c, .int .i64 p, .int .i64 e] 102), (φ1 0, .cells #[.bool false, .pointer none] 26)]) (fun φ1 => []) s trivial (fun φ1 => by kernel_rfl) ?_
 intro φ1 w1 s
 refine ops_done (by kernel_rfl) ?_
 refine seqR ?_
 refine ops_rule (C := []) _ [] 2 [] 0 (fun φ2 => [(5, .agg #[pB r]), (4, pB r)]) (fun φ2 => [(r, .cells #[.slice a l.length c, .int .i64 p, .int .i64 e] 102), (φ1 0, .cells #[.bool false, .pointer none] 26)]) (fun φ2 => []) s trivial (fun φ2 => by kernel_rfl) ?_
 intro φ2 w2 s
 refine callB_rule (b := (r, .cells #[.slice a l.length c, .int .i64 p, .int .i64 e] 102)) (F := []) (Hr := [(φ1 0, .cells #[.bool false, .pointer none] 26)]) (some 6) 0 s (by kernel_rfl) (by kernel_rfl) (idG_c 16 (r := r) (p := p) (B := B) hl hn9 hp hB he (deep := 0) rfl) (by kernel_rfl) ?_
 rintro v4 I4 w4 b4 le4 - h4 s
 obtain ⟨bi4, pi4, rfl, rfl, h4_0⟩ := h4
 have hB3 := next_B (d := (idG 16 B).d) hB
 have hp3 := next_p (d := (idG 16 B).d) hp hB ((idG_ok 16).d _)
 refine ops_rule (C := []) _ [] 4 [.o 1, .o 1] 0 (fun φ5 => [(3, .int .i64 (((idG 16 B).er : Nat) : Int)), (8, .int .i64 (((idG 16 B).er : Nat) : Int)), (7, .agg #[.bool bi4, .pointer pi4])]) (fun φ5 => [(r, .cells #[.slice a l.length c, .int .i64 ((p + ((idG 16 B).d) : Nat) : Int), .int .i64 (((idG 16 B).e : Nat) : Int)] 102), (φ1 0, .cells #[.bool bi4, .pointer pi4] 26)]) (fun φ5 => [φ1 0, φ1 0]) s trivial (fun φ5 => by kernel_rfl) ?_
 intro φ5 w5 s
 refine ops_done (by kernel_rfl) ?_
 refine wp_ret ?_
 refine ret_rule (C := []) _ [] (.tuple #[.agg #[.bool bi4, .pointer pi4], .int .i64 (((idG 16 B).er : Nat) : Int)]) [.o 1, .o 1] [φ1 0, φ1 0] s trivial (by kernel_rfl) ?_
 replace s := s.drop (List.Sublist.append (List.Sublist.cons₂ _ (List.Sublist.cons _ List.Sublist.slnil)) (List.Sublist.refl []))
 exact ⟨_, _, _, rfl, s, ⟨_, rfl, rfl, _, _, rfl, rfl, h4_0⟩⟩

set_option maxHeartbeats 1000000 in
theorem getEvent_c {I : IM} {l : List UInt8} {a : Option Addr} {c : Nat} {r p e : Nat} {B : List Bool} (hl : BSl I l (.slice a l.length c)) (hn9 : l.length ≤ 1000000) (hp : p ≤ l.length * 8) (hB : (bitsL l).drop p = B) (he : e = 0) : FunM Try.prog 28 #[.pointer (some ⟨r, 0, none⟩)] I [(r, .cells #[.slice a l.length c, .int .i64 ((p : Nat) : Int), .int .i64 ((e : Nat) : Int)] 102)] (fun v J H' => ∃ b' : OB, H' = [b'] ∧ b'.1 = r ∧ ∃ bi pi, v = .tuple #[.agg #[.int .u64 ((bi : Nat) : Int), .pointer pi], .int .i64 (((evG 16 B).er : Nat) : Int)] ∧ b' = (r, .cells #[.slice a l.length c, .int .i64 ((p + (evG 16 B).d : Nat) : Int), .int .i64 (((evG 16 B).e : Nat) : Int)] 102) ∧ Ev.ERep J (evG 16 B).t bi pi) := by
 refine enterM_rule 9 [(0, pB r)] Try.func28 rfl (by kernel_rfl) ?_
 intro w s
 refine seqR ?_
 refine ops_rule (C := []) [(r, .cells #[.slice a l.length c, .int .i64 p, .int .i64 e] 102)] [] 2 [] 1 (fun φ1 => [(3, .int .i64 0), (2, pB (φ1 0))]) (fun φ1 => [(r, .cells #[.slice a l.length c, .int .i64 p, .int .i64 e] 102), (φ1 0, .cells #[.int .u64 0, .pointer none] 30)]) (fun φ1 => []) s trivial (fun φ1 => by kernel_rfl) ?_
 intro φ1 w1 s
 refine ops_done (by kernel_rfl) ?_
 refine seqR ?_
 refine ops_rule (C := []) _ [] 2 [] 0 (fun φ2 => [(5, .agg #[pB r]), (4, pB r)]) (fun φ2 => [(r, .cells #[.slice a l.length c, .int .i64 p, .int .i64 e] 102), (φ1 0, .cells #[.int .u64 0, .pointer none] 30)]) (fun φ2 => []) s trivial (fun φ2 => by kernel_rfl) ?_
 intro φ2 w2 s
 refine callB_rule (b := (r, .cells #[.slice a l.length c, .int .i64 p, .int .i64 e] 102)) (F := []) (Hr := [(φ1 0, .cells #[.int .u64 0, .pointer none] 30)]) (some 6) 0 s (by kernel_rfl) (by kernel_rfl) (evG_c 16 (r := r) (p := p) (B := B) hl hn9 hp hB he (deep := 0) rfl) (by kernel_rfl) ?_
 rintro v4 I4 w4 b4 le4 - h4 s
 obtain ⟨bi4, pi4, rfl, rfl, h4_0⟩ := h4
 have hB3 := next_B (d := (evG 16 B).d) hB
 have hp3 := next_p (d := (evG 16 B).d) hp hB ((evG_ok 16).d _)
 refine ops_rule (C := []) _ [] 4 [.o 1, .o 1] 0 (fun φ5 => [(3, .int .i64 (((evG 16 B).er : Nat) : Int)), (8, .int .i64 (((evG 16 B).er : Nat) : Int)), (7, .agg #[.int .u64 bi4, .pointer pi4])]) (fun φ5 => [(r, .cells #[.slice a l.length c, .int .i64 ((p + ((evG 16 B).d) : Nat) : Int), .int .i64 (((evG 16 B).e : Nat) : Int)] 102), (φ1 0, .cells #[.int .u64 bi4, .pointer pi4] 30)]) (fun φ5 => [φ1 0, φ1 0]) s trivial (fun φ5 => by kernel_rfl) ?_
 intro φ5 w5 s
 refine ops_done (by kernel_rfl) ?_
 refine wp_ret ?_
 refine ret_rule (C := []) _ [] (.tuple #[.agg #[.int .u64 bi4, .pointer pi4], .int .i64 (((evG 16 B).er : Nat) : Int)]) [.o 1, .o 1] [φ1 0, φ1 0] s trivial (by kernel_rfl) ?_
 replace s := s.drop (List.Sublist.append (List.Sublist.cons₂ _ (List.Sublist.cons _ List.Sublist.slnil)) (List.Sublist.refl []))
 exact ⟨_, _, _, rfl, s, ⟨_, rfl, rfl, _, _, rfl, rfl, h4_0⟩⟩

set_option maxHeartbeats 1000000 in
theorem getStamp_c {I : IM} {l : List UInt8} {a : Option Addr} {c : Nat} {r p e : Nat} {B : List Bool} (hl : BSl I l (.slice a l.length c)) (hn9 : l.length ≤ 1000000) (hp : p ≤ l.length * 8) (hB : (bitsL l).drop p = B) (he : e = 0) : FunM Try.prog 38 #[.pointer (some ⟨r, 0, none⟩)] I [(r, .cells #[.slice a l.length c, .int .i64 ((p : Nat) : Int), .int .i64 ((e : Nat) : Int)] 102)] (fun v J H' => ∃ b' : OB, H' = [b'] ∧ b'.1 = r ∧ ∃ bi pi be pe, v = .tuple #[.agg #[.bool bi, .pointer pi, .int .u64 ((be : Nat) : Int), .pointer pe], .int .i64 (((stG B).er : Nat) : Int)] ∧ b' = (r, .cells #[.slice a l.length c, .int .i64 ((p + (stG B).d : Nat) : Int), .int .i64 (((stG B).e : Nat) : Int)] 102) ∧ Ev.TRep J (stG B).i bi pi ∧ Ev.ERep J (stG B).v be pe) := by
 refine enterM_rule 28 [(0, pB r)] Try.func38 rfl (by kernel_rfl) ?_
 intro w s
 refine seqR ?_
 refine ops_rule (C := []) [(r, .cells #[.slice a l.length c, .int .i64 p, .int .i64 e] 102)] [] 2 [] 1 (fun φ1 => [(3, .int .i64 0), (2, pB (φ1 0))]) (fun φ1 => [(r, .cells #[.slice a l.length c, .int .i64 p, .int .i64 e] 102), (φ1 0, .cells #[.bool false, .pointer none, .int .u64 0, .pointer none] 32)]) (fun φ1 => []) s trivial (fun φ1 => by kernel_rfl) ?_
 intro φ1 w1 s
 refine ops_done (by kernel_rfl) ?_
 refine seqR ?_
 refine ops_rule (C := []) _ [] 1 [] 0 (fun φ2 => [(8, pB r)]) (fun φ2 => [(r, .cells #[.slice a l.length c, .int .i64 p, .int .i64 e] 102), (φ1 0, .cells #[.bool false, .pointer none, .int .u64 0, .pointer none] 32)]) (fun φ2 => []) s trivial (fun φ2 => by kernel_rfl) ?_
 intro φ2 w2 s
 refine callB_rule (b := (r, .cells #[.slice a l.length c, .int .i64 p, .int .i64 e] 102)) (F := []) (Hr := [(φ1 0, .cells #[.bool false, .pointer none, .int .u64 0, .pointer none] 32)]) (some 9) 0 s (by kernel_rfl) (by kernel_rfl) (getID_c (r := r) (p := p) (B := B) hl hn9 hp hB he) (by kernel_rfl) ?_
 rintro v4 I4 w4 b4 le4 - h4 s
 replace hl := BSl.mono le4 hl
 obtain ⟨bi4, pi4, rfl, rfl, h4_0⟩ := h4
 have hB3 := next_B (d := (idG 16 B).d) hB
 have hp3 := next_p (d := (idG 16 B).d) hp hB ((idG_ok 16).d _)
 refine ops_rule (C := []) _ [] 6 [.o 2, .o 2] 1 (fun φ5 => [(5, .int .i64 (((idG 16 B).er : Nat) : Int)), (4, pB (φ5 0)), (11, .int .i64 (((idG 16 B).er : Nat) : Int)), (10, .agg #[.bool bi4, .pointer pi4]), (7, .tuple #[.agg #[.bool bi4, .pointer pi4], .int .i64 (((idG 16 B).er : Nat) : Int)])]) (fun φ5 => [(r, .cells #[.slice a l.length c, .int .i64 ((p + ((idG 16 B).d) : Nat) : Int), .int .i64 (((idG 16 B).e : Nat) : Int)] 102), (φ1 0, .cells #[.bool false, .pointer none, .int .u64 0, .pointer none] 32), (φ5 0, .cells #[.bool bi4, .pointer pi4] 26)]) (fun φ5 => [φ5 0, φ5 0]) s trivial (fun φ5 => by kernel_rfl) ?_
 intro φ5 w5 s
 refine ops_done (by kernel_rfl) ?_
 refine wp_seq ?_
 refine seqR ?_
 refine ops_rule (C := []) _ [] 2 [] 0 (fun φ6 => [(13, .bool ((((idG 16 B).er : Nat) : Int) != ((0 : Nat) : Int))), (12, .int .i64 (((idG 16 B).er : Nat) : Int))]) (fun φ6 => [(r, .cells #[.slice a l.length c, .int .i64 ((p + ((idG 16 B).d) : Nat) : Int), .int .i64 (((idG 16 B).e : Nat) : Int)] 102), (φ1 0, .cells #[.bool false, .pointer none, .int .u64 0, .pointer none] 32), (φ5 0, .cells #[.bool bi4, .pointer pi4] 26)]) (fun φ6 => []) s trivial (fun φ6 => by kernel_rfl) ?_
 intro φ6 w6 s
 rw [nat_neq (a := ((idG 16 B).er)) (b := 0)]
 refine ops_done (by kernel_rfl) ?_
 rcases Bool.eq_false_or_eq_true (decide (((idG 16 B).er) ≠ 0)) with hc7 | hc7
 ·
  rw [hc7]
  refine cond_true_rule (b := true) (by kernel_rfl) rfl ?_
  refine seqR ?_
  refine ops_rule (C := []) _ [] 4 [.o 1, .o 1, .o 1, .o 1] 0 (fun φ8 => [(3, .int .i64 (((idG 16 B).er : Nat) : Int)), (15, .int .i64 (((idG 16 B).er : Nat) : Int)), (14, .agg #[.bool false, .pointer none, .int .u64 0, .pointer none])]) (fun φ8 => [(r, .cells #[.slice a l.length c, .int .i64 ((p + ((idG 16 B).d) : Nat) : Int), .int .i64 (((idG 16 B).e : Nat) : Int)] 102), (φ1 0, .cells #[.bool false, .pointer none, .int .u64 0, .pointer none] 32), (φ5 0, .cells #[.bool bi4, .pointer pi4] 26)]) (fun φ8 => [φ1 0, φ1 0, φ1 0, φ1 0]) s trivial (fun φ8 => by kernel_rfl) ?_
  intro φ8 w8 s
  refine ops_done (by kernel_rfl) ?_
  refine wp_ret ?_
  refine ret_rule (C := []) _ [] (.tuple #[.agg #[.bool false, .pointer none, .int .u64 0, .pointer none], .int .i64 (((idG 16 B).er : Nat) : Int)]) [.o 1, .o 1, .o 1, .o 1] [φ1 0, φ1 0, φ1 0, φ1 0] s trivial (by kernel_rfl) ?_
  replace s := s.drop (List.Sublist.append (List.Sublist.cons₂ _ (List.Sublist.cons _ (List.Sublist.cons _ List.Sublist.slnil))) (List.Sublist.refl []))
  have e9 : stG B = ⟨Ev.T.zero, (Ev.E.leaf 0), (idG 16 B).er, ((idG 16 B).d), (idG 16 B).e⟩ := by unfold stG; rw [if_pos (of_decide_eq_true hc7)]
  exact ⟨_, _, _, rfl, s, (by rw [e9]; exact ⟨_, rfl, rfl, _, _, _, _, rfl, (by simp only [Nat.add_assoc]), (Ev.TRep.z _), (Ev.ERep.lf _ 0)⟩)⟩
 ·
  rw [hc7]
  refine cond_false_rule (b := false) (by kernel_rfl) rfl ?_
  refine wp_skip ?_
  refine seqR ?_
  refine ops_rule (C := []) _ [] 1 [] 0 (fun φ9 => [(17, pB r)]) (fun φ9 => [(r, .cells #[.slice a l.length c, .int .i64 ((p + ((idG 16 B).d) : Nat) : Int), .int .i64 (((idG 16 B).e : Nat) : Int)] 102), (φ1 0, .cells #[.bool false, .pointer none, .int .u64 0, .pointer none] 32), (φ5 0, .cells #[.bool bi4, .pointer pi4] 26)]) (fun φ9 => []) s trivial (fun φ9 => by kernel_rfl) ?_
  intro φ9 w9 s
  refine callB_rule (b := (r, .cells #[.slice a l.length c, .int .i64 ((p + ((idG 16 B).d) : Nat) : Int), .int .i64 (((idG 16 B).e : Nat) : Int)] 102)) (F := []) (Hr := [(φ1 0, .cells #[.bool false, .pointer none, .int .u64 0, .pointer none] 32), (φ5 0, .cells #[.bool bi4, .pointer pi4] 26)]) (some 18) 0 s (by kernel_rfl) (by kernel_rfl) (getEvent_c (r := r) (p := p + ((idG 16 B).d)) (B := (B.drop ((idG 16 B).d))) hl hn9 hp3 hB3 ((idG_ok 16).e _ (Decidable.not_not.1 (of_decide_eq_false hc7)))) (by kernel_rfl) ?_
  rintro v11 I11 w11 b11 le11 - h11 s
  replace h4_0 := Ev.TRep.mono le11 h4_0
  obtain ⟨bi11, pi11, rfl, rfl, h11_0⟩ := h11
  have hB10 := next_B (d := (evG 16 (B.drop ((idG 16 B).d))).d) hB3
  have hp10 := next_p (d := (evG 16 (B.drop ((idG 16 B).d))).d) hp3 hB3 ((evG_ok 16).d _)
  refine ops_rule (C := []) _ [] 6 [.o 3, .o 3] 1 (fun φ12 => [(5, .int .i64 (((evG 16 (B.drop ((idG 16 B).d))).er : Nat) : Int)), (6, pB (φ12 0)), (20, .int .i64 (((evG 16 (B.drop ((idG 16 B).d))).er : Nat) : Int)), (19, .agg #[.int .u64 bi11, .pointer pi11]), (16, .tuple #[.agg #[.int .u64 bi11, .pointer pi11], .int .i64 (((evG 16 (B.drop ((idG 16 B).d))).er : Nat) : Int)])]) (fun φ12 => [(r, .cells #[.slice a l.length c, .int .i64 ((p + ((idG 16 B).d) + ((evG 16 (B.drop ((idG 16 B).d))).d) : Nat) : Int), .int .i64 (((evG 16 (B.drop ((idG 16 B).d))).e : Nat) : Int)] 102), (φ1 0, .cells #[.bool false, .pointer none, .int .u64 0, .pointer none] 32), (φ5 0, .cells #[.bool bi4, .pointer pi4] 26), (φ12 0, .cells #[.int .u64 bi11, .pointer pi11] 30)]) (fun φ12 => [φ12 0, φ12 0]) s trivial (fun φ12 => by kernel_rfl) ?_
  intro φ12 w12 s
  refine ops_done (by kernel_rfl) ?_
  refine wp_seq ?_
  refine seqR ?_
  refine ops_rule (C := []) _ [] 2 [] 0 (fun φ13 => [(22, .bool ((((evG 16 (B.drop ((idG 16 B).d))).er : Nat) : Int) != ((0 : Nat) : Int))), (21, .int .i64 (((evG 16 (B.drop ((idG 16 B).d))).er : Nat) : Int))]) (fun φ13 => [(r, .cells #[.slice a l.length c, .int .i64 ((p + ((idG 16 B).d) + ((evG 16 (B.drop ((idG 16 B).d))).d) : Nat) : Int), .int .i64 (((evG 16 (B.drop ((idG 16 B).d))).e : Nat) : Int)] 102), (φ1 0, .cells #[.bool false, .pointer none, .int .u64 0, .pointer none] 32), (φ5 0, .cells #[.bool bi4, .pointer pi4] 26), (φ12 0, .cells #[.int .u64 bi11, .pointer pi11] 30)]) (fun φ13 => []) s trivial (fun φ13 => by kernel_rfl) ?_
  intro φ13 w13 s
  rw [nat_neq (a := ((evG 16 (B.drop ((idG 16 B).d))).er)) (b := 0)]
  refine ops_done (by kernel_rfl) ?_
  rcases Bool.eq_false_or_eq_true (decide (((evG 16 (B.drop ((idG 16 B).d))).er) ≠ 0)) with hc14 | hc14
  ·
   rw [hc14]
   refine cond_true_rule (b := true) (by kernel_rfl) rfl ?_
   refine seqR ?_
   refine ops_rule (C := []) _ [] 4 [.o 1, .o 1, .o 1, .o 1] 0 (fun φ15 => [(3, .int .i64 (((evG 16 (B.drop ((idG 16 B).d))).er : Nat) : Int)), (24, .int .i64 (((evG 16 (B.drop ((idG 16 B).d))).er : Nat) : Int)), (23, .agg #[.bool false, .pointer none, .int .u64 0, .pointer none])]) (fun φ15 => [(r, .cells #[.slice a l.length c, .int .i64 ((p + ((idG 16 B).d) + ((evG 16 (B.drop ((idG 16 B).d))).d) : Nat) : Int), .int .i64 (((evG 16 (B.drop ((idG 16 B).d))).e : Nat) : Int)] 102), (φ1 0, .cells #[.bool false, .pointer none, .int .u64 0, .pointer none] 32), (φ5 0, .cells #[.bool bi4, .pointer pi4] 26), (φ12 0, .cells #[.int .u64 bi11, .pointer pi11] 30)]) (fun φ15 => [φ1 0, φ1 0, φ1 0, φ1 0]) s trivial (fun φ15 => by kernel_rfl) ?_
   intro φ15 w15 s
   refine ops_done (by kernel_rfl) ?_
   refine wp_ret ?_
   refine ret_rule (C := []) _ [] (.tuple #[.agg #[.bool false, .pointer none, .int .u64 0, .pointer none], .int .i64 (((evG 16 (B.drop ((idG 16 B).d))).er : Nat) : Int)]) [.o 1, .o 1, .o 1, .o 1] [φ1 0, φ1 0, φ1 0, φ1 0] s trivial (by kernel_rfl) ?_
   replace s := s.drop (List.Sublist.append (List.Sublist.cons₂ _ (List.Sublist.cons _ (List.Sublist.cons _ (List.Sublist.cons _ List.Sublist.slnil)))) (List.Sublist.refl []))
   have e9 : stG B = ⟨Ev.T.zero, (Ev.E.leaf 0), (evG 16 (B.drop ((idG 16 B).d))).er, ((idG 16 B).d) + ((evG 16 (B.drop ((idG 16 B).d))).d), (evG 16 (B.drop ((idG 16 B).d))).e⟩ := by unfold stG; rw [if_neg (of_decide_eq_false hc7), if_pos (of_decide_eq_true hc14)]
   exact ⟨_, _, _, rfl, s, (by rw [e9]; exact ⟨_, rfl, rfl, _, _, _, _, rfl, (by simp only [Nat.add_assoc]), (Ev.TRep.z _), (Ev.ERep.lf _ 0)⟩)⟩
  ·
   rw [hc14]
   refine cond_false_rule (b := false) (by kernel_rfl) rfl ?_
   refine wp_skip ?_
   refine seqR ?_
   refine ops_rule (C := []) _ [] 5 [.o 2, .o 2, .o 3, .o 3, .o 1, .o 1, .o 1, .o 1] 0 (fun φ16 => [(3, .int .i64 0), (27, .agg #[.bool bi4, .pointer pi4, .int .u64 bi11, .pointer pi11]), (26, .agg #[.int .u64 bi11, .pointer pi11]), (25, .agg #[.bool bi4, .pointer pi4])]) (fun φ16 => [(r, .cells #[.slice a l.length c, .int .i64 ((p + ((idG 16 B).d) + ((evG 16 (B.drop ((idG 16 B).d))).d) : Nat) : Int), .int .i64 (((evG 16 (B.drop ((idG 16 B).d))).e : Nat) : Int)] 102), (φ1 0, .cells #[.bool bi4, .pointer pi4, .int .u64 bi11, .pointer pi11] 32), (φ5 0, .cells #[.bool bi4, .pointer pi4] 26), (φ12 0, .cells #[.int .u64 bi11, .pointer pi11] 30)]) (fun φ16 => [φ5 0, φ5 0, φ12 0, φ12 0, φ1 0, φ1 0, φ1 0, φ1 0]) s trivial (fun φ16 => by kernel_rfl) ?_
   intro φ16 w16 s
   refine ops_done (by kernel_rfl) ?_
   refine wp_ret ?_
   refine ret_rule (C := []) _ [] (.tuple #[.agg #[.bool bi4, .pointer pi4, .int .u64 bi11, .pointer pi11], .int .i64 0]) [.o 1, .o 1, .o 1, .o 1] [φ1 0, φ1 0, φ1 0, φ1 0] s trivial (by kernel_rfl) ?_
   replace s := s.drop (List.Sublist.append (List.Sublist.cons₂ _ (List.Sublist.cons _ (List.Sublist.cons _ (List.Sublist.cons _ List.Sublist.slnil)))) (List.Sublist.refl []))
   have e9 : stG B = ⟨(idG 16 B).t, (evG 16 (B.drop ((idG 16 B).d))).t, 0, ((idG 16 B).d) + ((evG 16 (B.drop ((idG 16 B).d))).d), (evG 16 (B.drop ((idG 16 B).d))).e⟩ := by unfold stG; rw [if_neg (of_decide_eq_false hc7), if_neg (of_decide_eq_false hc14)]
   exact ⟨_, _, _, rfl, s, (by rw [e9]; exact ⟨_, rfl, rfl, _, _, _, _, rfl, (by simp only [Nat.add_assoc]), h4_0, h11_0⟩)⟩

theorem endK_c {I : IM} {l : List UInt8} {a : Option Addr} {c : Nat} {r p e : Nat} {B : List Bool} (hl : BSl I l (.slice a l.length c)) (hn9 : l.length ≤ 1000000) (hp : p ≤ l.length * 8) (hB : (bitsL l).drop p = B) (he : e = 0) : FunM Try.prog 31 #[.pointer (some ⟨r, 0, none⟩)] I [(r, .cells #[.slice a l.length c, .int .i64 ((p : Nat) : Int), .int .i64 ((e : Nat) : Int)] 102)] (fun v J H' => ∃ b' : OB, H' = [b'] ∧ b'.1 = r ∧ v = .int .i64 ((enB B : Nat) : Int) ∧ b' = (r, .cells #[.slice a l.length c, .int .i64 ((p : Nat) : Int), .int .i64 ((enB B : Nat) : Int)] 102)) := by
  subst he
  have h := endR_c (r := r) (p := p) (e := 0) hl hn9 hp
  rw [eo_en, hB] at h
  exact h

set_option maxHeartbeats 2000000 in
theorem handStamp_c {I : IM} {l : List UInt8} {a : Option Addr} {n c : Nat} (hl : BSl I l (.slice a n c)) (hn9 : l.length ≤ 1000000) : Fun Try.prog 37 #[.slice a n c, .func (.func 38) #[] #[]] I (fun v J => ∃ bi pi be pe, v = .tuple #[.agg #[.bool bi, .pointer pi, .int .u64 ((be : Nat) : Int), .pointer pe], .int .i64 (((rsG l).er : Nat) : Int)] ∧ Ev.TRep J (rsG l).i bi pi ∧ Ev.ERep J (rsG l).v be pe) := by
 obtain ⟨rfl, -⟩ := hl.cap
 refine enter_rule 27 [(0, .slice a l.length c), (1, .func (.func 38) #[] #[])] Try.func37 rfl (by kernel_rfl) ?_
 intro w s
 refine seqR ?_
 refine ops_rule (C := []) [] [] 2 [] 1 (fun φ1 => [(5, .int .i64 0), (4, pB (φ1 0))]) (fun φ1 => [(φ1 0, .cells #[.bool false, .pointer none, .int .u64 0, .pointer none] 32)]) (fun φ1 => []) s trivial (fun φ1 => by kernel_rfl) ?_
 intro φ1 w1 s
 refine ops_done (by kernel_rfl) ?_
 refine seqR ?_
 refine ops_rule (C := []) _ [] 1 [] 0 (fun φ2 => [(10, .slice a l.length c)]) (fun φ2 => [(φ1 0, .cells #[.bool false, .pointer none, .int .u64 0, .pointer none] 32)]) (fun φ2 => []) s trivial (fun φ2 => by kernel_rfl) ?_
 intro φ2 w2 s
 refine callF_rule (F := []) (some 11) s (newReader_c hl hn9) (by kernel_rfl) ?_
 rintro v3 I3 w3 F3 le3 ⟨b3, a3, c3, rfl, rfl, hb3⟩ s
 refine ops_rule (C := []) [(φ1 0, .cells #[.bool false, .pointer none, .int .u64 0, .pointer none] 32), (b3, .cells #[.slice a3 (List.length l) c3, .int .i64 0, .int .i64 0] 102)] [] 1 [] 0 (fun φ4 => [(6, pB b3)]) (fun φ4 => [(φ1 0, .cells #[.bool false, .pointer none, .int .u64 0, .pointer none] 32), (b3, .cells #[.slice a3 (List.length l) c3, .int .i64 0, .int .i64 0] 102)]) (fun φ4 => []) s trivial (fun φ4 => by kernel_rfl) ?_
 intro φ4 w4 s
 refine ops_done (by kernel_rfl) ?_
 refine seqR ?_
 refine ops_rule (C := []) _ [] 2 [] 0 (fun φ5 => [(14, pB b3), (13, .func (.func 38) #[] #[])]) (fun φ5 => [(φ1 0, .cells #[.bool false, .pointer none, .int .u64 0, .pointer none] 32), (b3, .cells #[.slice a3 (List.length l) c3, .int .i64 0, .int .i64 0] 102)]) (fun φ5 => []) s trivial (fun φ5 => by kernel_rfl) ?_
 intro φ5 w5 s
 refine callB_rule (b := (b3, .cells #[.slice a3 (List.length l) c3, .int .i64 0, .int .i64 0] 102)) (F := []) (Hr := [(φ1 0, .cells #[.bool false, .pointer none, .int .u64 0, .pointer none] 32)]) (some 15) 1 s (by kernel_rfl) (by kernel_rfl) (getStamp_c (r := b3) (p := 0) (B := (bitsL l)) hb3 hn9 (Nat.zero_le _) (List.drop_zero : (bitsL l).drop 0 = bitsL l) rfl) (by kernel_rfl) ?_
 rintro v7 I7 w7 b7 le7 - h7 s
 replace hb3 := BSl.mono le7 hb3
 obtain ⟨bi7, pi7, be7, pe7, rfl, rfl, h7_0, h7_1⟩ := h7
 have hB6 := next_B (d := (stG (bitsL l)).d) (List.drop_zero : (bitsL l).drop 0 = bitsL l)
 have hp6 := next_p (d := (stG (bitsL l)).d) (Nat.zero_le _) (List.drop_zero : (bitsL l).drop 0 = bitsL l) (stG_d _)
 refine ops_rule (C := []) _ [] 6 [.o 2, .o 2, .o 2, .o 2] 1 (fun φ8 => [(8, .int .i64 (((stG (bitsL l)).er : Nat) : Int)), (7, pB (φ8 0)), (17, .int .i64 (((stG (bitsL l)).er : Nat) : Int)), (16, .agg #[.bool bi7, .pointer pi7, .int .u64 be7, .pointer pe7]), (12, .tuple #[.agg #[.bool bi7, .pointer pi7, .int .u64 be7, .pointer pe7], .int .i64 (((stG (bitsL l)).er : Nat) : Int)])]) (fun φ8 => [(b3, .cells #[.slice a3 (List.length l) c3, .int .i64 ((0 + ((stG (bitsL l)).d) : Nat) : Int), .int .i64 (((stG (bitsL l)).e : Nat) : Int)] 102), (φ1 0, .cells #[.bool false, .pointer none, .int .u64 0, .pointer none] 32), (φ8 0, .cells #[.bool bi7, .pointer pi7, .int .u64 be7, .pointer pe7] 32)]) (fun φ8 => [φ8 0, φ8 0, φ8 0, φ8 0]) s trivial (fun φ8 => by kernel_rfl) ?_
 intro φ8 w8 s
 refine ops_done (by kernel_rfl) ?_
 refine wp_seq ?_
 refine seqR ?_
 refine ops_rule (C := []) _ [] 2 [] 0 (fun φ9 => [(19, .bool ((((stG (bitsL l)).er : Nat) : Int) == ((0 : Nat) : Int))), (18, .int .i64 (((stG (bitsL l)).er : Nat) : Int))]) (fun φ9 => [(b3, .cells #[.slice a3 (List.length l) c3, .int .i64 ((0 + ((stG (bitsL l)).d) : Nat) : Int), .int .i64 (((stG (bitsL l)).e : Nat) : Int)] 102), (φ1 0, .cells #[.bool false, .pointer none, .int .u64 0, .pointer none] 32), (φ8 0, .cells #[.bool bi7, .pointer pi7, .int .u64 be7, .pointer pe7] 32)]) (fun φ9 => []) s trivial (fun φ9 => by kernel_rfl) ?_
 intro φ9 w9 s
 rw [nat_eql (a := ((stG (bitsL l)).er)) (b := 0)]
 refine ops_done (by kernel_rfl) ?_
 rcases Bool.eq_false_or_eq_true (decide (((stG (bitsL l)).er) = 0)) with hc10 | hc10
 ·
  rw [hc10]
  refine cond_true_rule (b := true) (by kernel_rfl) rfl ?_
  refine region_rule ?_
  refine ops_rule (C := []) _ [] 1 [] 0 (fun φ11 => [(20, pB b3)]) (fun φ11 => [(b3, .cells #[.slice a3 (List.length l) c3, .int .i64 ((0 + ((stG (bitsL l)).d) : Nat) : Int), .int .i64 (((stG (bitsL l)).e : Nat) : Int)] 102), (φ1 0, .cells #[.bool false, .pointer none, .int .u64 0, .pointer none] 32), (φ8 0, .cells #[.bool bi7, .pointer pi7, .int .u64 be7, .pointer pe7] 32)]) (fun φ11 => []) s trivial (fun φ11 => by kernel_rfl) ?_
  intro φ11 w11 s
  refine callB_rule (b := (b3, .cells #[.slice a3 (List.length l) c3, .int .i64 ((0 + ((stG (bitsL l)).d) : Nat) : Int), .int .i64 (((stG (bitsL l)).e : Nat) : Int)] 102)) (F := []) (Hr := [(φ1 0, .cells #[.bool false, .pointer none, .int .u64 0, .pointer none] 32), (φ8 0, .cells #[.bool bi7, .pointer pi7, .int .u64 be7, .pointer pe7] 32)]) (some 21) 0 s (by kernel_rfl) (by kernel_rfl) (endK_c (r := b3) (p := 0 + ((stG (bitsL l)).d)) (B := ((bitsL l).drop ((stG (bitsL l)).d))) hb3 hn9 hp6 hB6 (stG_e _ (of_decide_eq_true hc10))) (by kernel_rfl) ?_
  rintro v12 I12 w12 b12 le12 - h12 s
  replace h7_0 := Ev.TRep.mono le12 h7_0
  replace h7_1 := Ev.ERep.mono le12 h7_1
  obtain ⟨rfl, rfl⟩ := h12
  refine ops_rule (C := []) _ [] 1 [] 0 (fun φ13 => [(8, .int .i64 ((enB ((bitsL l).drop ((stG (bitsL l)).d)) : Nat) : Int))]) (fun φ13 => [(b3, .cells #[.slice a3 (List.length l) c3, .int .i64 ((0 + ((stG (bitsL l)).d) : Nat) : Int), .int .i64 ((enB ((bitsL l).drop ((stG (bitsL l)).d)) : Nat) : Int)] 102), (φ1 0, .cells #[.bool false, .pointer none, .int .u64 0, .pointer none] 32), (φ8 0, .cells #[.bool bi7, .pointer pi7, .int .u64 be7, .pointer pe7] 32)]) (fun φ13 => []) s trivial (fun φ13 => by kernel_rfl) ?_
  intro φ13 w13 s
  refine ops_done (by kernel_rfl) ?_
  refine wp_seq ?_
  refine seqR ?_
  refine ops_rule (C := []) _ [] 2 [] 0 (fun φ14 => [(23, .bool (((enB ((bitsL l).drop ((stG (bitsL l)).d)) : Nat) : Int) != ((0 : Nat) : Int))), (22, .int .i64 ((enB ((bitsL l).drop ((stG (bitsL l)).d)) : Nat) : Int))]) (fun φ14 => [(b3, .cells #[.slice a3 (List.length l) c3, .int .i64 ((0 + ((stG (bitsL l)).d) : Nat) : Int), .int .i64 ((enB ((bitsL l).drop ((stG (bitsL l)).d)) : Nat) : Int)] 102), (φ1 0, .cells #[.bool false, .pointer none, .int .u64 0, .pointer none] 32), (φ8 0, .cells #[.bool bi7, .pointer pi7, .int .u64 be7, .pointer pe7] 32)]) (fun φ14 => []) s trivial (fun φ14 => by kernel_rfl) ?_
  intro φ14 w14 s
  rw [nat_neq (a := (enB ((bitsL l).drop ((stG (bitsL l)).d)))) (b := 0)]
  refine ops_done (by kernel_rfl) ?_
  rcases Bool.eq_false_or_eq_true (decide ((enB ((bitsL l).drop ((stG (bitsL l)).d))) ≠ 0)) with hc15 | hc15
  ·
   rw [hc15]
   refine cond_true_rule (b := true) (by kernel_rfl) rfl ?_
   refine seqR ?_
   refine ops_rule (C := []) _ [] 1 [] 1 (fun φ16 => [(9, pB (φ16 0))]) (fun φ16 => [(b3, .cells #[.slice a3 (List.length l) c3, .int .i64 ((0 + ((stG (bitsL l)).d) : Nat) : Int), .int .i64 ((enB ((bitsL l).drop ((stG (bitsL l)).d)) : Nat) : Int)] 102), (φ1 0, .cells #[.bool false, .pointer none, .int .u64 0, .pointer none] 32), (φ8 0, .cells #[.bool bi7, .pointer pi7, .int .u64 be7, .pointer pe7] 32), (φ16 0, .cells #[.bool false, .pointer none, .int .u64 0, .pointer none] 32)]) (fun φ16 => []) s trivial (fun φ16 => by kernel_rfl) ?_
   intro φ16 w16 s
   refine ops_done (by kernel_rfl) ?_
   refine seqR ?_
   refine ops_rule (C := []) _ [] 4 [.o 3, .o 3, .o 3, .o 3, .o 1, .o 1, .o 1, .o 1] 0 (fun φ17 => [(5, .int .i64 ((enB ((bitsL l).drop ((stG (bitsL l)).d)) : Nat) : Int)), (25, .int .i64 ((enB ((bitsL l).drop ((stG (bitsL l)).d)) : Nat) : Int)), (24, .agg #[.bool false, .pointer none, .int .u64 0, .pointer none])]) (fun φ17 => [(b3, .cells #[.slice a3 (List.length l) c3, .int .i64 ((0 + ((stG (bitsL l)).d) : Nat) : Int), .int .i64 ((enB ((bitsL l).drop ((stG (bitsL l)).d)) : Nat) : Int)] 102), (φ1 0, .cells #[.bool false, .pointer none, .int .u64 0, .pointer none] 32), (φ8 0, .cells #[.bool bi7, .pointer pi7, .int .u64 be7, .pointer pe7] 32), (φ16 0, .cells #[.bool false, .pointer none, .int .u64 0, .pointer none] 32)]) (fun φ17 => [φ16 0, φ16 0, φ16 0, φ16 0, φ1 0, φ1 0, φ1 0, φ1 0]) s trivial (fun φ17 => by kernel_rfl) ?_
   intro φ17 w17 s
   refine ops_done (by kernel_rfl) ?_
   refine wp_ret ?_
   refine ret_rule (C := []) _ [] (.tuple #[.agg #[.bool false, .pointer none, .int .u64 0, .pointer none], .int .i64 ((enB ((bitsL l).drop ((stG (bitsL l)).d)) : Nat) : Int)]) [.o 1, .o 1, .o 1, .o 1] [φ1 0, φ1 0, φ1 0, φ1 0] s trivial (by kernel_rfl) ?_
   have e9 : rsG l = ⟨Ev.T.zero, (Ev.E.leaf 0), enB ((bitsL l).drop ((stG (bitsL l)).d)), 0, 0⟩ := by unfold rsG; rw [if_pos (of_decide_eq_true hc10), if_pos (of_decide_eq_true hc15)]
   exact ⟨_, _, _, rfl, s, (by rw [e9]; exact ⟨_, _, _, _, rfl, (Ev.TRep.z _), (Ev.ERep.lf _ 0)⟩)⟩
  ·
   rw [hc15]
   refine cond_false_rule (b := false) (by kernel_rfl) rfl ?_
   refine wp_skip ?_
   refine seqR ?_
   refine ops_rule (C := []) _ [] 3 [.o 2, .o 2, .o 2, .o 2, .o 1, .o 1, .o 1, .o 1] 0 (fun φ18 => [(5, .int .i64 0), (26, .agg #[.bool bi7, .pointer pi7, .int .u64 be7, .pointer pe7])]) (fun φ18 => [(b3, .cells #[.slice a3 (List.length l) c3, .int .i64 ((0 + ((stG (bitsL l)).d) : Nat) : Int), .int .i64 ((enB ((bitsL l).drop ((stG (bitsL l)).d)) : Nat) : Int)] 102), (φ1 0, .cells #[.bool bi7, .pointer pi7, .int .u64 be7, .pointer pe7] 32), (φ8 0, .cells #[.bool bi7, .pointer pi7, .int .u64 be7, .pointer pe7] 32)]) (fun φ18 => [φ8 0, φ8 0, φ8 0, φ8 0, φ1 0, φ1 0, φ1 0, φ1 0]) s trivial (fun φ18 => by kernel_rfl) ?_
   intro φ18 w18 s
   refine ops_done (by kernel_rfl) ?_
   refine wp_ret ?_
   refine ret_rule (C := []) _ [] (.tuple #[.agg #[.bool bi7, .pointer pi7, .int .u64 be7, .pointer pe7], .int .i64 0]) [.o 1, .o 1, .o 1, .o 1] [φ1 0, φ1 0, φ1 0, φ1 0] s trivial (by kernel_rfl) ?_
   have e9 : rsG l = ⟨(stG (bitsL l)).i, (stG (bitsL l)).v, 0, 0, 0⟩ := by unfold rsG; rw [if_pos (of_decide_eq_true hc10), if_neg (of_decide_eq_false hc15)]
   exact ⟨_, _, _, rfl, s, (by rw [e9]; exact ⟨_, _, _, _, rfl, h7_0, h7_1⟩)⟩
 ·
  rw [hc10]
  refine cond_false_rule (b := false) (by kernel_rfl) rfl ?_
  refine wp_skip ?_
  refine wp_seq ?_
  refine seqR ?_
  refine ops_rule (C := []) _ [] 2 [] 0 (fun φ19 => [(23, .bool ((((stG (bitsL l)).er : Nat) : Int) != ((0 : Nat) : Int))), (22, .int .i64 (((stG (bitsL l)).er : Nat) : Int))]) (fun φ19 => [(b3, .cells #[.slice a3 (List.length l) c3, .int .i64 ((0 + ((stG (bitsL l)).d) : Nat) : Int), .int .i64 (((stG (bitsL l)).e : Nat) : Int)] 102), (φ1 0, .cells #[.bool false, .pointer none, .int .u64 0, .pointer none] 32), (φ8 0, .cells #[.bool bi7, .pointer pi7, .int .u64 be7, .pointer pe7] 32)]) (fun φ19 => []) s trivial (fun φ19 => by kernel_rfl) ?_
  intro φ19 w19 s
  rw [nat_neq (a := ((stG (bitsL l)).er)) (b := 0)]
  refine ops_done (by kernel_rfl) ?_
  rcases Bool.eq_false_or_eq_true (decide (((stG (bitsL l)).er) ≠ 0)) with hc20 | hc20
  ·
   rw [hc20]
   refine cond_true_rule (b := true) (by kernel_rfl) rfl ?_
   refine seqR ?_
   refine ops_rule (C := []) _ [] 1 [] 1 (fun φ21 => [(9, pB (φ21 0))]) (fun φ21 => [(b3, .cells #[.slice a3 (List.length l) c3, .int .i64 ((0 + ((stG (bitsL l)).d) : Nat) : Int), .int .i64 (((stG (bitsL l)).e : Nat) : Int)] 102), (φ1 0, .cells #[.bool false, .pointer none, .int .u64 0, .pointer none] 32), (φ8 0, .cells #[.bool bi7, .pointer pi7, .int .u64 be7, .pointer pe7] 32), (φ21 0, .cells #[.bool false, .pointer none, .int .u64 0, .pointer none] 32)]) (fun φ21 => []) s trivial (fun φ21 => by kernel_rfl) ?_
   intro φ21 w21 s
   refine ops_done (by kernel_rfl) ?_
   refine seqR ?_
   refine ops_rule (C := []) _ [] 4 [.o 3, .o 3, .o 3, .o 3, .o 1, .o 1, .o 1, .o 1] 0 (fun φ22 => [(5, .int .i64 (((stG (bitsL l)).er : Nat) : Int)), (25, .int .i64 (((stG (bitsL l)).er : Nat) : Int)), (24, .agg #[.bool false, .pointer none, .int .u64 0, .pointer none])]) (fun φ22 => [(b3, .cells #[.slice a3 (List.length l) c3, .int .i64 ((0 + ((stG (bitsL l)).d) : Nat) : Int), .int .i64 (((stG (bitsL l)).e : Nat) : Int)] 102), (φ1 0, .cells #[.bool false, .pointer none, .int .u64 0, .pointer none] 32), (φ8 0, .cells #[.bool bi7, .pointer pi7, .int .u64 be7, .pointer pe7] 32), (φ21 0, .cells #[.bool false, .pointer none, .int .u64 0, .pointer none] 32)]) (fun φ22 => [φ21 0, φ21 0, φ21 0, φ21 0, φ1 0, φ1 0, φ1 0, φ1 0]) s trivial (fun φ22 => by kernel_rfl) ?_
   intro φ22 w22 s
   refine ops_done (by kernel_rfl) ?_
   refine wp_ret ?_
   refine ret_rule (C := []) _ [] (.tuple #[.agg #[.bool false, .pointer none, .int .u64 0, .pointer none], .int .i64 (((stG (bitsL l)).er : Nat) : Int)]) [.o 1, .o 1, .o 1, .o 1] [φ1 0, φ1 0, φ1 0, φ1 0] s trivial (by kernel_rfl) ?_
   have e9 : rsG l = ⟨Ev.T.zero, (Ev.E.leaf 0), (stG (bitsL l)).er, 0, 0⟩ := by unfold rsG; rw [if_neg (of_decide_eq_false hc10)]
   exact ⟨_, _, _, rfl, s, (by rw [e9]; exact ⟨_, _, _, _, rfl, (Ev.TRep.z _), (Ev.ERep.lf _ 0)⟩)⟩
  ·
   exact absurd (of_decide_eq_false hc10) (of_decide_eq_false hc20)

set_option maxHeartbeats 2000000 in
theorem handID_c {I : IM} {l : List UInt8} {a : Option Addr} {n c : Nat} (hl : BSl I l (.slice a n c)) (hn9 : l.length ≤ 1000000) : Fun Try.prog 39 #[.slice a n c, .func (.func 29) #[] #[]] I (fun v J => ∃ bi pi, v = .tuple #[.agg #[.bool bi, .pointer pi], .int .i64 (((rdG (idG 16) Ev.T.zero l).er : Nat) : Int)] ∧ Ev.TRep J (rdG (idG 16) Ev.T.zero l).t bi pi) := by
 obtain ⟨rfl, -⟩ := hl.cap
 refine enter_rule 27 [(0, .slice a l.length c), (1, .func (.func 29) #[] #[])] Try.func39 rfl (by kernel_rfl) ?_
 intro w s
 refine seqR ?_
 refine ops_rule (C := []) [] [] 2 [] 1 (fun φ1 => [(5, .int .i64 0), (4, pB (φ1 0))]) (fun φ1 => [(φ1 0, .cells #[.bool false, .pointer none] 26)]) (fun φ1 => []) s trivial (fun φ1 => by kernel_rfl) ?_
 intro φ1 w1 s
 refine ops_done (by kernel_rfl) ?_
 refine seqR ?_
 refine ops_rule (C := []) _ [] 1 [] 0 (fun φ2 => [(10, .slice a l.length c)]) (fun φ2 => [(φ1 0, .cells #[.bool false, .pointer none] 26)]) (fun φ2 => []) s trivial (fun φ2 => by kernel_rfl) ?_
 intro φ2 w2 s
 refine callF_rule (F := []) (some 11) s (newReader_c hl hn9) (by kernel_rfl) ?_
 rintro v3 I3 w3 F3 le3 ⟨b3, a3, c3, rfl, rfl, hb3⟩ s
 refine ops_rule (C := []) [(φ1 0, .cells #[.bool false, .pointer none] 26), (b3, .cells #[.slice a3 (List.length l) c3, .int .i64 0, .int .i64 0] 102)] [] 1 [] 0 (fun φ4 => [(6, pB b3)]) (fun φ4 => [(φ1 0, .cells #[.bool false, .pointer none] 26), (b3, .cells #[.slice a3 (List.length l) c3, .int .i64 0, .int .i64 0] 102)]) (fun φ4 => []) s trivial (fun φ4 => by kernel_rfl) ?_
 intro φ4 w4 s
 refine ops_done (by kernel_rfl) ?_
 refine seqR ?_
 refine ops_rule (C := []) _ [] 2 [] 0 (fun φ5 => [(14, pB b3), (13, .func (.func 29) #[] #[])]) (fun φ5 => [(φ1 0, .cells #[.bool false, .pointer none] 26), (b3, .cells #[.slice a3 (List.length l) c3, .int .i64 0, .int .i64 0] 102)]) (fun φ5 => []) s trivial (fun φ5 => by kernel_rfl) ?_
 intro φ5 w5 s
 refine callB_rule (b := (b3, .cells #[.slice a3 (List.length l) c3, .int .i64 0, .int .i64 0] 102)) (F := []) (Hr := [(φ1 0, .cells #[.bool false, .pointer none] 26)]) (some 15) 1 s (by kernel_rfl) (by kernel_rfl) (getID_c (r := b3) (p := 0) (B := (bitsL l)) hb3 hn9 (Nat.zero_le _) (List.drop_zero : (bitsL l).drop 0 = bitsL l) rfl) (by kernel_rfl) ?_
 rintro v7 I7 w7 b7 le7 - h7 s
 replace hb3 := BSl.mono le7 hb3
 obtain ⟨bi7, pi7, rfl, rfl, h7_0⟩ := h7
 have hB6 := next_B (d := (idG 16 (bitsL l)).d) (List.drop_zero : (bitsL l).drop 0 = bitsL l)
 have hp6 := next_p (d := (idG 16 (bitsL l)).d) (Nat.zero_le _) (List.drop_zero : (bitsL l).drop 0 = bitsL l) ((idG_ok 16).d _)
 refine ops_rule (C := []) _ [] 6 [.o 2, .o 2] 1 (fun φ8 => [(8, .int .i64 (((idG 16 (bitsL l)).er : Nat) : Int)), (7, pB (φ8 0)), (17, .int .i64 (((idG 16 (bitsL l)).er : Nat) : Int)), (16, .agg #[.bool bi7, .pointer pi7]), (12, .tuple #[.agg #[.bool bi7, .pointer pi7], .int .i64 (((idG 16 (bitsL l)).er : Nat) : Int)])]) (fun φ8 => [(b3, .cells #[.slice a3 (List.length l) c3, .int .i64 ((0 + ((idG 16 (bitsL l)).d) : Nat) : Int), .int .i64 (((idG 16 (bitsL l)).e : Nat) : Int)] 102), (φ1 0, .cells #[.bool false, .pointer none] 26), (φ8 0, .cells #[.bool bi7, .pointer pi7] 26)]) (fun φ8 => [φ8 0, φ8 0]) s trivial (fun φ8 => by kernel_rfl) ?_
 intro φ8 w8 s
 refine ops_done (by kernel_rfl) ?_
 refine wp_seq ?_
 refine seqR ?_
 refine ops_rule (C := []) _ [] 2 [] 0 (fun φ9 => [(19, .bool ((((idG 16 (bitsL l)).er : Nat) : Int) == ((0 : Nat) : Int))), (18, .int .i64 (((idG 16 (bitsL l)).er : Nat) : Int))]) (fun φ9 => [(b3, .cells #[.slice a3 (List.length l) c3, .int .i64 ((0 + ((idG 16 (bitsL l)).d) : Nat) : Int), .int .i64 (((idG 16 (bitsL l)).e : Nat) : Int)] 102), (φ1 0, .cells #[.bool false, .pointer none] 26), (φ8 0, .cells #[.bool bi7, .pointer pi7] 26)]) (fun φ9 => []) s trivial (fun φ9 => by kernel_rfl) ?_
 intro φ9 w9 s
 rw [nat_eql (a := ((idG 16 (bitsL l)).er)) (b := 0)]
 refine ops_done (by kernel_rfl) ?_
 rcases Bool.eq_false_or_eq_true (decide (((idG 16 (bitsL l)).er) = 0)) with hc10 | hc10
 ·
  rw [hc10]
  refine cond_true_rule (b := true) (by kernel_rfl) rfl ?_
  refine region_rule ?_
  refine ops_rule (C := []) _ [] 1 [] 0 (fun φ11 => [(20, pB b3)]) (fun φ11 => [(b3, .cells #[.slice a3 (List.length l) c3, .int .i64 ((0 + ((idG 16 (bitsL l)).d) : Nat) : Int), .int .i64 (((idG 16 (bitsL l)).e : Nat) : Int)] 102), (φ1 0, .cells #[.bool false, .pointer none] 26), (φ8 0, .cells #[.bool bi7, .pointer pi7] 26)]) (fun φ11 => []) s trivial (fun φ11 => by kernel_rfl) ?_
  intro φ11 w11 s
  refine callB_rule (b := (b3, .cells #[.slice a3 (List.length l) c3, .int .i64 ((0 + ((idG 16 (bitsL l)).d) : Nat) : Int), .int .i64 (((idG 16 (bitsL l)).e : Nat) : Int)] 102)) (F := []) (Hr := [(φ1 0, .cells #[.bool false, .pointer none] 26), (φ8 0, .cells #[.bool bi7, .pointer pi7] 26)]) (some 21) 0 s (by kernel_rfl) (by kernel_rfl) (endK_c (r := b3) (p := 0 + ((idG 16 (bitsL l)).d)) (B := ((bitsL l).drop ((idG 16 (bitsL l)).d))) hb3 hn9 hp6 hB6 ((idG_ok 16).e _ (of_decide_eq_true hc10))) (by kernel_rfl) ?_
  rintro v12 I12 w12 b12 le12 - h12 s
  replace h7_0 := Ev.TRep.mono le12 h7_0
  obtain ⟨rfl, rfl⟩ := h12
  refine ops_rule (C := []) _ [] 1 [] 0 (fun φ13 => [(8, .int .i64 ((enB ((bitsL l).drop ((idG 16 (bitsL l)).d)) : Nat) : Int))]) (fun φ13 => [(b3, .cells #[.slice a3 (List.length l) c3, .int .i64 ((0 + ((idG 16 (bitsL l)).d) : Nat) : Int), .int .i64 ((enB ((bitsL l).drop ((idG 16 (bitsL l)).d)) : Nat) : Int)] 102), (φ1 0, .cells #[.bool false, .pointer none] 26), (φ8 0, .cells #[.bool bi7, .pointer pi7] 26)]) (fun φ13 => []) s trivial (fun φ13 => by kernel_rfl) ?_
  intro φ13 w13 s
  refine ops_done (by kernel_rfl) ?_
  refine wp_seq ?_
  refine seqR ?_
  refine ops_rule (C := []) _ [] 2 [] 0 (fun φ14 => [(23, .bool (((enB ((bitsL l).drop ((idG 16 (bitsL l)).d)) : Nat) : Int) != ((0 : Nat) : Int))), (22, .int .i64 ((enB ((bitsL l).drop ((idG 16 (bitsL l)).d)) : Nat) : Int))]) (fun φ14 => [(b3, .cells #[.slice a3 (List.length l) c3, .int .i64 ((0 + ((idG 16 (bitsL l)).d) : Nat) : Int), .int .i64 ((enB ((bitsL l).drop ((idG 16 (bitsL l)).d)) : Nat) : Int)] 102), (φ1 0, .cells #[.bool false, .pointer none] 26), (φ8 0, .cells #[.bool bi7, .pointer pi7] 26)]) (fun φ14 => []) s trivial (fun φ14 => by kernel_rfl) ?_
  intro φ14 w14 s
  rw [nat_neq (a := (enB ((bitsL l).drop ((idG 16 (bitsL l)).d)))) (b := 0)]
  refine ops_done (by kernel_rfl) ?_
  rcases Bool.eq_false_or_eq_true (decide ((enB ((bitsL l).drop ((idG 16 (bitsL l)).d))) ≠ 0)) with hc15 | hc15
  ·
   rw [hc15]
   refine cond_true_rule (b := true) (by kernel_rfl) rfl ?_
   refine seqR ?_
   refine ops_rule (C := []) _ [] 1 [] 1 (fun φ16 => [(9, pB (φ16 0))]) (fun φ16 => [(b3, .cells #[.slice a3 (List.length l) c3, .int .i64 ((0 + ((idG 16 (bitsL l)).d) : Nat) : Int), .int .i64 ((enB ((bitsL l).drop ((idG 16 (bitsL l)).d)) : Nat) : Int)] 102), (φ1 0, .cells #[.bool false, .pointer none] 26), (φ8 0, .cells #[.bool bi7, .pointer pi7] 26), (φ16 0, .cells #[.bool false, .pointer none] 26)]) (fun φ16 => []) s trivial (fun φ16 => by kernel_rfl) ?_
   intro φ16 w16 s
   refine ops_done (by kernel_rfl) ?_
   refine seqR ?_
   refine ops_rule (C := []) _ [] 4 [.o 3, .o 3, .o 1, .o 1] 0 (fun φ17 => [(5, .int .i64 ((enB ((bitsL l).drop ((idG 16 (bitsL l)).d)) : Nat) : Int)), (25, .int .i64 ((enB ((bitsL l).drop ((idG 16 (bitsL l)).d)) : Nat) : Int)), (24, .agg #[.bool false, .pointer none])]) (fun φ17 => [(b3, .cells #[.slice a3 (List.length l) c3, .int .i64 ((0 + ((idG 16 (bitsL l)).d) : Nat) : Int), .int .i64 ((enB ((bitsL l).drop ((idG 16 (bitsL l)).d)) : Nat) : Int)] 102), (φ1 0, .cells #[.bool false, .pointer none] 26), (φ8 0, .cells #[.bool bi7, .pointer pi7] 26), (φ16 0, .cells #[.bool false, .pointer none] 26)]) (fun φ17 => [φ16 0, φ16 0, φ1 0, φ1 0]) s trivial (fun φ17 => by kernel_rfl) ?_
   intro φ17 w17 s
   refine ops_done (by kernel_rfl) ?_
   refine wp_ret ?_
   refine ret_rule (C := []) _ [] (.tuple #[.agg #[.bool false, .pointer none], .int .i64 ((enB ((bitsL l).drop ((idG 16 (bitsL l)).d)) : Nat) : Int)]) [.o 1, .o 1] [φ1 0, φ1 0] s trivial (by kernel_rfl) ?_
   have e9 : (rdG (idG 16) Ev.T.zero l) = ⟨Ev.T.zero, enB ((bitsL l).drop ((idG 16 (bitsL l)).d)), 0, 0⟩ := by unfold rdG; rw [if_pos (of_decide_eq_true hc10), if_pos (of_decide_eq_true hc15)]
   exact ⟨_, _, _, rfl, s, (by rw [e9]; exact ⟨_, _, rfl, (Ev.TRep.z _)⟩)⟩
  ·
   rw [hc15]
   refine cond_false_rule (b := false) (by kernel_rfl) rfl ?_
   refine wp_skip ?_
   refine seqR ?_
   refine ops_rule (C := []) _ [] 3 [.o 2, .o 2, .o 1, .o 1] 0 (fun φ18 => [(5, .int .i64 0), (26, .agg #[.bool bi7, .pointer pi7])]) (fun φ18 => [(b3, .cells #[.slice a3 (List.length l) c3, .int .i64 ((0 + ((idG 16 (bitsL l)).d) : Nat) : Int), .int .i64 ((enB ((bitsL l).drop ((idG 16 (bitsL l)).d)) : Nat) : Int)] 102), (φ1 0, .cells #[.bool bi7, .pointer pi7] 26), (φ8 0, .cells #[.bool bi7, .pointer pi7] 26)]) (fun φ18 => [φ8 0, φ8 0, φ1 0, φ1 0]) s trivial (fun φ18 => by kernel_rfl) ?_
   intro φ18 w18 s
   refine ops_done (by kernel_rfl) ?_
   refine wp_ret ?_
   refine ret_rule (C := []) _ [] (.tuple #[.agg #[.bool bi7, .pointer pi7], .int .i64 0]) [.o 1, .o 1] [φ1 0, φ1 0] s trivial (by kernel_rfl) ?_
   have e9 : (rdG (idG 16) Ev.T.zero l) = ⟨(idG 16 (bitsL l)).t, 0, 0, 0⟩ := by unfold rdG; rw [if_pos (of_decide_eq_true hc10), if_neg (of_decide_eq_false hc15)]
   exact ⟨_, _, _, rfl, s, (by rw [e9]; exact ⟨_, _, rfl, h7_0⟩)⟩
 ·
  rw [hc10]
  refine cond_false_rule (b := false) (by kernel_rfl) rfl ?_
  refine wp_skip ?_
  refine wp_seq ?_
  refine seqR ?_
  refine ops_rule (C := []) _ [] 2 [] 0 (fun φ19 => [(23, .bool ((((idG 16 (bitsL l)).er : Nat) : Int) != ((0 : Nat) : Int))), (22, .int .i64 (((idG 16 (bitsL l)).er : Nat) : Int))]) (fun φ19 => [(b3, .cells #[.slice a3 (List.length l) c3, .int .i64 ((0 + ((idG 16 (bitsL l)).d) : Nat) : Int), .int .i64 (((idG 16 (bitsL l)).e : Nat) : Int)] 102), (φ1 0, .cells #[.bool false, .pointer none] 26), (φ8 0, .cells #[.bool bi7, .pointer pi7] 26)]) (fun φ19 => []) s trivial (fun φ19 => by kernel_rfl) ?_
  intro φ19 w19 s
  rw [nat_neq (a := ((idG 16 (bitsL l)).er)) (b := 0)]
  refine ops_done (by kernel_rfl) ?_
  rcases Bool.eq_false_or_eq_true (decide (((idG 16 (bitsL l)).er) ≠ 0)) with hc20 | hc20
  ·
   rw [hc20]
   refine cond_true_rule (b := true) (by kernel_rfl) rfl ?_
   refine seqR ?_
   refine ops_rule (C := []) _ [] 1 [] 1 (fun φ21 => [(9, pB (φ21 0))]) (fun φ21 => [(b3, .cells #[.slice a3 (List.length l) c3, .int .i64 ((0 + ((idG 16 (bitsL l)).d) : Nat) : Int), .int .i64 (((idG 16 (bitsL l)).e : Nat) : Int)] 102), (φ1 0, .cells #[.bool false, .pointer none] 26), (φ8 0, .cells #[.bool bi7, .pointer pi7] 26), (φ21 0, .cells #[.bool false, .pointer none] 26)]) (fun φ21 => []) s trivial (fun φ21 => by kernel_rfl) ?_
   intro φ21 w21 s
   refine ops_done (by kernel_rfl) ?_
   refine seqR ?_
   refine ops_rule (C := []) _ [] 4 [.o 3, .o 3, .o 1, .o 1] 0 (fun φ22 => [(5, .int .i64 (((idG 16 (bitsL l)).er : Nat) : Int)), (25, .int .i64 (((idG 16 (bitsL l)).er : Nat) : Int)), (24, .agg #[.bool false, .pointer none])]) (fun φ22 => [(b3, .cells #[.slice a3 (List.length l) c3, .int .i64 ((0 + ((idG 16 (bitsL l)).d) : Nat) : Int), .int .i64 (((idG 16 (bitsL l)).e : Nat) : Int)] 102), (φ1 0, .cells #[.bool false, .pointer none] 26), (φ8 0, .cells #[.bool bi7, .pointer pi7] 26), (φ21 0, .cells #[.bool false, .pointer none] 26)]) (fun φ22 => [φ21 0, φ21 0, φ1 0, φ1 0]) s trivial (fun φ22 => by kernel_rfl) ?_
   intro φ22 w22 s
   refine ops_done (by kernel_rfl) ?_
   refine wp_ret ?_
   refine ret_rule (C := []) _ [] (.tuple #[.agg #[.bool false, .pointer none], .int .i64 (((idG 16 (bitsL l)).er : Nat) : Int)]) [.o 1, .o 1] [φ1 0, φ1 0] s trivial (by kernel_rfl) ?_
   have e9 : (rdG (idG 16) Ev.T.zero l) = ⟨Ev.T.zero, (idG 16 (bitsL l)).er, 0, 0⟩ := by unfold rdG; rw [if_neg (of_decide_eq_false hc10)]
   exact ⟨_, _, _, rfl, s, (by rw [e9]; exact ⟨_, _, rfl, (Ev.TRep.z _)⟩)⟩
  ·
   exact absurd (of_decide_eq_false hc10) (of_decide_eq_false hc20)

set_option maxHeartbeats 2000000 in
theorem handEvent_c {I : IM} {l : List UInt8} {a : Option Addr} {n c : Nat} (hl : BSl I l (.slice a n c)) (hn9 : l.length ≤ 1000000) : Fun Try.prog 40 #[.slice a n c, .func (.func 28) #[] #[]] I (fun v J => ∃ be pe, v = .tuple #[.agg #[.int .u64 ((be : Nat) : Int), .pointer pe], .int .i64 (((rdG (evG 16) (Ev.E.leaf 0) l).er : Nat) : Int)] ∧ Ev.ERep J (rdG (evG 16) (Ev.E.leaf 0) l).t be pe) := by
 obtain ⟨rfl, -⟩ := hl.cap
 refine enter_rule 27 [(0, .slice a l.length c), (1, .func (.func 28) #[] #[])] Try.func40 rfl (by kernel_rfl) ?_
 intro w s
 refine seqR ?_
 refine ops_rule (C := []) [] [] 2 [] 1 (fun φ1 => [(5, .int .i64 0), (4, pB (φ1 0))]) (fun φ1 => [(φ1 0, .cells #[.int .u64 0, .pointer none] 30)]) (fun φ1 => []) s trivial (fun φ1 => by kernel_rfl) ?_
 intro φ1 w1 s
 refine ops_done (by kernel_rfl) ?_
 refine seqR ?_
 refine ops_rule (C := []) _ [] 1 [] 0 (fun φ2 => [(10, .slice a l.length c)]) (fun φ2 => [(φ1 0, .cells #[.int .u64 0, .pointer none] 30)]) (fun φ2 => []) s trivial (fun φ2 => by kernel_rfl) ?_
 intro φ2 w2 s
 refine callF_rule (F := []) (some 11) s (newReader_c hl hn9) (by kernel_rfl) ?_
 rintro v3 I3 w3 F3 le3 ⟨b3, a3, c3, rfl, rfl, hb3⟩ s
 refine ops_rule (C := []) [(φ1 0, .cells #[.int .u64 0, .pointer none] 30), (b3, .cells #[.slice a3 (List.length l) c3, .int .i64 0, .int .i64 0] 102)] [] 1 [] 0 (fun φ4 => [(6, pB b3)]) (fun φ4 => [(φ1 0, .cells #[.int .u64 0, .pointer none] 30), (b3, .cells #[.slice a3 (List.length l) c3, .int .i64 0, .int .i64 0] 102)]) (fun φ4 => []) s trivial (fun φ4 => by kernel_rfl) ?_
 intro φ4 w4 s
 refine ops_done (by kernel_rfl) ?_
 refine seqR ?_
 refine ops_rule (C := []) _ [] 2 [] 0 (fun φ5 => [(14, pB b3), (13, .func (.func 28) #[] #[])]) (fun φ5 => [(φ1 0, .cells #[.int .u64 0, .pointer none] 30), (b3, .cells #[.slice a3 (List.length l) c3, .int .i64 0, .int .i64 0] 102)]) (fun φ5 => []) s trivial (fun φ5 => by kernel_rfl) ?_
 intro φ5 w5 s
 refine callB_rule (b := (b3, .cells #[.slice a3 (List.length l) c3, .int .i64 0, .int .i64 0] 102)) (F := []) (Hr := [(φ1 0, .cells #[.int .u64 0, .pointer none] 30)]) (some 15) 1 s (by kernel_rfl) (by kernel_rfl) (getEvent_c (r := b3) (p := 0) (B := (bitsL l)) hb3 hn9 (Nat.zero_le _) (List.drop_zero : (bitsL l).drop 0 = bitsL l) rfl) (by kernel_rfl) ?_
 rintro v7 I7 w7 b7 le7 - h7 s
 replace hb3 := BSl.mono le7 hb3
 obtain ⟨bi7, pi7, rfl, rfl, h7_0⟩ := h7
 have hB6 := next_B (d := (evG 16 (bitsL l)).d) (List.drop_zero : (bitsL l).drop 0 = bitsL l)
 have hp6 := next_p (d := (evG 16 (bitsL l)).d) (Nat.zero_le _) (List.drop_zero : (bitsL l).drop 0 = bitsL l) ((evG_ok 16).d _)
 refine ops_rule (C := []) _ [] 6 [.o 2, .o 2] 1 (fun φ8 => [(8, .int .i64 (((evG 16 (bitsL l)).er : Nat) : Int)), (7, pB (φ8 0)), (17, .int .i64 (((evG 16 (bitsL l)).er : Nat) : Int)), (16, .agg #[.int .u64 bi7, .pointer pi7]), (12, .tuple #[.agg #[.int .u64 bi7, .pointer pi7], .int .i64 (((evG 16 (bitsL l)).er : Nat) : Int)])]) (fun φ8 => [(b3, .cells #[.slice a3 (List.length l) c3, .int .i64 ((0 + ((evG 16 (bitsL l)).d) : Nat) : Int), .int .i64 (((evG 16 (bitsL l)).e : Nat) : Int)] 102), (φ1 0, .cells #[.int .u64 0, .pointer none] 30), (φ8 0, .cells #[.int .u64 bi7, .pointer pi7] 30)]) (fun φ8 => [φ8 0, φ8 0]) s trivial (fun φ8 => by kernel_rfl) ?_
 intro φ8 w8 s
 refine ops_done (by kernel_rfl) ?_
 refine wp_seq ?_
 refine seqR ?_
 refine ops_rule (C := []) _ [] 2 [] 0 (fun φ9 => [(19, .bool ((((evG 16 (bitsL l)).er : Nat) : Int) == ((0 : Nat) : Int))), (18, .int .i64 (((evG 16 (bitsL l)).er : Nat) : Int))]) (fun φ9 => [(b3, .cells #[.slice a3 (List.length l) c3, .int .i64 ((0 + ((evG 16 (bitsL l)).d) : Nat) : Int), .int .i64 (((evG 16 (bitsL l)).e : Nat) : Int)] 102), (φ1 0, .cells #[.int .u64 0, .pointer none] 30), (φ8 0, .cells #[.int .u64 bi7, .pointer pi7] 30)]) (fun φ9 => []) s trivial (fun φ9 => by kernel_rfl) ?_
 intro φ9 w9 s
 rw [nat_eql (a := ((evG 16 (bitsL l)).er)) (b := 0)]
 refine ops_done (by kernel_rfl) ?_
 rcases Bool.eq_false_or_eq_true (decide (((evG 16 (bitsL l)).er) = 0)) with hc10 | hc10
 ·
  rw [hc10]
  refine cond_true_rule (b := true) (by kernel_rfl) rfl ?_
  refine region_rule ?_
  refine ops_rule (C := []) _ [] 1 [] 0 (fun φ11 => [(20, pB b3)]) (fun φ11 => [(b3, .cells #[.slice a3 (List.length l) c3, .int .i64 ((0 + ((evG 16 (bitsL l)).d) : Nat) : Int), .int .i64 (((evG 16 (bitsL l)).e : Nat) : Int)] 102), (φ1 0, .cells #[.int .u64 0, .pointer none] 30), (φ8 0, .cells #[.int .u64 bi7, .pointer pi7] 30)]) (fun φ11 => []) s trivial (fun φ11 => by kernel_rfl) ?_
  intro φ11 w11 s
  refine callB_rule (b := (b3, .cells #[.slice a3 (List.length l) c3, .int .i64 ((0 + ((evG 16 (bitsL l)).d) : Nat) : Int), .int .i64 (((evG 16 (bitsL l)).e : Nat) : Int)] 102)) (F := []) (Hr := [(φ1 0, .cells #[.int .u64 0, .pointer none] 30), (φ8 0, .cells #[.int .u64 bi7, .pointer pi7] 30)]) (some 21) 0 s (by kernel_rfl) (by kernel_rfl) (endK_c (r := b3) (p := 0 + ((evG 16 (bitsL l)).d)) (B := ((bitsL l).drop ((evG 16 (bitsL l)).d))) hb3 hn9 hp6 hB6 ((evG_ok 16).e _ (of_decide_eq_true hc10))) (by kernel_rfl) ?_
  rintro v12 I12 w12 b12 le12 - h12 s
  replace h7_0 := Ev.ERep.mono le12 h7_0
  obtain ⟨rfl, rfl⟩ := h12
  refine ops_rule (C := []) _ [] 1 [] 0 (fun φ13 => [(8, .int .i64 ((enB ((bitsL l).drop ((evG 16 (bitsL l)).d)) : Nat) : Int))]) (fun φ13 => [(b3, .cells #[.slice a3 (List.length l) c3, .int .i64 ((0 + ((evG 16 (bitsL l)).d) : Nat) : Int), .int .i64 ((enB ((bitsL l).drop ((evG 16 (bitsL l)).d)) : Nat) : Int)] 102), (φ1 0, .cells #[.int .u64 0, .pointer none] 30), (φ8 0, .cells #[.int .u64 bi7, .pointer pi7] 30)]) (fun φ13 => []) s trivial (fun φ13 => by kernel_rfl) ?_
  intro φ13 w13 s
  refine ops_done (by kernel_rfl) ?_
  refine wp_seq ?_
  refine seqR ?_
  refine ops_rule (C := []) _ [] 2 [] 0 (fun φ14 => [(23, .bool (((enB ((bitsL l).drop ((evG 16 (bitsL l)).d)) : Nat) : Int) != ((0 : Nat) : Int))), (22, .int .i64 ((enB ((bitsL l).drop ((evG 16 (bitsL l)).d)) : Nat) : Int))]) (fun φ14 => [(b3, .cells #[.slice a3 (List.length l) c3, .int .i64 ((0 + ((evG 16 (bitsL l)).d) : Nat) : Int), .int .i64 ((enB ((bitsL l).drop ((evG 16 (bitsL l)).d)) : Nat) : Int)] 102), (φ1 0, .cells #[.int .u64 0, .pointer none] 30), (φ8 0, .cells #[.int .u64 bi7, .pointer pi7] 30)]) (fun φ14 => []) s trivial (fun φ14 => by kernel_rfl) ?_
  intro φ14 w14 s
  rw [nat_neq (a := (enB ((bitsL l).drop ((evG 16 (bitsL l)).d)))) (b := 0)]
  refine ops_done (by kernel_rfl) ?_
  rcases Bool.eq_false_or_eq_true (decide ((enB ((bitsL l).drop ((evG 16 (bitsL l)).d))) ≠ 0)) with hc15 | hc15
  ·
   rw [hc15]
   refine cond_true_rule (b := true) (by kernel_rfl) rfl ?_
   refine seqR ?_
   refine ops_rule (C := []) _ [] 1 [] 1 (fun φ16 => [(9, pB (φ16 0))]) (fun φ16 => [(b3, .cells #[.slice a3 (List.length l) c3, .int .i64 ((0 + ((evG 16 (bitsL l)).d) : Nat) : Int), .int .i64 ((enB ((bitsL l).drop ((evG 16 (bitsL l)).d)) : Nat) : Int)] 102), (φ1 0, .cells #[.int .u64 0, .pointer none] 30), (φ8 0, .cells #[.int .u64 bi7, .pointer pi7] 30), (φ16 0, .cells #[.int .u64 0, .pointer none] 30)]) (fun φ16 => []) s trivial (fun φ16 => by kernel_rfl) ?_
   intro φ16 w16 s
   refine ops_done (by kernel_rfl) ?_
   refine seqR ?_
   refine ops_rule (C := []) _ [] 4 [.o 3, .o 3, .o 1, .o 1] 0 (fun φ17 => [(5, .int .i64 ((enB ((bitsL l).drop ((evG 16 (bitsL l)).d)) : Nat) : Int)), (25, .int .i64 ((enB ((bitsL l).drop ((evG 16 (bitsL l)).d)) : Nat) : Int)), (24, .agg #[.int .u64 0, .pointer none])]) (fun φ17 => [(b3, .cells #[.slice a3 (List.length l) c3, .int .i64 ((0 + ((evG 16 (bitsL l)).d) : Nat) : Int), .int .i64 ((enB ((bitsL l).drop ((evG 16 (bitsL l)).d)) : Nat) : Int)] 102), (φ1 0, .cells #[.int .u64 0, .pointer none] 30), (φ8 0, .cells #[.int .u64 bi7, .pointer pi7] 30), (φ16 0, .cells #[.int .u64 0, .pointer none] 30)]) (fun φ17 => [φ16 0, φ16 0, φ1 0, φ1 0]) s trivial (fun φ17 => by kernel_rfl) ?_
   intro φ17 w17 s
   refine ops_done (by kernel_rfl) ?_
   refine wp_ret ?_
   refine ret_rule (C := []) _ [] (.tuple #[.agg #[.int .u64 0, .pointer none], .int .i64 ((enB ((bitsL l).drop ((evG 16 (bitsL l)).d)) : Nat) : Int)]) [.o 1, .o 1] [φ1 0, φ1 0] s trivial (by kernel_rfl) ?_
   have e9 : (rdG (evG 16) (Ev.E.leaf 0) l) = ⟨(Ev.E.leaf 0), enB ((bitsL l).drop ((evG 16 (bitsL l)).d)), 0, 0⟩ := by unfold rdG; rw [if_pos (of_decide_eq_true hc10), if_pos (of_decide_eq_true hc15)]
   exact ⟨_, _, _, rfl, s, (by rw [e9]; exact ⟨_, _, rfl, (Ev.ERep.lf _ 0)⟩)⟩
  ·
   rw [hc15]
   refine cond_false_rule (b := false) (by kernel_rfl) rfl ?_
   refine wp_skip ?_
   refine seqR ?_
   refine ops_rule (C := []) _ [] 3 [.o 2, .o 2, .o 1, .o 1] 0 (fun φ18 => [(5, .int .i64 0), (26, .agg #[.int .u64 bi7, .pointer pi7])]) (fun φ18 => [(b3, .cells #[.slice a3 (List.length l) c3, .int .i64 ((0 + ((evG 16 (bitsL l)).d) : Nat) : Int), .int .i64 ((enB ((bitsL l).drop ((evG 16 (bitsL l)).d)) : Nat) : Int)] 102), (φ1 0, .cells #[.int .u64 bi7, .pointer pi7] 30), (φ8 0, .cells #[.int .u64 bi7, .pointer pi7] 30)]) (fun φ18 => [φ8 0, φ8 0, φ1 0, φ1 0]) s trivial (fun φ18 => by kernel_rfl) ?_
   intro φ18 w18 s
   refine ops_done (by kernel_rfl) ?_
   refine wp_ret ?_
   refine ret_rule (C := []) _ [] (.tuple #[.agg #[.int .u64 bi7, .pointer pi7], .int .i64 0]) [.o 1, .o 1] [φ1 0, φ1 0] s trivial (by kernel_rfl) ?_
   have e9 : (rdG (evG 16) (Ev.E.leaf 0) l) = ⟨(evG 16 (bitsL l)).t, 0, 0, 0⟩ := by unfold rdG; rw [if_pos (of_decide_eq_true hc10), if_neg (of_decide_eq_false hc15)]
   exact ⟨_, _, _, rfl, s, (by rw [e9]; exact ⟨_, _, rfl, h7_0⟩)⟩
 ·
  rw [hc10]
  refine cond_false_rule (b := false) (by kernel_rfl) rfl ?_
  refine wp_skip ?_
  refine wp_seq ?_
  refine seqR ?_
  refine ops_rule (C := []) _ [] 2 [] 0 (fun φ19 => [(23, .bool ((((evG 16 (bitsL l)).er : Nat) : Int) != ((0 : Nat) : Int))), (22, .int .i64 (((evG 16 (bitsL l)).er : Nat) : Int))]) (fun φ19 => [(b3, .cells #[.slice a3 (List.length l) c3, .int .i64 ((0 + ((evG 16 (bitsL l)).d) : Nat) : Int), .int .i64 (((evG 16 (bitsL l)).e : Nat) : Int)] 102), (φ1 0, .cells #[.int .u64 0, .pointer none] 30), (φ8 0, .cells #[.int .u64 bi7, .pointer pi7] 30)]) (fun φ19 => []) s trivial (fun φ19 => by kernel_rfl) ?_
  intro φ19 w19 s
  rw [nat_neq (a := ((evG 16 (bitsL l)).er)) (b := 0)]
  refine ops_done (by kernel_rfl) ?_
  rcases Bool.eq_false_or_eq_true (decide (((evG 16 (bitsL l)).er) ≠ 0)) with hc20 | hc20
  ·
   rw [hc20]
   refine cond_true_rule (b := true) (by kernel_rfl) rfl ?_
   refine seqR ?_
   refine ops_rule (C := []) _ [] 1 [] 1 (fun φ21 => [(9, pB (φ21 0))]) (fun φ21 => [(b3, .cells #[.slice a3 (List.length l) c3, .int .i64 ((0 + ((evG 16 (bitsL l)).d) : Nat) : Int), .int .i64 (((evG 16 (bitsL l)).e : Nat) : Int)] 102), (φ1 0, .cells #[.int .u64 0, .pointer none] 30), (φ8 0, .cells #[.int .u64 bi7, .pointer pi7] 30), (φ21 0, .cells #[.int .u64 0, .pointer none] 30)]) (fun φ21 => []) s trivial (fun φ21 => by kernel_rfl) ?_
   intro φ21 w21 s
   refine ops_done (by kernel_rfl) ?_
   refine seqR ?_
   refine ops_rule (C := []) _ [] 4 [.o 3, .o 3, .o 1, .o 1] 0 (fun φ22 => [(5, .int .i64 (((evG 16 (bitsL l)).er : Nat) : Int)), (25, .int .i64 (((evG 16 (bitsL l)).er : Nat) : Int)), (24, .agg #[.int .u64 0, .pointer none])]) (fun φ22 => [(b3, .cells #[.slice a3 (List.length l) c3, .int .i64 ((0 + ((evG 16 (bitsL l)).d) : Nat) : Int), .int .i64 (((evG 16 (bitsL l)).e : Nat) : Int)] 102), (φ1 0, .cells #[.int .u64 0, .pointer none] 30), (φ8 0, .cells #[.int .u64 bi7, .pointer pi7] 30), (φ21 0, .cells #[.int .u64 0, .pointer none] 30)]) (fun φ22 => [φ21 0, φ21 0, φ1 0, φ1 0]) s trivial (fun φ22 => by kernel_rfl) ?_
   intro φ22 w22 s
   refine ops_done (by kernel_rfl) ?_
   refine wp_ret ?_
   refine ret_rule (C := []) _ [] (.tuple #[.agg #[.int .u64 0, .pointer none], .int .i64 (((evG 16 (bitsL l)).er : Nat) : Int)]) [.o 1, .o 1] [φ1 0, φ1 0] s trivial (by kernel_rfl) ?_
   have e9 : (rdG (evG 16) (Ev.E.leaf 0) l) = ⟨(Ev.E.leaf 0), (evG 16 (bitsL l)).er, 0, 0⟩ := by unfold rdG; rw [if_neg (of_decide_eq_false hc10)]
   exact ⟨_, _, _, rfl, s, (by rw [e9]; exact ⟨_, _, rfl, (Ev.ERep.lf _ 0)⟩)⟩
  ·
   exact absurd (of_decide_eq_false hc10) (of_decide_eq_false hc20)

set_option maxHeartbeats 2000000 in
theorem readStamp_c {I : IM} {l : List UInt8} {a : Option Addr} {n c : Nat} (hl : BSl I l (.slice a n c)) (hn9 : l.length ≤ 1000000) : Fun Try.prog 9 #[.slice a n c] I (fun v J => ∃ bi pi be pe, v = .tuple #[.agg #[.bool bi, .pointer pi, .int .u64 ((be : Nat) : Int), .pointer pe], .int .i64 (((rsG l).er : Nat) : Int)] ∧ Ev.TRep J (rsG l).i bi pi ∧ Ev.ERep J (rsG l).v be pe) := by
 obtain ⟨rfl, -⟩ := hl.cap
 refine enter_rule 8 [(0, .slice a l.length c)] Try.func9 rfl (by kernel_rfl) ?_
 intro w s
 refine seqR ?_
 refine ops_rule (C := []) [] [] 2 [] 1 (fun φ1 => [(3, .int .i64 0), (2, pB (φ1 0))]) (fun φ1 => [(φ1 0, .cells #[.bool false, .pointer none, .int .u64 0, .pointer none] 32)]) (fun φ1 => []) s trivial (fun φ1 => by kernel_rfl) ?_
 intro φ1 w1 s
 refine ops_done (by kernel_rfl) ?_
 refine seqR ?_
 refine ops_rule (C := []) _ [] 1 [] 0 (fun φ2 => [(4, .slice a l.length c)]) (fun φ2 => [(φ1 0, .cells #[.bool false, .pointer none, .int .u64 0, .pointer none] 32)]) (fun φ2 => []) s trivial (fun φ2 => by kernel_rfl) ?_
 intro φ2 w2 s
 refine call_rule (some 5) s (handStamp_c hl (hn9)) (by kernel_rfl) ?_
 intro v3 I3 w3 le3 h3 s
 obtain ⟨bi3, pi3, be3, pe3, rfl, h3_0, h3_1⟩ := h3
 refine ops_rule (C := []) _ [] 4 [.o 0, .o 0, .o 0, .o 0] 0 (fun φ4 => [(3, .int .i64 (((rsG l).er : Nat) : Int)), (7, .int .i64 (((rsG l).er : Nat) : Int)), (6, .agg #[.bool bi3, .pointer pi3, .int .u64 be3, .pointer pe3])]) (fun φ4 => [(φ1 0, .cells #[.bool bi3, .pointer pi3, .int .u64 be3, .pointer pe3] 32)]) (fun φ4 => [φ1 0, φ1 0, φ1 0, φ1 0]) s trivial (fun φ4 => by kernel_rfl) ?_
 intro φ4 w4 s
 refine ops_done (by kernel_rfl) ?_
 refine wp_ret ?_
 refine ret_rule (C := []) _ [] (.tuple #[.agg #[.bool bi3, .pointer pi3, .int .u64 be3, .pointer pe3], .int .i64 (((rsG l).er : Nat) : Int)]) [.o 0, .o 0, .o 0, .o 0] [φ1 0, φ1 0, φ1 0, φ1 0] s trivial (by kernel_rfl) ?_
 exact ⟨_, _, _, rfl, s, ⟨_, _, _, _, rfl, h3_0, h3_1⟩⟩

set_option maxHeartbeats 2000000 in
theorem readID_c {I : IM} {l : List UInt8} {a : Option Addr} {n c : Nat} (hl : BSl I l (.slice a n c)) (hn9 : l.length ≤ 1000000) : Fun Try.prog 10 #[.slice a n c] I (fun v J => ∃ bi pi, v = .tuple #[.agg #[.bool bi, .pointer pi], .int .i64 (((rdG (idG 16) Ev.T.zero l).er : Nat) : Int)] ∧ Ev.TRep J (rdG (idG 16) Ev.T.zero l).t bi pi) := by
 obtain ⟨rfl, -⟩ := hl.cap
 refine enter_rule 8 [(0, .slice a l.length c)] Try.func10 rfl (by kernel_rfl) ?_
 intro w s
 refine seqR ?_
 refine ops_rule (C := []) [] [] 2 [] 1 (fun φ1 => [(3, .int .i64 0), (2, pB (φ1 0))]) (fun φ1 => [(φ1 0, .cells #[.bool false, .pointer none] 26)]) (fun φ1 => []) s trivial (fun φ1 => by kernel_rfl) ?_
 intro φ1 w1 s
 refine ops_done (by kernel_rfl) ?_
 refine seqR ?_
 refine ops_rule (C := []) _ [] 1 [] 0 (fun φ2 => [(4, .slice a l.length c)]) (fun φ2 => [(φ1 0, .cells #[.bool false, .pointer none] 26)]) (fun φ2 => []) s trivial (fun φ2 => by kernel_rfl) ?_
 intro φ2 w2 s
 refine call_rule (some 5) s (handID_c hl (hn9)) (by kernel_rfl) ?_
 intro v3 I3 w3 le3 h3 s
 obtain ⟨bi3, pi3, rfl, h3_0⟩ := h3
 refine ops_rule (C := []) _ [] 4 [.o 0, .o 0] 0 (fun φ4 => [(3, .int .i64 (((rdG (idG 16) Ev.T.zero l).er : Nat) : Int)), (7, .int .i64 (((rdG (idG 16) Ev.T.zero l).er : Nat) : Int)), (6, .agg #[.bool bi3, .pointer pi3])]) (fun φ4 => [(φ1 0, .cells #[.bool bi3, .pointer pi3] 26)]) (fun φ4 => [φ1 0, φ1 0]) s trivial (fun φ4 => by kernel_rfl) ?_
 intro φ4 w4 s
 refine ops_done (by kernel_rfl) ?_
 refine wp_ret ?_
 refine ret_rule (C := []) _ [] (.tuple #[.agg #[.bool bi3, .pointer pi3], .int .i64 (((rdG (idG 16) Ev.T.zero l).er : Nat) : Int)]) [.o 0, .o 0] [φ1 0, φ1 0] s trivial (by kernel_rfl) ?_
 exact ⟨_, _, _, rfl, s, ⟨_, _, rfl, h3_0⟩⟩

set_option maxHeartbeats 2000000 in
theorem readEvent_c {I : IM} {l : List UInt8} {a : Option Addr} {n c : Nat} (hl : BSl I l (.slice a n c)) (hn9 : l.length ≤ 1000000) : Fun Try.prog 12 #[.slice a n c] I (fun v J => ∃ be pe, v = .tuple #[.agg #[.int .u64 ((be : Nat) : Int), .pointer pe], .int .i64 (((rdG (evG 16) (Ev.E.leaf 0) l).er : Nat) : Int)] ∧ Ev.ERep J (rdG (evG 16) (Ev.E.leaf 0) l).t be pe) := by
 obtain ⟨rfl, -⟩ := hl.cap
 refine enter_rule 8 [(0, .slice a l.length c)] Try.func12 rfl (by kernel_rfl) ?_
 intro w s
 refine seqR ?_
 refine ops_rule (C := []) [] [] 2 [] 1 (fun φ1 => [(3, .int .i64 0), (2, pB (φ1 0))]) (fun φ1 => [(φ1 0, .cells #[.int .u64 0, .pointer none] 30)]) (fun φ1 => []) s trivial (fun φ1 => by kernel_rfl) ?_
 intro φ1 w1 s
 refine ops_done (by kernel_rfl) ?_
 refine seqR ?_
 refine ops_rule (C := []) _ [] 1 [] 0 (fun φ2 => [(4, .slice a l.length c)]) (fun φ2 => [(φ1 0, .cells #[.int .u64 0, .pointer none] 30)]) (fun φ2 => []) s trivial (fun φ2 => by kernel_rfl) ?_
 intro φ2 w2 s
 refine call_rule (some 5) s (handEvent_c hl (hn9)) (by kernel_rfl) ?_
 intro v3 I3 w3 le3 h3 s
 obtain ⟨be3, pe3, rfl, h3_0⟩ := h3
 refine ops_rule (C := []) _ [] 4 [.o 0, .o 0] 0 (fun φ4 => [(3, .int .i64 (((rdG (evG 16) (Ev.E.leaf 0) l).er : Nat) : Int)), (7, .int .i64 (((rdG (evG 16) (Ev.E.leaf 0) l).er : Nat) : Int)), (6, .agg #[.int .u64 be3, .pointer pe3])]) (fun φ4 => [(φ1 0, .cells #[.int .u64 be3, .pointer pe3] 30)]) (fun φ4 => [φ1 0, φ1 0]) s trivial (fun φ4 => by kernel_rfl) ?_
 intro φ4 w4 s
 refine ops_done (by kernel_rfl) ?_
 refine wp_ret ?_
 refine ret_rule (C := []) _ [] (.tuple #[.agg #[.int .u64 be3, .pointer pe3], .int .i64 (((rdG (evG 16) (Ev.E.leaf 0) l).er : Nat) : Int)]) [.o 0, .o 0] [φ1 0, φ1 0] s trivial (by kernel_rfl) ?_
 exact ⟨_, _, _, rfl, s, ⟨_, _, rfl, h3_0⟩⟩

end Go.Proofs.Ytgmigcmhnmmdkaa
/- What stands behind one another is read one by one. -/
set_option linter.all false
set_option maxRecDepth 100000
namespace Go.Proofs.Ytgmigcmhnmmdkaa
open Go.RowKit Go.Sep
attribute [local irreducible] Go.wpList Go.Code.wp

theorem okE.b {e : Ev.E} (h : okE e) : e.nf ∧ e.depth ≤ 16 ∧ e.top ≤ 1048576 := h.w
theorem okT.b {t : Ev.T} (h : okT t) : t.nf ∧ t.depth ≤ 16 := ⟨h.1, by have := h.2; omega⟩
theorem idSelf_c {I : IM} {A : Ev.T} {ba bb : Bool} {pa pb : Option Addr} (hA : Ev.TRep I A ba pa) (hB : Ev.TRep I A bb pb) : Fun Try.prog 18 #[.agg #[.bool ba, .pointer pa], .agg #[.bool bb, .pointer pb]] I (fun v J => v = .bool true) := by
  have := idSame_c hA hB
  rw [decide_eq_true rfl] at this; exact this
theorem evSelf_c {I : IM} {A : Ev.E} {ba bb : Nat} {pa pb : Option Addr} (hA : Ev.ERep I A ba pa) (hB : Ev.ERep I A bb pb) (a : okE A) : Fun Try.prog 19 #[.agg #[.int .u64 ((ba : Nat) : Int), .pointer pa], .agg #[.int .u64 ((bb : Nat) : Int), .pointer pb]] I (fun v J => v = .bool true) := by
  have := evSame_c hA hB a.w a.w
  rw [decide_eq_true rfl] at this; exact this

end Go.Proofs.Ytgmigcmhnmmdkaa
/- What the document writes of ids and events: the same bits. -/
set_option linter.all false
namespace Go.Proofs.Ytgmigcmhnmmdkaa

theorem idB_nd1 {l r : Ev.T} (h : Ev.kindT l = 0) : idB (.node l r) = putBits 1 2 ++ idB r := by
  have := Ev.kind_zero h; subst this
  have hk : idK (.node .zero r) = 1 := by unfold idK; simp [Ev.T.isZero, Ev.T.isOne, Ev.T.left]
  simp [idB, hk]
theorem idB_nd2 {l r : Ev.T} (h : ¬ Ev.kindT l = 0) (h2 : Ev.kindT r = 0) : idB (.node l r) = putBits 2 2 ++ idB l := by
  have := Ev.kind_zero h2; subst this
  have hz := Ev.kind_nz h
  have hk : idK (.node l .zero) = 2 := by unfold idK; simp [Ev.T.isOne, Ev.T.left, Ev.T.right, hz, show (Ev.T.node l .zero).isZero = false from rfl, show Ev.T.zero.isZero = true from rfl]
  simp [idB, hk]
theorem idB_nd3 {l r : Ev.T} (h : ¬ Ev.kindT l = 0) (h2 : ¬ Ev.kindT r = 0) : idB (.node l r) = putBits 3 2 ++ idB l ++ idB r := by
  have hz := Ev.kind_nz h
  have hz2 := Ev.kind_nz h2
  have hk : idK (.node l r) = 3 := by unfold idK; simp [Ev.T.isOne, Ev.T.left, Ev.T.right, hz, hz2, show (Ev.T.node l r).isZero = false from rfl]
  simp [idB, hk]
theorem nd_top0 {n : Nat} {l r : Ev.E} (h : (Ev.E.node n l r).nf) : (Ev.E.node n l r).top ≠ 0 := by
  have := nd_top h; omega
end Go.Proofs.Ytgmigcmhnmmdkaa
