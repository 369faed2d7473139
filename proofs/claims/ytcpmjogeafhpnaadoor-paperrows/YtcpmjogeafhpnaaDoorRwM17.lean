/- What an In tells, in variables. -/
import Derived.Test.YtcpmjogeafhpnaaDoorRwM16
import Derived.Test.YtcpmjogeafhpnaaDoorProg
import Derived.Test.YtcpmjogeafhpnaaDoorRwS10
import Derived.LoopN
import Derived.Test.YtcpmjogeafhpnaaDoorRwS11
import Derived.Laws.MakeOwn
import Derived.Lib.TrimUEq
import Derived.Laws.IdiomStrings
import Derived.Lib.MapLaws
import Derived.Lib.ValidU
set_option linter.all false
set_option maxRecDepth 100000
namespace Go.Proofs.YtcpmjogeafhpnaaDoor
open Go.RowKit Go.Sep
attribute [local irreducible] Go.wpList Go.Code.wp

theorem funM_mono {P : Program} {f : FuncId} {args : Array Value} {I : IM} {H : List OB} {R R' : Value → IM → List OB → Prop} (h : FunM P f args I H R) (k : ∀ v J H', R v J H' → R' v J H') : FunM P f args I H R' :=
  fun w hw ho => (h w hw ho).mono fun e w' ⟨v, J, H', he, p, r⟩ => ⟨v, J, H', he, p, k v J H' r⟩
theorem byteV_c {I : IM} {l : List UInt8} {a : Option Addr} {k c r e : Nat} (hl : BSl I l (.slice a k c)) (hn9 : l.length ≤ 1000000) : FunM Tryd.prog 55 #[.pointer (some ⟨r, 0, none⟩)] I [(r, .cells #[.slice a k c, .int .i64 ((e : Nat) : Int)] 126)] (fun v J H' => ∃ b' : OB, H' = [b'] ∧ b'.1 = r ∧ ∃ (V : Nat) (E D : Nat) (L : List UInt8) (a' : Option Addr) (k' c' : Nat), v = .int .u8 ((V : Nat) : Int) ∧ b' = (r, .cells #[.slice a' k' c', .int .i64 ((E : Nat) : Int)] 126) ∧ BSl J L (.slice a' k' c') ∧ byV l e = V ∧ byE l e = E ∧ byD l e = D ∧ l.drop D = L) := by
  refine funM_mono (byteG_c (r := r) (e := e) hl hn9) (fun v J H' q => ?_)
  obtain ⟨b', h1, h2, a', k', c', h3, h4, h5⟩ := q
  exact ⟨b', h1, h2, _, _, _, _, a', k', c', h3, h4, h5, rfl, rfl, rfl, rfl⟩
theorem numV_c {I : IM} {l : List UInt8} {a : Option Addr} {k c r e : Nat} (hl : BSl I l (.slice a k c)) (hn9 : l.length ≤ 1000000) : FunM Tryd.prog 114 #[.pointer (some ⟨r, 0, none⟩)] I [(r, .cells #[.slice a k c, .int .i64 ((e : Nat) : Int)] 126)] (fun v J H' => ∃ b' : OB, H' = [b'] ∧ b'.1 = r ∧ ∃ (V : Nat) (E D : Nat) (L : List UInt8) (a' : Option Addr) (k' c' : Nat), v = .int .u64 ((V : Nat) : Int) ∧ b' = (r, .cells #[.slice a' k' c', .int .i64 ((E : Nat) : Int)] 126) ∧ BSl J L (.slice a' k' c') ∧ nuV l e = V ∧ nuE l e = E ∧ nuD l e = D ∧ l.drop D = L) := by
  refine funM_mono (numG_c (r := r) (e := e) hl hn9) (fun v J H' q => ?_)
  obtain ⟨b', h1, h2, a', k', c', h3, h4, h5⟩ := q
  exact ⟨b', h1, h2, _, _, _, _, a', k', c', h3, h4, h5, rfl, rfl, rfl, rfl⟩
theorem textV_c {I : IM} {l : List UInt8} {a : Option Addr} {k c r e : Nat} (hl : BSl I l (.slice a k c)) (hn9 : l.length ≤ 1000000) {z : Nat} (hz : z < 9223372036854775808) : FunM Tryd.prog 115 #[.pointer (some ⟨r, 0, none⟩), .int .i64 ((z : Nat) : Int)] I [(r, .cells #[.slice a k c, .int .i64 ((e : Nat) : Int)] 126)] (fun v J H' => ∃ b' : OB, H' = [b'] ∧ b'.1 = r ∧ ∃ (V : List UInt8) (E D : Nat) (L : List UInt8) (a' : Option Addr) (k' c' : Nat), v = .string ⟨V.toArray⟩ ∧ b' = (r, .cells #[.slice a' k' c', .int .i64 ((E : Nat) : Int)] 126) ∧ BSl J L (.slice a' k' c') ∧ teV l e ((z : Nat) : Int) = V ∧ teE l e ((z : Nat) : Int) = E ∧ teD l e ((z : Nat) : Int) = D ∧ l.drop D = L) := by
  refine funM_mono (textG_c (r := r) (e := e) hl hn9 hz) (fun v J H' q => ?_)
  obtain ⟨b', h1, h2, a', k', c', h3, h4, h5⟩ := q
  exact ⟨b', h1, h2, _, _, _, _, a', k', c', h3, h4, h5, rfl, rfl, rfl, rfl⟩
theorem drop_len9 {l L : List UInt8} {d : Nat} (h : l.drop d = L) (hl : l.length ≤ 1000000) : L.length ≤ 1000000 := by rw [← h, List.length_drop]; omega

end Go.Proofs.YtcpmjogeafhpnaaDoor
/- A field is read; how many there are. -/
set_option linter.all false
set_option maxRecDepth 100000
namespace Go.Proofs.YtcpmjogeafhpnaaDoor
open Go.RowKit Go.Sep
attribute [local irreducible] Go.wpList Go.Code.wp

theorem failV_c {I : IM} {l : List UInt8} {a : Option Addr} {k c r e : Nat} (hl : BSl I l (.slice a k c)) (hn9 : l.length ≤ 1000000) {q : Nat} : FunM Tryd.prog 96 #[.pointer (some ⟨r, 0, none⟩), .int .i64 ((q : Nat) : Int)] I [(r, .cells #[.slice a k c, .int .i64 ((e : Nat) : Int)] 126)] (fun v J H' => ∃ b' : OB, H' = [b'] ∧ b'.1 = r ∧ ∃ (a' : Option Addr) (k' c' : Nat), v = .tuple #[] ∧ b' = (r, .cells #[.slice a' k' c', .int .i64 ((faE q e : Nat) : Int)] 126) ∧ BSl J l (.slice a' k' c')) := by
  have h := failG_c (r := r) (e := e) (q := q) hl hn9
  rw [List.drop_zero] at h; exact h
/-- a field that is read: its kind, label, value; how many bytes go, the error -/
structure Fd where
  k : Nat
  a : List UInt8
  v : List UInt8
  d : Nat
  e : Nat
noncomputable def fdG (l : List UInt8) (e z1 z2 : Nat) : Fd :=
  ⟨byV l e, teV (l.drop (byD l e)) (byE l e) ((z1 : Nat) : Int), teV ((l.drop (byD l e)).drop (teD (l.drop (byD l e)) (byE l e) ((z1 : Nat) : Int))) (teE (l.drop (byD l e)) (byE l e) ((z1 : Nat) : Int)) ((z2 : Nat) : Int),
   byD l e + teD (l.drop (byD l e)) (byE l e) ((z1 : Nat) : Int) + teD ((l.drop (byD l e)).drop (teD (l.drop (byD l e)) (byE l e) ((z1 : Nat) : Int))) (teE (l.drop (byD l e)) (byE l e) ((z1 : Nat) : Int)) ((z2 : Nat) : Int),
   teE ((l.drop (byD l e)).drop (teD (l.drop (byD l e)) (byE l e) ((z1 : Nat) : Int))) (teE (l.drop (byD l e)) (byE l e) ((z1 : Nat) : Int)) ((z2 : Nat) : Int)⟩
/-- how many there are -/
noncomputable def coG (l : List UInt8) (e most q : Nat) : Nat × Nat := if most < nuV l e then (0, faE q (nuE l e)) else (nuV l e, nuE l e)

theorem byV_lt (l : List UInt8) (e : Nat) : byV l e < 256 := by
  unfold byV; split
  · exact UInt8.toNat_lt _
  · decide

set_option maxHeartbeats 2000000 in
theorem getField_c {I : IM} {l : List UInt8} {a : Option Addr} {k c r e : Nat} (hl : BSl I l (.slice a k c)) (hn9 : l.length ≤ 1000000) {z1 z2 : Nat} (hz1 : z1 < 9223372036854775808) (hz2 : z2 < 9223372036854775808) : FunM Tryd.prog 95 #[.pointer (some ⟨r, 0, none⟩), .int .i64 ((z1 : Nat) : Int), .int .i64 ((z2 : Nat) : Int)] I [(r, .cells #[.slice a k c, .int .i64 ((e : Nat) : Int)] 126)] (fun v J H' => ∃ b' : OB, H' = [b'] ∧ b'.1 = r ∧ ∃ (K : Nat) (A V : List UInt8) (E D : Nat) (L : List UInt8) (a' : Option Addr) (k' c' : Nat), v = .agg #[.int .i64 ((K : Nat) : Int), .string ⟨A.toArray⟩, .string ⟨V.toArray⟩] ∧ b' = (r, .cells #[.slice a' k' c', .int .i64 ((E : Nat) : Int)] 126) ∧ BSl J L (.slice a' k' c') ∧ fdG l e z1 z2 = ⟨K, A, V, D, E⟩ ∧ K < 256 ∧ l.drop D = L) := by
 obtain ⟨rfl, -⟩ := hl.cap
 refine enterM_rule 23 [(0, pB r), (1, .int .i64 z1), (2, .int .i64 z2)] Tryd.func95 rfl (by kernel_rfl) ?_
 intro w s
 refine seqR ?_
 refine oAD [(r, .cells #[.slice a l.length c, .int .i64 e] 126)] [] 1 [] 1 (fun φ1 => [(6, pB (φ1 0))]) (fun φ1 => [(r, .cells #[.slice a l.length c, .int .i64 e] 126), (φ1 0, .cells #[.int .i64 0, .string ⟨#[]⟩, .string ⟨#[]⟩] 39)]) (fun φ1 => []) s (fun φ1 => by kernel_rfl) (by kernel_rfl) ?_
 intro φ1 w1 s
 refine seqR ?_
 refine oK _ [] 1 [] 0 (fun φ2 => [(10, pB r)]) (fun φ2 => []) s (fun φ2 => by kernel_rfl) ?_
 intro φ2 w2 s
 refine callB_rule (b := (r, .cells #[.slice a l.length c, .int .i64 e] 126)) (F := []) (Hr := [(φ1 0, .cells #[.int .i64 0, .string ⟨#[]⟩, .string ⟨#[]⟩] 39)]) (some 11) 0 s (by kernel_rfl) (by kernel_rfl) (byteV_c (r := r) (e := e) hl hn9) (by kernel_rfl) ?_
 rintro v3 I3 w3 b3 le3 - h3 s
 obtain ⟨V3, E3, D3, L3, a3, k3, c3, rfl, rfl, h3_0, h3_1, h3_2, h3_3, h3_4⟩ := h3
 refine oKD _ [] 1 [] 0 (fun φ4 => [(7, .int .u8 V3)]) (fun φ4 => []) s (fun φ4 => by kernel_rfl) (by kernel_rfl) ?_
 intro φ4 w4 s
 refine seqR ?_
 refine oK _ [] 2 [] 0 (fun φ5 => [(13, .int .i64 z1), (12, pB r)]) (fun φ5 => []) s (fun φ5 => by kernel_rfl) ?_
 intro φ5 w5 s
 refine callB_rule (b := (r, .cells #[.slice a3 k3 c3, .int .i64 E3] 126)) (F := []) (Hr := [(φ1 0, .cells #[.int .i64 0, .string ⟨#[]⟩, .string ⟨#[]⟩] 39)]) (some 14) 0 s (by kernel_rfl) (by kernel_rfl) (textV_c (r := r) (e := E3) h3_0 (drop_len9 h3_4 hn9) (z := z1) (by omega)) (by kernel_rfl) ?_
 rintro v6 I6 w6 b6 le6 - h6 s
 obtain ⟨S6, E6, D6, L6, a6, k6, c6, rfl, rfl, h6_0, h6_1, h6_2, h6_3, h6_4⟩ := h6
 refine oKD _ [] 1 [] 0 (fun φ7 => [(8, .string ⟨(S6).toArray⟩)]) (fun φ7 => []) s (fun φ7 => by kernel_rfl) (by kernel_rfl) ?_
 intro φ7 w7 s
 refine seqR ?_
 refine oK _ [] 2 [] 0 (fun φ8 => [(16, .int .i64 z2), (15, pB r)]) (fun φ8 => []) s (fun φ8 => by kernel_rfl) ?_
 intro φ8 w8 s
 refine callB_rule (b := (r, .cells #[.slice a6 k6 c6, .int .i64 E6] 126)) (F := []) (Hr := [(φ1 0, .cells #[.int .i64 0, .string ⟨#[]⟩, .string ⟨#[]⟩] 39)]) (some 17) 0 s (by kernel_rfl) (by kernel_rfl) (textV_c (r := r) (e := E6) h6_0 (drop_len9 h6_4 (drop_len9 h3_4 hn9)) (z := z2) (by omega)) (by kernel_rfl) ?_
 rintro v9 I9 w9 b9 le9 - h9 s
 obtain ⟨S9, E9, D9, L9, a9, k9, c9, rfl, rfl, h9_0, h9_1, h9_2, h9_3, h9_4⟩ := h9
 refine oKD _ [] 1 [] 0 (fun φ10 => [(9, .string ⟨(S9).toArray⟩)]) (fun φ10 => []) s (fun φ10 => by kernel_rfl) (by kernel_rfl) ?_
 intro φ10 w10 s
 refine seqR ?_
 refine oA _ [] 6 [.o 1, .o 1, .o 1] 0 (fun φ11 => [(22, .agg #[.int .i64 (IntKind.wrap .i64 ((V3 : Nat) : Int)), .string ⟨(S6).toArray⟩, .string ⟨(S9).toArray⟩]), (21, .string ⟨(S9).toArray⟩), (20, .string ⟨(S6).toArray⟩), (19, .int .i64 (IntKind.wrap .i64 ((V3 : Nat) : Int))), (18, .int .u8 V3)]) (fun φ11 => [(r, .cells #[.slice a9 k9 c9, .int .i64 E9] 126), (φ1 0, .cells #[.int .i64 (IntKind.wrap .i64 ((V3 : Nat) : Int)), .string ⟨(S6).toArray⟩, .string ⟨(S9).toArray⟩] 39)]) (fun φ11 => [φ1 0, φ1 0, φ1 0]) s (fun φ11 => by kernel_rfl) ?_
 intro φ11 w11 s
 rw [nat_wrapI (a := V3) (by have h9 := byV_lt l e; rw [h3_1] at h9; omega)] at s ⊢
 refine ops_done (by kernel_rfl) ?_
 refine wp_ret ?_
 refine ret_rule (C := []) _ [] (.agg #[.int .i64 V3, .string ⟨(S6).toArray⟩, .string ⟨(S9).toArray⟩]) [.o 1, .o 1, .o 1] [φ1 0, φ1 0, φ1 0] s trivial (by kernel_rfl) ?_
 replace s := s.drop (List.Sublist.append (List.Sublist.cons₂ _ (List.Sublist.cons _ List.Sublist.slnil)) (List.Sublist.refl []))
 have e9 : fdG l e z1 z2 = ⟨V3, S6, S9, D3 + D6 + D9, E9⟩ := by unfold fdG; simp only [h3_1, h3_2, h3_3, h3_4, h6_1, h6_2, h6_3, h6_4, h9_1, h9_2, h9_3, h9_4]
 have hK : V3 < 256 := by have h9 := byV_lt l e; rw [h3_1] at h9; exact h9
 exact ⟨_, _, _, rfl, s, ⟨_, rfl, rfl, V3, S6, S9, _, _, _, _, _, _, rfl, rfl, h9_0, e9, hK, (by simp only [← List.drop_drop, h3_4, h6_4, h9_4])⟩⟩

set_option maxHeartbeats 2000000 in
theorem count_c {I : IM} {l : List UInt8} {a : Option Addr} {k c r e : Nat} (hl : BSl I l (.slice a k c)) (hn9 : l.length ≤ 1000000) {most q : Nat} (hm : most < 9223372036854775808) : FunM Tryd.prog 94 #[.pointer (some ⟨r, 0, none⟩), .int .u64 ((most : Nat) : Int), .int .i64 ((q : Nat) : Int)] I [(r, .cells #[.slice a k c, .int .i64 ((e : Nat) : Int)] 126)] (fun v J H' => ∃ b' : OB, H' = [b'] ∧ b'.1 = r ∧ ∃ (N E D : Nat) (L : List UInt8) (a' : Option Addr) (k' c' : Nat), v = .int .i64 ((N : Nat) : Int) ∧ b' = (r, .cells #[.slice a' k' c', .int .i64 ((E : Nat) : Int)] 126) ∧ BSl J L (.slice a' k' c') ∧ coG l e most q = (N, E) ∧ nuD l e = D ∧ l.drop D = L) := by
 obtain ⟨rfl, -⟩ := hl.cap
 refine enterM_rule 18 [(0, pB r), (1, .int .u64 most), (2, .int .i64 q)] Tryd.func94 rfl (by kernel_rfl) ?_
 intro w s
 refine seqR ?_
 refine oKD [(r, .cells #[.slice a l.length c, .int .i64 e] 126)] [] 1 [] 0 (fun φ1 => [(6, .int .i64 0)]) (fun φ1 => []) s (fun φ1 => by kernel_rfl) (by kernel_rfl) ?_
 intro φ1 w1 s
 refine seqR ?_
 refine oK _ [] 1 [] 0 (fun φ2 => [(8, pB r)]) (fun φ2 => []) s (fun φ2 => by kernel_rfl) ?_
 intro φ2 w2 s
 refine callB_rule (b := (r, .cells #[.slice a l.length c, .int .i64 e] 126)) (F := []) (Hr := []) (some 9) 0 s (by kernel_rfl) (by kernel_rfl) (numV_c (r := r) (e := e) hl hn9) (by kernel_rfl) ?_
 rintro v3 I3 w3 b3 le3 - h3 s
 obtain ⟨V3, E3, D3, L3, a3, k3, c3, rfl, rfl, h3_0, h3_1, h3_2, h3_3, h3_4⟩ := h3
 refine oKD _ [] 1 [] 0 (fun φ4 => [(7, .int .u64 V3)]) (fun φ4 => []) s (fun φ4 => by kernel_rfl) (by kernel_rfl) ?_
 intro φ4 w4 s
 refine wp_seq ?_
 refine seqR ?_
 refine oK _ [] 3 [] 0 (fun φ5 => [(12, .bool (decide (((V3 : Nat) : Int) > ((most : Nat) : Int)))), (11, .int .u64 most), (10, .int .u64 V3)]) (fun φ5 => []) s (fun φ5 => by kernel_rfl) ?_
 intro φ5 w5 s
 rw [nat_gtr (a := V3) (b := most)]
 refine ops_done (by kernel_rfl) ?_
 rcases Bool.eq_false_or_eq_true (decide (most < V3)) with hc6 | hc6
 ·
  rw [hc6]
  refine cond_true_rule (b := true) (by kernel_rfl) rfl ?_
  refine seqR ?_
  refine oK _ [] 2 [] 0 (fun φ7 => [(14, .int .i64 q), (13, pB r)]) (fun φ7 => []) s (fun φ7 => by kernel_rfl) ?_
  intro φ7 w7 s
  refine callB_rule (b := (r, .cells #[.slice a3 k3 c3, .int .i64 E3] 126)) (F := []) (Hr := []) (some 15) 0 s (by kernel_rfl) (by kernel_rfl) (failV_c (r := r) (e := E3) (q := q) h3_0 (drop_len9 h3_4 hn9)) (by kernel_rfl) ?_
  rintro v8 I8 w8 b8 le8 - h8 s
  replace h3_0 := BSl.mono le8 h3_0
  obtain ⟨a8, k8, c8, rfl, rfl, h8_0⟩ := h8
  refine ops_done (by kernel_rfl) ?_
  refine seqR ?_
  refine oKD _ [] 1 [] 0 (fun φ9 => [(6, .int .i64 0)]) (fun φ9 => []) s (fun φ9 => by kernel_rfl) (by kernel_rfl) ?_
  intro φ9 w9 s
  refine wp_ret ?_
  refine ret_rule (C := []) _ [] (.int .i64 0) [] [] s trivial (by kernel_rfl) ?_
  replace s := s.drop (List.Sublist.append (List.Sublist.cons₂ _ List.Sublist.slnil) (List.Sublist.refl []))
  have e9 : coG l e most q = (0, faE q E3) := by unfold coG; simp [h3_1, h3_2, h3_3, h3_4, dT9 hc6]
  exact ⟨_, _, _, rfl, s, ⟨_, rfl, rfl, _, _, _, _, _, _, _, rfl, rfl, h8_0, e9, h3_3, (by simp only [← List.drop_drop, h3_4])⟩⟩
 ·
  rw [hc6]
  refine cond_false_rule (b := false) (by kernel_rfl) rfl ?_
  refine wp_skip ?_
  refine seqR ?_
  refine oK _ [] 3 [] 0 (fun φ10 => [(6, .int .i64 (IntKind.wrap .i64 ((V3 : Nat) : Int))), (17, .int .i64 (IntKind.wrap .i64 ((V3 : Nat) : Int))), (16, .int .u64 V3)]) (fun φ10 => []) s (fun φ10 => by kernel_rfl) ?_
  intro φ10 w10 s
  rw [nat_wrapI (a := V3) (by have hq0 := dF9 hc6; omega)]
  refine ops_done (by kernel_rfl) ?_
  refine wp_ret ?_
  refine ret_rule (C := []) _ [] (.int .i64 V3) [] [] s trivial (by kernel_rfl) ?_
  replace s := s.drop (List.Sublist.append (List.Sublist.cons₂ _ List.Sublist.slnil) (List.Sublist.refl []))
  have e9 : coG l e most q = (V3, E3) := by unfold coG; simp [h3_1, h3_2, h3_3, h3_4, dF9 hc6]
  exact ⟨_, _, _, rfl, s, ⟨_, rfl, rfl, _, _, _, _, _, _, _, rfl, rfl, h3_0, e9, h3_3, (by simp only [← List.drop_drop, h3_4])⟩⟩

end Go.Proofs.YtcpmjogeafhpnaaDoor
/- Slices of bytes that are never written: read, cut; rows of bytes; bits of numbers. -/
set_option linter.all false
set_option maxRecDepth 100000
namespace Go.Proofs.YtcpmjogeafhpnaaDoor.Tx
open Go.RowKit Go.Sep

def bV (x : UInt8) : Value := .int .u8 ((x.toNat : Nat) : Int)
def BSl (I : IM) (l : List UInt8) (v : Value) : Prop := ∃ a cap, v = .slice a l.length cap ∧ l.length ≤ cap ∧ ∀ j x, l[j]? = some x → ∃ b o cs T fr, a = some ⟨b, o, none⟩ ∧ I b = some (.cells cs T fr) ∧ cs[o + j]? = some (.int .u8 ((x.toNat : Nat) : Int))
theorem BSl.mono {I J : IM} (le : I.Le J) {l : List UInt8} {v : Value} (h : BSl I l v) : BSl J l v := by
  obtain ⟨a, cap, hv, hc, hr⟩ := h
  refine ⟨a, cap, hv, hc, fun j x hj => ?_⟩
  obtain ⟨b, o, cs, T, fr, h1, h2, h3⟩ := hr j x hj
  exact ⟨b, o, cs, T, fr, h1, le _ _ h2, h3⟩
theorem BSl.cap {I : IM} {l : List UInt8} {a : Option Addr} {n c : Nat} (h : BSl I l (.slice a n c)) : n = l.length ∧ l.length ≤ c := by
  obtain ⟨a', c', hv, hc, _⟩ := h
  cases hv; exact ⟨rfl, hc⟩
theorem BSl.open {I : IM} {l : List UInt8} {v : Value} (h : BSl I l v) : ∃ a c, v = .slice a l.length c ∧ l.length ≤ c ∧ BSl I l (.slice a l.length c) := by
  obtain ⟨a, c, hv, hc, _⟩ := id h
  subst hv
  exact ⟨a, c, rfl, hc, h⟩
theorem addr_addO (b o k : Nat) : (⟨b, o, none⟩ : Addr).add k = ⟨b, o + k, none⟩ := by unfold Addr.add; split <;> simp_all
theorem getD_some {l : List UInt8} {i : Nat} (h : i < l.length) : l[i]? = some (l.getD i 0) := by simp [h]
/-- bits -/
def bxor (k a b : Nat) : Nat := (BitVec.ofNat k a ^^^ BitVec.ofNat k b).toNat
def band (k a b : Nat) : Nat := (BitVec.ofNat k a &&& BitVec.ofNat k b).toNat
def bor (k a b : Nat) : Nat := (BitVec.ofNat k a ||| BitVec.ofNat k b).toNat
def bandn (k a b : Nat) : Nat := (BitVec.ofNat k a &&& ~~~ BitVec.ofNat k b).toNat
theorem wrapN8 (n : Nat) (h : n < 256) : IntKind.wrap .u8 (n : Int) = (n : Int) := by simp only [IntKind.wrap, IntKind.signed, IntKind.bits]; simp; omega
theorem run_bit8 {w : World} {t : TypeId} {a b : Nat} :
    (binOp .xor t (.int .u8 ((a : Nat) : Int)) (.int .u8 ((b : Nat) : Int))).run Tryd.prog w = .ok (.int .u8 ((bxor 8 a b : Nat) : Int)) w ∧
    (binOp .and t (.int .u8 ((a : Nat) : Int)) (.int .u8 ((b : Nat) : Int))).run Tryd.prog w = .ok (.int .u8 ((band 8 a b : Nat) : Int)) w ∧
    (binOp .or t (.int .u8 ((a : Nat) : Int)) (.int .u8 ((b : Nat) : Int))).run Tryd.prog w = .ok (.int .u8 ((bor 8 a b : Nat) : Int)) w ∧
    (binOp .andNot t (.int .u8 ((a : Nat) : Int)) (.int .u8 ((b : Nat) : Int))).run Tryd.prog w = .ok (.int .u8 ((bandn 8 a b : Nat) : Int)) w := by
  refine ⟨?_, ?_, ?_, ?_⟩ <;> simp only [binOp, Op.intBits, ne_eq, not_true_eq_false, if_false, IntKind.bits, BitVec.ofInt_natCast, Sem.run_pure] <;> rw [wrapN8 _ (BitVec.isLt _)] <;> rfl
theorem run_shrU {w : World} {t : TypeId} {a n : Nat} {k yk : IntKind} (ha : a < 2 ^ k.bits) : (binOp .shr t (.int k ((a : Nat) : Int)) (.int yk ((n : Nat) : Int))).run Tryd.prog w = .ok (.int k ((a / 2 ^ n : Nat) : Int)) w := by
  rw [run_shr]
  congr 2
  have : ((a : Nat) : Int).fdiv (2 ^ min n k.bits) = ((a / 2 ^ min n k.bits : Nat) : Int) := by
    rw [Int.fdiv_eq_ediv_of_nonneg _ (Int.pow_nonneg (by omega))]
    simp
  rw [this]
  by_cases h : n ≤ k.bits
  · rw [Nat.min_eq_left h]
  · rw [Nat.min_eq_right (by omega), Nat.div_eq_of_lt ha, Nat.div_eq_of_lt (Nat.lt_of_lt_of_le ha (Nat.pow_le_pow_right (by decide) (by omega)))]
end Go.Proofs.YtcpmjogeafhpnaaDoor.Tx

/- Numbers of 8 and 32 bits; slices of literals; a marked block. -/
set_option linter.all false
set_option maxRecDepth 100000
namespace Go.Proofs.YtcpmjogeafhpnaaDoor.Tx
open Go.RowKit Go.Sep

theorem bsl_lit {I : IM} {b n : Nat} {cs : Array Value} {T : TypeId} {fr : Nat × Nat} {l : List UInt8} (h : I b = some (.cells cs T fr)) (hc : cs.toList = l.map bV) (hn : n = l.length) : BSl I l (.slice (some ⟨b, 0, none⟩) n n) := by
  subst hn
  refine ⟨_, _, rfl, Nat.le_refl _, fun j x hj => ⟨b, 0, cs, T, fr, rfl, h, ?_⟩⟩
  have : cs.toList[j]? = some (bV x) := by rw [hc, List.getElem?_map, hj]; rfl
  rw [Nat.zero_add]
  have h2 : cs[j]? = some (bV x) := by simpa using this
  exact h2
theorem under5 : Tryd.prog.underlying 5 = some (.int .u8) := by kernel_rfl
def rounds_step {P : Program} {c : Code} {Q : Exit → Act → World → Prop} {n : Nat} {a : Act} {w : World} (h : c.wp P (Exit.then (Code.rounds P c Q n) Q) a w) : Code.rounds P c Q (n + 1) a w := by
  rw [Go.rounds_succ]; exact h
theorem leMono {A I J : IM} (le : I.Le J) (h : A.Le I) : A.Le J := h.trans le
theorem drop_cons {s : List UInt8} {k : Nat} (h : k < s.length) : s.drop k = s.getD k 0 :: s.drop (k + 1) := by
  rw [List.drop_eq_getElem_cons h]; simp [h]
end Go.Proofs.YtcpmjogeafhpnaaDoor.Tx

/- Rows of bytes that grow. -/
set_option linter.all false
set_option maxRecDepth 100000
namespace Go.Proofs.YtcpmjogeafhpnaaDoor.Tx
open Go.RowKit Go.Sep
theorem cell_byte {a : Nat} (h : a < 256) : Value.int .u8 ((a : Nat) : Int) = bV (UInt8.ofNat a) := by
  unfold bV; rw [UInt8.toNat_ofNat_of_lt' h]
theorem cells_bytes1 {a : Nat} (h : a < 256) : [Value.int .u8 ((a : Nat) : Int)] = [bV (UInt8.ofNat a)] := by rw [cell_byte h]
end Go.Proofs.YtcpmjogeafhpnaaDoor.Tx

/- Strings: what operations on them answer. -/
set_option linter.all false
set_option maxRecDepth 100000
namespace Go.Proofs.YtcpmjogeafhpnaaDoor.Tx
open Go.RowKit Go.Sep

theorem under9 : Tryd.prog.underlying 9 = some .string := by kernel_rfl
theorem strL_beq (x y : List UInt8) : ((⟨x.toArray⟩ : ByteArray).toList == (⟨y.toArray⟩ : ByteArray).toList) = decide (x = y) := by
  have hx : ∀ l : List UInt8, (⟨l.toArray⟩ : ByteArray).toList = l := fun l => by rw [ByteArray.toList_eq]
  rw [hx, hx]
  exact Bool.beq_eq_decide_eq x y
theorem run_eqS {w : World} {t : TypeId} {x y : List UInt8} : (binOp .eql t (.string ⟨x.toArray⟩) (.string ⟨y.toArray⟩)).run Tryd.prog w = .ok (.bool (decide (x = y))) w := by
  show (Op.stringOp .eql _ _).run Tryd.prog w = _
  unfold Op.stringOp
  simp only [strL_beq]; rfl
theorem take_string {s : List UInt8} {hi : Nat} : (⟨s.toArray⟩ : ByteArray).extract 0 hi = ⟨(s.take hi).toArray⟩ := by
  apply ByteArray.ext
  rw [ByteArray.data_extract]
  apply Array.ext'
  simp only [Array.toList_extract, List.extract_eq_take_drop]
  simp
theorem mid_string {s : List UInt8} {lo hi : Nat} : (⟨s.toArray⟩ : ByteArray).extract lo hi = ⟨((s.drop lo).take (hi - lo)).toArray⟩ := by
  apply ByteArray.ext
  rw [ByteArray.data_extract]
  apply Array.ext'
  simp only [Array.toList_extract, List.extract_eq_take_drop]
theorem run_takeS {w : World} {s : List UInt8} {hi : Nat} (h : hi ≤ s.length) :
    (Instr.sliceAt 9 (.string ⟨s.toArray⟩) none (some (.int .i64 ((hi : Nat) : Int))) none).run Tryd.prog w = .ok (.string ⟨(s.take hi).toArray⟩) w := by
  rw [run_sliceStrTo under9 (by exact h), take_string]
theorem run_idxK {w : World} {s : List UInt8} {i : Nat} {kd : IntKind} (h : i < s.length) :
    (Instr.index 9 (.string ⟨s.toArray⟩) (.int kd ((i : Nat) : Int))).run Tryd.prog w = .ok (.int .u8 (((s.getD i 0).toNat : Nat) : Int)) w := by
  have hb : (⟨s.toArray⟩ : ByteArray)[i]? = some (s.getD i 0) := by
    have hl : i < (⟨s.toArray⟩ : ByteArray).size := h
    rw [getElem?_pos _ i hl]
    show some (s.toArray[i]) = _
    simp [h]
  simp [Instr.index, asIntOf, run_underlying under9, hb]
/-- a range over a string begins -/
theorem range_new {w0 : World} {I0 : IM} {m : List Nat} {I : IM} {w : World} {H : List OB} (s : St w0 I0 m I w (H ++ [])) (x : ByteArray) :
    ∃ k w', (Instr.range 9 (.string x)).run Tryd.prog w = .ok (.pointer (some ⟨k, 0, none⟩)) w' ∧ St w0 I0 m I w' ((H ++ [(k, .stringIter x 0)]) ++ []) := by
  rw [List.append_nil] at s
  refine ⟨w.heap.size, { w with heap := w.heap.push (.stringIter x 0) }, ?_, ?_⟩
  · simp [Instr.range, run_underlying under9, newObj, Sem.run]
  · rw [List.append_nil]; exact s.push _
/-- the sign at a place, and how many bytes it has -/
def dR (l : List UInt8) (p : Nat) : Nat := (Lib.decodeL (l.drop p)).1
def dW (l : List UInt8) (p : Nat) : Nat := (Lib.decodeL (l.drop p)).2
theorem dec_at (l : List UInt8) (p : Nat) : Utf8.decode ⟨l.toArray⟩ p = Lib.decodeL (l.drop p) := (Lib.decodeL_drop ⟨l.toArray⟩ p).symm
theorem next_own {w0 : World} {I0 : IM} {m : List Nat} {I : IM} {w : World} {k pos : Nat} {l : List UInt8} {ty : TypeId} (s : St w0 I0 m I w ([(k, .stringIter ⟨l.toArray⟩ pos)] ++ [])) (h : pos < l.length) :
    ∃ w', (Instr.next (.pointer (some ⟨k, 0, none⟩)) true ty).run Tryd.prog w = .ok (.tuple #[.bool true, .int .i64 ((pos : Nat) : Int), .int .i32 ((dR l pos : Nat) : Int)]) w' ∧ St w0 I0 m I w' ([(k, .stringIter ⟨l.toArray⟩ (pos + dW l pos))] ++ []) := by
  rw [List.append_nil] at s
  have hk : w.heap[k]? = some (.stringIter ⟨l.toArray⟩ pos) := s.own (k, _) (by simp)
  have hlt : k < w.heap.size := heap_lt hk
  have hp : pos < (⟨l.toArray⟩ : ByteArray).size := h
  refine ⟨{ w with heap := w.heap.set k (.stringIter ⟨l.toArray⟩ (pos + dW l pos)) hlt }, ?_, ?_⟩
  · simp only [Instr.next, getObj, setObj, Sem.run_bind, Sem.run, hk, Result.andThen, hp, if_true, dec_at]
    simp [goInt, hlt, dR, dW, Array.setIfInBounds]
  · rw [List.append_nil]
    have := St.set (i := 0) (k := k) (o' := .stringIter ⟨l.toArray⟩ (pos + dW l pos)) (w' := { w with heap := w.heap.set k (.stringIter ⟨l.toArray⟩ (pos + dW l pos)) hlt }) s rfl rfl rfl rfl (by simp) (by simp) (fun q hq => by
      simp only [Array.getElem?_set]; rw [if_neg (fun h => hq h.symm)])
    exact this
theorem next_end {w0 : World} {I0 : IM} {m : List Nat} {I : IM} {w : World} {k pos : Nat} {l : List UInt8} {ty : TypeId} (s : St w0 I0 m I w ([(k, .stringIter ⟨l.toArray⟩ pos)] ++ [])) (h : ¬ pos < l.length) :
    (Instr.next (.pointer (some ⟨k, 0, none⟩)) true ty).run Tryd.prog w = .ok (.tuple #[.bool false]) w := by
  have hk : w.heap[k]? = some (.stringIter ⟨l.toArray⟩ pos) := s.own (k, _) (by simp)
  have hp : ¬ pos < (⟨l.toArray⟩ : ByteArray).size := h
  simp [Instr.next, getObj, Sem.run, hk, hp]
end Go.Proofs.YtcpmjogeafhpnaaDoor.Tx

/- The signs of a text, one by one. -/
set_option linter.all false
set_option maxRecDepth 100000
namespace Go.Proofs.YtcpmjogeafhpnaaDoor.Tx
open Go.RowKit Go.Sep Go.Lib

def stepsF : Nat → List UInt8 → List (Nat × Nat)
  | 0, _ => []
  | n + 1, l => if l = [] then [] else decodeL l :: stepsF n (l.drop (decodeL l).2)
def steps (l : List UInt8) : List (Nat × Nat) := stepsF l.length l
theorem stepsF_nil : ∀ n, stepsF n [] = []
  | 0 => rfl
  | n + 1 => by simp [stepsF]
theorem stepsF_more : ∀ (n k : Nat) (l : List UInt8), l.length ≤ n → l.length ≤ k → stepsF n l = stepsF k l
  | 0, k, l, h, _ => by
    have : l = [] := List.length_eq_zero_iff.1 (by omega)
    subst this; rw [stepsF_nil, stepsF_nil]
  | n + 1, 0, l, _, h => by
    have : l = [] := List.length_eq_zero_iff.1 (by omega)
    subst this; rw [stepsF_nil, stepsF_nil]
  | n + 1, k + 1, l, h, h2 => by
    unfold stepsF
    split
    · rfl
    · rename_i hl
      have hw := decodeL_width l
      rw [stepsF_more n k (l.drop (decodeL l).2) (by rw [List.length_drop]; omega) (by rw [List.length_drop]; omega)]
theorem steps_cons {l : List UInt8} (h : l ≠ []) : steps l = decodeL l :: steps (l.drop (decodeL l).2) := by
  have hl : 0 < l.length := List.length_pos_iff.2 h
  have hw := decodeL_width l
  unfold steps
  obtain ⟨n, hn⟩ : ∃ n, l.length = n + 1 := ⟨l.length - 1, by omega⟩
  rw [hn]
  show (if l = [] then [] else decodeL l :: stepsF n (l.drop (decodeL l).2)) = _
  rw [if_neg h, stepsF_more n _ (l.drop (decodeL l).2) (by rw [List.length_drop]; omega) (Nat.le_refl _)]
theorem drop_ne {l : List UInt8} {p : Nat} (h : p < l.length) : l.drop p ≠ [] := fun e => by
  have := congrArg List.length e
  rw [List.length_drop, List.length_nil] at this; omega
theorem steps_at {l : List UInt8} {p : Nat} (h : p < l.length) : steps (l.drop p) = (dR l p, dW l p) :: steps (l.drop (p + dW l p)) := by
  rw [steps_cons (drop_ne h), List.drop_drop]; rfl
theorem steps_end {l : List UInt8} {p : Nat} (h : ¬ p < l.length) : steps (l.drop p) = [] := by
  rw [List.drop_of_length_le (by omega)]; rfl
theorem dW_pos (l : List UInt8) (p : Nat) : 1 ≤ dW l p := decodeL_width _
theorem dW_le {l : List UInt8} {p : Nat} (h : p < l.length) : p + dW l p ≤ l.length := by
  have := decodeL_le (l.drop p) (drop_ne h)
  rw [List.length_drop] at this
  unfold dW; omega
/-- no sign -/
def badD (d : Nat × Nat) : Bool := decide (d.1 = 65533 ∧ d.2 = 1)
def plainD (d : Nat × Nat) : Bool := !(decide (d.1 < 32)) && !(decide (d.1 = 127))
theorem valid_steps : ∀ (n : Nat) (l : List UInt8), l.length ≤ n → validGoD n l = (steps l).all (fun d => !badD d)
  | 0, l, h => by
    have : l = [] := List.length_eq_zero_iff.1 (by omega)
    subst this; rfl
  | n + 1, l, h => by
    unfold validGoD
    split
    · rename_i e; subst e; rfl
    · rename_i e
      have hw := decodeL_width l
      rw [steps_cons e, List.all_cons]
      split
      · rename_i hb
        rw [show badD (decodeL l) = true from decide_eq_true hb]; rfl
      · rename_i hb
        rw [show badD (decodeL l) = false from decide_eq_false hb, valid_steps n _ (by rw [List.length_drop]; omega)]; rfl
theorem validD_steps (l : List UInt8) : validD l = (steps l).all (fun d => !badD d) := valid_steps _ l (Nat.le_refl _)
/-- what Check answers -/
def okS (l : List UInt8) : Bool := (steps l).all (fun d => !badD d && plainD d)
def ckE (l : List UInt8) (mi : Int) : Nat := bif decide ((l.length : Int) > mi) then 9 else bif okS l then 0 else 7
theorem all_and {α : Type} (f g : α → Bool) : ∀ l : List α, l.all (fun d => f d && g d) = (l.all f && l.all g)
  | [] => rfl
  | a :: l => by
    simp only [List.all_cons, all_and f g l]
    cases f a <;> cases g a <;> cases l.all f <;> simp
theorem okS_eq (l : List UInt8) : okS l = (validD l && (steps l).all plainD) := by
  unfold okS; rw [all_and, validD_steps]
def nR (l : List UInt8) : Nat := (steps l).length
theorem nR_leF : ∀ (n : Nat) (l : List UInt8), l.length ≤ n → (steps l).length ≤ l.length
  | 0, l, h => by
    have : l = [] := List.length_eq_zero_iff.1 (by omega)
    subst this; exact Nat.le_refl _
  | n + 1, l, h => by
    by_cases e : l = []
    · subst e; exact Nat.le_refl _
    · have hw := decodeL_width l
      have hl : 0 < l.length := List.length_pos_iff.2 e
      rw [steps_cons e, List.length_cons]
      have := nR_leF n (l.drop (decodeL l).2) (by rw [List.length_drop]; omega)
      rw [List.length_drop] at this
      omega
theorem nR_le (l : List UInt8) : nR l ≤ l.length := nR_leF _ l (Nat.le_refl _)
/-- the document's sign -/
def dB (l : List UInt8) (p : Nat) : Bool := badD (dR l p, dW l p)
def sgX (l : List UInt8) (p : Nat) : Nat := bif dB l p then 0 else dR l p
theorem dN (l : List UInt8) (p : Nat) : (dR l p, dW l p) = decodeN (l.length - p) (l.getD p 0).toNat (l.getD (p + 1) 0).toNat (l.getD (p + 2) 0).toNat (l.getD (p + 3) 0).toNat := by
  show decodeL (l.drop p) = _
  rw [decodeL_N, List.length_drop, getD_dropU, getD_dropU, getD_dropU, getD_dropU, Nat.add_zero]
def sgV (x w : Nat) (b : Bool) : Value := .tuple #[.int .i64 ((x : Nat) : Int), .int .i64 ((w : Nat) : Int), .bool b]
theorem sgn_good {l : List UInt8} {p x w : Nat} (h : decodeN (l.length - p) (l.getD p 0).toNat (l.getD (p + 1) 0).toNat (l.getD (p + 2) 0).toNat (l.getD (p + 3) 0).toNat = (x, w)) (hw : ¬ (x = 65533 ∧ w = 1)) : sgV x w true = sgV (sgX l p) (dW l p) (!(dB l p)) := by
  rw [← dN] at h
  obtain ⟨h1, h2⟩ := Prod.mk.inj h
  have hb : dB l p = false := by unfold dB badD; rw [h1, h2]; exact decide_eq_false hw
  unfold sgX; rw [hb, h2, ← h1]; rfl
theorem sgn_bad {l : List UInt8} {p : Nat} (h : decodeN (l.length - p) (l.getD p 0).toNat (l.getD (p + 1) 0).toNat (l.getD (p + 2) 0).toNat (l.getD (p + 3) 0).toNat = (65533, 1)) : sgV 0 1 false = sgV (sgX l p) (dW l p) (!(dB l p)) := by
  rw [← dN] at h
  obtain ⟨h1, h2⟩ := Prod.mk.inj h
  have hb : dB l p = true := by unfold dB badD; rw [h1, h2]; rfl
  unfold sgX; rw [hb, h2]; rfl
theorem byte_lt (x : UInt8) : x.toNat < 256 := x.toNat_lt
end Go.Proofs.YtcpmjogeafhpnaaDoor.Tx

