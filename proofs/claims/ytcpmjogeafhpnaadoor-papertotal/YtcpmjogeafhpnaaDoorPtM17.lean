/- A patch is read. -/
import Derived.Test.YtcpmjogeafhpnaaDoorPtM16
set_option linter.all false
set_option maxRecDepth 100000
namespace Go.Proofs.YtcpmjogeafhpnaaDoor
open Go.RowKit Go.Sep
attribute [local irreducible] Go.wpList Go.Code.wp

theorem funM_freeze {P : Program} {f : FuncId} {args : Array Value} {I : IM} {H : List OB} {R R2 : Value → IM → List OB → Prop} (h : FunM P f args I H R)
    (k : ∀ (w0 : World) (I0 : IM) (m : List Nat) (w' : World) (v : Value) (J : IM) (H' : List OB), St w0 I0 m J w' H' → R v J H' → ∃ (J2 : IM) (H2 : List OB), J.Le J2 ∧ St w0 I0 m J2 w' H2 ∧ R2 v J2 H2) : FunM P f args I H R2 :=
  fun w hw ho => (h w hw ho).mono fun e w' ⟨v, J, H', he, p, r⟩ => by
    obtain ⟨J2, H2, le, s2, r2⟩ := k _ _ _ _ v J H' p r
    exact ⟨v, J2, H2, he, s2, r2⟩

theorem getFieldsF_c {I : IM} {l : List UInt8} {a : Option Addr} {k c r e : Nat} (hl : BSl I l (.slice a k c)) (hn9 : l.length ≤ 1000000) : FunM Tryd.prog 87 #[.pointer (some ⟨r, 0, none⟩)] I [(r, .cells #[.slice a k c, .int .i64 ((e : Nat) : Int)] 126)] (fun v J H' => ∃ b' : OB, H' = [b'] ∧ b'.1 = r ∧ ∃ (Fs : List Fe) (E : Nat) (L : List UInt8) (a' : Option Addr) (k' c' : Nat) (a1 : Option Addr) (c1 : Nat), v = .slice a1 Fs.length c1 ∧ b' = (r, .cells #[.slice a' k' c', .int .i64 ((E : Nat) : Int)] 126) ∧ BSl J L (.slice a' k' c') ∧ FSl J Fs (.slice a1 Fs.length c1) ∧ gfP l e = (Fs, L, E) ∧ Fs.length ≤ 255 ∧ L.length ≤ 1000000) := by
  refine funM_freeze (getFields_c (r := r) (e := e) hl hn9) (fun w0 I0 m w' v J H' s q => ?_)
  obtain ⟨b', F', rfl, h1, Fs, E, L, a', k', c', rfl, h3, h4, h5, h6, h7⟩ := q
  obtain ⟨J2, le, hf, s2⟩ := freeze_row39 (H := [(r, .cells #[.slice a' k' c', .int .i64 ((E : Nat) : Int)] 126)]) s h7
  obtain ⟨a1, c1, rfl, -, hf⟩ := hf.open
  exact ⟨J2, _, le, s2, _, rfl, rfl, Fs, E, L, a', k', c', a1, c1, rfl, rfl, h3.mono le, hf, h4, h5, h6⟩

theorem getKindsF_c {I : IM} {l : List UInt8} {a : Option Addr} {k c r e : Nat} (hl : BSl I l (.slice a k c)) (hn9 : l.length ≤ 1000000) : FunM Tryd.prog 88 #[.pointer (some ⟨r, 0, none⟩)] I [(r, .cells #[.slice a k c, .int .i64 ((e : Nat) : Int)] 126)] (fun v J H' => ∃ b' : OB, H' = [b'] ∧ b'.1 = r ∧ ∃ (Fs : List Nat) (E : Nat) (L : List UInt8) (a' : Option Addr) (k' c' : Nat) (a1 : Option Addr) (c1 : Nat), v = .slice a1 Fs.length c1 ∧ b' = (r, .cells #[.slice a' k' c', .int .i64 ((E : Nat) : Int)] 126) ∧ BSl J L (.slice a' k' c') ∧ KSl J Fs (.slice a1 Fs.length c1) ∧ gkP l e = (Fs, L, E) ∧ Fs.length ≤ 255 ∧ L.length ≤ 1000000) := by
  refine funM_freeze (getKinds_c (r := r) (e := e) hl hn9) (fun w0 I0 m w' v J H' s q => ?_)
  obtain ⟨b', F', rfl, h1, Fs, E, L, a', k', c', rfl, h3, h4, h5, h6, h7⟩ := q
  obtain ⟨J2, le, hf, s2⟩ := freeze_row3 (H := [(r, .cells #[.slice a' k' c', .int .i64 ((E : Nat) : Int)] 126)]) s h7
  obtain ⟨a1, c1, rfl, -, hf⟩ := hf.open
  exact ⟨J2, _, le, s2, _, rfl, rfl, Fs, E, L, a', k', c', a1, c1, rfl, rfl, h3.mono le, hf, h4, h5, h6⟩

/-- a patch that is read: what it adds, drops, clears; the error -/
noncomputable def rpT (b : List UInt8) : List Fe × List Fe × List Nat × Nat :=
  ((gfP b 0).1, (gfP (gfP b 0).2.1 (gfP b 0).2.2).1, (gkP (gfP (gfP b 0).2.1 (gfP b 0).2.2).2.1 (gfP (gfP b 0).2.1 (gfP b 0).2.2).2.2).1,
   enE (gkP (gfP (gfP b 0).2.1 (gfP b 0).2.2).2.1 (gfP (gfP b 0).2.1 (gfP b 0).2.2).2.2).2.1 (gkP (gfP (gfP b 0).2.1 (gfP b 0).2.2).2.1 (gfP (gfP b 0).2.1 (gfP b 0).2.2).2.2).2.2)
noncomputable def rpA (b : List UInt8) : List Fe := if (rpT b).2.2.2 = 0 then (rpT b).1 else []
noncomputable def rpD (b : List UInt8) : List Fe := if (rpT b).2.2.2 = 0 then (rpT b).2.1 else []
noncomputable def rpK (b : List UInt8) : List Nat := if (rpT b).2.2.2 = 0 then (rpT b).2.2.1 else []

set_option maxHeartbeats 4000000 in
theorem readPatch_c {I : IM} {l : List UInt8} {a : Option Addr} {c : Nat} (hl : BSl I l (.slice a l.length c)) (hn9 : l.length ≤ 1000000) : Fun Tryd.prog 46 #[.slice a l.length c] I (fun v J => ∃ (a1 a2 a3 : Option Addr) (c1 c2 c3 : Nat), v = .tuple #[.agg #[.slice a1 (rpA l).length c1, .slice a2 (rpD l).length c2, .slice a3 (rpK l).length c3], .int .i64 (((rpT l).2.2.2 : Nat) : Int)] ∧ FSl J (rpA l) (.slice a1 (rpA l).length c1) ∧ FSl J (rpD l) (.slice a2 (rpD l).length c2) ∧ KSl J (rpK l) (.slice a3 (rpK l).length c3)) := by
  refine enter_rule 25 [(0, .slice a l.length c)] Tryd.func46 rfl (by kernel_rfl) ?_
  intro w s
  refine wp_seq ?_
  refine region_rule ?_
  refine ops_rule (C := []) [] [] 2 [] 1 (fun φ1 => [(3, .int .i64 0), (2, .pointer (some ⟨(φ1 0), 0, none⟩))]) (fun φ1 => [((φ1 0), .cells #[.slice none 0 0, .slice none 0 0, .slice none 0 0] 56)]) (fun φ1 => []) s trivial (fun φ1 => by kernel_rfl) ?_
  intro φ1 w1 s
  refine ops_done (by kernel_rfl) ?_
  refine wp_seq ?_
  refine region_rule ?_
  refine ops_rule (C := []) [((φ1 0), .cells #[.slice none 0 0, .slice none 0 0, .slice none 0 0] 56)] [] 1 [] 0 (fun φ2 => [(7, .slice a l.length c)]) (fun φ2 => [((φ1 0), .cells #[.slice none 0 0, .slice none 0 0, .slice none 0 0] 56)]) (fun φ2 => []) s trivial (fun φ2 => by kernel_rfl) ?_
  intro φ2 w2 s
  refine callF_rule (H := [((φ1 0), .cells #[.slice none 0 0, .slice none 0 0, .slice none 0 0] 56)]) (F := []) (some 8) s (newIn_c hl hn9) (by kernel_rfl) ?_
  rintro v3 I3 w3 F3 le3 ⟨b3, a3, c3, rfl, rfl, hb3⟩ s
  replace hl := BSl.mono le3 hl
  refine ops_rule (C := []) [((φ1 0), .cells #[.slice none 0 0, .slice none 0 0, .slice none 0 0] 56), (b3, .cells #[.slice a3 (List.length l) c3, .int .i64 0] 126)] [] 1 [] 0 (fun φ4 => [(4, .pointer (some ⟨b3, 0, none⟩))]) (fun φ4 => [((φ1 0), .cells #[.slice none 0 0, .slice none 0 0, .slice none 0 0] 56), (b3, .cells #[.slice a3 (List.length l) c3, .int .i64 0] 126)]) (fun φ4 => []) s trivial (fun φ4 => by kernel_rfl) ?_
  intro φ4 w4 s
  refine ops_done (by kernel_rfl) ?_
  refine wp_seq ?_
  refine region_rule ?_
  refine ops_rule (C := []) [((φ1 0), .cells #[.slice none 0 0, .slice none 0 0, .slice none 0 0] 56), (b3, .cells #[.slice a3 (List.length l) c3, .int .i64 0] 126)] [] 1 [] 1 (fun φ5 => [(5, .pointer (some ⟨(φ5 0), 0, none⟩))]) (fun φ5 => [((φ1 0), .cells #[.slice none 0 0, .slice none 0 0, .slice none 0 0] 56), (b3, .cells #[.slice a3 (List.length l) c3, .int .i64 0] 126), ((φ5 0), .cells #[.slice none 0 0, .slice none 0 0, .slice none 0 0] 56)]) (fun φ5 => []) s trivial (fun φ5 => by kernel_rfl) ?_
  intro φ5 w5 s
  refine ops_done (by kernel_rfl) ?_
  refine wp_seq ?_
  refine region_rule ?_
  refine ops_rule (C := []) [((φ1 0), .cells #[.slice none 0 0, .slice none 0 0, .slice none 0 0] 56), (b3, .cells #[.slice a3 (List.length l) c3, .int .i64 0] 126), ((φ5 0), .cells #[.slice none 0 0, .slice none 0 0, .slice none 0 0] 56)] [] 1 [] 0 (fun φ6 => [(9, .pointer (some ⟨b3, 0, none⟩))]) (fun φ6 => [((φ1 0), .cells #[.slice none 0 0, .slice none 0 0, .slice none 0 0] 56), (b3, .cells #[.slice a3 (List.length l) c3, .int .i64 0] 126), ((φ5 0), .cells #[.slice none 0 0, .slice none 0 0, .slice none 0 0] 56)]) (fun φ6 => []) s trivial (fun φ6 => by kernel_rfl) ?_
  intro φ6 w6 s
  refine callB_rule (b := (b3, .cells #[.slice a3 (List.length l) c3, .int .i64 0] 126)) (H := [((φ1 0), .cells #[.slice none 0 0, .slice none 0 0, .slice none 0 0] 56), (b3, .cells #[.slice a3 (List.length l) c3, .int .i64 0] 126), ((φ5 0), .cells #[.slice none 0 0, .slice none 0 0, .slice none 0 0] 56)]) (F := []) (Hr := [((φ1 0), .cells #[.slice none 0 0, .slice none 0 0, .slice none 0 0] 56), ((φ5 0), .cells #[.slice none 0 0, .slice none 0 0, .slice none 0 0] 56)]) (some 10) 1 s (by kernel_rfl) (by kernel_rfl) (getFieldsF_c (r := b3) (e := 0) hb3 hn9) (by kernel_rfl) ?_
  rintro v7 I7 w7 b7 le7 - h7 s
  replace hl := BSl.mono le7 hl
  replace hb3 := BSl.mono le7 hb3
  obtain ⟨Fs7, E7, L7, a7, k7, c7, b7, d7, rfl, rfl, h7_0, h7_1, h7_2, h7_3, h7_4⟩ := h7
  refine ops_rule (C := []) [(b3, .cells #[.slice a7 k7 c7, .int .i64 ((E7 : Nat) : Int)] 126), ((φ1 0), .cells #[.slice none 0 0, .slice none 0 0, .slice none 0 0] 56), ((φ5 0), .cells #[.slice none 0 0, .slice none 0 0, .slice none 0 0] 56)] [] 2 [.o 2] 0 (fun φ8 => [(11, .pointer (some ⟨(φ5 0), 0, none⟩))]) (fun φ8 => [(b3, .cells #[.slice a7 k7 c7, .int .i64 ((E7 : Nat) : Int)] 126), ((φ1 0), .cells #[.slice none 0 0, .slice none 0 0, .slice none 0 0] 56), ((φ5 0), .cells #[.slice b7 Fs7.length d7, .slice none 0 0, .slice none 0 0] 56)]) (fun φ8 => [(φ5 0)]) s trivial (fun φ8 => by kernel_rfl) ?_
  intro φ8 w8 s
  refine ops_done (by kernel_rfl) ?_
  refine wp_seq ?_
  refine region_rule ?_
  refine ops_rule (C := []) [(b3, .cells #[.slice a7 k7 c7, .int .i64 ((E7 : Nat) : Int)] 126), ((φ1 0), .cells #[.slice none 0 0, .slice none 0 0, .slice none 0 0] 56), ((φ5 0), .cells #[.slice b7 Fs7.length d7, .slice none 0 0, .slice none 0 0] 56)] [] 1 [] 0 (fun φ9 => [(12, .pointer (some ⟨b3, 0, none⟩))]) (fun φ9 => [(b3, .cells #[.slice a7 k7 c7, .int .i64 ((E7 : Nat) : Int)] 126), ((φ1 0), .cells #[.slice none 0 0, .slice none 0 0, .slice none 0 0] 56), ((φ5 0), .cells #[.slice b7 Fs7.length d7, .slice none 0 0, .slice none 0 0] 56)]) (fun φ9 => []) s trivial (fun φ9 => by kernel_rfl) ?_
  intro φ9 w9 s
  refine callB_rule (b := (b3, .cells #[.slice a7 k7 c7, .int .i64 ((E7 : Nat) : Int)] 126)) (H := [(b3, .cells #[.slice a7 k7 c7, .int .i64 ((E7 : Nat) : Int)] 126), ((φ1 0), .cells #[.slice none 0 0, .slice none 0 0, .slice none 0 0] 56), ((φ5 0), .cells #[.slice b7 Fs7.length d7, .slice none 0 0, .slice none 0 0] 56)]) (F := []) (Hr := [((φ1 0), .cells #[.slice none 0 0, .slice none 0 0, .slice none 0 0] 56), ((φ5 0), .cells #[.slice b7 Fs7.length d7, .slice none 0 0, .slice none 0 0] 56)]) (some 13) 0 s (by kernel_rfl) (by kernel_rfl) (getFieldsF_c (r := b3) (e := E7) h7_0 h7_4) (by kernel_rfl) ?_
  rintro v10 I10 w10 b10 le10 - h10 s
  replace hl := BSl.mono le10 hl
  replace hb3 := BSl.mono le10 hb3
  replace h7_0 := BSl.mono le10 h7_0
  replace h7_1 := FSl.mono le10 h7_1
  obtain ⟨Fs10, E10, L10, a10, k10, c10, b10, d10, rfl, rfl, h10_0, h10_1, h10_2, h10_3, h10_4⟩ := h10
  refine ops_rule (C := []) [(b3, .cells #[.slice a10 k10 c10, .int .i64 ((E10 : Nat) : Int)] 126), ((φ1 0), .cells #[.slice none 0 0, .slice none 0 0, .slice none 0 0] 56), ((φ5 0), .cells #[.slice b7 Fs7.length d7, .slice none 0 0, .slice none 0 0] 56)] [] 2 [.o 2] 0 (fun φ11 => [(14, .pointer (some ⟨(φ5 0), 1, none⟩))]) (fun φ11 => [(b3, .cells #[.slice a10 k10 c10, .int .i64 ((E10 : Nat) : Int)] 126), ((φ1 0), .cells #[.slice none 0 0, .slice none 0 0, .slice none 0 0] 56), ((φ5 0), .cells #[.slice b7 Fs7.length d7, .slice b10 Fs10.length d10, .slice none 0 0] 56)]) (fun φ11 => [(φ5 0)]) s trivial (fun φ11 => by kernel_rfl) ?_
  intro φ11 w11 s
  refine ops_done (by kernel_rfl) ?_
  refine wp_seq ?_
  refine region_rule ?_
  refine ops_rule (C := []) [(b3, .cells #[.slice a10 k10 c10, .int .i64 ((E10 : Nat) : Int)] 126), ((φ1 0), .cells #[.slice none 0 0, .slice none 0 0, .slice none 0 0] 56), ((φ5 0), .cells #[.slice b7 Fs7.length d7, .slice b10 Fs10.length d10, .slice none 0 0] 56)] [] 1 [] 0 (fun φ12 => [(15, .pointer (some ⟨b3, 0, none⟩))]) (fun φ12 => [(b3, .cells #[.slice a10 k10 c10, .int .i64 ((E10 : Nat) : Int)] 126), ((φ1 0), .cells #[.slice none 0 0, .slice none 0 0, .slice none 0 0] 56), ((φ5 0), .cells #[.slice b7 Fs7.length d7, .slice b10 Fs10.length d10, .slice none 0 0] 56)]) (fun φ12 => []) s trivial (fun φ12 => by kernel_rfl) ?_
  intro φ12 w12 s
  refine callB_rule (b := (b3, .cells #[.slice a10 k10 c10, .int .i64 ((E10 : Nat) : Int)] 126)) (H := [(b3, .cells #[.slice a10 k10 c10, .int .i64 ((E10 : Nat) : Int)] 126), ((φ1 0), .cells #[.slice none 0 0, .slice none 0 0, .slice none 0 0] 56), ((φ5 0), .cells #[.slice b7 Fs7.length d7, .slice b10 Fs10.length d10, .slice none 0 0] 56)]) (F := []) (Hr := [((φ1 0), .cells #[.slice none 0 0, .slice none 0 0, .slice none 0 0] 56), ((φ5 0), .cells #[.slice b7 Fs7.length d7, .slice b10 Fs10.length d10, .slice none 0 0] 56)]) (some 16) 0 s (by kernel_rfl) (by kernel_rfl) (getKindsF_c (r := b3) (e := E10) h10_0 h10_4) (by kernel_rfl) ?_
  rintro v13 I13 w13 b13 le13 - h13 s
  replace hl := BSl.mono le13 hl
  replace hb3 := BSl.mono le13 hb3
  replace h7_0 := BSl.mono le13 h7_0
  replace h7_1 := FSl.mono le13 h7_1
  replace h10_0 := BSl.mono le13 h10_0
  replace h10_1 := FSl.mono le13 h10_1
  obtain ⟨Fs13, E13, L13, a13, k13, c13, b13, d13, rfl, rfl, h13_0, h13_1, h13_2, h13_3, h13_4⟩ := h13
  refine ops_rule (C := []) [(b3, .cells #[.slice a13 k13 c13, .int .i64 ((E13 : Nat) : Int)] 126), ((φ1 0), .cells #[.slice none 0 0, .slice none 0 0, .slice none 0 0] 56), ((φ5 0), .cells #[.slice b7 Fs7.length d7, .slice b10 Fs10.length d10, .slice none 0 0] 56)] [] 2 [.o 2] 0 (fun φ14 => [(17, .pointer (some ⟨(φ5 0), 2, none⟩))]) (fun φ14 => [(b3, .cells #[.slice a13 k13 c13, .int .i64 ((E13 : Nat) : Int)] 126), ((φ1 0), .cells #[.slice none 0 0, .slice none 0 0, .slice none 0 0] 56), ((φ5 0), .cells #[.slice b7 Fs7.length d7, .slice b10 Fs10.length d10, .slice b13 Fs13.length d13] 56)]) (fun φ14 => [(φ5 0)]) s trivial (fun φ14 => by kernel_rfl) ?_
  intro φ14 w14 s
  refine ops_done (by kernel_rfl) ?_
  refine wp_seq ?_
  refine wp_seq ?_
  refine region_rule ?_
  refine ops_rule (C := []) [(b3, .cells #[.slice a13 k13 c13, .int .i64 ((E13 : Nat) : Int)] 126), ((φ1 0), .cells #[.slice none 0 0, .slice none 0 0, .slice none 0 0] 56), ((φ5 0), .cells #[.slice b7 Fs7.length d7, .slice b10 Fs10.length d10, .slice b13 Fs13.length d13] 56)] [] 1 [] 0 (fun φ15 => [(18, .pointer (some ⟨b3, 0, none⟩))]) (fun φ15 => [(b3, .cells #[.slice a13 k13 c13, .int .i64 ((E13 : Nat) : Int)] 126), ((φ1 0), .cells #[.slice none 0 0, .slice none 0 0, .slice none 0 0] 56), ((φ5 0), .cells #[.slice b7 Fs7.length d7, .slice b10 Fs10.length d10, .slice b13 Fs13.length d13] 56)]) (fun φ15 => []) s trivial (fun φ15 => by kernel_rfl) ?_
  intro φ15 w15 s
  refine callB_rule (b := (b3, .cells #[.slice a13 k13 c13, .int .i64 ((E13 : Nat) : Int)] 126)) (H := [(b3, .cells #[.slice a13 k13 c13, .int .i64 ((E13 : Nat) : Int)] 126), ((φ1 0), .cells #[.slice none 0 0, .slice none 0 0, .slice none 0 0] 56), ((φ5 0), .cells #[.slice b7 Fs7.length d7, .slice b10 Fs10.length d10, .slice b13 Fs13.length d13] 56)]) (F := []) (Hr := [((φ1 0), .cells #[.slice none 0 0, .slice none 0 0, .slice none 0 0] 56), ((φ5 0), .cells #[.slice b7 Fs7.length d7, .slice b10 Fs10.length d10, .slice b13 Fs13.length d13] 56)]) (some 19) 0 s (by kernel_rfl) (by kernel_rfl) (endG_c (r := b3) (e := E13) h13_0 h13_4) (by kernel_rfl) ?_
  rintro v16 I16 w16 b16 le16 - h16 s
  replace hl := BSl.mono le16 hl
  replace hb3 := BSl.mono le16 hb3
  replace h7_0 := BSl.mono le16 h7_0
  replace h7_1 := FSl.mono le16 h7_1
  replace h10_0 := BSl.mono le16 h10_0
  replace h10_1 := FSl.mono le16 h10_1
  replace h13_0 := BSl.mono le16 h13_0
  replace h13_1 := KSl.mono le16 h13_1
  obtain ⟨a16, k16, c16, rfl, rfl, h16_0⟩ := h16
  refine ops_rule (C := []) [(b3, .cells #[.slice a16 k16 c16, .int .i64 ((enE L13 E13 : Nat) : Int)] 126), ((φ1 0), .cells #[.slice none 0 0, .slice none 0 0, .slice none 0 0] 56), ((φ5 0), .cells #[.slice b7 Fs7.length d7, .slice b10 Fs10.length d10, .slice b13 Fs13.length d13] 56)] [] 1 [] 0 (fun φ17 => [(6, .int .i64 ((enE L13 E13 : Nat) : Int))]) (fun φ17 => [(b3, .cells #[.slice a16 k16 c16, .int .i64 ((enE L13 E13 : Nat) : Int)] 126), ((φ1 0), .cells #[.slice none 0 0, .slice none 0 0, .slice none 0 0] 56), ((φ5 0), .cells #[.slice b7 Fs7.length d7, .slice b10 Fs10.length d10, .slice b13 Fs13.length d13] 56)]) (fun φ17 => []) s trivial (fun φ17 => by kernel_rfl) ?_
  intro φ17 w17 s
  refine ops_done (by kernel_rfl) ?_
  refine wp_seq ?_
  refine region_rule ?_
  refine ops_rule (C := []) [(b3, .cells #[.slice a16 k16 c16, .int .i64 ((enE L13 E13 : Nat) : Int)] 126), ((φ1 0), .cells #[.slice none 0 0, .slice none 0 0, .slice none 0 0] 56), ((φ5 0), .cells #[.slice b7 Fs7.length d7, .slice b10 Fs10.length d10, .slice b13 Fs13.length d13] 56)] [] 2 [] 0 (fun φ18 => [(21, .bool (((enE L13 E13 : Nat) : Int) != ((0 : Nat) : Int))), (20, .int .i64 ((enE L13 E13 : Nat) : Int))]) (fun φ18 => [(b3, .cells #[.slice a16 k16 c16, .int .i64 ((enE L13 E13 : Nat) : Int)] 126), ((φ1 0), .cells #[.slice none 0 0, .slice none 0 0, .slice none 0 0] 56), ((φ5 0), .cells #[.slice b7 Fs7.length d7, .slice b10 Fs10.length d10, .slice b13 Fs13.length d13] 56)]) (fun φ18 => []) s trivial (fun φ18 => by kernel_rfl) ?_
  intro φ18 w18 s
  rw [nat_neq (a := (enE L13 E13)) (b := 0)]
  refine ops_done (by kernel_rfl) ?_
  rcases Bool.eq_false_or_eq_true (decide ((enE L13 E13) ≠ 0)) with hc19 | hc19
  ·
    rw [hc19]
    refine cond_true_rule (b := true) (by kernel_rfl) rfl ?_
    refine wp_seq ?_
    refine region_rule ?_
    refine ops_rule (C := []) [(b3, .cells #[.slice a16 k16 c16, .int .i64 ((enE L13 E13 : Nat) : Int)] 126), ((φ1 0), .cells #[.slice none 0 0, .slice none 0 0, .slice none 0 0] 56), ((φ5 0), .cells #[.slice b7 Fs7.length d7, .slice b10 Fs10.length d10, .slice b13 Fs13.length d13] 56)] [] 4 [.o 1, .o 1, .o 1] 0 (fun φ20 => [(3, .int .i64 ((enE L13 E13 : Nat) : Int)), (23, .int .i64 ((enE L13 E13 : Nat) : Int)), (22, .agg #[.slice none 0 0, .slice none 0 0, .slice none 0 0])]) (fun φ20 => [(b3, .cells #[.slice a16 k16 c16, .int .i64 ((enE L13 E13 : Nat) : Int)] 126), ((φ1 0), .cells #[.slice none 0 0, .slice none 0 0, .slice none 0 0] 56), ((φ5 0), .cells #[.slice b7 Fs7.length d7, .slice b10 Fs10.length d10, .slice b13 Fs13.length d13] 56)]) (fun φ20 => [(φ1 0), (φ1 0), (φ1 0)]) s trivial (fun φ20 => by kernel_rfl) ?_
    intro φ20 w20 s
    refine ops_done (by kernel_rfl) ?_
    refine wp_ret ?_
    refine ret_rule (C := []) [(b3, .cells #[.slice a16 k16 c16, .int .i64 ((enE L13 E13 : Nat) : Int)] 126), ((φ1 0), .cells #[.slice none 0 0, .slice none 0 0, .slice none 0 0] 56), ((φ5 0), .cells #[.slice b7 Fs7.length d7, .slice b10 Fs10.length d10, .slice b13 Fs13.length d13] 56)] [] (.tuple #[.agg #[.slice none 0 0, .slice none 0 0, .slice none 0 0], .int .i64 ((enE L13 E13 : Nat) : Int)]) [.o 1, .o 1, .o 1] [(φ1 0), (φ1 0), (φ1 0)] s trivial (by kernel_rfl) ?_
    have e9 := (show rpT l = (Fs7, Fs10, Fs13, enE L13 E13) by unfold rpT; simp only [h7_2, h10_2, h13_2])
    have hz := of_decide_eq_true hc19
    have er : ¬ (rpT l).2.2.2 = 0 := by rw [e9]; exact hz
    have eA : rpA l = [] := if_neg er
    have eD : rpD l = [] := if_neg er
    have eK : rpK l = [] := if_neg er
    have eE : (rpT l).2.2.2 = enE L13 E13 := by rw [e9]
    rw [eA, eD, eK, eE]
    exact ⟨_, _, _, rfl, s, ⟨none, none, none, 0, 0, 0, rfl, fsl_nil _, fsl_nil _, ksl_nil _⟩⟩
  ·
    rw [hc19]
    refine cond_false_rule (b := false) (by kernel_rfl) rfl ?_
    refine wp_skip ?_
    refine wp_seq ?_
    refine region_rule ?_
    refine ops_rule (C := []) [(b3, .cells #[.slice a16 k16 c16, .int .i64 ((enE L13 E13 : Nat) : Int)] 126), ((φ1 0), .cells #[.slice none 0 0, .slice none 0 0, .slice none 0 0] 56), ((φ5 0), .cells #[.slice b7 Fs7.length d7, .slice b10 Fs10.length d10, .slice b13 Fs13.length d13] 56)] [] 3 [.o 2, .o 2, .o 2, .o 1, .o 1, .o 1] 0 (fun φ21 => [(3, .int .i64 0), (24, .agg #[.slice b7 Fs7.length d7, .slice b10 Fs10.length d10, .slice b13 Fs13.length d13])]) (fun φ21 => [(b3, .cells #[.slice a16 k16 c16, .int .i64 ((enE L13 E13 : Nat) : Int)] 126), ((φ1 0), .cells #[.slice b7 Fs7.length d7, .slice b10 Fs10.length d10, .slice b13 Fs13.length d13] 56), ((φ5 0), .cells #[.slice b7 Fs7.length d7, .slice b10 Fs10.length d10, .slice b13 Fs13.length d13] 56)]) (fun φ21 => [(φ5 0), (φ5 0), (φ5 0), (φ1 0), (φ1 0), (φ1 0)]) s trivial (fun φ21 => by kernel_rfl) ?_
    intro φ21 w21 s
    refine ops_done (by kernel_rfl) ?_
    refine wp_ret ?_
    refine ret_rule (C := []) [(b3, .cells #[.slice a16 k16 c16, .int .i64 ((enE L13 E13 : Nat) : Int)] 126), ((φ1 0), .cells #[.slice b7 Fs7.length d7, .slice b10 Fs10.length d10, .slice b13 Fs13.length d13] 56), ((φ5 0), .cells #[.slice b7 Fs7.length d7, .slice b10 Fs10.length d10, .slice b13 Fs13.length d13] 56)] [] (.tuple #[.agg #[.slice b7 Fs7.length d7, .slice b10 Fs10.length d10, .slice b13 Fs13.length d13], .int .i64 0]) [.o 1, .o 1, .o 1] [(φ1 0), (φ1 0), (φ1 0)] s trivial (by kernel_rfl) ?_
    have e9 := (show rpT l = (Fs7, Fs10, Fs13, enE L13 E13) by unfold rpT; simp only [h7_2, h10_2, h13_2])
    have hz := Decidable.not_not.1 (of_decide_eq_false hc19)
    have er : (rpT l).2.2.2 = 0 := by rw [e9]; exact hz
    have eA : rpA l = Fs7 := by rw [rpA, if_pos er, e9]
    have eD : rpD l = Fs10 := by rw [rpD, if_pos er, e9]
    have eK : rpK l = Fs13 := by rw [rpK, if_pos er, e9]
    rw [eA, eD, eK, er]
    exact ⟨_, _, _, rfl, s, ⟨_, _, _, _, _, _, rfl, h7_1, h10_1, h13_1⟩⟩

end Go.Proofs.YtcpmjogeafhpnaaDoor
/- The document: fields are read. -/
set_option linter.all false
set_option maxRecDepth 100000
namespace Go.Proofs.YtcpmjogeafhpnaaDoor
open Go.RowKit Go.Sep
attribute [local irreducible] Go.wpList Go.Code.wp

theorem drop_at {P : List UInt8} {at0 d : Nat} (hd : d ≤ (P.drop at0).length) (hat : at0 ≤ P.length) : (P.drop at0).drop d = P.drop (at0 + d) ∧ at0 + d ≤ P.length := by
  rw [List.drop_drop]
  rw [List.length_drop] at hd
  exact ⟨rfl, by omega⟩
theorem rByteV {I : IM} {P : List UInt8} {a : Option Addr} {k c z9 at0 e : Nat} (hl : BSl I P (.slice a k c)) (hn9 : P.length ≤ 1000000) (hat : at0 ≤ P.length) : FunM Tryd.prog 92 #[.pointer (some ⟨z9, 0, none⟩)] I [(z9, .cells #[.slice a k c, .int .i64 ((at0 : Nat) : Int), .int .i64 ((e : Nat) : Int)] 106)] (fun v J H' => ∃ b' : OB, H' = [b'] ∧ b'.1 = z9 ∧ ∃ (V : Nat) (E A : Nat), v = .int .u8 ((V : Nat) : Int) ∧ b' = (z9, .cells #[.slice a k c, .int .i64 ((A : Nat) : Int), .int .i64 ((E : Nat) : Int)] 106) ∧ byV (P.drop at0) e = V ∧ byE (P.drop at0) e = E ∧ (P.drop at0).drop (byD (P.drop at0) e) = P.drop A ∧ A ≤ P.length) := by
  refine funM_mono (refByte_c (x := z9) (e := e) hl hn9 hat) (fun v J H' q => ?_)
  obtain ⟨b', h1, h2, h3, h4⟩ := q
  have hd := drop_at (byD_le (P.drop at0) e) hat
  exact ⟨b', h1, h2, _, _, _, h3, h4, rfl, rfl, hd.1, hd.2⟩
theorem rNumV {I : IM} {P : List UInt8} {a : Option Addr} {k c z9 at0 e : Nat} (hl : BSl I P (.slice a k c)) (hn9 : P.length ≤ 1000000) (hat : at0 ≤ P.length) : FunM Tryd.prog 90 #[.pointer (some ⟨z9, 0, none⟩)] I [(z9, .cells #[.slice a k c, .int .i64 ((at0 : Nat) : Int), .int .i64 ((e : Nat) : Int)] 106)] (fun v J H' => ∃ b' : OB, H' = [b'] ∧ b'.1 = z9 ∧ ∃ (V : Nat) (E A : Nat), v = .int .u64 ((V : Nat) : Int) ∧ b' = (z9, .cells #[.slice a k c, .int .i64 ((A : Nat) : Int), .int .i64 ((E : Nat) : Int)] 106) ∧ nuV (P.drop at0) e = V ∧ nuE (P.drop at0) e = E ∧ (P.drop at0).drop (nuD (P.drop at0) e) = P.drop A ∧ A ≤ P.length) := by
  refine funM_mono (refNum_c (x := z9) (e := e) hl hn9 hat) (fun v J H' q => ?_)
  obtain ⟨b', h1, h2, h3, h4⟩ := q
  have hd := drop_at (nuD_le (P.drop at0) e) hat
  exact ⟨b', h1, h2, _, _, _, h3, h4, rfl, rfl, hd.1, hd.2⟩
theorem rTextV {I : IM} {P : List UInt8} {a : Option Addr} {k c z9 at0 e : Nat} (hl : BSl I P (.slice a k c)) (hn9 : P.length ≤ 1000000) (hat : at0 ≤ P.length) {z : Nat} (hz : z < 9223372036854775808) : FunM Tryd.prog 107 #[.pointer (some ⟨z9, 0, none⟩), .int .i64 ((z : Nat) : Int)] I [(z9, .cells #[.slice a k c, .int .i64 ((at0 : Nat) : Int), .int .i64 ((e : Nat) : Int)] 106)] (fun v J H' => ∃ b' : OB, H' = [b'] ∧ b'.1 = z9 ∧ ∃ (V : List UInt8) (E A : Nat), v = .string ⟨V.toArray⟩ ∧ b' = (z9, .cells #[.slice a k c, .int .i64 ((A : Nat) : Int), .int .i64 ((E : Nat) : Int)] 106) ∧ teV (P.drop at0) e ((z : Nat) : Int) = V ∧ teE (P.drop at0) e ((z : Nat) : Int) = E ∧ (P.drop at0).drop (teD (P.drop at0) e ((z : Nat) : Int)) = P.drop A ∧ A ≤ P.length) := by
  refine funM_mono (refText_c (x := z9) (e := e) hl hn9 hat hz) (fun v J H' q => ?_)
  obtain ⟨b', h1, h2, h3, h4⟩ := q
  have hd := drop_at (teD_le (P.drop at0) e ((z : Nat) : Int)) hat
  exact ⟨b', h1, h2, _, _, _, h3, h4, rfl, rfl, hd.1, hd.2⟩
theorem rFailV {I : IM} {P : List UInt8} {a : Option Addr} {k c z9 at0 e : Nat} (hl : BSl I P (.slice a k c)) (hn9 : P.length ≤ 1000000) (hat : at0 ≤ P.length) {q : Nat} : FunM Tryd.prog 91 #[.pointer (some ⟨z9, 0, none⟩), .int .i64 ((q : Nat) : Int)] I [(z9, .cells #[.slice a k c, .int .i64 ((at0 : Nat) : Int), .int .i64 ((e : Nat) : Int)] 106)] (fun v J H' => ∃ b' : OB, H' = [b'] ∧ b'.1 = z9 ∧ ∃ (E A : Nat), v = .tuple #[] ∧ b' = (z9, .cells #[.slice a k c, .int .i64 ((A : Nat) : Int), .int .i64 ((E : Nat) : Int)] 106) ∧ faE q e = E ∧ (P.drop at0) = P.drop A ∧ A ≤ P.length) := by
  refine funM_mono (refFail_c (x := z9) (e := e) (q := q) hl hn9 hat) (fun v J H' q => ?_)
  obtain ⟨b', h1, h2, h3, h4⟩ := q
  exact ⟨b', h1, h2, _, _, h3, h4, rfl, rfl, by omega⟩
theorem rEndV {I : IM} {P : List UInt8} {a : Option Addr} {k c z9 at0 e : Nat} (hl : BSl I P (.slice a k c)) (hn9 : P.length ≤ 1000000) (hat : at0 ≤ P.length) : FunM Tryd.prog 76 #[.pointer (some ⟨z9, 0, none⟩)] I [(z9, .cells #[.slice a k c, .int .i64 ((at0 : Nat) : Int), .int .i64 ((e : Nat) : Int)] 106)] (fun v J H' => ∃ b' : OB, H' = [b'] ∧ b'.1 = z9 ∧ ∃ (V : Nat) (E A : Nat), v = .int .i64 ((V : Nat) : Int) ∧ b' = (z9, .cells #[.slice a k c, .int .i64 ((A : Nat) : Int), .int .i64 ((E : Nat) : Int)] 106) ∧ enE (P.drop at0) e = V ∧ enE (P.drop at0) e = E ∧ A ≤ P.length) := by
  refine funM_mono (refEnd_c (x := z9) (e := e) hl hn9 hat) (fun v J H' q => ?_)
  obtain ⟨b', h1, h2, h3, h4⟩ := q
  exact ⟨b', h1, h2, _, _, _, h3, h4, rfl, rfl, by omega⟩
theorem dF_step {n m : Nat} {l L0 L1 L2 L3 : List UInt8} {e e0 V E1 E2 E3 : Nat} {S1 S2 : List UInt8} {Fs : List Fe} (h : dFs n l e0 = (Fs ++ (dFs m L0 e).1, (dFs m L0 e).2)) (hm : 0 < m) (he : e = 0) (h1 : byV L0 e = V) (h2 : byE L0 e = E1) (h3 : L0.drop (byD L0 e) = L1)
    (h4 : teV L1 E1 ((255 : Nat) : Int) = S1) (h5 : teE L1 E1 ((255 : Nat) : Int) = E2) (h6 : L1.drop (teD L1 E1 ((255 : Nat) : Int)) = L2) (h7 : teV L2 E2 ((255 : Nat) : Int) = S2) (h8 : teE L2 E2 ((255 : Nat) : Int) = E3) (h9 : L2.drop (teD L2 E2 ((255 : Nat) : Int)) = L3) :
    dFs n l e0 = ((Fs ++ [⟨((V : Nat) : Int), S1, S2⟩]) ++ (dFs (m - 1) L3 E3).1, (dFs (m - 1) L3 E3).2) := by
  obtain ⟨q, rfl⟩ : ∃ q, m = q + 1 := ⟨m - 1, by omega⟩
  have ef : (fdG L0 e 255 255).k = V ∧ (fdG L0 e 255 255).a = S1 ∧ (fdG L0 e 255 255).v = S2 ∧ (fdG L0 e 255 255).e = E3 ∧ L0.drop (fdG L0 e 255 255).d = L3 := by
    unfold fdG
    simp only [← List.drop_drop, h1, h2, h3, h4, h5, h6, h7, h8, h9, and_self]
  obtain ⟨f1, f2, f3, f4, f5⟩ := ef
  rw [h]
  simp only [dFs]
  rw [if_neg (by omega), f1, f2, f3, f4, f5]
  simp only [Nat.add_sub_cancel, List.append_assoc, List.singleton_append]
theorem dK_step {n m : Nat} {l L0 L1 : List UInt8} {e e0 V E1 : Nat} {Fs : List Nat} (h : dK n l e0 = (Fs ++ (dK m L0 e).1, (dK m L0 e).2)) (hm : 0 < m) (he : e = 0) (h1 : byV L0 e = V) (h2 : byE L0 e = E1) (h3 : L0.drop (byD L0 e) = L1) :
    dK n l e0 = ((Fs ++ [V]) ++ (dK (m - 1) L1 E1).1, (dK (m - 1) L1 E1).2) := by
  obtain ⟨q, rfl⟩ : ∃ q, m = q + 1 := ⟨m - 1, by omega⟩
  rw [h]
  simp only [dK]
  rw [if_neg (by omega), h1, h2, h3]
  simp only [Nat.add_sub_cancel, List.append_assoc, List.singleton_append]
theorem dF_done {m : Nat} {L : List UInt8} {e : Nat} (h : m = 0 ∨ e ≠ 0) : dFs m L e = ([], L, e) := by
  rcases h with rfl | h
  · rfl
  · exact dF_err h
theorem dK_done {m : Nat} {L : List UInt8} {e : Nat} (h : m = 0 ∨ e ≠ 0) : dK m L e = ([], L, e) := by
  rcases h with rfl | h
  · rfl
  · exact dK_err h
theorem row42_snoc {v : Value} {n : Nat} {Fs : List Fe} {x : Fe} {F : List OB} (h : RowH 42 3 v (n + 1) (fcs Fs ++ [.int .i64 x.k, .string ⟨x.a.toArray⟩, .string ⟨x.v.toArray⟩]) F) (hn : n = Fs.length) : RowH 42 3 v (Fs ++ [x]).length (fcs (Fs ++ [x])) F := by
  subst hn
  rw [fcs_append, List.length_append]
  exact h
theorem fa_ne {e : Nat} : faE 9 e ≠ 0 := by unfold faE; split; decide; assumption
theorem co_bigV {l : List UInt8} {e V E A : Nat} (h1 : nuV l e = V) (h2 : nuE l e = E) (h : 255 < V) (h3 : faE 9 E = A) : (coG l e 255 9).2 = A := by
  unfold coG; rw [h1, if_pos h, h2, h3]
theorem co_smallV {l : List UInt8} {e V E : Nat} (h1 : nuV l e = V) (h2 : nuE l e = E) (h : ¬ 255 < V) : (coG l e 255 9).2 = E := by
  unfold coG; rw [h1, if_neg h, h2]

set_option maxHeartbeats 4000000 in
theorem some_c {I : IM} {P : List UInt8} {a : Option Addr} {k c z9 at0 e : Nat} (hl : BSl I P (.slice a k c)) (hn9 : P.length ≤ 1000000) (hat : at0 ≤ P.length) : FunM Tryd.prog 89 #[.pointer (some ⟨z9, 0, none⟩)] I [(z9, .cells #[.slice a k c, .int .i64 ((at0 : Nat) : Int), .int .i64 ((e : Nat) : Int)] 106)] (fun v J H' => ∃ (b' : OB) (F' : List OB), H' = b' :: F' ∧ b'.1 = z9 ∧ ∃ (Fs : List Fe) (E A : Nat), b' = (z9, .cells #[.slice a k c, .int .i64 ((A : Nat) : Int), .int .i64 ((E : Nat) : Int)] 106) ∧ A ≤ P.length ∧ gfD (P.drop at0) e = (Fs, P.drop A, E) ∧ Fs.length ≤ 255 ∧ RowH 42 3 v Fs.length (fcs Fs) F') := by
  refine enterM_rule 40 [(0, .pointer (some ⟨z9, 0, none⟩))] Tryd.func89 rfl (by kernel_rfl) ?_
  intro w s
  refine wp_seq ?_
  refine region_rule ?_
  refine ops_rule (C := []) [(z9, .cells #[.slice a k c, .int .i64 ((at0 : Nat) : Int), .int .i64 ((e : Nat) : Int)] 106)] [] 1 [] 0 (fun φ1 => [(2, .slice none 0 0)]) (fun φ1 => [(z9, .cells #[.slice a k c, .int .i64 ((at0 : Nat) : Int), .int .i64 ((e : Nat) : Int)] 106)]) (fun φ1 => []) s trivial (fun φ1 => by kernel_rfl) ?_
  intro φ1 w1 s
  refine ops_done (by kernel_rfl) ?_
  refine wp_seq ?_
  refine region_rule ?_
  refine ops_rule (C := []) [(z9, .cells #[.slice a k c, .int .i64 ((at0 : Nat) : Int), .int .i64 ((e : Nat) : Int)] 106)] [] 1 [] 0 (fun φ2 => [(8, .pointer (some ⟨z9, 0, none⟩))]) (fun φ2 => [(z9, .cells #[.slice a k c, .int .i64 ((at0 : Nat) : Int), .int .i64 ((e : Nat) : Int)] 106)]) (fun φ2 => []) s trivial (fun φ2 => by kernel_rfl) ?_
  intro φ2 w2 s
  refine callB_rule (b := (z9, .cells #[.slice a k c, .int .i64 ((at0 : Nat) : Int), .int .i64 ((e : Nat) : Int)] 106)) (H := [(z9, .cells #[.slice a k c, .int .i64 ((at0 : Nat) : Int), .int .i64 ((e : Nat) : Int)] 106)]) (F := []) (Hr := []) (some 9) 0 s (by kernel_rfl) (by kernel_rfl) (rNumV (z9 := z9) (at0 := at0) (e := e) hl hn9 hat) (by kernel_rfl) ?_
  rintro v3 I3 w3 b3 le3 - h3 s
  replace hl := BSl.mono le3 hl
  obtain ⟨V3, E3, A3, rfl, rfl, h3_0, h3_1, h3_2, h3_3⟩ := h3
  refine ops_rule (C := []) [(z9, .cells #[.slice a k c, .int .i64 ((A3 : Nat) : Int), .int .i64 ((E3 : Nat) : Int)] 106)] [] 1 [] 0 (fun φ4 => [(3, .int .u64 ((V3 : Nat) : Int))]) (fun φ4 => [(z9, .cells #[.slice a k c, .int .i64 ((A3 : Nat) : Int), .int .i64 ((E3 : Nat) : Int)] 106)]) (fun φ4 => []) s trivial (fun φ4 => by kernel_rfl) ?_
  intro φ4 w4 s
  refine ops_done (by kernel_rfl) ?_
  refine wp_seq ?_
  refine wp_seq ?_
  refine region_rule ?_
  refine ops_rule (C := []) [(z9, .cells #[.slice a k c, .int .i64 ((A3 : Nat) : Int), .int .i64 ((E3 : Nat) : Int)] 106)] [] 2 [] 0 (fun φ5 => [(11, .bool (decide (((V3 : Nat) : Int) > ((255 : Nat) : Int)))), (10, .int .u64 ((V3 : Nat) : Int))]) (fun φ5 => [(z9, .cells #[.slice a k c, .int .i64 ((A3 : Nat) : Int), .int .i64 ((E3 : Nat) : Int)] 106)]) (fun φ5 => []) s trivial (fun φ5 => by kernel_rfl) ?_
  intro φ5 w5 s
  rw [nat_gtr (a := V3) (b := 255)]
  refine ops_done (by kernel_rfl) ?_
  rcases Bool.eq_false_or_eq_true (decide (255 < V3)) with hc6 | hc6
  ·
    rw [hc6]
    refine cond_true_rule (b := true) (by kernel_rfl) rfl ?_
    refine region_rule ?_
    refine ops_rule (C := []) [(z9, .cells #[.slice a k c, .int .i64 ((A3 : Nat) : Int), .int .i64 ((E3 : Nat) : Int)] 106)] [] 1 [] 0 (fun φ7 => [(12, .pointer (some ⟨z9, 0, none⟩))]) (fun φ7 => [(z9, .cells #[.slice a k c, .int .i64 ((A3 : Nat) : Int), .int .i64 ((E3 : Nat) : Int)] 106)]) (fun φ7 => []) s trivial (fun φ7 => by kernel_rfl) ?_
    intro φ7 w7 s
    refine callB_rule (b := (z9, .cells #[.slice a k c, .int .i64 ((A3 : Nat) : Int), .int .i64 ((E3 : Nat) : Int)] 106)) (H := [(z9, .cells #[.slice a k c, .int .i64 ((A3 : Nat) : Int), .int .i64 ((E3 : Nat) : Int)] 106)]) (F := []) (Hr := []) (some 13) 0 s (by kernel_rfl) (by kernel_rfl) (rFailV (z9 := z9) (at0 := A3) (e := E3) hl hn9 h3_3 (q := 9)) (by kernel_rfl) ?_
    rintro v8 I8 w8 b8 le8 - h8 s
    replace hl := BSl.mono le8 hl
    obtain ⟨E8, A8, rfl, rfl, h8_0, h8_1, h8_2⟩ := h8
    refine ops_done (by kernel_rfl) ?_
    refine wp_seq ?_
    refine region_rule ?_
    refine ops_rule (C := []) [(z9, .cells #[.slice a k c, .int .i64 ((A8 : Nat) : Int), .int .i64 ((E8 : Nat) : Int)] 106)] [] 1 [] 0 (fun φ9 => [(4, .slice none 0 0)]) (fun φ9 => [(z9, .cells #[.slice a k c, .int .i64 ((A8 : Nat) : Int), .int .i64 ((E8 : Nat) : Int)] 106)]) (fun φ9 => []) s trivial (fun φ9 => by kernel_rfl) ?_
    intro φ9 w9 s
    refine ops_done (by kernel_rfl) ?_
    refine wp_seq ?_
    refine wp_seq ?_
    refine region_rule ?_
    refine ops_rule (C := []) [(z9, .cells #[.slice a k c, .int .i64 ((A8 : Nat) : Int), .int .i64 ((E8 : Nat) : Int)] 106)] [] 1 [] 0 (fun φ10 => [(5, .int .u64 0)]) (fun φ10 => [(z9, .cells #[.slice a k c, .int .i64 ((A8 : Nat) : Int), .int .i64 ((E8 : Nat) : Int)] 106)]) (fun φ10 => []) s trivial (fun φ10 => by kernel_rfl) ?_
    intro φ10 w10 s
    refine ops_done (by kernel_rfl) ?_
    refine wp_block ?_
    have hb11 : V3 ≤ 255 ∨ E8 ≠ 0 := .inr (by rw [← h8_0]; exact fa_ne)
    have hle12 := IM.Le.refl I8
    refine loop_rule (fun (x : Nat × Nat × Nat × Value × List OB × List Fe) => [(0, .pointer (some ⟨z9, 0, none⟩)), (2, .slice none 0 0), (3, .int .u64 ((V3 : Nat) : Int)), (5, .int .u64 ((x.1 : Nat) : Int)), (4, x.2.2.2.1)]) (fun (x : Nat × Nat × Nat × Value × List OB × List Fe) => [(z9, .cells #[.slice a k c, .int .i64 ((x.2.1 : Nat) : Int), .int .i64 ((x.2.2.1 : Nat) : Int)] 106)] ++ x.2.2.2.2.1) (fun m (x : Nat × Nat × Nat × Value × List OB × List Fe) J => IM.Le I8 J ∧ x.1 + m = V3 ∧ x.2.1 ≤ P.length ∧ RowH 42 3 x.2.2.2.1 (x.2.2.2.2.2).length (fcs x.2.2.2.2.2) x.2.2.2.2.1 ∧ (x.2.2.2.2.2).length = x.1 ∧ dFs V3 (P.drop A8) E8 = (x.2.2.2.2.2 ++ (dFs m (P.drop x.2.1) x.2.2.1).1, (dFs m (P.drop x.2.1) x.2.2.1).2) ∧ (V3 ≤ 255 ∨ x.2.2.1 ≠ 0) ∧ (x.2.2.2.2.2).length ≤ 255) (V3) (0, A8, E8, (.slice none 0 0), [], []) s (by kernel_rfl) (List.Sublist.refl _) ⟨IM.Le.refl _, Nat.zero_add _, h8_2, (RowH.nil 42 3), rfl, rfl, hb11, Nat.zero_le _⟩ ?_
    rintro m13 ⟨i13, A13, e13, v13, F13, Fs13⟩ I13 w13 ev13 s ⟨le13, hi13_0, hi13_1, hi13_2, hi13_3, hi13_4, hi13_5, hi13_6⟩
    try dsimp only at s hi13_0 hi13_1 hi13_2 hi13_3 hi13_4 hi13_5 hi13_6 ⊢
    replace hl := BSl.mono le13 hl
    replace hle12 := leMono le13 hle12
    have hl9 : Fs13.length ≤ 255 := hi13_6
    refine wp_seq ?_
    refine wp_seq ?_
    refine region_rule ?_
    refine ops_rule (C := []) [(z9, .cells #[.slice a k c, .int .i64 ((A13 : Nat) : Int), .int .i64 ((e13 : Nat) : Int)] 106)] F13 4 [] 0 (fun φ14 => [(17, .bool (decide (((i13 : Nat) : Int) < ((V3 : Nat) : Int)))), (16, .bool (decide (((i13 : Nat) : Int) < ((V3 : Nat) : Int)))), (15, .int .u64 ((V3 : Nat) : Int)), (14, .int .u64 ((i13 : Nat) : Int))]) (fun φ14 => [(z9, .cells #[.slice a k c, .int .i64 ((A13 : Nat) : Int), .int .i64 ((e13 : Nat) : Int)] 106)]) (fun φ14 => []) s trivial (fun φ14 => by kernel_rfl) ?_
    intro φ14 w14 s
    rw [nat_lss (a := i13) (b := V3)]
    rcases Bool.eq_false_or_eq_true (decide (i13 < V3)) with hc15 | hc15
    ·
      rw [hc15]
      refine ops_rule (C := []) [(z9, .cells #[.slice a k c, .int .i64 ((A13 : Nat) : Int), .int .i64 ((e13 : Nat) : Int)] 106)] F13 6 [.o 0] 0 (fun φ16 => [(23, .bool (((e13 : Nat) : Int) == ((0 : Nat) : Int))), (22, .bool (((e13 : Nat) : Int) == ((0 : Nat) : Int))), (21, .int .i64 ((e13 : Nat) : Int)), (20, .pointer (some ⟨z9, 2, none⟩)), (19, .pointer (some ⟨z9, 0, none⟩)), (18, .pointer (some ⟨z9, 0, none⟩))]) (fun φ16 => [(z9, .cells #[.slice a k c, .int .i64 ((A13 : Nat) : Int), .int .i64 ((e13 : Nat) : Int)] 106)]) (fun φ16 => [z9]) s trivial (fun φ16 => by kernel_rfl) ?_
      intro φ16 w16 s
      rw [nat_eql (a := e13) (b := 0)]
      refine ops_done (by kernel_rfl) ?_
      rcases Bool.eq_false_or_eq_true (decide (e13 = 0)) with hc17 | hc17
      ·
        rw [hc17]
        refine cond_true_rule (b := true) (by kernel_rfl) rfl ?_
        refine wp_skip ?_
        refine wp_seq ?_
        refine wp_block ?_
        refine wp_seq ?_
        refine region_rule ?_
        refine ops_rule (C := []) [(z9, .cells #[.slice a k c, .int .i64 ((A13 : Nat) : Int), .int .i64 ((e13 : Nat) : Int)] 106)] F13 1 [] 0 (fun φ18 => [(26, .pointer (some ⟨z9, 0, none⟩))]) (fun φ18 => [(z9, .cells #[.slice a k c, .int .i64 ((A13 : Nat) : Int), .int .i64 ((e13 : Nat) : Int)] 106)]) (fun φ18 => []) s trivial (fun φ18 => by kernel_rfl) ?_
        intro φ18 w18 s
        refine callB_rule (b := (z9, .cells #[.slice a k c, .int .i64 ((A13 : Nat) : Int), .int .i64 ((e13 : Nat) : Int)] 106)) (H := [(z9, .cells #[.slice a k c, .int .i64 ((A13 : Nat) : Int), .int .i64 ((e13 : Nat) : Int)] 106)]) (F := F13) (Hr := []) (some 27) 0 s (by kernel_rfl) (by kernel_rfl) (rByteV (z9 := z9) (at0 := A13) (e := e13) hl hn9 hi13_1) (by kernel_rfl) ?_
        rintro v19 I19 w19 b19 le19 - h19 s
        replace hl := BSl.mono le19 hl
        replace hle12 := leMono le19 hle12
        obtain ⟨V19, E19, A19, rfl, rfl, h19_0, h19_1, h19_2, h19_3⟩ := h19
        refine ops_rule (C := []) [(z9, .cells #[.slice a k c, .int .i64 ((A19 : Nat) : Int), .int .i64 ((E19 : Nat) : Int)] 106)] F13 1 [] 0 (fun φ20 => [(6, .int .u8 ((V19 : Nat) : Int))]) (fun φ20 => [(z9, .cells #[.slice a k c, .int .i64 ((A19 : Nat) : Int), .int .i64 ((E19 : Nat) : Int)] 106)]) (fun φ20 => []) s trivial (fun φ20 => by kernel_rfl) ?_
        intro φ20 w20 s
        refine ops_done (by kernel_rfl) ?_
        refine wp_seq ?_
        refine region_rule ?_
        refine ops_rule (C := []) [(z9, .cells #[.slice a k c, .int .i64 ((A19 : Nat) : Int), .int .i64 ((E19 : Nat) : Int)] 106)] F13 1 [] 0 (fun φ21 => [(28, .pointer (some ⟨z9, 0, none⟩))]) (fun φ21 => [(z9, .cells #[.slice a k c, .int .i64 ((A19 : Nat) : Int), .int .i64 ((E19 : Nat) : Int)] 106)]) (fun φ21 => []) s trivial (fun φ21 => by kernel_rfl) ?_
        intro φ21 w21 s
        refine callB_rule (b := (z9, .cells #[.slice a k c, .int .i64 ((A19 : Nat) : Int), .int .i64 ((E19 : Nat) : Int)] 106)) (H := [(z9, .cells #[.slice a k c, .int .i64 ((A19 : Nat) : Int), .int .i64 ((E19 : Nat) : Int)] 106)]) (F := F13) (Hr := []) (some 29) 0 s (by kernel_rfl) (by kernel_rfl) (rTextV (z9 := z9) (at0 := A19) (e := E19) hl hn9 h19_3 (z := 255) (by decide)) (by kernel_rfl) ?_
        rintro v22 I22 w22 b22 le22 - h22 s
        replace hl := BSl.mono le22 hl
        replace hle12 := leMono le22 hle12
        obtain ⟨S22, E22, A22, rfl, rfl, h22_0, h22_1, h22_2, h22_3⟩ := h22
        refine ops_rule (C := []) [(z9, .cells #[.slice a k c, .int .i64 ((A22 : Nat) : Int), .int .i64 ((E22 : Nat) : Int)] 106)] F13 1 [] 0 (fun φ23 => [(7, .string ⟨(S22).toArray⟩)]) (fun φ23 => [(z9, .cells #[.slice a k c, .int .i64 ((A22 : Nat) : Int), .int .i64 ((E22 : Nat) : Int)] 106)]) (fun φ23 => []) s trivial (fun φ23 => by kernel_rfl) ?_
        intro φ23 w23 s
        refine ops_done (by kernel_rfl) ?_
        refine region_rule ?_
        refine ops_rule (C := []) [(z9, .cells #[.slice a k c, .int .i64 ((A22 : Nat) : Int), .int .i64 ((E22 : Nat) : Int)] 106)] F13 5 [] 0 (fun φ24 => [(34, .pointer (some ⟨z9, 0, none⟩)), (33, .string ⟨(S22).toArray⟩), (32, .int .i64 (IntKind.wrap .i64 ((V19 : Nat) : Int))), (31, .int .u8 ((V19 : Nat) : Int)), (30, v13)]) (fun φ24 => [(z9, .cells #[.slice a k c, .int .i64 ((A22 : Nat) : Int), .int .i64 ((E22 : Nat) : Int)] 106)]) (fun φ24 => []) s trivial (fun φ24 => by kernel_rfl) ?_
        intro φ24 w24 s
        rw [nat_wrapI (a := V19) (by have h9 := byV_lt (P.drop A13) e13; rw [h19_0] at h9; omega)]
        refine callB_rule (b := (z9, .cells #[.slice a k c, .int .i64 ((A22 : Nat) : Int), .int .i64 ((E22 : Nat) : Int)] 106)) (H := [(z9, .cells #[.slice a k c, .int .i64 ((A22 : Nat) : Int), .int .i64 ((E22 : Nat) : Int)] 106)]) (F := F13) (Hr := []) (some 35) 0 s (by kernel_rfl) (by kernel_rfl) (rTextV (z9 := z9) (at0 := A22) (e := E22) hl hn9 h22_3 (z := 255) (by decide)) (by kernel_rfl) ?_
        rintro v25 I25 w25 b25 le25 - h25 s
        replace hl := BSl.mono le25 hl
        replace hle12 := leMono le25 hle12
        obtain ⟨S25, E25, A25, rfl, rfl, h25_0, h25_1, h25_2, h25_3⟩ := h25
        refine ops_rule (C := []) [(z9, .cells #[.slice a k c, .int .i64 ((A25 : Nat) : Int), .int .i64 ((E25 : Nat) : Int)] 106)] F13 2 [] 1 (fun φ26 => [(37, .slice (some ⟨(φ26 0), 0, none⟩) 1 1), (36, .agg #[.int .i64 ((V19 : Nat) : Int), .string ⟨(S22).toArray⟩, .string ⟨(S25).toArray⟩])]) (fun φ26 => [(z9, .cells #[.slice a k c, .int .i64 ((A25 : Nat) : Int), .int .i64 ((E25 : Nat) : Int)] 106), ((φ26 0), .cells #[.int .i64 ((V19 : Nat) : Int), .string ⟨(S22).toArray⟩, .string ⟨(S25).toArray⟩] 42)]) (fun φ26 => []) s trivial (fun φ26 => by kernel_rfl) ?_
        intro φ26 w26 s
        refine append_rule (H := [(z9, .cells #[.slice a k c, .int .i64 ((A25 : Nat) : Int), .int .i64 ((E25 : Nat) : Int)] 106), ((φ26 0), .cells #[.int .i64 ((V19 : Nat) : Int), .string ⟨(S22).toArray⟩, .string ⟨(S25).toArray⟩] 42)]) (F := F13) 30 30 42 Tryd.t42 (.agg #[.int .i64 0, .string ⟨#[]⟩, .string ⟨#[]⟩]) 3 40 (some 38) s Tryd.underlying30 (by kernel_rfl) (by kernel_rfl) (by kernel_rfl) (by kernel_rfl) (by kernel_rfl) (by decide) hi13_2 (src_own s 1 (φ26 0) #[.int .i64 ((V19 : Nat) : Int), .string ⟨(S22).toArray⟩, .string ⟨(S25).toArray⟩] 42 30 42 1 1 3 [.int .i64 ((V19 : Nat) : Int), .string ⟨(S22).toArray⟩, .string ⟨(S25).toArray⟩] (by kernel_rfl) Tryd.underlying30 (by kernel_rfl) (by kernel_rfl) (by kernel_rfl)) (by simp only [maxLen]; omega) (by omega) (by kernel_rfl) ?_
        intro v27 w27 F27 s h27
        refine ops_rule (C := []) [(z9, .cells #[.slice a k c, .int .i64 ((A25 : Nat) : Int), .int .i64 ((E25 : Nat) : Int)] 106), ((φ26 0), .cells #[.int .i64 ((V19 : Nat) : Int), .string ⟨(S22).toArray⟩, .string ⟨(S25).toArray⟩] 42)] F27 1 [] 0 (fun φ28 => [(4, v27)]) (fun φ28 => [(z9, .cells #[.slice a k c, .int .i64 ((A25 : Nat) : Int), .int .i64 ((E25 : Nat) : Int)] 106), ((φ26 0), .cells #[.int .i64 ((V19 : Nat) : Int), .string ⟨(S22).toArray⟩, .string ⟨(S25).toArray⟩] 42)]) (fun φ28 => []) s trivial (fun φ28 => by kernel_rfl) ?_
        intro φ28 w28 s
        refine ops_done (by kernel_rfl) ?_
        refine region_rule ?_
        refine ops_rule (C := []) [(z9, .cells #[.slice a k c, .int .i64 ((A25 : Nat) : Int), .int .i64 ((E25 : Nat) : Int)] 106), ((φ26 0), .cells #[.int .i64 ((V19 : Nat) : Int), .string ⟨(S22).toArray⟩, .string ⟨(S25).toArray⟩] 42)] F27 3 [] 0 (fun φ29 => [(5, .int .u64 (IntKind.wrap .u64 (((i13 : Nat) : Int) + ((1 : Nat) : Int)))), (25, .int .u64 (IntKind.wrap .u64 (((i13 : Nat) : Int) + ((1 : Nat) : Int)))), (24, .int .u64 ((i13 : Nat) : Int))]) (fun φ29 => [(z9, .cells #[.slice a k c, .int .i64 ((A25 : Nat) : Int), .int .i64 ((E25 : Nat) : Int)] 106), ((φ26 0), .cells #[.int .i64 ((V19 : Nat) : Int), .string ⟨(S22).toArray⟩, .string ⟨(S25).toArray⟩] 42)]) (fun φ29 => []) s trivial (fun φ29 => by kernel_rfl) ?_
        intro φ29 w29 s
        rw [nat_addU (a := i13) (b := 1) (by have e9 := hi13_3; have e8 := hi13_0; have e7 := hi13_5; have hq0 := of_decide_eq_true hc6; have hq1 := of_decide_eq_true hc15; have hq2 := of_decide_eq_true hc17; omega)]
        refine ops_done (by kernel_rfl) ?_
        exact ⟨⟨m13 - 1, (i13 + 1, A25, E25, v27, F27, Fs13 ++ [(⟨((V19 : Nat) : Int), S22, S25⟩ : Fe)]), _, _, _, by have hq0 := of_decide_eq_true hc6; have hq1 := of_decide_eq_true hc15; have hq2 := of_decide_eq_true hc17; have := hi13_0; omega, rfl, s, (List.Sublist.append (List.Sublist.cons₂ _ (List.Sublist.cons _ List.Sublist.slnil)) (List.Sublist.refl _)), by kernel_rfl, hle12, by have hq0 := of_decide_eq_true hc6; have hq1 := of_decide_eq_true hc15; have hq2 := of_decide_eq_true hc17; have := hi13_0; show i13 + 1 + (m13 - 1) = V3; omega, h25_3, row42_snoc h27 rfl, by have := hi13_3; show (Fs13 ++ [(⟨((V19 : Nat) : Int), S22, S25⟩ : Fe)]).length = i13 + 1; rw [List.length_append, this]; rfl, dF_step hi13_4 (by have hq0 := of_decide_eq_true hc6; have hq1 := of_decide_eq_true hc15; have hq2 := of_decide_eq_true hc17; have := hi13_0; omega) (by have hq0 := of_decide_eq_true hc6; have hq1 := of_decide_eq_true hc15; have hq2 := of_decide_eq_true hc17; omega) h19_0 h19_1 h19_2 h22_0 h22_1 h22_2 h25_0 h25_1 h25_2, by have hq0 := of_decide_eq_true hc6; have hq1 := of_decide_eq_true hc15; have hq2 := of_decide_eq_true hc17; have := hi13_5; show _ ∨ _; omega, by have hq0 := of_decide_eq_true hc6; have hq1 := of_decide_eq_true hc15; have hq2 := of_decide_eq_true hc17; have := hi13_5; have := hi13_3; show (Fs13 ++ [(⟨((V19 : Nat) : Int), S22, S25⟩ : Fe)]).length ≤ 255; rw [List.length_append]; simp only [List.length_cons, List.length_nil]; omega⟩⟩
      ·
        rw [hc17]
        refine cond_false_rule (b := false) (by kernel_rfl) rfl ?_
        refine wp_exit ?_
        refine wp_seq ?_
        refine region_rule ?_
        refine ops_rule (C := []) [(z9, .cells #[.slice a k c, .int .i64 ((A13 : Nat) : Int), .int .i64 ((e13 : Nat) : Int)] 106)] F13 2 [] 0 (fun φ30 => [(2, v13), (39, v13)]) (fun φ30 => [(z9, .cells #[.slice a k c, .int .i64 ((A13 : Nat) : Int), .int .i64 ((e13 : Nat) : Int)] 106)]) (fun φ30 => []) s trivial (fun φ30 => by kernel_rfl) ?_
        intro φ30 w30 s
        refine ops_done (by kernel_rfl) ?_
        refine wp_ret ?_
        refine ret_rule (C := []) [(z9, .cells #[.slice a k c, .int .i64 ((A13 : Nat) : Int), .int .i64 ((e13 : Nat) : Int)] 106)] F13 (v13) [] [] s trivial (by kernel_rfl) ?_
        replace s := s.drop (List.Sublist.append (List.Sublist.cons₂ _ List.Sublist.slnil) (List.Sublist.refl F13))
        have hm0 : m13 = 0 ∨ e13 ≠ 0 := by have hq0 := of_decide_eq_true hc6; have hq1 := of_decide_eq_true hc15; have hq2 := of_decide_eq_false hc17; have := hi13_0; omega
        have e7 := hi13_4
        rw [dF_done hm0] at e7
        simp only [List.append_nil] at e7
        have e6 : gfD (P.drop at0) e = (Fs13, P.drop A13, e13) := by unfold gfD; rw [(co_bigV h3_0 h3_1 (of_decide_eq_true hc6) h8_0), h3_0, h3_2, h8_1]; exact e7
        exact ⟨_, _, _, rfl, s, ⟨_, _, rfl, rfl, Fs13, e13, A13, rfl, hi13_1, e6, hl9, hi13_2⟩⟩
    ·
      rw [hc15]
      refine ops_rule (C := []) [(z9, .cells #[.slice a k c, .int .i64 ((A13 : Nat) : Int), .int .i64 ((e13 : Nat) : Int)] 106)] F13 6 [] 0 (fun φ31 => [(23, .bool false), (22, undef), (21, undef), (20, undef), (19, undef), (18, undef)]) (fun φ31 => [(z9, .cells #[.slice a k c, .int .i64 ((A13 : Nat) : Int), .int .i64 ((e13 : Nat) : Int)] 106)]) (fun φ31 => []) s trivial (fun φ31 => by kernel_rfl) ?_
      intro φ31 w31 s
      refine ops_done (by kernel_rfl) ?_
      refine cond_false_rule (b := false) (by kernel_rfl) rfl ?_
      refine wp_exit ?_
      refine wp_seq ?_
      refine region_rule ?_
      refine ops_rule (C := []) [(z9, .cells #[.slice a k c, .int .i64 ((A13 : Nat) : Int), .int .i64 ((e13 : Nat) : Int)] 106)] F13 2 [] 0 (fun φ32 => [(2, v13), (39, v13)]) (fun φ32 => [(z9, .cells #[.slice a k c, .int .i64 ((A13 : Nat) : Int), .int .i64 ((e13 : Nat) : Int)] 106)]) (fun φ32 => []) s trivial (fun φ32 => by kernel_rfl) ?_
      intro φ32 w32 s
      refine ops_done (by kernel_rfl) ?_
      refine wp_ret ?_
      refine ret_rule (C := []) [(z9, .cells #[.slice a k c, .int .i64 ((A13 : Nat) : Int), .int .i64 ((e13 : Nat) : Int)] 106)] F13 (v13) [] [] s trivial (by kernel_rfl) ?_
      replace s := s.drop (List.Sublist.append (List.Sublist.cons₂ _ List.Sublist.slnil) (List.Sublist.refl F13))
      have hm0 : m13 = 0 ∨ e13 ≠ 0 := by have hq0 := of_decide_eq_true hc6; have hq1 := of_decide_eq_false hc15; have := hi13_0; omega
      have e7 := hi13_4
      rw [dF_done hm0] at e7
      simp only [List.append_nil] at e7
      have e6 : gfD (P.drop at0) e = (Fs13, P.drop A13, e13) := by unfold gfD; rw [(co_bigV h3_0 h3_1 (of_decide_eq_true hc6) h8_0), h3_0, h3_2, h8_1]; exact e7
      exact ⟨_, _, _, rfl, s, ⟨_, _, rfl, rfl, Fs13, e13, A13, rfl, hi13_1, e6, hl9, hi13_2⟩⟩
  ·
    rw [hc6]
    refine cond_false_rule (b := false) (by kernel_rfl) rfl ?_
    refine wp_skip ?_
    refine wp_seq ?_
    refine region_rule ?_
    refine ops_rule (C := []) [(z9, .cells #[.slice a k c, .int .i64 ((A3 : Nat) : Int), .int .i64 ((E3 : Nat) : Int)] 106)] [] 1 [] 0 (fun φ33 => [(4, .slice none 0 0)]) (fun φ33 => [(z9, .cells #[.slice a k c, .int .i64 ((A3 : Nat) : Int), .int .i64 ((E3 : Nat) : Int)] 106)]) (fun φ33 => []) s trivial (fun φ33 => by kernel_rfl) ?_
    intro φ33 w33 s
    refine ops_done (by kernel_rfl) ?_
    refine wp_seq ?_
    refine wp_seq ?_
    refine region_rule ?_
    refine ops_rule (C := []) [(z9, .cells #[.slice a k c, .int .i64 ((A3 : Nat) : Int), .int .i64 ((E3 : Nat) : Int)] 106)] [] 1 [] 0 (fun φ34 => [(5, .int .u64 0)]) (fun φ34 => [(z9, .cells #[.slice a k c, .int .i64 ((A3 : Nat) : Int), .int .i64 ((E3 : Nat) : Int)] 106)]) (fun φ34 => []) s trivial (fun φ34 => by kernel_rfl) ?_
    intro φ34 w34 s
    refine ops_done (by kernel_rfl) ?_
    refine wp_block ?_
    have hb35 : V3 ≤ 255 ∨ E3 ≠ 0 := .inl (by have := of_decide_eq_false hc6; omega)
    have hle36 := IM.Le.refl I3
    refine loop_rule (fun (x : Nat × Nat × Nat × Value × List OB × List Fe) => [(0, .pointer (some ⟨z9, 0, none⟩)), (2, .slice none 0 0), (3, .int .u64 ((V3 : Nat) : Int)), (5, .int .u64 ((x.1 : Nat) : Int)), (4, x.2.2.2.1)]) (fun (x : Nat × Nat × Nat × Value × List OB × List Fe) => [(z9, .cells #[.slice a k c, .int .i64 ((x.2.1 : Nat) : Int), .int .i64 ((x.2.2.1 : Nat) : Int)] 106)] ++ x.2.2.2.2.1) (fun m (x : Nat × Nat × Nat × Value × List OB × List Fe) J => IM.Le I3 J ∧ x.1 + m = V3 ∧ x.2.1 ≤ P.length ∧ RowH 42 3 x.2.2.2.1 (x.2.2.2.2.2).length (fcs x.2.2.2.2.2) x.2.2.2.2.1 ∧ (x.2.2.2.2.2).length = x.1 ∧ dFs V3 (P.drop A3) E3 = (x.2.2.2.2.2 ++ (dFs m (P.drop x.2.1) x.2.2.1).1, (dFs m (P.drop x.2.1) x.2.2.1).2) ∧ (V3 ≤ 255 ∨ x.2.2.1 ≠ 0) ∧ (x.2.2.2.2.2).length ≤ 255) (V3) (0, A3, E3, (.slice none 0 0), [], []) s (by kernel_rfl) (List.Sublist.refl _) ⟨IM.Le.refl _, Nat.zero_add _, h3_3, (RowH.nil 42 3), rfl, rfl, hb35, Nat.zero_le _⟩ ?_
    rintro m37 ⟨i37, A37, e37, v37, F37, Fs37⟩ I37 w37 ev37 s ⟨le37, hi37_0, hi37_1, hi37_2, hi37_3, hi37_4, hi37_5, hi37_6⟩
    try dsimp only at s hi37_0 hi37_1 hi37_2 hi37_3 hi37_4 hi37_5 hi37_6 ⊢
    replace hl := BSl.mono le37 hl
    replace hle36 := leMono le37 hle36
    have hl9 : Fs37.length ≤ 255 := hi37_6
    refine wp_seq ?_
    refine wp_seq ?_
    refine region_rule ?_
    refine ops_rule (C := []) [(z9, .cells #[.slice a k c, .int .i64 ((A37 : Nat) : Int), .int .i64 ((e37 : Nat) : Int)] 106)] F37 4 [] 0 (fun φ38 => [(17, .bool (decide (((i37 : Nat) : Int) < ((V3 : Nat) : Int)))), (16, .bool (decide (((i37 : Nat) : Int) < ((V3 : Nat) : Int)))), (15, .int .u64 ((V3 : Nat) : Int)), (14, .int .u64 ((i37 : Nat) : Int))]) (fun φ38 => [(z9, .cells #[.slice a k c, .int .i64 ((A37 : Nat) : Int), .int .i64 ((e37 : Nat) : Int)] 106)]) (fun φ38 => []) s trivial (fun φ38 => by kernel_rfl) ?_
    intro φ38 w38 s
    rw [nat_lss (a := i37) (b := V3)]
    rcases Bool.eq_false_or_eq_true (decide (i37 < V3)) with hc39 | hc39
    ·
      rw [hc39]
      refine ops_rule (C := []) [(z9, .cells #[.slice a k c, .int .i64 ((A37 : Nat) : Int), .int .i64 ((e37 : Nat) : Int)] 106)] F37 6 [.o 0] 0 (fun φ40 => [(23, .bool (((e37 : Nat) : Int) == ((0 : Nat) : Int))), (22, .bool (((e37 : Nat) : Int) == ((0 : Nat) : Int))), (21, .int .i64 ((e37 : Nat) : Int)), (20, .pointer (some ⟨z9, 2, none⟩)), (19, .pointer (some ⟨z9, 0, none⟩)), (18, .pointer (some ⟨z9, 0, none⟩))]) (fun φ40 => [(z9, .cells #[.slice a k c, .int .i64 ((A37 : Nat) : Int), .int .i64 ((e37 : Nat) : Int)] 106)]) (fun φ40 => [z9]) s trivial (fun φ40 => by kernel_rfl) ?_
      intro φ40 w40 s
      rw [nat_eql (a := e37) (b := 0)]
      refine ops_done (by kernel_rfl) ?_
      rcases Bool.eq_false_or_eq_true (decide (e37 = 0)) with hc41 | hc41
      ·
        rw [hc41]
        refine cond_true_rule (b := true) (by kernel_rfl) rfl ?_
        refine wp_skip ?_
        refine wp_seq ?_
        refine wp_block ?_
        refine wp_seq ?_
        refine region_rule ?_
        refine ops_rule (C := []) [(z9, .cells #[.slice a k c, .int .i64 ((A37 : Nat) : Int), .int .i64 ((e37 : Nat) : Int)] 106)] F37 1 [] 0 (fun φ42 => [(26, .pointer (some ⟨z9, 0, none⟩))]) (fun φ42 => [(z9, .cells #[.slice a k c, .int .i64 ((A37 : Nat) : Int), .int .i64 ((e37 : Nat) : Int)] 106)]) (fun φ42 => []) s trivial (fun φ42 => by kernel_rfl) ?_
        intro φ42 w42 s
        refine callB_rule (b := (z9, .cells #[.slice a k c, .int .i64 ((A37 : Nat) : Int), .int .i64 ((e37 : Nat) : Int)] 106)) (H := [(z9, .cells #[.slice a k c, .int .i64 ((A37 : Nat) : Int), .int .i64 ((e37 : Nat) : Int)] 106)]) (F := F37) (Hr := []) (some 27) 0 s (by kernel_rfl) (by kernel_rfl) (rByteV (z9 := z9) (at0 := A37) (e := e37) hl hn9 hi37_1) (by kernel_rfl) ?_
        rintro v43 I43 w43 b43 le43 - h43 s
        replace hl := BSl.mono le43 hl
        replace hle36 := leMono le43 hle36
        obtain ⟨V43, E43, A43, rfl, rfl, h43_0, h43_1, h43_2, h43_3⟩ := h43
        refine ops_rule (C := []) [(z9, .cells #[.slice a k c, .int .i64 ((A43 : Nat) : Int), .int .i64 ((E43 : Nat) : Int)] 106)] F37 1 [] 0 (fun φ44 => [(6, .int .u8 ((V43 : Nat) : Int))]) (fun φ44 => [(z9, .cells #[.slice a k c, .int .i64 ((A43 : Nat) : Int), .int .i64 ((E43 : Nat) : Int)] 106)]) (fun φ44 => []) s trivial (fun φ44 => by kernel_rfl) ?_
        intro φ44 w44 s
        refine ops_done (by kernel_rfl) ?_
        refine wp_seq ?_
        refine region_rule ?_
        refine ops_rule (C := []) [(z9, .cells #[.slice a k c, .int .i64 ((A43 : Nat) : Int), .int .i64 ((E43 : Nat) : Int)] 106)] F37 1 [] 0 (fun φ45 => [(28, .pointer (some ⟨z9, 0, none⟩))]) (fun φ45 => [(z9, .cells #[.slice a k c, .int .i64 ((A43 : Nat) : Int), .int .i64 ((E43 : Nat) : Int)] 106)]) (fun φ45 => []) s trivial (fun φ45 => by kernel_rfl) ?_
        intro φ45 w45 s
        refine callB_rule (b := (z9, .cells #[.slice a k c, .int .i64 ((A43 : Nat) : Int), .int .i64 ((E43 : Nat) : Int)] 106)) (H := [(z9, .cells #[.slice a k c, .int .i64 ((A43 : Nat) : Int), .int .i64 ((E43 : Nat) : Int)] 106)]) (F := F37) (Hr := []) (some 29) 0 s (by kernel_rfl) (by kernel_rfl) (rTextV (z9 := z9) (at0 := A43) (e := E43) hl hn9 h43_3 (z := 255) (by decide)) (by kernel_rfl) ?_
        rintro v46 I46 w46 b46 le46 - h46 s
        replace hl := BSl.mono le46 hl
        replace hle36 := leMono le46 hle36
        obtain ⟨S46, E46, A46, rfl, rfl, h46_0, h46_1, h46_2, h46_3⟩ := h46
        refine ops_rule (C := []) [(z9, .cells #[.slice a k c, .int .i64 ((A46 : Nat) : Int), .int .i64 ((E46 : Nat) : Int)] 106)] F37 1 [] 0 (fun φ47 => [(7, .string ⟨(S46).toArray⟩)]) (fun φ47 => [(z9, .cells #[.slice a k c, .int .i64 ((A46 : Nat) : Int), .int .i64 ((E46 : Nat) : Int)] 106)]) (fun φ47 => []) s trivial (fun φ47 => by kernel_rfl) ?_
        intro φ47 w47 s
        refine ops_done (by kernel_rfl) ?_
        refine region_rule ?_
        refine ops_rule (C := []) [(z9, .cells #[.slice a k c, .int .i64 ((A46 : Nat) : Int), .int .i64 ((E46 : Nat) : Int)] 106)] F37 5 [] 0 (fun φ48 => [(34, .pointer (some ⟨z9, 0, none⟩)), (33, .string ⟨(S46).toArray⟩), (32, .int .i64 (IntKind.wrap .i64 ((V43 : Nat) : Int))), (31, .int .u8 ((V43 : Nat) : Int)), (30, v37)]) (fun φ48 => [(z9, .cells #[.slice a k c, .int .i64 ((A46 : Nat) : Int), .int .i64 ((E46 : Nat) : Int)] 106)]) (fun φ48 => []) s trivial (fun φ48 => by kernel_rfl) ?_
        intro φ48 w48 s
        rw [nat_wrapI (a := V43) (by have h9 := byV_lt (P.drop A37) e37; rw [h43_0] at h9; omega)]
        refine callB_rule (b := (z9, .cells #[.slice a k c, .int .i64 ((A46 : Nat) : Int), .int .i64 ((E46 : Nat) : Int)] 106)) (H := [(z9, .cells #[.slice a k c, .int .i64 ((A46 : Nat) : Int), .int .i64 ((E46 : Nat) : Int)] 106)]) (F := F37) (Hr := []) (some 35) 0 s (by kernel_rfl) (by kernel_rfl) (rTextV (z9 := z9) (at0 := A46) (e := E46) hl hn9 h46_3 (z := 255) (by decide)) (by kernel_rfl) ?_
        rintro v49 I49 w49 b49 le49 - h49 s
        replace hl := BSl.mono le49 hl
        replace hle36 := leMono le49 hle36
        obtain ⟨S49, E49, A49, rfl, rfl, h49_0, h49_1, h49_2, h49_3⟩ := h49
        refine ops_rule (C := []) [(z9, .cells #[.slice a k c, .int .i64 ((A49 : Nat) : Int), .int .i64 ((E49 : Nat) : Int)] 106)] F37 2 [] 1 (fun φ50 => [(37, .slice (some ⟨(φ50 0), 0, none⟩) 1 1), (36, .agg #[.int .i64 ((V43 : Nat) : Int), .string ⟨(S46).toArray⟩, .string ⟨(S49).toArray⟩])]) (fun φ50 => [(z9, .cells #[.slice a k c, .int .i64 ((A49 : Nat) : Int), .int .i64 ((E49 : Nat) : Int)] 106), ((φ50 0), .cells #[.int .i64 ((V43 : Nat) : Int), .string ⟨(S46).toArray⟩, .string ⟨(S49).toArray⟩] 42)]) (fun φ50 => []) s trivial (fun φ50 => by kernel_rfl) ?_
        intro φ50 w50 s
        refine append_rule (H := [(z9, .cells #[.slice a k c, .int .i64 ((A49 : Nat) : Int), .int .i64 ((E49 : Nat) : Int)] 106), ((φ50 0), .cells #[.int .i64 ((V43 : Nat) : Int), .string ⟨(S46).toArray⟩, .string ⟨(S49).toArray⟩] 42)]) (F := F37) 30 30 42 Tryd.t42 (.agg #[.int .i64 0, .string ⟨#[]⟩, .string ⟨#[]⟩]) 3 40 (some 38) s Tryd.underlying30 (by kernel_rfl) (by kernel_rfl) (by kernel_rfl) (by kernel_rfl) (by kernel_rfl) (by decide) hi37_2 (src_own s 1 (φ50 0) #[.int .i64 ((V43 : Nat) : Int), .string ⟨(S46).toArray⟩, .string ⟨(S49).toArray⟩] 42 30 42 1 1 3 [.int .i64 ((V43 : Nat) : Int), .string ⟨(S46).toArray⟩, .string ⟨(S49).toArray⟩] (by kernel_rfl) Tryd.underlying30 (by kernel_rfl) (by kernel_rfl) (by kernel_rfl)) (by simp only [maxLen]; omega) (by omega) (by kernel_rfl) ?_
        intro v51 w51 F51 s h51
        refine ops_rule (C := []) [(z9, .cells #[.slice a k c, .int .i64 ((A49 : Nat) : Int), .int .i64 ((E49 : Nat) : Int)] 106), ((φ50 0), .cells #[.int .i64 ((V43 : Nat) : Int), .string ⟨(S46).toArray⟩, .string ⟨(S49).toArray⟩] 42)] F51 1 [] 0 (fun φ52 => [(4, v51)]) (fun φ52 => [(z9, .cells #[.slice a k c, .int .i64 ((A49 : Nat) : Int), .int .i64 ((E49 : Nat) : Int)] 106), ((φ50 0), .cells #[.int .i64 ((V43 : Nat) : Int), .string ⟨(S46).toArray⟩, .string ⟨(S49).toArray⟩] 42)]) (fun φ52 => []) s trivial (fun φ52 => by kernel_rfl) ?_
        intro φ52 w52 s
        refine ops_done (by kernel_rfl) ?_
        refine region_rule ?_
        refine ops_rule (C := []) [(z9, .cells #[.slice a k c, .int .i64 ((A49 : Nat) : Int), .int .i64 ((E49 : Nat) : Int)] 106), ((φ50 0), .cells #[.int .i64 ((V43 : Nat) : Int), .string ⟨(S46).toArray⟩, .string ⟨(S49).toArray⟩] 42)] F51 3 [] 0 (fun φ53 => [(5, .int .u64 (IntKind.wrap .u64 (((i37 : Nat) : Int) + ((1 : Nat) : Int)))), (25, .int .u64 (IntKind.wrap .u64 (((i37 : Nat) : Int) + ((1 : Nat) : Int)))), (24, .int .u64 ((i37 : Nat) : Int))]) (fun φ53 => [(z9, .cells #[.slice a k c, .int .i64 ((A49 : Nat) : Int), .int .i64 ((E49 : Nat) : Int)] 106), ((φ50 0), .cells #[.int .i64 ((V43 : Nat) : Int), .string ⟨(S46).toArray⟩, .string ⟨(S49).toArray⟩] 42)]) (fun φ53 => []) s trivial (fun φ53 => by kernel_rfl) ?_
        intro φ53 w53 s
        rw [nat_addU (a := i37) (b := 1) (by have e9 := hi37_3; have e8 := hi37_0; have e7 := hi37_5; have hq0 := of_decide_eq_false hc6; have hq1 := of_decide_eq_true hc39; have hq2 := of_decide_eq_true hc41; omega)]
        refine ops_done (by kernel_rfl) ?_
        exact ⟨⟨m37 - 1, (i37 + 1, A49, E49, v51, F51, Fs37 ++ [(⟨((V43 : Nat) : Int), S46, S49⟩ : Fe)]), _, _, _, by have hq0 := of_decide_eq_false hc6; have hq1 := of_decide_eq_true hc39; have hq2 := of_decide_eq_true hc41; have := hi37_0; omega, rfl, s, (List.Sublist.append (List.Sublist.cons₂ _ (List.Sublist.cons _ List.Sublist.slnil)) (List.Sublist.refl _)), by kernel_rfl, hle36, by have hq0 := of_decide_eq_false hc6; have hq1 := of_decide_eq_true hc39; have hq2 := of_decide_eq_true hc41; have := hi37_0; show i37 + 1 + (m37 - 1) = V3; omega, h49_3, row42_snoc h51 rfl, by have := hi37_3; show (Fs37 ++ [(⟨((V43 : Nat) : Int), S46, S49⟩ : Fe)]).length = i37 + 1; rw [List.length_append, this]; rfl, dF_step hi37_4 (by have hq0 := of_decide_eq_false hc6; have hq1 := of_decide_eq_true hc39; have hq2 := of_decide_eq_true hc41; have := hi37_0; omega) (by have hq0 := of_decide_eq_false hc6; have hq1 := of_decide_eq_true hc39; have hq2 := of_decide_eq_true hc41; omega) h43_0 h43_1 h43_2 h46_0 h46_1 h46_2 h49_0 h49_1 h49_2, by have hq0 := of_decide_eq_false hc6; have hq1 := of_decide_eq_true hc39; have hq2 := of_decide_eq_true hc41; have := hi37_5; show _ ∨ _; omega, by have hq0 := of_decide_eq_false hc6; have hq1 := of_decide_eq_true hc39; have hq2 := of_decide_eq_true hc41; have := hi37_5; have := hi37_3; show (Fs37 ++ [(⟨((V43 : Nat) : Int), S46, S49⟩ : Fe)]).length ≤ 255; rw [List.length_append]; simp only [List.length_cons, List.length_nil]; omega⟩⟩
      ·
        rw [hc41]
        refine cond_false_rule (b := false) (by kernel_rfl) rfl ?_
        refine wp_exit ?_
        refine wp_seq ?_
        refine region_rule ?_
        refine ops_rule (C := []) [(z9, .cells #[.slice a k c, .int .i64 ((A37 : Nat) : Int), .int .i64 ((e37 : Nat) : Int)] 106)] F37 2 [] 0 (fun φ54 => [(2, v37), (39, v37)]) (fun φ54 => [(z9, .cells #[.slice a k c, .int .i64 ((A37 : Nat) : Int), .int .i64 ((e37 : Nat) : Int)] 106)]) (fun φ54 => []) s trivial (fun φ54 => by kernel_rfl) ?_
        intro φ54 w54 s
        refine ops_done (by kernel_rfl) ?_
        refine wp_ret ?_
        refine ret_rule (C := []) [(z9, .cells #[.slice a k c, .int .i64 ((A37 : Nat) : Int), .int .i64 ((e37 : Nat) : Int)] 106)] F37 (v37) [] [] s trivial (by kernel_rfl) ?_
        replace s := s.drop (List.Sublist.append (List.Sublist.cons₂ _ List.Sublist.slnil) (List.Sublist.refl F37))
        have hm0 : m37 = 0 ∨ e37 ≠ 0 := by have hq0 := of_decide_eq_false hc6; have hq1 := of_decide_eq_true hc39; have hq2 := of_decide_eq_false hc41; have := hi37_0; omega
        have e7 := hi37_4
        rw [dF_done hm0] at e7
        simp only [List.append_nil] at e7
        have e6 : gfD (P.drop at0) e = (Fs37, P.drop A37, e37) := by unfold gfD; rw [(co_smallV h3_0 h3_1 (of_decide_eq_false hc6)), h3_0, h3_2]; exact e7
        exact ⟨_, _, _, rfl, s, ⟨_, _, rfl, rfl, Fs37, e37, A37, rfl, hi37_1, e6, hl9, hi37_2⟩⟩
    ·
      rw [hc39]
      refine ops_rule (C := []) [(z9, .cells #[.slice a k c, .int .i64 ((A37 : Nat) : Int), .int .i64 ((e37 : Nat) : Int)] 106)] F37 6 [] 0 (fun φ55 => [(23, .bool false), (22, undef), (21, undef), (20, undef), (19, undef), (18, undef)]) (fun φ55 => [(z9, .cells #[.slice a k c, .int .i64 ((A37 : Nat) : Int), .int .i64 ((e37 : Nat) : Int)] 106)]) (fun φ55 => []) s trivial (fun φ55 => by kernel_rfl) ?_
      intro φ55 w55 s
      refine ops_done (by kernel_rfl) ?_
      refine cond_false_rule (b := false) (by kernel_rfl) rfl ?_
      refine wp_exit ?_
      refine wp_seq ?_
      refine region_rule ?_
      refine ops_rule (C := []) [(z9, .cells #[.slice a k c, .int .i64 ((A37 : Nat) : Int), .int .i64 ((e37 : Nat) : Int)] 106)] F37 2 [] 0 (fun φ56 => [(2, v37), (39, v37)]) (fun φ56 => [(z9, .cells #[.slice a k c, .int .i64 ((A37 : Nat) : Int), .int .i64 ((e37 : Nat) : Int)] 106)]) (fun φ56 => []) s trivial (fun φ56 => by kernel_rfl) ?_
      intro φ56 w56 s
      refine ops_done (by kernel_rfl) ?_
      refine wp_ret ?_
      refine ret_rule (C := []) [(z9, .cells #[.slice a k c, .int .i64 ((A37 : Nat) : Int), .int .i64 ((e37 : Nat) : Int)] 106)] F37 (v37) [] [] s trivial (by kernel_rfl) ?_
      replace s := s.drop (List.Sublist.append (List.Sublist.cons₂ _ List.Sublist.slnil) (List.Sublist.refl F37))
      have hm0 : m37 = 0 ∨ e37 ≠ 0 := by have hq0 := of_decide_eq_false hc6; have hq1 := of_decide_eq_false hc39; have := hi37_0; omega
      have e7 := hi37_4
      rw [dF_done hm0] at e7
      simp only [List.append_nil] at e7
      have e6 : gfD (P.drop at0) e = (Fs37, P.drop A37, e37) := by unfold gfD; rw [(co_smallV h3_0 h3_1 (of_decide_eq_false hc6)), h3_0, h3_2]; exact e7
      exact ⟨_, _, _, rfl, s, ⟨_, _, rfl, rfl, Fs37, e37, A37, rfl, hi37_1, e6, hl9, hi37_2⟩⟩

end Go.Proofs.YtcpmjogeafhpnaaDoor
