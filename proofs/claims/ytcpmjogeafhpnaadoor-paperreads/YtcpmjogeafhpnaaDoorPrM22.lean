/- A card is read: the document, all of it. -/
import Derived.Test.YtcpmjogeafhpnaaDoorPrR15
import Derived.Test.YtcpmjogeafhpnaaDoorRows
import Derived.ProofKit
import Derived.LaidMore
import Derived.OpenShut
import Derived.Lay
import Derived.Stop.Joined
import Derived.Lib.LaidU8T
import Derived.Test.YtcpmjogeafhpnaaDoorPrM13
set_option linter.all false
set_option maxRecDepth 100000
namespace Go.Proofs.YtcpmjogeafhpnaaDoor
open Go.RowKit Go.Sep
attribute [local irreducible] Go.wpList Go.Code.wp

set_option maxHeartbeats 2000000 in
theorem refReadCard_c {I : IM} {l : List UInt8} {a : Option Addr} {c : Nat} (hl : BSl I l (.slice a l.length c)) (hn9 : l.length ≤ 1000000) : Fun Tryd.prog 39 #[.slice a l.length c] I (fun v J => ∃ (a1 : Option Addr) (c1 : Nat), v = .tuple #[.slice a1 (rcF l).length c1, .int .i64 ((rcE l : Nat) : Int)] ∧ FSl J (rcF l) (.slice a1 (rcF l).length c1)) := by
 refine enter_rule 18 [(0, .slice a l.length c)] Tryd.func39 rfl (by kernel_rfl) ?_
 intro w s
 refine seqR ?_
 refine oKD [] [] 2 [] 0 (fun φ1 => [(3, .int .i64 0), (2, .slice none 0 0)]) (fun φ1 => []) s (fun φ1 => by kernel_rfl) (by kernel_rfl) ?_
 intro φ1 w1 s
 refine seqR ?_
 refine oAD [] [] 4 [] 1 (fun φ2 => [(4, pB (φ2 0)), (9, pB (φ2 0)), (8, .agg #[.slice a l.length c, .int .i64 0, .int .i64 0]), (7, .slice a l.length c)]) (fun φ2 => [(φ2 0, .cells #[.slice a l.length c, .int .i64 0, .int .i64 0] 106)]) (fun φ2 => []) s (fun φ2 => by kernel_rfl) (by kernel_rfl) ?_
 intro φ2 w2 s
 refine seqR ?_
 refine oK _ [] 1 [] 0 (fun φ3 => [(10, pB (φ2 0))]) (fun φ3 => []) s (fun φ3 => by kernel_rfl) ?_
 intro φ3 w3 s
 refine callB_rule (b := (φ2 0, .cells #[.slice a l.length c, .int .i64 0, .int .i64 0] 106)) (F := []) (Hr := []) (some 11) 0 s (by kernel_rfl) (by kernel_rfl) (refGetCard_c (z9 := (φ2 0)) hl hn9) (by kernel_rfl) ?_
 rintro v4 I4 w4 b4 le4 - ⟨Fs4, E4, A4, a4, c4, rfl, rfl, ha4, hg4, hf4⟩ s
 replace hl := BSl.mono le4 hl
 refine oKD _ [] 1 [] 0 (fun φ5 => [(5, .slice a4 ((Fs4).length) c4)]) (fun φ5 => []) s (fun φ5 => by kernel_rfl) (by kernel_rfl) ?_
 intro φ5 w5 s
 refine wp_seq ?_
 refine seqR ?_
 refine oK _ [] 1 [] 0 (fun φ6 => [(12, pB (φ2 0))]) (fun φ6 => []) s (fun φ6 => by kernel_rfl) ?_
 intro φ6 w6 s
 refine callB_rule (b := (φ2 0, .cells #[.slice a l.length c, .int .i64 A4, .int .i64 E4] 106)) (F := []) (Hr := []) (some 13) 0 s (by kernel_rfl) (by kernel_rfl) (rEndV (z9 := (φ2 0)) (at0 := A4) (e := E4) hl hn9 ha4) (by kernel_rfl) ?_
 rintro v7 I7 w7 b7 le7 - h7 s
 replace hf4 := FSl.mono le7 hf4
 obtain ⟨V7, E7, A7, rfl, rfl, h7_0, h7_1, h7_2⟩ := h7
 refine oKD _ [] 1 [] 0 (fun φ8 => [(6, .int .i64 V7)]) (fun φ8 => []) s (fun φ8 => by kernel_rfl) (by kernel_rfl) ?_
 intro φ8 w8 s
 refine seqR ?_
 refine oK _ [] 2 [] 0 (fun φ9 => [(15, .bool (((V7 : Nat) : Int) != ((0 : Nat) : Int))), (14, .int .i64 V7)]) (fun φ9 => []) s (fun φ9 => by kernel_rfl) ?_
 intro φ9 w9 s
 rw [nat_neq (a := V7) (b := 0)]
 refine ops_done (by kernel_rfl) ?_
 rcases Bool.eq_false_or_eq_true (decide (V7 ≠ 0)) with hc10 | hc10
 ·
  rw [hc10]
  refine cond_true_rule (b := true) (by kernel_rfl) rfl ?_
  refine seqR ?_
  refine oKD _ [] 3 [] 0 (fun φ11 => [(3, .int .i64 V7), (2, .slice none 0 0), (16, .int .i64 V7)]) (fun φ11 => []) s (fun φ11 => by kernel_rfl) (by kernel_rfl) ?_
  intro φ11 w11 s
  refine wp_ret ?_
  refine ret_rule (C := []) _ [] (.tuple #[.slice none 0 0, .int .i64 V7]) [] [] s trivial (by kernel_rfl) ?_
  have hr9 : rcE l = enE (l.drop A4) E4 := by unfold rcE; rw [show gcP l = _ from hg4]
  have hz9 := dT9 hc10
  rw [h7_0] at hr9
  have hf9 : rcF l = [] := by unfold rcF; rw [if_neg (by rw [hr9]; exact hz9)]
  rw [hf9, hr9]
  exact ⟨_, _, _, rfl, s, ⟨none, 0, rfl, fsl_nil _⟩⟩
 ·
  rw [hc10]
  refine cond_false_rule (b := false) (by kernel_rfl) rfl ?_
  refine wp_skip ?_
  refine seqR ?_
  refine oKD _ [] 3 [] 0 (fun φ12 => [(3, .int .i64 0), (2, .slice a4 ((Fs4).length) c4), (17, .slice a4 ((Fs4).length) c4)]) (fun φ12 => []) s (fun φ12 => by kernel_rfl) (by kernel_rfl) ?_
  intro φ12 w12 s
  refine wp_ret ?_
  refine ret_rule (C := []) _ [] (.tuple #[.slice a4 ((Fs4).length) c4, .int .i64 0]) [] [] s trivial (by kernel_rfl) ?_
  have hr9 : rcE l = enE (l.drop A4) E4 := by unfold rcE; rw [show gcP l = _ from hg4]
  have hz9 := Decidable.not_not.1 (dF9 hc10)
  rw [h7_0, hz9] at hr9
  have hf9 : rcF l = Fs4 := by unfold rcF; rw [if_pos hr9, show gcP l = _ from hg4]
  rw [hf9, hr9]
  exact ⟨_, _, _, rfl, s, ⟨_, _, rfl, hf4⟩⟩

end Go.Proofs.YtcpmjogeafhpnaaDoor
/- The field of the example. -/
set_option linter.all false
set_option maxRecDepth 100000
namespace Go.Proofs.YtcpmjogeafhpnaaDoor
open Go.RowKit Go.Sep
attribute [local irreducible] Go.wpList Go.Code.wp

def x0 : Fe := ⟨1, [], [65, 110, 110]⟩
/-- the names of the kinds, as they are laid -/
def NmT (I : IM) : Prop := ∃ cs T fr, I 0 = some (.cells cs T fr) ∧ cs[1]? = some (.string ⟨#[110, 97, 109, 101]⟩)
theorem NmT.mono {I J : IM} (le : I.Le J) (h : NmT I) : NmT J := by
  obtain ⟨cs, T, fr, h1, h2⟩ := h
  exact ⟨cs, T, fr, le _ _ h1, h2⟩
theorem nm_ld {I : IM} {w : World} (hs : I.Sub w) (h : NmT I) : (Instr.loadAt 9 (.pointer (some ⟨0, 1, none⟩))).run Tryd.prog w = .ok (.string ⟨#[110, 97, 109, 101]⟩) w := by
  obtain ⟨cs, T, fr, h1, h2⟩ := h
  have c1 := run_cell (a := ⟨0, 1, none⟩) (hs _ _ h1) rfl rfl
  rw [h2] at c1
  have e : (Instr.loadAt 9 (.pointer (some ⟨0, 1, none⟩))).run Tryd.prog w = (load ⟨0, 1, none⟩).run Tryd.prog w := by kernel_rfl
  rw [e]; simp only [load, Sem.run, c1]
theorem u8_mono {I J : IM} (le : I.Le J) (h : Tx.U8 I) : Tx.U8 J := fun w hw => h w (fun k o e => hw k o (le k o e))
theorem fun_mono {P : Program} {f : FuncId} {args : Array Value} {I : IM} {R R' : Value → IM → Prop} (h : Fun P f args I R) (k : ∀ v J, R v J → R' v J) : Fun P f args I R' :=
  fun w hw => (h w hw).mono fun e w' ⟨v, J, H, he, s, q⟩ => ⟨v, J, H, he, s, k v J q⟩
theorem ckNone {I : IM} (hT : Tx.U8 I) : Fun Tryd.prog 60 #[.string ⟨#[]⟩, .int .i64 12] I (fun v J => v = .int .i64 0) :=
  fun_mono (Tx.check_c (l := []) (mi := 12) hT (by decide)) (fun v J h => h.trans (congrArg (fun q : Nat => Value.int .i64 (q : Int)) (show Tx.ckE [] 12 = 0 by decide +kernel)))
theorem ckAnn {I : IM} (hT : Tx.U8 I) : Fun Tryd.prog 60 #[.string ⟨#[65, 110, 110]⟩, .int .i64 40] I (fun v J => v = .int .i64 0) :=
  fun_mono (Tx.check_c (l := [65, 110, 110]) (mi := 40) hT (by decide)) (fun v J h => h.trans (congrArg (fun q : Nat => Value.int .i64 (q : Int)) (show Tx.ckE [65, 110, 110] 40 = 0 by decide +kernel)))
theorem foldAnn {I : IM} : Fun Tryd.prog 100 #[.string ⟨#[65, 110, 110]⟩] I (fun v J => v = .string ⟨#[65, 110, 110]⟩) :=
  fun_mono (Tx.fold_c (l := [65, 110, 110]) (by decide)) (fun v J h => h.trans (congrArg (fun q : List UInt8 => Value.string ⟨q.toArray⟩) (show Tx.fldS [65, 110, 110] = [65, 110, 110] by decide +kernel)))

theorem semlem0 {w : World} : (Instr.indexAt 98 (.pointer (some ⟨0, 0, none⟩)) (.int .i64 1)).run Tryd.prog w = .ok (.pointer (some ⟨0, 1, none⟩)) w := by kernel_rfl
set_option maxHeartbeats 400000 in
theorem kindName_c {I : IM} (hN : NmT I) : Fun Tryd.prog 27 #[.int .i64 1] I (fun v J => v = .string ⟨#[110, 97, 109, 101]⟩) := by
 refine enter_rule 12 [(0, .int .i64 1)] Tryd.func27 rfl (by kernel_rfl) ?_
 intro w s
 refine seqR ?_
 refine oKD [] [] 1 [] 0 (fun φ1 => [(2, .string ⟨#[]⟩)]) (fun φ1 => []) s (fun φ1 => by kernel_rfl) (by kernel_rfl) ?_
 intro φ1 w1 s
 refine wp_seq ?_
 refine seqR ?_
 refine oKD [] [] 6 [] 0 (fun φ2 => [(8, .bool false), (7, .bool false), (6, .int .i64 1), (5, .bool false), (4, .bool false), (3, .int .i64 1)]) (fun φ2 => []) s (fun φ2 => by kernel_rfl) (by kernel_rfl) ?_
 intro φ2 w2 s
 refine cond_false_rule (b := false) (by kernel_rfl) rfl ?_
 refine wp_skip ?_
 refine seqR ?_
 refine oK [] [] 1 [] 0 (fun φ3 => [(9, .int .i64 1)]) (fun φ3 => []) s (fun φ3 => by kernel_rfl) ?_
 intro φ3 w3 s
 refine sem_rule (Instr.indexAt 98 (pB 0) (.int .i64 1)) (some 10) (.pointer (some ⟨0, 1, none⟩)) (by kernel_rfl) (semlem0) ?_
 refine sem_rule (Instr.loadAt 9 (.pointer (some ⟨0, 1, none⟩))) (some 11) (.string ⟨#[110, 97, 109, 101]⟩) (by kernel_rfl) (nm_ld s.sub hN) ?_
 refine oKD [] [] 1 [] 0 (fun φ4 => [(2, .string ⟨#[110, 97, 109, 101]⟩)]) (fun φ4 => []) s (fun φ4 => by kernel_rfl) (by kernel_rfl) ?_
 intro φ4 w4 s
 refine wp_ret ?_
 refine ret_rule (C := []) [] [] (.string ⟨#[110, 97, 109, 101]⟩) [] [] s trivial (by kernel_rfl) ?_
 exact ⟨_, _, _, rfl, s, rfl⟩

theorem semlem1 {w : World} : (binOp .eql 9 (.string ⟨#[65, 110, 110]⟩) (.string ⟨#[]⟩)).run Tryd.prog w = .ok (.bool false) w := by kernel_rfl
theorem semlem2 {w : World} : (binOp .neq 9 (.string ⟨#[65, 110, 110]⟩) (.string ⟨#[65, 110, 110]⟩)).run Tryd.prog w = .ok (.bool false) w := by kernel_rfl
set_option maxHeartbeats 1000000 in
theorem fits_c {I : IM} : Fun Tryd.prog 61 #[.agg #[.int .i64 1, .string ⟨#[]⟩, .string ⟨#[65, 110, 110]⟩]] I (fun v J => v = .bool true) := by
 refine enter_rule 29 [(0, .agg #[.int .i64 1, .string ⟨#[]⟩, .string ⟨#[65, 110, 110]⟩])] Tryd.func61 rfl (by kernel_rfl) ?_
 intro w s
 refine seqR ?_
 refine oAD [] [] 2 [] 1 (fun φ1 => [(2, .bool false), (1, pB (φ1 0))]) (fun φ1 => [(φ1 0, .cells #[.int .i64 1, .string ⟨#[]⟩, .string ⟨#[65, 110, 110]⟩] 39)]) (fun φ1 => []) s (fun φ1 => by kernel_rfl) (by kernel_rfl) ?_
 intro φ1 w1 s
 refine wp_seq ?_
 refine wp_block ?_
 refine wp_seq ?_
 refine draw_rule (C := []) ⟨(fun φ2 xs2 => [.look 0 [] [], .look 0 [.o 0] [(φ1 0)], .ran (binOp .eql 9 (.string ⟨#[65, 110, 110]⟩) (.string ⟨#[]⟩)), .look 0 [] [], .look 0 [] [], .look 0 [.o 0] [(φ1 0)], .look 0 [] [], .look 0 [.o 0] [(φ1 0)], .call 100 #[.string ⟨#[65, 110, 110]⟩], .ran (binOp .neq 9 (.string ⟨#[65, 110, 110]⟩) (.string ⟨#[65, 110, 110]⟩)), .look 0 [] [], .look 0 [] []]), (fun φ2 xs2 => [.pointer (some ⟨(φ1 0), 2, none⟩), .string ⟨#[65, 110, 110]⟩, .bool false, .bool false, .pointer (some ⟨(φ1 0), 2, none⟩), .string ⟨#[65, 110, 110]⟩, .pointer (some ⟨(φ1 0), 2, none⟩), .string ⟨#[65, 110, 110]⟩, .string ⟨#[65, 110, 110]⟩, .bool false, .bool false, .bool false]), (fun φ2 xs2 => [[(φ1 0, .cells #[.int .i64 1, .string ⟨#[]⟩, .string ⟨#[65, 110, 110]⟩] 39)]]), (fun φ2 xs2 => [[default, default, default, default, default, default, default, default, default, default, default, default]]), [], [1, 1, 6, 1, 1, 1, 1, 1, 3, 6, 1, 1]⟩ (fun j => ([MP.any] : List MP).getD j MP.any) [8] [] [2, 9] (fun φ2 xs2 => []) (fun φ2 xs2 => [(4, .pointer (some ⟨(φ1 0), 2, none⟩)), (5, .string ⟨#[65, 110, 110]⟩), (6, .bool false), (7, .bool false), (8, .pointer (some ⟨(φ1 0), 2, none⟩)), (9, .string ⟨#[65, 110, 110]⟩), (10, .pointer (some ⟨(φ1 0), 2, none⟩)), (11, .string ⟨#[65, 110, 110]⟩), (12, .string ⟨#[65, 110, 110]⟩), (13, .bool false), (14, .bool false), (3, .bool false)]) (fun φ2 xs2 => [(φ1 0, .cells #[.int .i64 1, .string ⟨#[]⟩, .string ⟨#[65, 110, 110]⟩] 39)]) s trivial (by kernel_rfl) (by kernel_rfl) (fun _ _ => by kernel_rfl) (fun _ _ => by kernel_rfl) ⟨fun _ _ => by kernel_rfl, fun _ _ => by kernel_rfl, fun _ _ => by kernel_rfl, fun _ _ => by kernel_rfl⟩ (fun _ _ _ => by kernel_rfl) (fun _ _ => by kernel_rfl) (fun _ _ => by kernel_rfl) (fun _ _ => by kernel_rfl) (fun _ _ => by kernel_rfl) (fun _ _ => by kernel_rfl) trivial ⟨kcast (A := ∀ (φ2 : Nat → Nat) (xs2 : Xs) (J : IM) (w : World), I.Le J → J.Sub w → ((binOp .eql 9 (.string ⟨#[65, 110, 110]⟩) (.string ⟨#[]⟩)) : Sem Value).run Tryd.prog w = .ok (.bool false) w) (by kernel_rfl) (fun φ2 xs2 J w hJ hS => semlem1), ⟨kcast (A := ∀ (φ2 : Nat → Nat) (xs2 : Xs) (J : IM) (w : World), I.Le J → J.Sub w → ((binOp .neq 9 (.string ⟨#[65, 110, 110]⟩) (.string ⟨#[65, 110, 110]⟩)) : Sem Value).run Tryd.prog w = .ok (.bool false) w) (by kernel_rfl) (fun φ2 xs2 J w hJ hS => semlem2), trivial⟩⟩ (by kernel_rfl) ⟨?c2_8, trivial⟩ ?k2
 case c2_8 =>
  refine kcast (A := ∀ (φ2 : Nat → Nat) (xs2 : Xs) (J8_2 : IM), I.Le J8_2 → Fun Tryd.prog 100 #[.string ⟨#[65, 110, 110]⟩] J8_2 (fun v J' => ∃ x : UX, v = .string ⟨#[65, 110, 110]⟩ ∧ (True))) (by kernel_rfl) ?_
  intro φ2 xs2 J8_2 leJ
  exact Fun.mono (foldAnn) (fun v J' _ h => ⟨UX.d, h, trivial⟩)
 case k2 =>
  rintro φ2 xs2 I2 w2 le2 s _
  refine cond_false_rule (b := false) (by kernel_rfl) rfl ?_
  refine seqR ?_
  refine oKD [(φ1 0, .cells #[.int .i64 1, .string ⟨#[]⟩, .string ⟨#[65, 110, 110]⟩] 39)] [] 4 [.o 0] 0 (fun φ3 => [(15, .bool false), (18, .bool false), (17, .int .i64 1), (16, pB (φ1 0))]) (fun φ3 => [(φ1 0)]) s (fun φ3 => by kernel_rfl) (by kernel_rfl) ?_
  intro φ3 w3 s
  refine cond_false_rule (b := false) (by kernel_rfl) rfl ?_
  refine seqR ?_
  refine oKD _ [] 4 [.o 0] 0 (fun φ4 => [(22, .bool false), (25, .bool false), (24, .int .i64 1), (23, pB (φ1 0))]) (fun φ4 => [(φ1 0)]) s (fun φ4 => by kernel_rfl) (by kernel_rfl) ?_
  intro φ4 w4 s
  refine cond_false_rule (b := false) (by kernel_rfl) rfl ?_
  refine wp_skip ?_
  refine seqR ?_
  refine oKD _ [] 1 [] 0 (fun φ5 => [(2, .bool true)]) (fun φ5 => []) s (fun φ5 => by kernel_rfl) (by kernel_rfl) ?_
  intro φ5 w5 s
  refine wp_ret ?_
  refine ret_rule (C := []) _ [] (.bool true) [] [] s trivial (by kernel_rfl) ?_
  exact ⟨_, _, _, rfl, s, rfl⟩

theorem semlem3 {w : World} : (binOp .eql 9 (.string ⟨#[110, 97, 109, 101]⟩) (.string ⟨#[]⟩)).run Tryd.prog w = .ok (.bool false) w := by kernel_rfl
set_option maxHeartbeats 1000000 in
theorem right_c {I : IM} (hN : NmT I) (hT : Tx.U8 I) : Fun Tryd.prog 22 #[.agg #[.int .i64 1, .string ⟨#[]⟩, .string ⟨#[65, 110, 110]⟩]] I (fun v J => v = .int .i64 0) := by
 refine enter_rule 24 [(0, .agg #[.int .i64 1, .string ⟨#[]⟩, .string ⟨#[65, 110, 110]⟩])] Tryd.func22 rfl (by kernel_rfl) ?_
 intro w s
 refine seqR ?_
 refine oAD [] [] 2 [] 1 (fun φ1 => [(2, .int .i64 0), (1, pB (φ1 0))]) (fun φ1 => [(φ1 0, .cells #[.int .i64 1, .string ⟨#[]⟩, .string ⟨#[65, 110, 110]⟩] 39)]) (fun φ1 => []) s (fun φ1 => by kernel_rfl) (by kernel_rfl) ?_
 intro φ1 w1 s
 refine wp_seq ?_
 refine seqR ?_
 refine oK _ [] 2 [.o 0] 0 (fun φ2 => [(6, .int .i64 1), (5, pB (φ1 0))]) (fun φ2 => [(φ1 0)]) s (fun φ2 => by kernel_rfl) ?_
 intro φ2 w2 s
 refine call_rule (some 7) s (kindName_c hN) (by kernel_rfl) ?_
 intro v3 I3 w3 le3 h3 s
 replace hT := u8_mono le3 hT
 obtain rfl := h3
 refine sem_rule (binOp .eql 9 (.string ⟨#[110, 97, 109, 101]⟩) (.string ⟨#[]⟩)) (some 8) (.bool false) (by kernel_rfl) (semlem3) ?_
 refine ops_done (by kernel_rfl) ?_
 refine cond_false_rule (b := false) (by kernel_rfl) rfl ?_
 refine wp_skip ?_
 refine wp_seq ?_
 refine seqR ?_
 refine oK _ [] 2 [.o 0] 0 (fun φ4 => [(10, .string ⟨#[]⟩), (9, .pointer (some ⟨(φ1 0), 1, none⟩))]) (fun φ4 => [(φ1 0)]) s (fun φ4 => by kernel_rfl) ?_
 intro φ4 w4 s
 refine call_rule (some 11) s (ckNone hT) (by kernel_rfl) ?_
 intro v5 I5 w5 le5 h5 s
 replace hT := u8_mono le5 hT
 obtain rfl := h5
 refine oKD _ [] 1 [] 0 (fun φ6 => [(3, .int .i64 0)]) (fun φ6 => []) s (fun φ6 => by kernel_rfl) (by kernel_rfl) ?_
 intro φ6 w6 s
 refine seqR ?_
 refine oKD _ [] 2 [] 0 (fun φ7 => [(13, .bool false), (12, .int .i64 0)]) (fun φ7 => []) s (fun φ7 => by kernel_rfl) (by kernel_rfl) ?_
 intro φ7 w7 s
 refine cond_false_rule (b := false) (by kernel_rfl) rfl ?_
 refine wp_skip ?_
 refine wp_seq ?_
 refine seqR ?_
 refine oK _ [] 2 [.o 0] 0 (fun φ8 => [(16, .string ⟨#[65, 110, 110]⟩), (15, .pointer (some ⟨(φ1 0), 2, none⟩))]) (fun φ8 => [(φ1 0)]) s (fun φ8 => by kernel_rfl) ?_
 intro φ8 w8 s
 refine call_rule (some 17) s (ckAnn hT) (by kernel_rfl) ?_
 intro v9 I9 w9 le9 h9 s
 obtain rfl := h9
 refine oKD _ [] 1 [] 0 (fun φ10 => [(4, .int .i64 0)]) (fun φ10 => []) s (fun φ10 => by kernel_rfl) (by kernel_rfl) ?_
 intro φ10 w10 s
 refine seqR ?_
 refine oKD _ [] 2 [] 0 (fun φ11 => [(19, .bool false), (18, .int .i64 0)]) (fun φ11 => []) s (fun φ11 => by kernel_rfl) (by kernel_rfl) ?_
 intro φ11 w11 s
 refine cond_false_rule (b := false) (by kernel_rfl) rfl ?_
 refine wp_skip ?_
 refine wp_seq ?_
 refine seqR ?_
 refine oK _ [] 1 [.o 0, .o 0, .o 0] 0 (fun φ12 => [(21, .agg #[.int .i64 1, .string ⟨#[]⟩, .string ⟨#[65, 110, 110]⟩])]) (fun φ12 => [φ1 0, φ1 0, φ1 0]) s (fun φ12 => by kernel_rfl) ?_
 intro φ12 w12 s
 refine call_rule (some 22) s (fits_c) (by kernel_rfl) ?_
 intro v13 I13 w13 le13 h13 s
 obtain rfl := h13
 refine oKD _ [] 1 [] 0 (fun φ14 => [(23, .bool false)]) (fun φ14 => []) s (fun φ14 => by kernel_rfl) (by kernel_rfl) ?_
 intro φ14 w14 s
 refine cond_false_rule (b := false) (by kernel_rfl) rfl ?_
 refine wp_skip ?_
 refine seqR ?_
 refine oKD _ [] 1 [] 0 (fun φ15 => [(2, .int .i64 0)]) (fun φ15 => []) s (fun φ15 => by kernel_rfl) (by kernel_rfl) ?_
 intro φ15 w15 s
 refine wp_ret ?_
 refine ret_rule (C := []) _ [] (.int .i64 0) [] [] s trivial (by kernel_rfl) ?_
 exact ⟨_, _, _, rfl, s, rfl⟩

end Go.Proofs.YtcpmjogeafhpnaaDoor
/- The card of the example. -/
set_option linter.all false
set_option maxRecDepth 100000
namespace Go.Proofs.YtcpmjogeafhpnaaDoor
open Go.RowKit Go.Sep
attribute [local irreducible] Go.wpList Go.Code.wp

theorem fsl_rb {I : IM} {k : Nat} (h : I k = some (.cells #[.int .i64 1, .string ⟨#[]⟩, .string ⟨#[65, 110, 110]⟩] 39)) : FSl I [x0] (.slice (some ⟨k, 0, none⟩) 1 1) := by
  refine ⟨some ⟨k, 0, none⟩, 1, rfl, Nat.le_refl _, fun j x hj => ?_⟩
  match j with
  | 0 => simp only [List.getElem?_cons_zero, Option.some.injEq] at hj; subst hj; exact ⟨k, 0, _, 39, (0, 0), rfl, h, rfl, rfl, rfl⟩
  | j + 1 => simp at hj
theorem fsl_addr {I : IM} {x : Fe} {a : Option Addr} {c : Nat} (h : FSl I [x] (.slice a 1 c)) : ∃ b o, a = some ⟨b, o, none⟩ := by
  obtain ⟨a', c', hv, hc, hr⟩ := h
  cases hv
  obtain ⟨b, o, cs, T, fr, rfl, h2⟩ := hr 0 x rfl
  exact ⟨b, o, rfl⟩
theorem row_one39 {v : Value} {F : List OB} (h : RowH 39 3 v (0 + 1) ([] ++ fc x0) F) : RowH 39 3 v 1 (fcs [x0]) F := h

set_option maxHeartbeats 1000000 in
theorem search_c {I : IM} : Fun Tryd.prog 97 #[.slice none 0 0, .agg #[.int .i64 1, .string ⟨#[]⟩, .string ⟨#[65, 110, 110]⟩], .func (.func 72) #[] #[]] I (fun v J => v = .tuple #[.int .i64 0, .bool false]) := by
 refine enter_rule 49 [(0, .slice none 0 0), (1, .agg #[.int .i64 1, .string ⟨#[]⟩, .string ⟨#[65, 110, 110]⟩]), (2, .func (.func 72) #[] #[])] Tryd.func97 rfl (by kernel_rfl) ?_
 intro w s
 refine seqR ?_
 refine oAD [] [] 3 [] 1 (fun φ1 => [(7, .bool false), (6, .int .i64 0), (4, pB (φ1 0))]) (fun φ1 => [(φ1 0, .cells #[.int .i64 1, .string ⟨#[]⟩, .string ⟨#[65, 110, 110]⟩] 39)]) (fun φ1 => []) s (fun φ1 => by kernel_rfl) (by kernel_rfl) ?_
 intro φ1 w1 s
 refine seqR ?_
 refine oKD _ [] 3 [] 0 (fun φ2 => [(8, .int .i64 0), (13, .int .i64 0), (12, .slice none 0 0)]) (fun φ2 => []) s (fun φ2 => by kernel_rfl) (by kernel_rfl) ?_
 intro φ2 w2 s
 refine seqR ?_
 refine oKD _ [] 3 [] 0 (fun φ3 => [(10, .int .i64 0), (9, .int .i64 0), (14, .int .i64 0)]) (fun φ3 => []) s (fun φ3 => by kernel_rfl) (by kernel_rfl) ?_
 intro φ3 w3 s
 refine wp_seq ?_
 refine wp_block ?_
 refine Go.wp_loop_rounds 1 ?_
 refine rounds_step (n := 0) ?_
 refine wp_seq ?_
 refine seqR ?_
 refine oKD _ [] 3 [] 0 (fun φ4 => [(17, .bool false), (16, .int .i64 0), (15, .int .i64 0)]) (fun φ4 => []) s (fun φ4 => by kernel_rfl) (by kernel_rfl) ?_
 intro φ4 w4 s
 refine cond_false_rule (b := false) (by kernel_rfl) rfl ?_
 refine wp_exit ?_
 refine wp_seq ?_
 refine draw_rule (C := []) ⟨(fun φ5 xs5 => [.look 0 [] [], .look 0 [] [], .look 0 [] [], .look 0 [] [], .look 0 [] [], .skip, .skip, .skip, .skip, .skip, .skip, .skip, .skip, .look 0 [] [], .look 0 [] [], .look 0 [] []]), (fun φ5 xs5 => [.int .i64 0, .int .i64 0, .int .i64 0, .bool false, .bool false, undef, undef, undef, undef, undef, undef, undef, undef, .bool false, .int .i64 0, .bool false]), (fun φ5 xs5 => [[(φ1 0, .cells #[.int .i64 1, .string ⟨#[]⟩, .string ⟨#[65, 110, 110]⟩] 39)]]), (fun φ5 xs5 => [[default, default, default, default, default, default, default, default, default, default, default, default, default, default, default, default]]), [], [1, 1, 1, 1, 1, 0, 0, 0, 0, 0, 0, 0, 0, 1, 1, 1]⟩ (fun j => ([MP.any] : List MP).getD j MP.any) [] [] [] (fun φ5 xs5 => []) (fun φ5 xs5 => [(35, .int .i64 0), (36, .int .i64 0), (37, .int .i64 0), (38, .bool false), (39, .bool false), (40, undef), (41, undef), (42, undef), (43, undef), (44, undef), (45, undef), (46, undef), (47, undef), (48, .bool false), (6, .int .i64 0), (7, .bool false)]) (fun φ5 xs5 => [(φ1 0, .cells #[.int .i64 1, .string ⟨#[]⟩, .string ⟨#[65, 110, 110]⟩] 39)]) s trivial (by kernel_rfl) (by kernel_rfl) (fun _ _ => by kernel_rfl) (fun _ _ => by kernel_rfl) ⟨fun _ _ => by kernel_rfl, fun _ _ => by kernel_rfl, fun _ _ => by kernel_rfl, fun _ _ => by kernel_rfl⟩ (fun _ _ _ => by kernel_rfl) (fun _ _ => by kernel_rfl) (fun _ _ => by kernel_rfl) (fun _ _ => by kernel_rfl) (fun _ _ => by kernel_rfl) (fun _ _ => by kernel_rfl) trivial trivial (by kernel_rfl) trivial ?k5
 case k5 =>
  rintro φ5 xs5 I5 w5 le5 s 
  refine wp_ret ?_
  refine ret_rule (C := []) [(φ1 0, .cells #[.int .i64 1, .string ⟨#[]⟩, .string ⟨#[65, 110, 110]⟩] 39)] [] (.tuple #[.int .i64 0, .bool false]) [] [] s trivial (by kernel_rfl) ?_
  exact ⟨_, _, _, rfl, s, rfl⟩

theorem semlem4 {w : World} : (Instr.sliceAt 22 (.slice none 0 0) (some (.int .i64 0)) none none).run Tryd.prog w = .ok (.slice none 0 0) w := by kernel_rfl
set_option maxHeartbeats 1000000 in
theorem insert_c {I : IM} {a0 : Option Addr} {c0 : Nat} (h0 : FSl I [x0] (.slice a0 1 c0)) : Fun Tryd.prog 98 #[.slice none 0 0, .int .i64 0, .slice a0 1 c0] I (fun v J => ∃ a c, v = .slice a 1 c ∧ FSl J [x0] (.slice a 1 c)) := by
 refine enter_rule 95 [(0, .slice none 0 0), (1, .int .i64 0), (2, .slice a0 1 c0)] Tryd.func98 rfl (by kernel_rfl) ?_
 intro w s
 refine seqR ?_
 refine oKD [] [] 1 [] 0 (fun φ1 => [(6, .slice none 0 0)]) (fun φ1 => []) s (fun φ1 => by kernel_rfl) (by kernel_rfl) ?_
 intro φ1 w1 s
 refine seqR ?_
 refine oK [] [] 2 [] 0 (fun φ2 => [(11, .int .i64 0), (10, .slice none 0 0)]) (fun φ2 => []) s (fun φ2 => by kernel_rfl) ?_
 intro φ2 w2 s
 refine sem_rule (Instr.sliceAt 22 (.slice none 0 0) (some (.int .i64 0)) none none) (some 12) (.slice none 0 0) (by kernel_rfl) (semlem4) ?_
 refine ops_done (by kernel_rfl) ?_
 refine seqR ?_
 refine oKD [] [] 3 [] 0 (fun φ3 => [(7, .int .i64 1), (14, .int .i64 1), (13, .slice a0 1 c0)]) (fun φ3 => []) s (fun φ3 => by kernel_rfl) (by kernel_rfl) ?_
 intro φ3 w3 s
 refine wp_seq ?_
 refine seqR ?_
 refine oKD [] [] 2 [] 0 (fun φ4 => [(16, .bool false), (15, .int .i64 1)]) (fun φ4 => []) s (fun φ4 => by kernel_rfl) (by kernel_rfl) ?_
 intro φ4 w4 s
 refine cond_false_rule (b := false) (by kernel_rfl) rfl ?_
 refine wp_skip ?_
 refine seqR ?_
 refine oKD [] [] 3 [] 0 (fun φ5 => [(8, .int .i64 0), (19, .int .i64 0), (18, .slice none 0 0)]) (fun φ5 => []) s (fun φ5 => by kernel_rfl) (by kernel_rfl) ?_
 intro φ5 w5 s
 refine wp_seq ?_
 refine seqR ?_
 refine oKD [] [] 3 [] 0 (fun φ6 => [(22, .bool true), (21, .int .i64 0), (20, .int .i64 0)]) (fun φ6 => []) s (fun φ6 => by kernel_rfl) (by kernel_rfl) ?_
 intro φ6 w6 s
 refine cond_true_rule (b := true) (by kernel_rfl) rfl ?_
 refine seqR ?_
 refine oK [] [] 2 [] 0 (fun φ7 => [(24, .slice a0 1 c0), (23, .slice none 0 0)]) (fun φ7 => []) s (fun φ7 => by kernel_rfl) ?_
 intro φ7 w7 s
 refine append_rule (H := []) (F := []) 22 22 39 Tryd.t39 (.agg #[.int .i64 0, .string ⟨#[]⟩, .string ⟨#[]⟩]) 3 40 (some 25) s Tryd.underlying22 (by kernel_rfl) (by kernel_rfl) (by kernel_rfl) (by kernel_rfl) (by kernel_rfl) (by decide) (RowH.nil 39 3) (src_fsl s.sub h0) (by simp only [maxLen]; omega) (by omega) (by kernel_rfl) ?_
 intro v8 w8 F8 s h8
 obtain ⟨J8, le8, hk8, s⟩ := freeze_row39 (H := []) (F := F8) s (row_one39 h8)
 obtain ⟨a8, c8, hv8, -, hk8⟩ := hk8.open
 subst hv8
 replace hk8 : FSl J8 [x0] (.slice a8 1 c8) := hk8
 refine oKD [] [] 1 [] 0 (fun φ9 => [(6, .slice a8 1 c8)]) (fun φ9 => []) s (fun φ9 => by kernel_rfl) (by kernel_rfl) ?_
 intro φ9 w9 s
 refine wp_ret ?_
 refine ret_rule (C := []) [] [] (.slice a8 1 c8) [] [] s trivial (by kernel_rfl) ?_
 exact ⟨_, _, _, rfl, s, ⟨_, _, rfl, hk8⟩⟩

theorem semlem5 {w : World} {b0 c0 o0 : Nat} : (binOp .eql 22 (.slice (some ⟨b0, o0, none⟩) 1 c0) (.slice none 0 0)).run Tryd.prog w = .ok (.bool false) w := by kernel_rfl
set_option maxHeartbeats 1000000 in
theorem cloneF1_c {I : IM} {a0 : Option Addr} {c0 : Nat} (h0 : FSl I [x0] (.slice a0 1 c0)) : Fun Tryd.prog 59 #[.slice a0 1 c0] I (fun v J => ∃ a c, v = .slice a 1 c ∧ FSl J [x0] (.slice a 1 c)) := by
 obtain ⟨b0, o0, rfl⟩ := fsl_addr h0
 refine enter_rule 8 [(0, .slice (some ⟨b0, o0, none⟩) 1 c0)] Tryd.func59 rfl (by kernel_rfl) ?_
 intro w s
 refine seqR ?_
 refine oKD [] [] 1 [] 0 (fun φ1 => [(2, .slice none 0 0)]) (fun φ1 => []) s (fun φ1 => by kernel_rfl) (by kernel_rfl) ?_
 intro φ1 w1 s
 refine wp_seq ?_
 refine seqR ?_
 refine oK [] [] 1 [] 0 (fun φ2 => [(3, .slice (some ⟨b0, o0, none⟩) 1 c0)]) (fun φ2 => []) s (fun φ2 => by kernel_rfl) ?_
 intro φ2 w2 s
 refine sem_rule (binOp .eql 22 (.slice (some ⟨b0, o0, none⟩) 1 c0) (.slice none 0 0)) (some 4) (.bool false) (by kernel_rfl) (semlem5) ?_
 refine ops_done (by kernel_rfl) ?_
 refine cond_false_rule (b := false) (by kernel_rfl) rfl ?_
 refine wp_skip ?_
 refine seqR ?_
 refine oA [] [] 2 [] 1 (fun φ3 => [(6, .slice (some ⟨b0, o0, none⟩) 1 c0), (5, .slice (some ⟨(φ3 0), 0, none⟩) 0 0)]) (fun φ3 => [(φ3 0, .cells #[] 39)]) (fun φ3 => []) s (fun φ3 => by kernel_rfl) ?_
 intro φ3 w3 s
 refine append_rule (H := []) (F := [(φ3 0, .cells #[] 39)]) 22 22 39 Tryd.t39 (.agg #[.int .i64 0, .string ⟨#[]⟩, .string ⟨#[]⟩]) 3 40 (some 7) s Tryd.underlying22 (by kernel_rfl) (by kernel_rfl) (by kernel_rfl) (by kernel_rfl) (by kernel_rfl) (by decide) (row_new39 (φ3 0)) (src_fsl s.sub h0) (by simp only [maxLen]; omega) (by omega) (by kernel_rfl) ?_
 intro v4 w4 F4 s h4
 obtain ⟨J4, le4, hk4, s⟩ := freeze_row39 (H := []) (F := F4) s (row_one39 h4)
 obtain ⟨a4, c4, hv4, -, hk4⟩ := hk4.open
 subst hv4
 replace hk4 : FSl J4 [x0] (.slice a4 1 c4) := hk4
 refine oKD [] [] 1 [] 0 (fun φ5 => [(2, .slice a4 1 c4)]) (fun φ5 => []) s (fun φ5 => by kernel_rfl) (by kernel_rfl) ?_
 intro φ5 w5 s
 refine wp_ret ?_
 refine ret_rule (C := []) [] [] (.slice a4 1 c4) [] [] s trivial (by kernel_rfl) ?_
 exact ⟨_, _, _, rfl, s, ⟨_, _, rfl, hk4⟩⟩

set_option maxHeartbeats 1000000 in
theorem fieldsF1_c {I : IM} {a0 : Option Addr} {c0 : Nat} (h0 : FSl I [x0] (.slice a0 1 c0)) : Fun Tryd.prog 19 #[.agg #[.slice a0 1 c0]] I (fun v J => ∃ a c, v = .slice a 1 c ∧ FSl J [x0] (.slice a 1 c)) := by
 refine enter_rule 6 [(0, .agg #[.slice a0 1 c0])] Tryd.func19 rfl (by kernel_rfl) ?_
 intro w s
 refine seqR ?_
 refine oAD [] [] 2 [] 1 (fun φ1 => [(2, .slice none 0 0), (1, pB (φ1 0))]) (fun φ1 => [(φ1 0, .cells #[.slice a0 1 c0] 26)]) (fun φ1 => []) s (fun φ1 => by kernel_rfl) (by kernel_rfl) ?_
 intro φ1 w1 s
 refine seqR ?_
 refine oK _ [] 2 [.o 0] 0 (fun φ2 => [(4, .slice a0 1 c0), (3, pB (φ1 0))]) (fun φ2 => [(φ1 0)]) s (fun φ2 => by kernel_rfl) ?_
 intro φ2 w2 s
 refine call_rule (some 5) s (cloneF1_c h0) (by kernel_rfl) ?_
 intro v3 I3 w3 le3 h3 s
 obtain ⟨a3, c3, rfl, h3_0⟩ := h3
 refine oKD _ [] 1 [] 0 (fun φ4 => [(2, .slice a3 1 c3)]) (fun φ4 => []) s (fun φ4 => by kernel_rfl) (by kernel_rfl) ?_
 intro φ4 w4 s
 refine wp_ret ?_
 refine ret_rule (C := []) _ [] (.slice a3 1 c3) [] [] s trivial (by kernel_rfl) ?_
 exact ⟨_, _, _, rfl, s, ⟨_, _, rfl, h3_0⟩⟩

set_option maxHeartbeats 2000000 in
theorem of_c {I : IM} {a0 : Option Addr} {c0 : Nat} (h0 : FSl I [x0] (.slice a0 1 c0)) : Fun Tryd.prog 57 #[.slice a0 1 c0] I (fun v J => ∃ a c, v = .tuple #[.agg #[.slice a 1 c], .int .i64 0] ∧ FSl J [x0] (.slice a 1 c)) := by
 refine enter_rule 34 [(0, .slice a0 1 c0)] Tryd.func57 rfl (by kernel_rfl) ?_
 intro w s
 refine seqR ?_
 refine oAD [] [] 2 [] 1 (fun φ1 => [(3, .int .i64 0), (2, pB (φ1 0))]) (fun φ1 => [(φ1 0, .cells #[.slice none 0 0] 26)]) (fun φ1 => []) s (fun φ1 => by kernel_rfl) (by kernel_rfl) ?_
 intro φ1 w1 s
 refine seqR ?_
 refine oKD _ [] 1 [] 0 (fun φ2 => [(4, .slice none 0 0)]) (fun φ2 => []) s (fun φ2 => by kernel_rfl) (by kernel_rfl) ?_
 intro φ2 w2 s
 refine wp_seq ?_
 refine seqR ?_
 refine oKD _ [] 3 [] 0 (fun φ3 => [(11, .int .i64 0), (10, .int .i64 1), (9, .slice a0 1 c0)]) (fun φ3 => []) s (fun φ3 => by kernel_rfl) (by kernel_rfl) ?_
 intro φ3 w3 s
 refine wp_block ?_
 refine Go.wp_loop_rounds 2 ?_
 refine rounds_step (n := 1) ?_
 refine seqR ?_
 refine oKD _ [] 1 [] 0 (fun φ4 => [(12, .bool true)]) (fun φ4 => []) s (fun φ4 => by kernel_rfl) (by kernel_rfl) ?_
 intro φ4 w4 s
 refine wp_seq ?_
 refine cond_true_rule (b := true) (by kernel_rfl) rfl ?_
 refine wp_skip ?_
 refine wp_seq ?_
 refine wp_block ?_
 refine seqR ?_
 refine sem_rule (Instr.indexAt 22 (.slice a0 1 c0) (.int .i64 0)) (some 13) (.pointer (pAt a0 (0 * 3))) (by kernel_rfl) (fsl_idx22 (i := 0) h0 (by decide)) ?_
 refine sem_rule (Instr.loadAt 39 (.pointer (pAt a0 (0 * 3)))) (some 14) (.agg #[.int .i64 1, .string ⟨#[]⟩, .string ⟨#[65, 110, 110]⟩]) (by kernel_rfl) (fsl_ld39 (i := 0) s.sub h0 (by decide)) ?_
 refine oAD _ [] 2 [.o 1, .o 1, .o 1] 1 (fun φ5 => [(6, pB (φ5 0))]) (fun φ5 => [(φ1 0, .cells #[.slice none 0 0] 26), (φ5 0, .cells #[.int .i64 1, .string ⟨#[]⟩, .string ⟨#[65, 110, 110]⟩] 39)]) (fun φ5 => [φ5 0, φ5 0, φ5 0]) s (fun φ5 => by kernel_rfl) (by kernel_rfl) ?_
 intro φ5 w5 s
 refine seqR ?_
 refine oK _ [] 2 [.o 1, .o 1, .o 1] 0 (fun φ6 => [(17, .agg #[.int .i64 1, .string ⟨#[]⟩, .string ⟨#[65, 110, 110]⟩]), (16, .slice none 0 0)]) (fun φ6 => [φ5 0, φ5 0, φ5 0]) s (fun φ6 => by kernel_rfl) ?_
 intro φ6 w6 s
 refine call_rule (some 18) s (search_c) (by kernel_rfl) ?_
 intro v7 I7 w7 le7 h7 s
 obtain rfl := h7
 refine oKD _ [] 5 [] 0 (fun φ8 => [(8, .bool false), (7, .int .i64 0), (20, .bool false), (19, .int .i64 0), (15, .tuple #[.int .i64 0, .bool false])]) (fun φ8 => []) s (fun φ8 => by kernel_rfl) (by kernel_rfl) ?_
 intro φ8 w8 s
 refine wp_seq ?_
 refine seqR ?_
 refine oKD _ [] 1 [] 0 (fun φ9 => [(21, .bool false)]) (fun φ9 => []) s (fun φ9 => by kernel_rfl) (by kernel_rfl) ?_
 intro φ9 w9 s
 refine cond_false_rule (b := false) (by kernel_rfl) rfl ?_
 refine wp_skip ?_
 refine wp_seq ?_
 refine seqR ?_
 refine oKD _ [] 3 [] 0 (fun φ10 => [(24, .bool false), (23, .int .i64 0), (22, .slice none 0 0)]) (fun φ10 => []) s (fun φ10 => by kernel_rfl) (by kernel_rfl) ?_
 intro φ10 w10 s
 refine cond_false_rule (b := false) (by kernel_rfl) rfl ?_
 refine wp_skip ?_
 refine region_rule ?_
 refine oA _ [] 4 [.o 1, .o 1, .o 1] 1 (fun φ11 => [(29, .slice (some ⟨(φ11 0), 0, none⟩) 1 1), (28, .agg #[.int .i64 1, .string ⟨#[]⟩, .string ⟨#[65, 110, 110]⟩]), (27, .int .i64 0), (26, .slice none 0 0)]) (fun φ11 => [(φ1 0, .cells #[.slice none 0 0] 26), (φ5 0, .cells #[.int .i64 1, .string ⟨#[]⟩, .string ⟨#[65, 110, 110]⟩] 39), (φ11 0, .cells #[.int .i64 1, .string ⟨#[]⟩, .string ⟨#[65, 110, 110]⟩] 39)]) (fun φ11 => [φ5 0, φ5 0, φ5 0]) s (fun φ11 => by kernel_rfl) ?_
 intro φ11 w11 s
 obtain ⟨I12, le12, hk12, s⟩ := s.freezeAt 2 (φ11 0) (.cells #[.int .i64 1, .string ⟨#[]⟩, .string ⟨#[65, 110, 110]⟩] 39) [((φ1 0), .cells #[.slice none 0 0] 26), ((φ5 0), .cells #[.int .i64 1, .string ⟨#[]⟩, .string ⟨#[65, 110, 110]⟩] 39)] (by kernel_rfl) (by kernel_rfl)
 have hf13 := fsl_rb hk12
 refine call_rule (some 30) s (insert_c hf13) (by kernel_rfl) ?_
 intro v14 I14 w14 le14 h14 s
 obtain ⟨a14, c14, rfl, h14_0⟩ := h14
 refine oKD [(φ1 0, .cells #[.slice none 0 0] 26), (φ5 0, .cells #[.int .i64 1, .string ⟨#[]⟩, .string ⟨#[65, 110, 110]⟩] 39)] [] 1 [] 0 (fun φ15 => [(4, .slice a14 1 c14)]) (fun φ15 => []) s (fun φ15 => by kernel_rfl) (by kernel_rfl) ?_
 intro φ15 w15 s
 refine region_rule ?_
 refine oKD _ [] 2 [] 0 (fun φ16 => [(11, .int .i64 1), (31, .int .i64 1)]) (fun φ16 => []) s (fun φ16 => by kernel_rfl) (by kernel_rfl) ?_
 intro φ16 w16 s
 refine rounds_step (n := 0) ?_
 refine seqR ?_
 refine oKD _ [] 1 [] 0 (fun φ17 => [(12, .bool false)]) (fun φ17 => []) s (fun φ17 => by kernel_rfl) (by kernel_rfl) ?_
 intro φ17 w17 s
 refine wp_seq ?_
 refine cond_false_rule (b := false) (by kernel_rfl) rfl ?_
 refine wp_exit ?_
 refine seqR ?_
 refine oAD _ [] 4 [.o 0] 0 (fun φ18 => [(3, .int .i64 0), (33, .agg #[.slice a14 1 c14]), (32, .slice a14 1 c14)]) (fun φ18 => [(φ1 0, .cells #[.slice a14 1 c14] 26), (φ5 0, .cells #[.int .i64 1, .string ⟨#[]⟩, .string ⟨#[65, 110, 110]⟩] 39)]) (fun φ18 => [(φ1 0)]) s (fun φ18 => by kernel_rfl) (by kernel_rfl) ?_
 intro φ18 w18 s
 refine wp_ret ?_
 refine ret_rule (C := []) _ [] (.tuple #[.agg #[.slice a14 1 c14], .int .i64 0]) [.o 0] [(φ1 0)] s trivial (by kernel_rfl) ?_
 exact ⟨_, _, _, rfl, s, ⟨_, _, rfl, h14_0⟩⟩

set_option maxHeartbeats 2000000 in
theorem make_c {I : IM} {a0 : Option Addr} {c0 : Nat} (h0 : FSl I [x0] (.slice a0 1 c0)) (hN : NmT I) (hT : Tx.U8 I) : Fun Tryd.prog 15 #[.slice a0 1 c0] I (fun v J => ∃ a c, v = .tuple #[.agg #[.slice a 1 c], .int .i64 0] ∧ FSl J [x0] (.slice a 1 c)) := by
 refine enter_rule 24 [(0, .slice a0 1 c0)] Tryd.func15 rfl (by kernel_rfl) ?_
 intro w s
 refine seqR ?_
 refine oAD [] [] 2 [] 1 (fun φ1 => [(3, .int .i64 0), (2, pB (φ1 0))]) (fun φ1 => [(φ1 0, .cells #[.slice none 0 0] 26)]) (fun φ1 => []) s (fun φ1 => by kernel_rfl) (by kernel_rfl) ?_
 intro φ1 w1 s
 refine wp_seq ?_
 refine seqR ?_
 refine oKD _ [] 3 [] 0 (fun φ2 => [(9, .int .i64 0), (8, .int .i64 1), (7, .slice a0 1 c0)]) (fun φ2 => []) s (fun φ2 => by kernel_rfl) (by kernel_rfl) ?_
 intro φ2 w2 s
 refine wp_block ?_
 refine Go.wp_loop_rounds 2 ?_
 refine rounds_step (n := 1) ?_
 refine seqR ?_
 refine oKD _ [] 1 [] 0 (fun φ3 => [(10, .bool true)]) (fun φ3 => []) s (fun φ3 => by kernel_rfl) (by kernel_rfl) ?_
 intro φ3 w3 s
 refine wp_seq ?_
 refine cond_true_rule (b := true) (by kernel_rfl) rfl ?_
 refine wp_skip ?_
 refine wp_seq ?_
 refine wp_block ?_
 refine seqR ?_
 refine sem_rule (Instr.indexAt 22 (.slice a0 1 c0) (.int .i64 0)) (some 11) (.pointer (pAt a0 (0 * 3))) (by kernel_rfl) (fsl_idx22 (i := 0) h0 (by decide)) ?_
 refine sem_rule (Instr.loadAt 39 (.pointer (pAt a0 (0 * 3)))) (some 12) (.agg #[.int .i64 1, .string ⟨#[]⟩, .string ⟨#[65, 110, 110]⟩]) (by kernel_rfl) (fsl_ld39 (i := 0) s.sub h0 (by decide)) ?_
 refine oAD _ [] 2 [.o 1, .o 1, .o 1] 1 (fun φ4 => [(5, pB (φ4 0))]) (fun φ4 => [(φ1 0, .cells #[.slice none 0 0] 26), (φ4 0, .cells #[.int .i64 1, .string ⟨#[]⟩, .string ⟨#[65, 110, 110]⟩] 39)]) (fun φ4 => [φ4 0, φ4 0, φ4 0]) s (fun φ4 => by kernel_rfl) (by kernel_rfl) ?_
 intro φ4 w4 s
 refine seqR ?_
 refine oK _ [] 1 [.o 1, .o 1, .o 1] 0 (fun φ5 => [(13, .agg #[.int .i64 1, .string ⟨#[]⟩, .string ⟨#[65, 110, 110]⟩])]) (fun φ5 => [φ4 0, φ4 0, φ4 0]) s (fun φ5 => by kernel_rfl) ?_
 intro φ5 w5 s
 refine call_rule (some 14) s (right_c hN hT) (by kernel_rfl) ?_
 intro v6 I6 w6 le6 h6 s
 replace h0 := FSl.mono le6 h0
 obtain rfl := h6
 refine oKD _ [] 1 [] 0 (fun φ7 => [(6, .int .i64 0)]) (fun φ7 => []) s (fun φ7 => by kernel_rfl) (by kernel_rfl) ?_
 intro φ7 w7 s
 refine seqR ?_
 refine oKD _ [] 2 [] 0 (fun φ8 => [(16, .bool false), (15, .int .i64 0)]) (fun φ8 => []) s (fun φ8 => by kernel_rfl) (by kernel_rfl) ?_
 intro φ8 w8 s
 refine cond_false_rule (b := false) (by kernel_rfl) rfl ?_
 refine wp_skip ?_
 refine region_rule ?_
 refine oKD _ [] 2 [] 0 (fun φ9 => [(9, .int .i64 1), (19, .int .i64 1)]) (fun φ9 => []) s (fun φ9 => by kernel_rfl) (by kernel_rfl) ?_
 intro φ9 w9 s
 refine rounds_step (n := 0) ?_
 refine seqR ?_
 refine oKD _ [] 1 [] 0 (fun φ10 => [(10, .bool false)]) (fun φ10 => []) s (fun φ10 => by kernel_rfl) (by kernel_rfl) ?_
 intro φ10 w10 s
 refine wp_seq ?_
 refine cond_false_rule (b := false) (by kernel_rfl) rfl ?_
 refine wp_exit ?_
 refine seqR ?_
 refine oK _ [] 1 [] 0 (fun φ11 => [(20, .slice a0 1 c0)]) (fun φ11 => []) s (fun φ11 => by kernel_rfl) ?_
 intro φ11 w11 s
 refine call_rule (some 21) s (of_c h0) (by kernel_rfl) ?_
 intro v12 I12 w12 le12 h12 s
 obtain ⟨a12, c12, rfl, h12_0⟩ := h12
 refine oAD _ [] 4 [.o 0] 0 (fun φ13 => [(3, .int .i64 0), (23, .int .i64 0), (22, .agg #[.slice a12 1 c12])]) (fun φ13 => [(φ1 0, .cells #[.slice a12 1 c12] 26), (φ4 0, .cells #[.int .i64 1, .string ⟨#[]⟩, .string ⟨#[65, 110, 110]⟩] 39)]) (fun φ13 => [(φ1 0)]) s (fun φ13 => by kernel_rfl) (by kernel_rfl) ?_
 intro φ13 w13 s
 refine wp_ret ?_
 refine ret_rule (C := []) _ [] (.tuple #[.agg #[.slice a12 1 c12], .int .i64 0]) [.o 0] [(φ1 0)] s trivial (by kernel_rfl) ?_
 exact ⟨_, _, _, rfl, s, ⟨_, _, rfl, h12_0⟩⟩

end Go.Proofs.YtcpmjogeafhpnaaDoor
/- The example. -/
set_option linter.all false
set_option maxRecDepth 100000
namespace Go.Proofs.YtcpmjogeafhpnaaDoor
open Go.RowKit Go.Sep
attribute [local irreducible] Go.wpList Go.Code.wp

theorem enc_ann : ([] ++ encL [x0]) = ([1, 1, 0, 3, 65, 110, 110] : List UInt8) := by decide +kernel
theorem okx0 : okL [x0] := fun i hi => by
  have : i = 0 := by simp only [List.length_cons, List.length_nil] at hi; omega
  subst this
  exact ⟨by decide, by decide, by decide, by decide⟩

theorem put1_c {I : IM} {a0 : Option Addr} {c0 : Nat} (h0 : FSl I [x0] (.slice a0 1 c0)) : Fun Tryd.prog 82 #[.slice none 0 0, .slice a0 1 c0] I (fun v J => ∃ a c, v = .slice a 7 c ∧ BSl J ([1, 1, 0, 3, 65, 110, 110] : List UInt8) (.slice a 7 c)) := by
  have h := putFields_c (l := []) (L := [x0]) (a := none) (c := 0) (bsl_nil I) (by decide) h0 (by decide) okx0
  rw [enc_ann] at h
  exact h
set_option maxHeartbeats 1000000 in
theorem putCard_c {I : IM} {a0 : Option Addr} {c0 : Nat} (h0 : FSl I [x0] (.slice a0 1 c0)) : Fun Tryd.prog 50 #[.slice none 0 0, .agg #[.slice a0 1 c0]] I (fun v J => ∃ a c, v = .slice a 7 c ∧ BSl J ([1, 1, 0, 3, 65, 110, 110] : List UInt8) (.slice a 7 c)) := by
 refine enter_rule 9 [(0, .slice none 0 0), (1, .agg #[.slice a0 1 c0])] Tryd.func50 rfl (by kernel_rfl) ?_
 intro w s
 refine seqR ?_
 refine oAD [] [] 2 [] 1 (fun φ1 => [(4, .slice none 0 0), (3, pB (φ1 0))]) (fun φ1 => [(φ1 0, .cells #[.slice a0 1 c0] 26)]) (fun φ1 => []) s (fun φ1 => by kernel_rfl) (by kernel_rfl) ?_
 intro φ1 w1 s
 refine seqR ?_
 refine oK _ [] 2 [.o 0] 0 (fun φ2 => [(6, .agg #[.slice a0 1 c0]), (5, .slice none 0 0)]) (fun φ2 => [(φ1 0)]) s (fun φ2 => by kernel_rfl) ?_
 intro φ2 w2 s
 refine call_rule (some 7) s (fieldsF1_c h0) (by kernel_rfl) ?_
 intro v3 I3 w3 le3 h3 s
 obtain ⟨a3, c3, rfl, h3_0⟩ := h3
 refine call_rule (some 8) s (put1_c h3_0) (by kernel_rfl) ?_
 intro v4 I4 w4 le4 h4 s
 obtain ⟨a4, c4, rfl, h4_0⟩ := h4
 refine oKD _ [] 1 [] 0 (fun φ5 => [(4, .slice a4 7 c4)]) (fun φ5 => []) s (fun φ5 => by kernel_rfl) (by kernel_rfl) ?_
 intro φ5 w5 s
 refine wp_ret ?_
 refine ret_rule (C := []) _ [] (.slice a4 7 c4) [] [] s trivial (by kernel_rfl) ?_
 exact ⟨_, _, _, rfl, s, ⟨_, _, rfl, h4_0⟩⟩

set_option maxHeartbeats 1000000 in
theorem card_c {I : IM} {a0 : Option Addr} {c0 : Nat} (h0 : FSl I [x0] (.slice a0 1 c0)) : Fun Tryd.prog 42 #[.agg #[.slice a0 1 c0]] I (fun v J => ∃ a c, v = .slice a 7 c ∧ BSl J ([1, 1, 0, 3, 65, 110, 110] : List UInt8) (.slice a 7 c)) := by
 refine enter_rule 5 [(0, .agg #[.slice a0 1 c0])] Tryd.func42 rfl (by kernel_rfl) ?_
 intro w s
 refine seqR ?_
 refine oAD [] [] 2 [] 1 (fun φ1 => [(2, .slice none 0 0), (1, pB (φ1 0))]) (fun φ1 => [(φ1 0, .cells #[.slice a0 1 c0] 26)]) (fun φ1 => []) s (fun φ1 => by kernel_rfl) (by kernel_rfl) ?_
 intro φ1 w1 s
 refine seqR ?_
 refine oK _ [] 1 [.o 0] 0 (fun φ2 => [(3, .agg #[.slice a0 1 c0])]) (fun φ2 => [(φ1 0)]) s (fun φ2 => by kernel_rfl) ?_
 intro φ2 w2 s
 refine call_rule (some 4) s (putCard_c h0) (by kernel_rfl) ?_
 intro v3 I3 w3 le3 h3 s
 obtain ⟨a3, c3, rfl, h3_0⟩ := h3
 refine oKD _ [] 1 [] 0 (fun φ4 => [(2, .slice a3 7 c3)]) (fun φ4 => []) s (fun φ4 => by kernel_rfl) (by kernel_rfl) ?_
 intro φ4 w4 s
 refine wp_ret ?_
 refine ret_rule (C := []) _ [] (.slice a3 7 c3) [] [] s trivial (by kernel_rfl) ?_
 exact ⟨_, _, _, rfl, s, ⟨_, _, rfl, h3_0⟩⟩

set_option maxHeartbeats 2000000 in
theorem awakeP_c {I : IM} (hN : NmT I) (hT : Tx.U8 I) : Fun Tryd.prog 37 #[] I (fun v J => v = .bool true) := by
 refine enter_rule 13 [] Tryd.func37 rfl (by kernel_rfl) ?_
 intro w s
 refine seqR ?_
 refine oKD [] [] 1 [] 0 (fun φ1 => [(0, .bool false)]) (fun φ1 => []) s (fun φ1 => by kernel_rfl) (by kernel_rfl) ?_
 intro φ1 w1 s
 refine seqR ?_
 refine oA [] [] 2 [] 1 (fun φ2 => [(5, .slice (some ⟨(φ2 0), 0, none⟩) 1 1), (4, .agg #[.int .i64 1, .string ⟨#[]⟩, .string ⟨#[65, 110, 110]⟩])]) (fun φ2 => [(φ2 0, .cells #[.int .i64 1, .string ⟨#[]⟩, .string ⟨#[65, 110, 110]⟩] 39)]) (fun φ2 => []) s (fun φ2 => by kernel_rfl) ?_
 intro φ2 w2 s
 obtain ⟨I3, le3, hk3, s⟩ := s.freezeAt 0 (φ2 0) (.cells #[.int .i64 1, .string ⟨#[]⟩, .string ⟨#[65, 110, 110]⟩] 39) [] (by kernel_rfl) (by kernel_rfl)
 replace hN := NmT.mono le3 hN
 replace hT := u8_mono le3 hT
 have hf4 := fsl_rb hk3
 refine call_rule (some 6) s (make_c hf4 hN hT) (by kernel_rfl) ?_
 intro v5 I5 w5 le5 h5 s
 obtain ⟨a5, c5, rfl, h5_0⟩ := h5
 refine oAD [] [] 6 [.o 0] 1 (fun φ6 => [(2, .int .i64 0), (1, pB (φ6 0)), (8, .int .i64 0), (7, .agg #[.slice a5 1 c5]), (3, .tuple #[.agg #[.slice a5 1 c5], .int .i64 0])]) (fun φ6 => [(φ6 0, .cells #[.slice a5 1 c5] 26)]) (fun φ6 => [(φ6 0)]) s (fun φ6 => by kernel_rfl) (by kernel_rfl) ?_
 intro φ6 w6 s
 refine seqR ?_
 refine oK _ [] 1 [.o 0] 0 (fun φ7 => [(9, .agg #[.slice a5 1 c5])]) (fun φ7 => [(φ6 0)]) s (fun φ7 => by kernel_rfl) ?_
 intro φ7 w7 s
 refine call_rule (some 10) s (card_c h5_0) (by kernel_rfl) ?_
 intro v8 I8 w8 le8 h8 s
 obtain ⟨a8, c8, rfl, h8_0⟩ := h8
 refine oA _ [] 1 [] 1 (fun φ9 => [(11, .slice (some ⟨(φ9 0), 0, none⟩) 7 7)]) (fun φ9 => [(φ6 0, .cells #[.slice a5 1 c5] 26), (φ9 0, .cells #[.int .u8 1, .int .u8 1, .int .u8 0, .int .u8 3, .int .u8 65, .int .u8 110, .int .u8 110] 5)]) (fun φ9 => []) s (fun φ9 => by kernel_rfl) ?_
 intro φ9 w9 s
 obtain ⟨I10, le10, hk10, s⟩ := s.freezeAt 1 (φ9 0) (.cells #[.int .u8 1, .int .u8 1, .int .u8 0, .int .u8 3, .int .u8 65, .int .u8 110, .int .u8 110] 5) [((φ6 0), .cells #[.slice a5 1 c5] 26)] (by kernel_rfl) (by kernel_rfl)
 replace h8_0 := BSl.mono le10 h8_0
 refine call_rule (some 12) s (sameR_c (l := ([1, 1, 0, 3, 65, 110, 110] : List UInt8)) h8_0 (bsl_lit (l := ([1, 1, 0, 3, 65, 110, 110] : List UInt8)) hk10 (by kernel_rfl) rfl) (by decide)) (by kernel_rfl) ?_
 intro v11 I11 w11 le11 h11 s
 obtain rfl := h11
 refine oKD [(φ6 0, .cells #[.slice a5 1 c5] 26)] [] 1 [] 0 (fun φ12 => [(0, .bool true)]) (fun φ12 => []) s (fun φ12 => by kernel_rfl) (by kernel_rfl) ?_
 intro φ12 w12 s
 refine wp_ret ?_
 refine ret_rule (C := []) _ [] (.bool true) [] [] s trivial (by kernel_rfl) ?_
 exact ⟨_, _, _, rfl, s, rfl⟩

end Go.Proofs.YtcpmjogeafhpnaaDoor
/- Any bytes are a card, or have an error. -/
set_option linter.all false
set_option maxRecDepth 100000
namespace Go.Proofs.YtcpmjogeafhpnaaDoor
open Go.RowKit Go.Sep
attribute [local irreducible] Go.wpList Go.Code.wp

theorem nm_of {I : IM} (h : Tx.NmT I) : NmT I := by
  obtain ⟨cs, T, fr, h1, h2⟩ := h
  exact ⟨cs, T, fr, h1, h2 1 (by decide)⟩
theorem run_neI {w : World} {z : Int} : (binOp .neq 3 (.int .i64 z) (.int .i64 z)).run Tryd.prog w = .ok (.bool false) w := by
  have e : (binOp .neq 3 (.int .i64 z) (.int .i64 z)).run Tryd.prog w = .ok (.bool (!(decide (z = z)))) w := by kernel_rfl
  rw [e, decide_eq_true rfl]; rfl
theorem run_eqI {w : World} {z : Int} : (binOp .eql 3 (.int .i64 z) (.int .i64 z)).run Tryd.prog w = .ok (.bool true) w := by
  have e : (binOp .eql 3 (.int .i64 z) (.int .i64 z)).run Tryd.prog w = .ok (.bool (decide (z = z))) w := by kernel_rfl
  rw [e, decide_eq_true rfl]
theorem cardB_c {I : IM} {b : List UInt8} {a0 : Option Addr} {c0 : Nat} (h0 : FSl I (rcF b) (.slice a0 (rcF b).length c0)) (h : rcE b = 0) : Fun Tryd.prog 42 #[.agg #[.slice a0 (rcF b).length c0]] I (fun v J => ∃ a c, v = .slice a b.length c ∧ BSl J b (.slice a b.length c)) := by
  have q := rc_back h
  have r := cardL_c h0 (by omega) q.2.1
  rw [List.nil_append, q.1] at r
  exact r

set_option maxHeartbeats 4000000 in
theorem paperReads_c {I : IM} {l : List UInt8} {a : Option Addr} {n c : Nat} (hl : BSl I l (.slice a n c)) (hN : Tx.NmT I) (hT : Tx.U8 I) : Fun Tryd.prog 9 #[.slice a n c] I (fun v J => v = .bool true) := by
 obtain ⟨rfl, -⟩ := hl.cap
 refine enter_rule 48 [(0, .slice a l.length c)] Tryd.func9 rfl (by kernel_rfl) ?_
 intro w s
 refine seqR ?_
 refine oKD [] [] 1 [] 0 (fun φ1 => [(2, .bool false)]) (fun φ1 => []) s (fun φ1 => by kernel_rfl) (by kernel_rfl) ?_
 intro φ1 w1 s
 refine wp_seq ?_
 refine seqR ?_
 refine call_rule (some 7) s (awakeP_c (nm_of hN) hT) (by kernel_rfl) ?_
 intro v2 I2 w2 le2 h2 s
 replace hl := BSl.mono le2 hl
 replace hN := Tx.NmT.mono le2 hN
 replace hT := Tx.U8.mono le2 hT
 obtain rfl := h2
 refine oKD [] [] 1 [] 0 (fun φ3 => [(8, .bool false)]) (fun φ3 => []) s (fun φ3 => by kernel_rfl) (by kernel_rfl) ?_
 intro φ3 w3 s
 refine cond_false_rule (b := false) (by kernel_rfl) rfl ?_
 refine wp_skip ?_
 refine seqR ?_
 refine oA [] [] 5 [] 1 (fun φ4 => [(13, .int .i64 (if ((600 : Nat) : Int) < ((l.length : Nat) : Int) then ((600 : Nat) : Int) else ((l.length : Nat) : Int))), (12, .int .i64 l.length), (11, .slice a l.length c), (10, .slice a l.length c), (9, .slice (some ⟨(φ4 0), 0, none⟩) 0 0)]) (fun φ4 => [(φ4 0, .cells #[] 5)]) (fun φ4 => []) s (fun φ4 => by kernel_rfl) ?_
 intro φ4 w4 s
 rw [nat_min (a := l.length) (b := 600)]
 refine sem_rule (Instr.sliceAt 61 (.slice a l.length c) none (some (.int .i64 ((min l.length 600 : Nat) : Int))) none) (some 14) (.slice a (min l.length 600) c) (by kernel_rfl) (run_to (by have hcp := (BSl.cap hl).2; (try simp only [List.length_drop, List.length_take, List.length_append, List.length_cons, List.length_nil] at hcp ⊢);   (try simp only [List.length_drop, List.length_take, List.length_append, List.length_cons, List.length_nil]); omega)) ?_
 refine append_rule (H := []) (F := [(φ4 0, .cells #[] 5)]) 61 61 5 Tryd.t5 (.int .u8 0) 1 1 (some 15) s Tryd.underlying61 (by kernel_rfl) (by kernel_rfl) (by kernel_rfl) (by kernel_rfl) (by kernel_rfl) (by decide) (row_new (φ4 0)) (src_bsl s.sub (bsl_to (hi := min l.length 600) hl (by have hcp := (BSl.cap hl).2; (try simp only [List.length_drop, List.length_take, List.length_append, List.length_cons, List.length_nil] at hcp ⊢);   (try simp only [List.length_drop, List.length_take, List.length_append, List.length_cons, List.length_nil]); omega))) (by (try simp only [maxLen, List.length_take]); omega) (by (try simp only [maxLen, List.length_take]); omega) (by kernel_rfl) ?_
 intro v5 w5 F5 s h5
 replace h5 : RowH 5 1 v5 (((l.take (min l.length 600))).length) (((l.take (min l.length 600))).map bV) F5 := row_app (x := []) (y := (l.take (min l.length 600))) h5
 obtain ⟨b9, hb9⟩ : ∃ b, b = (l.take (min l.length 600)) := ⟨_, rfl⟩
 have hn9 : b9.length ≤ 600 := by rw [hb9, List.length_take]; omega
 obtain ⟨I6, le6, hb6, s⟩ := freeze_row (H := []) (F := F5) s h5
 replace hN := Tx.NmT.mono le6 hN
 replace hT := Tx.U8.mono le6 hT
 rw [← hb9] at hb6
 obtain ⟨a6, c6, hv6, hc6, hb6⟩ := hb6.open
 subst hv6
 refine oKD [] [] 1 [] 0 (fun φ7 => [(0, .slice a6 b9.length c6)]) (fun φ7 => []) s (fun φ7 => by kernel_rfl) (by kernel_rfl) ?_
 intro φ7 w7 s
 refine seqR ?_
 refine oA [] [] 2 [] 1 (fun φ8 => [(18, .slice a6 b9.length c6), (17, .slice (some ⟨(φ8 0), 0, none⟩) 0 0)]) (fun φ8 => [(φ8 0, .cells #[] 5)]) (fun φ8 => []) s (fun φ8 => by kernel_rfl) ?_
 intro φ8 w8 s
 refine append_rule (H := []) (F := [(φ8 0, .cells #[] 5)]) 61 61 5 Tryd.t5 (.int .u8 0) 1 1 (some 19) s Tryd.underlying61 (by kernel_rfl) (by kernel_rfl) (by kernel_rfl) (by kernel_rfl) (by kernel_rfl) (by decide) (row_new (φ8 0)) (src_bsl s.sub hb6) (by (try simp only [maxLen, List.length_take]); omega) (by (try simp only [maxLen, List.length_take]); omega) (by kernel_rfl) ?_
 intro v9 w9 F9 s h9
 replace h9 : RowH 5 1 v9 ((b9).length) ((b9).map bV) F9 := row_app (x := []) (y := b9) h9
 obtain ⟨I10, le10, hb10, s⟩ := freeze_row (H := []) (F := F9) s h9
 replace hN := Tx.NmT.mono le10 hN
 replace hT := Tx.U8.mono le10 hT
 replace hb6 := BSl.mono le10 hb6
 obtain ⟨a10, c10, hv10, hc10, hb10⟩ := hb10.open
 subst hv10
 refine call_rule (some 20) s (readCard_c hb10 (by omega) hN hT) (by kernel_rfl) ?_
 intro v11 I11 w11 le11 h11 s
 replace hb6 := BSl.mono le11 hb6
 obtain ⟨a11, c11, rfl, h11_0⟩ := h11
 refine oAD [] [] 6 [.o 0] 1 (fun φ12 => [(4, .int .i64 (rcE b9)), (3, pB (φ12 0)), (22, .int .i64 (rcE b9)), (21, .agg #[.slice a11 ((rcF b9).length) c11]), (16, .tuple #[.agg #[.slice a11 ((rcF b9).length) c11], .int .i64 (rcE b9)])]) (fun φ12 => [(φ12 0, .cells #[.slice a11 ((rcF b9).length) c11] 26)]) (fun φ12 => [(φ12 0)]) s (fun φ12 => by kernel_rfl) (by kernel_rfl) ?_
 intro φ12 w12 s
 refine seqR ?_
 refine oK _ [] 1 [] 0 (fun φ13 => [(24, .slice a6 b9.length c6)]) (fun φ13 => []) s (fun φ13 => by kernel_rfl) ?_
 intro φ13 w13 s
 refine call_rule (some 25) s (refReadCard_c hb6 (by omega)) (by kernel_rfl) ?_
 intro v14 I14 w14 le14 h14 s
 replace hb6 := BSl.mono le14 hb6
 replace h11_0 := FSl.mono le14 h11_0
 obtain ⟨a14, c14, rfl, h14_0⟩ := h14
 refine oKD _ [] 5 [] 0 (fun φ15 => [(6, .int .i64 (rcE b9)), (5, .slice a14 ((rcF b9).length) c14), (27, .int .i64 (rcE b9)), (26, .slice a14 ((rcF b9).length) c14), (23, .tuple #[.slice a14 ((rcF b9).length) c14, .int .i64 (rcE b9)])]) (fun φ15 => []) s (fun φ15 => by kernel_rfl) (by kernel_rfl) ?_
 intro φ15 w15 s
 refine seqR ?_
 refine oK _ [] 2 [] 0 (fun φ16 => [(29, .int .i64 (rcE b9)), (28, .int .i64 (rcE b9))]) (fun φ16 => []) s (fun φ16 => by kernel_rfl) ?_
 intro φ16 w16 s
 refine sem_rule (binOp .eql 3 (.int .i64 (rcE b9)) (.int .i64 (rcE b9))) (some 30) (.bool true) (by kernel_rfl) (run_eqI) ?_
 refine oK _ [] 2 [.o 0] 0 (fun φ17 => [(32, .agg #[.slice a11 ((rcF b9).length) c11]), (31, .bool true)]) (fun φ17 => [(φ12 0)]) s (fun φ17 => by kernel_rfl) ?_
 intro φ17 w17 s
 refine call_rule (some 33) s (fieldsL_c h11_0 (by have := rc_len b9; omega)) (by kernel_rfl) ?_
 intro v18 I18 w18 le18 h18 s
 replace hb6 := BSl.mono le18 hb6
 replace h11_0 := FSl.mono le18 h11_0
 replace h14_0 := FSl.mono le18 h14_0
 obtain ⟨a18, c18, rfl, h18_0⟩ := h18
 refine call_rule (some 34) s (ownF_c h18_0 (by have := rc_len b9; omega)) (by kernel_rfl) ?_
 intro v19 I19 w19 le19 h19 s
 replace hb6 := BSl.mono le19 hb6
 replace h11_0 := FSl.mono le19 h11_0
 replace h14_0 := FSl.mono le19 h14_0
 obtain ⟨a19, c19, rfl, h19_0⟩ := h19
 refine oK _ [] 1 [] 0 (fun φ20 => [(35, .slice a14 ((rcF b9).length) c14)]) (fun φ20 => []) s (fun φ20 => by kernel_rfl) ?_
 intro φ20 w20 s
 refine call_rule (some 36) s (sameF_c h19_0 h14_0 (by have := rc_len b9; omega)) (by kernel_rfl) ?_
 intro v21 I21 w21 le21 h21 s
 replace hb6 := BSl.mono le21 hb6
 replace h11_0 := FSl.mono le21 h11_0
 obtain rfl := h21
 refine oK _ [] 5 [] 0 (fun φ22 => [(41, .bool (((rcE b9 : Nat) : Int) != ((0 : Nat) : Int))), (40, .bool (((rcE b9 : Nat) : Int) != ((0 : Nat) : Int))), (39, .int .i64 (rcE b9)), (38, .bool true), (37, .bool true)]) (fun φ22 => []) s (fun φ22 => by kernel_rfl) ?_
 intro φ22 w22 s
 rw [nat_neq (a := (rcE b9)) (b := 0)]
 rcases Bool.eq_false_or_eq_true (decide ((rcE b9) ≠ 0)) with hc23 | hc23
 ·
  rw [hc23]
  refine oKD _ [] 7 [] 0 (fun φ24 => [(2, .bool true), (47, .bool true), (46, .bool true), (45, undef), (44, undef), (43, undef), (42, undef)]) (fun φ24 => []) s (fun φ24 => by kernel_rfl) (by kernel_rfl) ?_
  intro φ24 w24 s
  refine wp_ret ?_
  refine ret_rule (C := []) _ [] (.bool true) [] [] s trivial (by kernel_rfl) ?_
  exact ⟨_, _, _, rfl, s, rfl⟩
 ·
  rw [hc23]
  refine oK _ [] 1 [.o 0] 0 (fun φ25 => [(42, .agg #[.slice a11 ((rcF b9).length) c11])]) (fun φ25 => [(φ12 0)]) s (fun φ25 => by kernel_rfl) ?_
  intro φ25 w25 s
  refine call_rule (some 43) s (cardB_c h11_0 (by have h9 := dF9 hc23; omega)) (by kernel_rfl) ?_
  intro v26 I26 w26 le26 h26 s
  replace hb6 := BSl.mono le26 hb6
  obtain ⟨a26, c26, rfl, h26_0⟩ := h26
  refine oK _ [] 1 [] 0 (fun φ27 => [(44, .slice a6 b9.length c6)]) (fun φ27 => []) s (fun φ27 => by kernel_rfl) ?_
  intro φ27 w27 s
  refine call_rule (some 45) s (sameR_c (l := b9) h26_0 hb6 (by omega)) (by kernel_rfl) ?_
  intro v28 I28 w28 le28 h28 s
  obtain rfl := h28
  refine oKD _ [] 3 [] 0 (fun φ29 => [(2, .bool true), (47, .bool true), (46, .bool true)]) (fun φ29 => []) s (fun φ29 => by kernel_rfl) (by kernel_rfl) ?_
  intro φ29 w29 s
  refine wp_ret ?_
  refine ret_rule (C := []) _ [] (.bool true) [] [] s trivial (by kernel_rfl) ?_
  exact ⟨_, _, _, rfl, s, rfl⟩

end Go.Proofs.YtcpmjogeafhpnaaDoor
/- What the laid variables give. -/
set_option linter.all false
set_option maxRecDepth 100000
namespace Go.Proofs.YtcpmjogeafhpnaaDoor
open Go.RowKit Go.Sep Go.Lib
theorem ownKnob_none : ownKnob Tryd.prog.godebug = none := by kernel_rfl
abbrev laidT : List (String × DataW Unit) := Rows.paperReadsRow.laid
theorem tabs_of_laid {W : World} (h : laidMetH Tryd.prog laidT W) : Lib.Utf8Tabs 1 2 W := by
  rw [MakeChecks.laidMetH_plain _ _ _ (by kernel_rfl)] at h
  have h4 := Lib.laidMet.reads h (.head _)
  have h3 := Lib.laidMet.reads h (.tail _ (.tail _ (.head _)))
  exact utf8Tabs_of_readsT (ρ := Tryd.lays196_ren) (U8Types.of196 Tryd.lays196) ⟨by kernel_rfl, by kernel_rfl, by kernel_rfl, by kernel_rfl, by kernel_rfl, by kernel_rfl, by kernel_rfl⟩ (kcast (by kernel_rfl) h3) (kcast (by kernel_rfl) h4)
theorem block_of {W : World} {b o : Nat} {v : Value} (h : W.cell? ⟨b, o, none⟩ = some v) : ∃ cs T fr, W.heap[b]? = some (.cells cs T fr) ∧ cs[o]? = some v := by
  unfold World.cell? at h
  cases hb : W.heap[b]? with
  | none => simp [hb] at h
  | some ob =>
    cases ob <;> simp [hb] at h
    exact ⟨_, _, _, rfl, h⟩
theorem nm_of_laid {W : World} (h : laidMetH Tryd.prog laidT W) : Tx.NmT (fun k => W.heap[k]?) := by
  rw [MakeChecks.laidMetH_plain _ _ _ (by kernel_rfl)] at h
  obtain ⟨g, t, cs, fuel, p, hg, hty, hvar, hd⟩ := Lib.laidMet.reads h (.tail _ (.head _))
  obtain rfl := Option.some.inj ((show Tryd.prog.globalNamed "kinfolk/card.names" = some 0 by kernel_rfl).symm.trans hg)
  obtain rfl := Option.some.inj ((show (Tryd.prog.globals[0]?).map (·.type) = some 98 by kernel_rfl).symm.trans hty)
  have one : ∀ i, i < 7 → W.cell? ⟨0, i, none⟩ = some (.string ⟨(Tx.nmL.getD i []).toArray⟩) := fun i hi => by
    obtain ⟨fuel', d, q, hdi, he⟩ := array_elem (show Tryd.prog.underlying 98 = some (.array 7 9) by kernel_rfl) hd i hi
    have hdl : d = DataW.lit (.string (Tx.nmL.getD i [])) := by
      have : i = 0 ∨ i = 1 ∨ i = 2 ∨ i = 3 ∨ i = 4 ∨ i = 5 ∨ i = 6 := by omega
      rcases this with rfl | rfl | rfl | rfl | rfl | rfl | rfl <;> exact (Option.some.inj hdi).symm
    subst hdl
    obtain ⟨s, hc, hx, -⟩ := DataW.trod_string Tryd.underlying9 he
    have hs : s = ⟨(Tx.nmL.getD i []).toArray⟩ := by
      have h1 := congrArg Prod.fst hx
      simp only [DataW.lit.injEq, Lit.string.injEq] at h1
      obtain ⟨⟨l⟩⟩ := s
      simp only at h1
      exact congrArg ByteArray.mk (congrArg Array.mk h1.symm)
    rw [show Tryd.prog.cellsOf 9 = 1 by kernel_rfl] at hc
    have e0 := congrArg (·[0]?) hc
    simp only [List.getElem?_take, List.getElem?_drop] at e0
    have h2 := World.var?_cell hg hvar i
    rw [← Array.getElem?_toList] at h2
    rw [← hs]
    exact h2.trans (by simpa using e0)
  obtain ⟨cs', T, fr, e1, -⟩ := block_of (one 0 (by decide))
  refine ⟨cs', T, fr, e1, fun i hi => ?_⟩
  obtain ⟨cs2, T2, fr2, f1, f2⟩ := block_of (one i hi)
  rw [e1] at f1
  cases f1
  exact f2
theorem cell_up {W w : World} (hw : IM.Sub (fun k => W.heap[k]?) w) {a : Addr} {v : Value} (h : W.cell? a = some v) : w.cell? a = some v := by
  unfold World.cell? at h ⊢
  cases e : W.heap[a.block]? with
  | none => rw [e] at h; cases h
  | some o => rw [hw _ _ e]; rw [e] at h; exact h
theorem u8_of_laid {W : World} (h : laidMetH Tryd.prog laidT W) : Tx.U8 (fun k => W.heap[k]?) := fun w hw =>
  have t := tabs_of_laid h
  ⟨fun c hc => cell_up hw (t.1 c hc), fun i hi => ⟨cell_up hw (t.2 i hi).1, cell_up hw (t.2 i hi).2⟩⟩
theorem met_wit (os : Os) (args : Array Value) : laidMetH Tryd.prog laidT ((World.laidAll Tryd.prog os laidT).forCall (fun _ _ => 0) ⟨#[], args, []⟩).memory := by
  rw [MakeChecks.laidMetH_plain _ _ _ (by kernel_rfl)]; exact laidMet_laidAll _ (by kernel_rfl) (by kernel_rfl)
end Go.Proofs.YtcpmjogeafhpnaaDoor
/- A slice of bytes that came in, as the contracts want it. -/
set_option linter.all false
namespace Go.Proofs.YtcpmjogeafhpnaaDoor
open Go.RowKit Go.Sep

theorem u8_nat {z : Int} (h : (Lit.int .u8 z).wf = true) : z = (((UInt8.ofNat z.toNat).toNat : Nat) : Int) := by
  have hb : 0 ≤ z ∧ z < 256 := by
    have := h; simp [Lit.wf, IntKind.min, IntKind.max, IntKind.signed, IntKind.bits] at this; omega
  rw [UInt8.toNat_ofNat']
  omega
theorem cell_block {w : World} {b o : Nat} {v : Value} (h : w.cell? ⟨b, o, none⟩ = some v) : ∃ cs T fr, w.heap[b]? = some (.cells cs T fr) ∧ cs[o]? = some v := by
  unfold World.cell? at h
  cases hb : w.heap[b]? with
  | none => simp [hb] at h
  | some ob =>
    cases ob <;> simp [hb] at h
    exact ⟨_, _, _, rfl, h⟩
theorem bslI_row {w : World} {a : Option Addr} {len cap : Nat} {zs : List Int}
    (h : (a = none ∧ len = 0 ∧ cap = 0 ∧ zs = []) ∨ ∃ x, a = some x ∧ len ≤ cap ∧ cap ≤ maxLen ∧ zs.length = cap ∧ (∀ i, i < zs.length → w.cell? (x.add i) = some (.int .u8 (zs.getD i 0))) ∧ ∀ n ∈ zs, (Lit.int .u8 n).wf = true) :
    ∃ l, BSl (fun k => w.heap[k]?) l (.slice a len cap) := by
  rcases h with ⟨rfl, rfl, rfl, rfl⟩ | ⟨x, rfl, hl, hm, hz, hc, hw⟩
  · exact ⟨[], bsl_nil _⟩
  · refine ⟨(zs.take len).map fun z => UInt8.ofNat z.toNat, some x, cap, by rw [List.length_map, List.length_take, Nat.min_eq_left (show len ≤ zs.length by omega)], by rw [List.length_map, List.length_take]; omega, fun j y hj => ?_⟩
    rw [List.getElem?_map, Option.map_eq_some_iff] at hj
    obtain ⟨z, hz1, rfl⟩ := hj
    rw [List.getElem?_take] at hz1
    split at hz1
    · have hjl : j < zs.length := (List.getElem?_eq_some_iff.1 hz1).1
      have h1 := hc j hjl
      have h2 : zs.getD j 0 = z := by simp [hz1]
      rw [h2] at h1
      obtain ⟨b, o, sp⟩ := x
      cases sp with
      | none =>
        have : (⟨b, o, none⟩ : Addr).add j = ⟨b, o + j, none⟩ := by unfold Addr.add; split <;> simp_all
        rw [this] at h1
        obtain ⟨cs, T, fr, e1, e2⟩ := cell_block h1
        refine ⟨b, o, cs, T, fr, rfl, e1, ?_⟩
        rw [← u8_nat (hw z (List.mem_of_getElem? hz1))]; exact e2
      | some sp =>
        exfalso
        have h0 := hc 0 (by omega)
        unfold World.cell? Addr.add at h0
        rw [if_pos rfl] at h0
        revert h0
        split <;> simp
    · cases hz1
end Go.Proofs.YtcpmjogeafhpnaaDoor
