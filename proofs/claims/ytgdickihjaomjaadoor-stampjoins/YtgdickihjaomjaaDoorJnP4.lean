/- The document's example. -/
import Derived.Test.YtgdickihjaomjaaDoorJnP3
set_option linter.all false
set_option maxRecDepth 100000
namespace Go.Proofs.YtgdickihjaomjaaDoor
open Go.RowKit Go.Sep

theorem textK_c {I : IM} {t : E} {b : Nat} {p : Option Addr} {l : List UInt8} (hl : textE t = l) (hT : Tab I) (h : ERep I t b p) (ht : t.top < 18446744073709551616) (hlim : l.length ≤ 1000000000) : Fun Tryd.prog 25 #[evv b p] I (fun v J => v = .string ⟨l.toArray⟩) := by
  subst hl; exact text_c hT h ht hlim

set_option maxHeartbeats 1000000 in
theorem stext0_c {I : IM} {ib : Bool} {ip : Option Addr} {eb : Nat} {ep : Option Addr} (hT : Tab I) (hi : TRep I (T.node T.one T.zero) ib ip) (he : ERep I (E.leaf 0) eb ep) : Fun Tryd.prog 81 #[stv ib ip eb ep] I (fun v J => v = .string ⟨#[40, 40, 49, 44, 48, 41, 59, 48, 41]⟩) := by
  refine enter_rule 13 [(0, .agg #[.bool ib, .pointer ip, .int .u64 ((eb : Nat) : Int), .pointer ep])] Tryd.func81 rfl (by kernel_rfl) ?_
  intro w s
  refine wp_seq ?_
  refine region_rule ?_
  refine ops_rule (C := []) [] [] 2 [] 1 (fun φ1 => [(2, .string ⟨#[]⟩), (1, .pointer (some ⟨(φ1 0), 0, none⟩))]) (fun φ1 => [((φ1 0), .cells #[.bool ib, .pointer ip, .int .u64 ((eb : Nat) : Int), .pointer ep] 64)]) (fun φ1 => []) s trivial (fun φ1 => by kernel_rfl) ?_
  intro φ1 w1 s
  refine ops_done (by kernel_rfl) ?_
  refine wp_seq ?_
  refine draw_rule (C := []) ⟨(fun φ2 xs2 => [.look 0 [] [], .look 0 [.o 0, .o 0] [(φ1 0), (φ1 0)], .call 109 #[.agg #[.bool ib, .pointer ip]], .look 0 [] [], .look 0 [] [], .look 0 [] [], .look 0 [.o 0, .o 0] [(φ1 0), (φ1 0)], .call 25 #[.agg #[.int .u64 ((eb : Nat) : Int), .pointer ep]], .look 0 [] [], .look 0 [] [], .look 0 [] []]), (fun φ2 xs2 => [.pointer (some ⟨(φ1 0), 0, none⟩), .agg #[.bool ib, .pointer ip], .string ⟨#[40, 49, 44, 48, 41]⟩, .string ⟨#[40, 40, 49, 44, 48, 41]⟩, .string ⟨#[40, 40, 49, 44, 48, 41, 59]⟩, .pointer (some ⟨(φ1 0), 2, none⟩), .agg #[.int .u64 ((eb : Nat) : Int), .pointer ep], .string ⟨#[48]⟩, .string ⟨#[40, 40, 49, 44, 48, 41, 59, 48]⟩, .string ⟨#[40, 40, 49, 44, 48, 41, 59, 48, 41]⟩, .string ⟨#[40, 40, 49, 44, 48, 41, 59, 48, 41]⟩]), (fun φ2 xs2 => [[((φ1 0), .cells #[.bool ib, .pointer ip, .int .u64 ((eb : Nat) : Int), .pointer ep] 64)]]), (fun φ2 xs2 => [[default, default, default, default, default, default, default, default, default, default, default]]), [], [1, 1, 3, 1, 1, 1, 1, 3, 1, 1, 1]⟩ (fun j => ([MP.any, MP.any, MP.any, MP.any, MP.any, MP.any, MP.any, MP.any, MP.any, MP.any, MP.any] : List MP).getD j MP.any) [2, 7] [] [] (fun φ2 xs2 => []) (fun φ2 xs2 => [(3, .pointer (some ⟨(φ1 0), 0, none⟩)), (4, .agg #[.bool ib, .pointer ip]), (5, .string ⟨#[40, 49, 44, 48, 41]⟩), (6, .string ⟨#[40, 40, 49, 44, 48, 41]⟩), (7, .string ⟨#[40, 40, 49, 44, 48, 41, 59]⟩), (8, .pointer (some ⟨(φ1 0), 2, none⟩)), (9, .agg #[.int .u64 ((eb : Nat) : Int), .pointer ep]), (10, .string ⟨#[48]⟩), (11, .string ⟨#[40, 40, 49, 44, 48, 41, 59, 48]⟩), (12, .string ⟨#[40, 40, 49, 44, 48, 41, 59, 48, 41]⟩), (2, .string ⟨#[40, 40, 49, 44, 48, 41, 59, 48, 41]⟩)]) (fun φ2 xs2 => [((φ1 0), .cells #[.bool ib, .pointer ip, .int .u64 ((eb : Nat) : Int), .pointer ep] 64)]) s trivial (by kernel_rfl) (by kernel_rfl) (fun _ _ => by kernel_rfl) (fun _ _ => by kernel_rfl) ⟨fun _ _ => by kernel_rfl, fun _ _ => by kernel_rfl, fun _ _ => by kernel_rfl, fun _ _ => by kernel_rfl⟩ (fun _ _ _ => by kernel_rfl) (fun _ _ => by kernel_rfl) (fun _ _ => by kernel_rfl) (fun _ _ => by kernel_rfl) (fun _ _ => by kernel_rfl) (fun _ _ => by kernel_rfl) trivial trivial ⟨?c2_2, ?c2_7, trivial⟩ ?k2
  case c2_2 =>
    refine kcast (A := ∀ (φ2 : Nat → Nat) (xs2 : Xs) (J2_2 : IM), I.Le J2_2 → Fun Tryd.prog 109 #[.agg #[.bool ib, .pointer ip]] J2_2 (fun v J' => ∃ x : UX, v = .string ⟨#[40, 49, 44, 48, 41]⟩ ∧ (True))) (by kernel_rfl) ?_
    intro φ2 xs2 J2_2 leJ
    have hi := TRep.mono leJ hi
    exact Fun.mono (idtext_c (t := (T.node T.one T.zero)) hi (by decide)) (fun v J' _ h => ⟨UX.d, h, trivial⟩)
  case c2_7 =>
    refine kcast (A := ∀ (φ2 : Nat → Nat) (xs2 : Xs) (J7_2 : IM), I.Le J7_2 → (True) → Fun Tryd.prog 25 #[.agg #[.int .u64 ((eb : Nat) : Int), .pointer ep]] J7_2 (fun v J' => ∃ x : UX, v = .string ⟨#[48]⟩ ∧ (True))) (by kernel_rfl) ?_
    intro φ2 xs2 J7_2 leJ
    rintro _
    have he := ERep.mono leJ he
    have hT := Tab.mono leJ hT
    exact Fun.mono (textK_c (t := (E.leaf 0)) (l := [48]) (by kernel_rfl) hT he (by decide) (by decide)) (fun v J' _ h => ⟨UX.d, h, trivial⟩)
  case k2 =>
    rintro φ2 xs2 I2 w2 le2 s _ _
    replace hi := TRep.mono le2 hi
    replace he := ERep.mono le2 he
    replace hT := Tab.mono le2 hT
    refine wp_ret ?_
    refine ret_rule (C := []) [((φ1 0), .cells #[.bool ib, .pointer ip, .int .u64 ((eb : Nat) : Int), .pointer ep] 64)] [] (.string ⟨#[40, 40, 49, 44, 48, 41, 59, 48, 41]⟩) [] [] s trivial (by kernel_rfl) ?_
    exact ⟨_, _, _, rfl, s, rfl⟩

set_option maxHeartbeats 1000000 in
theorem stext1_c {I : IM} {ib : Bool} {ip : Option Addr} {eb : Nat} {ep : Option Addr} (hT : Tab I) (hi : TRep I (T.node T.zero T.one) ib ip) (he : ERep I (E.leaf 0) eb ep) : Fun Tryd.prog 81 #[stv ib ip eb ep] I (fun v J => v = .string ⟨#[40, 40, 48, 44, 49, 41, 59, 48, 41]⟩) := by
  refine enter_rule 13 [(0, .agg #[.bool ib, .pointer ip, .int .u64 ((eb : Nat) : Int), .pointer ep])] Tryd.func81 rfl (by kernel_rfl) ?_
  intro w s
  refine wp_seq ?_
  refine region_rule ?_
  refine ops_rule (C := []) [] [] 2 [] 1 (fun φ1 => [(2, .string ⟨#[]⟩), (1, .pointer (some ⟨(φ1 0), 0, none⟩))]) (fun φ1 => [((φ1 0), .cells #[.bool ib, .pointer ip, .int .u64 ((eb : Nat) : Int), .pointer ep] 64)]) (fun φ1 => []) s trivial (fun φ1 => by kernel_rfl) ?_
  intro φ1 w1 s
  refine ops_done (by kernel_rfl) ?_
  refine wp_seq ?_
  refine draw_rule (C := []) ⟨(fun φ2 xs2 => [.look 0 [] [], .look 0 [.o 0, .o 0] [(φ1 0), (φ1 0)], .call 109 #[.agg #[.bool ib, .pointer ip]], .look 0 [] [], .look 0 [] [], .look 0 [] [], .look 0 [.o 0, .o 0] [(φ1 0), (φ1 0)], .call 25 #[.agg #[.int .u64 ((eb : Nat) : Int), .pointer ep]], .look 0 [] [], .look 0 [] [], .look 0 [] []]), (fun φ2 xs2 => [.pointer (some ⟨(φ1 0), 0, none⟩), .agg #[.bool ib, .pointer ip], .string ⟨#[40, 48, 44, 49, 41]⟩, .string ⟨#[40, 40, 48, 44, 49, 41]⟩, .string ⟨#[40, 40, 48, 44, 49, 41, 59]⟩, .pointer (some ⟨(φ1 0), 2, none⟩), .agg #[.int .u64 ((eb : Nat) : Int), .pointer ep], .string ⟨#[48]⟩, .string ⟨#[40, 40, 48, 44, 49, 41, 59, 48]⟩, .string ⟨#[40, 40, 48, 44, 49, 41, 59, 48, 41]⟩, .string ⟨#[40, 40, 48, 44, 49, 41, 59, 48, 41]⟩]), (fun φ2 xs2 => [[((φ1 0), .cells #[.bool ib, .pointer ip, .int .u64 ((eb : Nat) : Int), .pointer ep] 64)]]), (fun φ2 xs2 => [[default, default, default, default, default, default, default, default, default, default, default]]), [], [1, 1, 3, 1, 1, 1, 1, 3, 1, 1, 1]⟩ (fun j => ([MP.any, MP.any, MP.any, MP.any, MP.any, MP.any, MP.any, MP.any, MP.any, MP.any, MP.any] : List MP).getD j MP.any) [2, 7] [] [] (fun φ2 xs2 => []) (fun φ2 xs2 => [(3, .pointer (some ⟨(φ1 0), 0, none⟩)), (4, .agg #[.bool ib, .pointer ip]), (5, .string ⟨#[40, 48, 44, 49, 41]⟩), (6, .string ⟨#[40, 40, 48, 44, 49, 41]⟩), (7, .string ⟨#[40, 40, 48, 44, 49, 41, 59]⟩), (8, .pointer (some ⟨(φ1 0), 2, none⟩)), (9, .agg #[.int .u64 ((eb : Nat) : Int), .pointer ep]), (10, .string ⟨#[48]⟩), (11, .string ⟨#[40, 40, 48, 44, 49, 41, 59, 48]⟩), (12, .string ⟨#[40, 40, 48, 44, 49, 41, 59, 48, 41]⟩), (2, .string ⟨#[40, 40, 48, 44, 49, 41, 59, 48, 41]⟩)]) (fun φ2 xs2 => [((φ1 0), .cells #[.bool ib, .pointer ip, .int .u64 ((eb : Nat) : Int), .pointer ep] 64)]) s trivial (by kernel_rfl) (by kernel_rfl) (fun _ _ => by kernel_rfl) (fun _ _ => by kernel_rfl) ⟨fun _ _ => by kernel_rfl, fun _ _ => by kernel_rfl, fun _ _ => by kernel_rfl, fun _ _ => by kernel_rfl⟩ (fun _ _ _ => by kernel_rfl) (fun _ _ => by kernel_rfl) (fun _ _ => by kernel_rfl) (fun _ _ => by kernel_rfl) (fun _ _ => by kernel_rfl) (fun _ _ => by kernel_rfl) trivial trivial ⟨?c2_2, ?c2_7, trivial⟩ ?k2
  case c2_2 =>
    refine kcast (A := ∀ (φ2 : Nat → Nat) (xs2 : Xs) (J2_2 : IM), I.Le J2_2 → Fun Tryd.prog 109 #[.agg #[.bool ib, .pointer ip]] J2_2 (fun v J' => ∃ x : UX, v = .string ⟨#[40, 48, 44, 49, 41]⟩ ∧ (True))) (by kernel_rfl) ?_
    intro φ2 xs2 J2_2 leJ
    have hi := TRep.mono leJ hi
    exact Fun.mono (idtext_c (t := (T.node T.zero T.one)) hi (by decide)) (fun v J' _ h => ⟨UX.d, h, trivial⟩)
  case c2_7 =>
    refine kcast (A := ∀ (φ2 : Nat → Nat) (xs2 : Xs) (J7_2 : IM), I.Le J7_2 → (True) → Fun Tryd.prog 25 #[.agg #[.int .u64 ((eb : Nat) : Int), .pointer ep]] J7_2 (fun v J' => ∃ x : UX, v = .string ⟨#[48]⟩ ∧ (True))) (by kernel_rfl) ?_
    intro φ2 xs2 J7_2 leJ
    rintro _
    have he := ERep.mono leJ he
    have hT := Tab.mono leJ hT
    exact Fun.mono (textK_c (t := (E.leaf 0)) (l := [48]) (by kernel_rfl) hT he (by decide) (by decide)) (fun v J' _ h => ⟨UX.d, h, trivial⟩)
  case k2 =>
    rintro φ2 xs2 I2 w2 le2 s _ _
    replace hi := TRep.mono le2 hi
    replace he := ERep.mono le2 he
    replace hT := Tab.mono le2 hT
    refine wp_ret ?_
    refine ret_rule (C := []) [((φ1 0), .cells #[.bool ib, .pointer ip, .int .u64 ((eb : Nat) : Int), .pointer ep] 64)] [] (.string ⟨#[40, 40, 48, 44, 49, 41, 59, 48, 41]⟩) [] [] s trivial (by kernel_rfl) ?_
    exact ⟨_, _, _, rfl, s, rfl⟩

set_option maxHeartbeats 1000000 in
theorem stext2_c {I : IM} {ib : Bool} {ip : Option Addr} {eb : Nat} {ep : Option Addr} (hT : Tab I) (hi : TRep I (T.node T.one T.zero) ib ip) (he : ERep I (E.node 0 (E.leaf 1) (E.leaf 0)) eb ep) : Fun Tryd.prog 81 #[stv ib ip eb ep] I (fun v J => v = .string ⟨#[40, 40, 49, 44, 48, 41, 59, 40, 48, 44, 49, 44, 48, 41, 41]⟩) := by
  refine enter_rule 13 [(0, .agg #[.bool ib, .pointer ip, .int .u64 ((eb : Nat) : Int), .pointer ep])] Tryd.func81 rfl (by kernel_rfl) ?_
  intro w s
  refine wp_seq ?_
  refine region_rule ?_
  refine ops_rule (C := []) [] [] 2 [] 1 (fun φ1 => [(2, .string ⟨#[]⟩), (1, .pointer (some ⟨(φ1 0), 0, none⟩))]) (fun φ1 => [((φ1 0), .cells #[.bool ib, .pointer ip, .int .u64 ((eb : Nat) : Int), .pointer ep] 64)]) (fun φ1 => []) s trivial (fun φ1 => by kernel_rfl) ?_
  intro φ1 w1 s
  refine ops_done (by kernel_rfl) ?_
  refine wp_seq ?_
  refine draw_rule (C := []) ⟨(fun φ2 xs2 => [.look 0 [] [], .look 0 [.o 0, .o 0] [(φ1 0), (φ1 0)], .call 109 #[.agg #[.bool ib, .pointer ip]], .look 0 [] [], .look 0 [] [], .look 0 [] [], .look 0 [.o 0, .o 0] [(φ1 0), (φ1 0)], .call 25 #[.agg #[.int .u64 ((eb : Nat) : Int), .pointer ep]], .look 0 [] [], .look 0 [] [], .look 0 [] []]), (fun φ2 xs2 => [.pointer (some ⟨(φ1 0), 0, none⟩), .agg #[.bool ib, .pointer ip], .string ⟨#[40, 49, 44, 48, 41]⟩, .string ⟨#[40, 40, 49, 44, 48, 41]⟩, .string ⟨#[40, 40, 49, 44, 48, 41, 59]⟩, .pointer (some ⟨(φ1 0), 2, none⟩), .agg #[.int .u64 ((eb : Nat) : Int), .pointer ep], .string ⟨#[40, 48, 44, 49, 44, 48, 41]⟩, .string ⟨#[40, 40, 49, 44, 48, 41, 59, 40, 48, 44, 49, 44, 48, 41]⟩, .string ⟨#[40, 40, 49, 44, 48, 41, 59, 40, 48, 44, 49, 44, 48, 41, 41]⟩, .string ⟨#[40, 40, 49, 44, 48, 41, 59, 40, 48, 44, 49, 44, 48, 41, 41]⟩]), (fun φ2 xs2 => [[((φ1 0), .cells #[.bool ib, .pointer ip, .int .u64 ((eb : Nat) : Int), .pointer ep] 64)]]), (fun φ2 xs2 => [[default, default, default, default, default, default, default, default, default, default, default]]), [], [1, 1, 3, 1, 1, 1, 1, 3, 1, 1, 1]⟩ (fun j => ([MP.any, MP.any, MP.any, MP.any, MP.any, MP.any, MP.any, MP.any, MP.any, MP.any, MP.any] : List MP).getD j MP.any) [2, 7] [] [] (fun φ2 xs2 => []) (fun φ2 xs2 => [(3, .pointer (some ⟨(φ1 0), 0, none⟩)), (4, .agg #[.bool ib, .pointer ip]), (5, .string ⟨#[40, 49, 44, 48, 41]⟩), (6, .string ⟨#[40, 40, 49, 44, 48, 41]⟩), (7, .string ⟨#[40, 40, 49, 44, 48, 41, 59]⟩), (8, .pointer (some ⟨(φ1 0), 2, none⟩)), (9, .agg #[.int .u64 ((eb : Nat) : Int), .pointer ep]), (10, .string ⟨#[40, 48, 44, 49, 44, 48, 41]⟩), (11, .string ⟨#[40, 40, 49, 44, 48, 41, 59, 40, 48, 44, 49, 44, 48, 41]⟩), (12, .string ⟨#[40, 40, 49, 44, 48, 41, 59, 40, 48, 44, 49, 44, 48, 41, 41]⟩), (2, .string ⟨#[40, 40, 49, 44, 48, 41, 59, 40, 48, 44, 49, 44, 48, 41, 41]⟩)]) (fun φ2 xs2 => [((φ1 0), .cells #[.bool ib, .pointer ip, .int .u64 ((eb : Nat) : Int), .pointer ep] 64)]) s trivial (by kernel_rfl) (by kernel_rfl) (fun _ _ => by kernel_rfl) (fun _ _ => by kernel_rfl) ⟨fun _ _ => by kernel_rfl, fun _ _ => by kernel_rfl, fun _ _ => by kernel_rfl, fun _ _ => by kernel_rfl⟩ (fun _ _ _ => by kernel_rfl) (fun _ _ => by kernel_rfl) (fun _ _ => by kernel_rfl) (fun _ _ => by kernel_rfl) (fun _ _ => by kernel_rfl) (fun _ _ => by kernel_rfl) trivial trivial ⟨?c2_2, ?c2_7, trivial⟩ ?k2
  case c2_2 =>
    refine kcast (A := ∀ (φ2 : Nat → Nat) (xs2 : Xs) (J2_2 : IM), I.Le J2_2 → Fun Tryd.prog 109 #[.agg #[.bool ib, .pointer ip]] J2_2 (fun v J' => ∃ x : UX, v = .string ⟨#[40, 49, 44, 48, 41]⟩ ∧ (True))) (by kernel_rfl) ?_
    intro φ2 xs2 J2_2 leJ
    have hi := TRep.mono leJ hi
    exact Fun.mono (idtext_c (t := (T.node T.one T.zero)) hi (by decide)) (fun v J' _ h => ⟨UX.d, h, trivial⟩)
  case c2_7 =>
    refine kcast (A := ∀ (φ2 : Nat → Nat) (xs2 : Xs) (J7_2 : IM), I.Le J7_2 → (True) → Fun Tryd.prog 25 #[.agg #[.int .u64 ((eb : Nat) : Int), .pointer ep]] J7_2 (fun v J' => ∃ x : UX, v = .string ⟨#[40, 48, 44, 49, 44, 48, 41]⟩ ∧ (True))) (by kernel_rfl) ?_
    intro φ2 xs2 J7_2 leJ
    rintro _
    have he := ERep.mono leJ he
    have hT := Tab.mono leJ hT
    exact Fun.mono (textK_c (t := (E.node 0 (E.leaf 1) (E.leaf 0))) (l := [40, 48, 44, 49, 44, 48, 41]) (by kernel_rfl) hT he (by decide) (by decide)) (fun v J' _ h => ⟨UX.d, h, trivial⟩)
  case k2 =>
    rintro φ2 xs2 I2 w2 le2 s _ _
    replace hi := TRep.mono le2 hi
    replace he := ERep.mono le2 he
    replace hT := Tab.mono le2 hT
    refine wp_ret ?_
    refine ret_rule (C := []) [((φ1 0), .cells #[.bool ib, .pointer ip, .int .u64 ((eb : Nat) : Int), .pointer ep] 64)] [] (.string ⟨#[40, 40, 49, 44, 48, 41, 59, 40, 48, 44, 49, 44, 48, 41, 41]⟩) [] [] s trivial (by kernel_rfl) ?_
    exact ⟨_, _, _, rfl, s, rfl⟩

set_option maxHeartbeats 2000000 in
theorem awakeS_c {I : IM} (hT : Tab I) : Fun Tryd.prog 43 #[] I (fun v J => v = .bool true) := by
  refine enter_rule 38 [] Tryd.func43 rfl (by kernel_rfl) ?_
  intro w s
  refine wp_seq ?_
  refine region_rule ?_
  refine ops_rule (C := []) [] [] 1 [] 0 (fun φ1 => [(0, .bool false)]) (fun φ1 => []) (fun φ1 => []) s trivial (fun φ1 => by kernel_rfl) ?_
  intro φ1 w1 s
  refine ops_done (by kernel_rfl) ?_
  refine wp_seq ?_
  refine region_rule ?_
  refine call_rule (some 7) s (seed_c) (by kernel_rfl) ?_
  intro v2 I2 w2 le2 h2 s
  replace hT := Tab.mono le2 hT
  obtain rfl := h2
  refine call_rule (some 8) s (fork_c (i := T.one) (e := (E.leaf 0)) (TRep.o _) (ERep.lf _ 0) (by decide)) (by kernel_rfl) ?_
  intro v3 I3 w3 le3 h3 s
  replace hT := Tab.mono le3 hT
  obtain ⟨b3, p3, b23, p23, b33, p33, rfl, h3_0, h3_1, h3_2⟩ := h3
  refine ops_rule (C := []) [] [] 9 [.o 0, .o 0, .o 0, .o 0, .o 1, .o 1, .o 1, .o 1] 2 (fun φ4 => [(3, .int .i64 0), (2, .pointer (some ⟨(φ4 1), 0, none⟩)), (1, .pointer (some ⟨(φ4 0), 0, none⟩)), (11, .int .i64 0), (10, .agg #[.bool b23, .pointer p23, .int .u64 ((b33 : Nat) : Int), .pointer p33]), (9, .agg #[.bool b3, .pointer p3, .int .u64 ((b33 : Nat) : Int), .pointer p33]), (6, .tuple #[.agg #[.bool b3, .pointer p3, .int .u64 ((b33 : Nat) : Int), .pointer p33], .agg #[.bool b23, .pointer p23, .int .u64 ((b33 : Nat) : Int), .pointer p33], .int .i64 0])]) (fun φ4 => [((φ4 0), .cells #[.bool b3, .pointer p3, .int .u64 ((b33 : Nat) : Int), .pointer p33] 64), ((φ4 1), .cells #[.bool b23, .pointer p23, .int .u64 ((b33 : Nat) : Int), .pointer p33] 64)]) (fun φ4 => [(φ4 0), (φ4 0), (φ4 0), (φ4 0), (φ4 1), (φ4 1), (φ4 1), (φ4 1)]) s trivial (fun φ4 => by kernel_rfl) ?_
  intro φ4 w4 s
  refine ops_done (by kernel_rfl) ?_
  refine wp_seq ?_
  refine region_rule ?_
  refine ops_rule (C := []) [((φ4 0), .cells #[.bool b3, .pointer p3, .int .u64 ((b33 : Nat) : Int), .pointer p33] 64), ((φ4 1), .cells #[.bool b23, .pointer p23, .int .u64 ((b33 : Nat) : Int), .pointer p33] 64)] [] 1 [.o 0, .o 0, .o 0, .o 0] 0 (fun φ5 => [(13, .agg #[.bool b3, .pointer p3, .int .u64 ((b33 : Nat) : Int), .pointer p33])]) (fun φ5 => [((φ4 0), .cells #[.bool b3, .pointer p3, .int .u64 ((b33 : Nat) : Int), .pointer p33] 64), ((φ4 1), .cells #[.bool b23, .pointer p23, .int .u64 ((b33 : Nat) : Int), .pointer p33] 64)]) (fun φ5 => [(φ4 0), (φ4 0), (φ4 0), (φ4 0)]) s trivial (fun φ5 => by kernel_rfl) ?_
  intro φ5 w5 s
  refine call_rule (some 14) s (tick_c (i := (T.node T.one T.zero)) (e := (E.leaf 0)) h3_0 h3_2 ⟨trivial, trivial, .inl rfl⟩ (by decide) (by decide) (by decide)) (by kernel_rfl) ?_
  intro v6 I6 w6 le6 h6 s
  replace hT := Tab.mono le6 hT
  replace h3_0 := TRep.mono le6 h3_0
  replace h3_1 := TRep.mono le6 h3_1
  replace h3_2 := ERep.mono le6 h3_2
  obtain ⟨b6, p6, rfl, h6_0⟩ := h6
  refine ops_rule (C := []) [((φ4 0), .cells #[.bool b3, .pointer p3, .int .u64 ((b33 : Nat) : Int), .pointer p33] 64), ((φ4 1), .cells #[.bool b23, .pointer p23, .int .u64 ((b33 : Nat) : Int), .pointer p33] 64)] [] 6 [.o 2, .o 2, .o 2, .o 2] 1 (fun φ7 => [(5, .int .i64 0), (4, .pointer (some ⟨(φ7 0), 0, none⟩)), (16, .int .i64 0), (15, .agg #[.bool b3, .pointer p3, .int .u64 ((b6 : Nat) : Int), .pointer p6]), (12, .tuple #[.agg #[.bool b3, .pointer p3, .int .u64 ((b6 : Nat) : Int), .pointer p6], .int .i64 0])]) (fun φ7 => [((φ4 0), .cells #[.bool b3, .pointer p3, .int .u64 ((b33 : Nat) : Int), .pointer p33] 64), ((φ4 1), .cells #[.bool b23, .pointer p23, .int .u64 ((b33 : Nat) : Int), .pointer p33] 64), ((φ7 0), .cells #[.bool b3, .pointer p3, .int .u64 ((b6 : Nat) : Int), .pointer p6] 64)]) (fun φ7 => [(φ7 0), (φ7 0), (φ7 0), (φ7 0)]) s trivial (fun φ7 => by kernel_rfl) ?_
  intro φ7 w7 s
  refine ops_done (by kernel_rfl) ?_
  refine wp_seq ?_
  refine region_rule ?_
  refine ops_rule (C := []) [((φ4 0), .cells #[.bool b3, .pointer p3, .int .u64 ((b33 : Nat) : Int), .pointer p33] 64), ((φ4 1), .cells #[.bool b23, .pointer p23, .int .u64 ((b33 : Nat) : Int), .pointer p33] 64), ((φ7 0), .cells #[.bool b3, .pointer p3, .int .u64 ((b6 : Nat) : Int), .pointer p6] 64)] [] 8 [.o 0, .o 0, .o 0, .o 0] 0 (fun φ8 => [(24, .agg #[.bool b3, .pointer p3, .int .u64 ((b33 : Nat) : Int), .pointer p33]), (23, .bool true), (22, .bool true), (21, .bool true), (20, .int .i64 0), (19, .bool true), (18, .bool true), (17, .int .i64 0)]) (fun φ8 => [((φ4 0), .cells #[.bool b3, .pointer p3, .int .u64 ((b33 : Nat) : Int), .pointer p33] 64), ((φ4 1), .cells #[.bool b23, .pointer p23, .int .u64 ((b33 : Nat) : Int), .pointer p33] 64), ((φ7 0), .cells #[.bool b3, .pointer p3, .int .u64 ((b6 : Nat) : Int), .pointer p6] 64)]) (fun φ8 => [(φ4 0), (φ4 0), (φ4 0), (φ4 0)]) s trivial (fun φ8 => by kernel_rfl) ?_
  intro φ8 w8 s
  refine call_rule (some 25) s (stext0_c hT h3_0 h3_2) (by kernel_rfl) ?_
  intro v9 I9 w9 le9 h9 s
  replace hT := Tab.mono le9 hT
  replace h3_0 := TRep.mono le9 h3_0
  replace h3_1 := TRep.mono le9 h3_1
  replace h3_2 := ERep.mono le9 h3_2
  replace h6_0 := ERep.mono le9 h6_0
  obtain rfl := h9
  refine ops_rule (C := []) [((φ4 0), .cells #[.bool b3, .pointer p3, .int .u64 ((b33 : Nat) : Int), .pointer p33] 64), ((φ4 1), .cells #[.bool b23, .pointer p23, .int .u64 ((b33 : Nat) : Int), .pointer p33] 64), ((φ7 0), .cells #[.bool b3, .pointer p3, .int .u64 ((b6 : Nat) : Int), .pointer p6] 64)] [] 4 [.o 1, .o 1, .o 1, .o 1] 0 (fun φ10 => [(29, .agg #[.bool b23, .pointer p23, .int .u64 ((b33 : Nat) : Int), .pointer p33]), (28, .bool true), (27, .bool true), (26, .bool true)]) (fun φ10 => [((φ4 0), .cells #[.bool b3, .pointer p3, .int .u64 ((b33 : Nat) : Int), .pointer p33] 64), ((φ4 1), .cells #[.bool b23, .pointer p23, .int .u64 ((b33 : Nat) : Int), .pointer p33] 64), ((φ7 0), .cells #[.bool b3, .pointer p3, .int .u64 ((b6 : Nat) : Int), .pointer p6] 64)]) (fun φ10 => [(φ4 1), (φ4 1), (φ4 1), (φ4 1)]) s trivial (fun φ10 => by kernel_rfl) ?_
  intro φ10 w10 s
  refine call_rule (some 30) s (stext1_c hT h3_1 h3_2) (by kernel_rfl) ?_
  intro v11 I11 w11 le11 h11 s
  replace hT := Tab.mono le11 hT
  replace h3_0 := TRep.mono le11 h3_0
  replace h3_1 := TRep.mono le11 h3_1
  replace h3_2 := ERep.mono le11 h3_2
  replace h6_0 := ERep.mono le11 h6_0
  obtain rfl := h11
  refine ops_rule (C := []) [((φ4 0), .cells #[.bool b3, .pointer p3, .int .u64 ((b33 : Nat) : Int), .pointer p33] 64), ((φ4 1), .cells #[.bool b23, .pointer p23, .int .u64 ((b33 : Nat) : Int), .pointer p33] 64), ((φ7 0), .cells #[.bool b3, .pointer p3, .int .u64 ((b6 : Nat) : Int), .pointer p6] 64)] [] 4 [.o 2, .o 2, .o 2, .o 2] 0 (fun φ12 => [(34, .agg #[.bool b3, .pointer p3, .int .u64 ((b6 : Nat) : Int), .pointer p6]), (33, .bool true), (32, .bool true), (31, .bool true)]) (fun φ12 => [((φ4 0), .cells #[.bool b3, .pointer p3, .int .u64 ((b33 : Nat) : Int), .pointer p33] 64), ((φ4 1), .cells #[.bool b23, .pointer p23, .int .u64 ((b33 : Nat) : Int), .pointer p33] 64), ((φ7 0), .cells #[.bool b3, .pointer p3, .int .u64 ((b6 : Nat) : Int), .pointer p6] 64)]) (fun φ12 => [(φ7 0), (φ7 0), (φ7 0), (φ7 0)]) s trivial (fun φ12 => by kernel_rfl) ?_
  intro φ12 w12 s
  refine call_rule (some 35) s (stext2_c hT h3_0 h6_0) (by kernel_rfl) ?_
  intro v13 I13 w13 le13 h13 s
  replace hT := Tab.mono le13 hT
  replace h3_0 := TRep.mono le13 h3_0
  replace h3_1 := TRep.mono le13 h3_1
  replace h3_2 := ERep.mono le13 h3_2
  replace h6_0 := ERep.mono le13 h6_0
  obtain rfl := h13
  refine ops_rule (C := []) [((φ4 0), .cells #[.bool b3, .pointer p3, .int .u64 ((b33 : Nat) : Int), .pointer p33] 64), ((φ4 1), .cells #[.bool b23, .pointer p23, .int .u64 ((b33 : Nat) : Int), .pointer p33] 64), ((φ7 0), .cells #[.bool b3, .pointer p3, .int .u64 ((b6 : Nat) : Int), .pointer p6] 64)] [] 3 [] 0 (fun φ14 => [(0, .bool true), (37, .bool true), (36, .bool true)]) (fun φ14 => [((φ4 0), .cells #[.bool b3, .pointer p3, .int .u64 ((b33 : Nat) : Int), .pointer p33] 64), ((φ4 1), .cells #[.bool b23, .pointer p23, .int .u64 ((b33 : Nat) : Int), .pointer p33] 64), ((φ7 0), .cells #[.bool b3, .pointer p3, .int .u64 ((b6 : Nat) : Int), .pointer p6] 64)]) (fun φ14 => []) s trivial (fun φ14 => by kernel_rfl) ?_
  intro φ14 w14 s
  refine ops_done (by kernel_rfl) ?_
  refine wp_ret ?_
  refine ret_rule (C := []) [((φ4 0), .cells #[.bool b3, .pointer p3, .int .u64 ((b33 : Nat) : Int), .pointer p33] 64), ((φ4 1), .cells #[.bool b23, .pointer p23, .int .u64 ((b33 : Nat) : Int), .pointer p33] 64), ((φ7 0), .cells #[.bool b3, .pointer p3, .int .u64 ((b6 : Nat) : Int), .pointer p6] 64)] [] (.bool true) [] [] s trivial (by kernel_rfl) ?_
  exact ⟨_, _, _, rfl, s, rfl⟩

end Go.Proofs.YtgdickihjaomjaaDoor
