/- The document's Heights and Has: rows. -/
import Derived.Test.YtgdickihjaomjaaDoorElP20
import Derived.Test.YtgdickihjaomjaaDoorElS9
set_option linter.all false
set_option maxRecDepth 100000
namespace Go.Proofs.YtgdickihjaomjaaDoor
open Go.RowKit Go.Sep

def cU (n : Nat) : Value := .int .u64 ((n : Nat) : Int)
/-- The first cells of block b, which is never written, are xs. -/
def VS (J : IM) (e : TypeId) (xs : List Value) (b : Nat) : Prop := ∃ cur : Array Value, J b = some (.cells cur e) ∧ cur.toList.take xs.length = xs
theorem VS.mono {I J : IM} (le : I.Le J) {e : TypeId} {xs : List Value} {b : Nat} (h : VS I e xs b) : VS J e xs b := by
  obtain ⟨cur, h1, h2⟩ := h
  exact ⟨cur, le _ _ h1, h2⟩
theorem fun_of_row {f : FuncId} {args : Array Value} {I : IM} {e : TypeId} {n : Nat} {xs : List Value} (hn : 0 < n) (h : FunM Tryd.prog f args I [] (fun v J F => RowH e 1 v n xs F)) :
    Fun Tryd.prog f args I (fun v J => ∃ b c, v = .slice (some ⟨b, 0, none⟩) n c ∧ VS J e xs b) := by
  intro w hw
  refine (h w hw (Owns.nil I w)).mono ?_
  rintro en w' ⟨v, I', H', he, s, hr⟩
  have hl := hr.1
  rcases hr.2 with ⟨_, h0, _⟩ | ⟨g, cap, cur, hv, hF, hnc, hcm, hcs, htake⟩
  · omega
  · subst hF
    refine ⟨v, I'.add g (.cells cur e), [], he, s.freeze, g, cap, hv, cur, IM.add_self _ _ _, ?_⟩
    rw [hl]; exact htake
theorem src_frozen {I : IM} {w : World} (hs : I.Sub w) {e tx e' : TypeId} {xs : List Value} {b n c : Nat} (h : VS I e xs b) (hk : Tryd.prog.underlying tx = some (.slice e')) (hn : xs.length = n) (h1 : xs.all (·.oneCell') = true) : Src Tryd.prog 1 tx (.slice (some ⟨b, 0, none⟩) n c) n xs w := by
  obtain ⟨cur, hb, ht⟩ := h
  have hb := hs _ _ hb
  refine Src.ofSlice w hk ⟨b, 0, none⟩ n c xs (by omega) (fun j u hu => ?_) (fun u hu => by simpa using List.all_eq_true.1 h1 u hu)
  have hadd : (⟨b, 0, none⟩ : Addr).add j = ⟨b, j, none⟩ := by unfold Addr.add; split <;> simp_all
  rw [hadd, run_cell (a := ⟨b, j, none⟩) hb rfl rfl]
  rw [← ht, List.getElem?_take] at hu
  split at hu
  · simpa using hu
  · cases hu
theorem one_cU (l : List Nat) : (l.map cU).all (·.oneCell') = true := by
  rw [List.all_map]; exact List.all_eq_true.2 fun x _ => rfl
set_option maxHeartbeats 1000000 in
theorem radd_c {I : IM} {e : E} {k m : Nat} (h : RE I e k) (ht : e.top + m < 18446744073709551616) : Fun Tryd.prog 80 #[.pointer (some ⟨k, 0, none⟩), .int .u64 ((m : Nat) : Int)] I (fun v J => ∃ k, v = .pointer (some ⟨k, 0, none⟩) ∧ RE J (E.up m e) k) := by
  cases e with
  | leaf n =>
    have h0 : RE _ (E.leaf n) k := h
    have hb9 : n ≤ (E.leaf n).top := E.base_le (E.leaf n)
    refine enter_rule 21 [(0, .pointer (some ⟨k, 0, none⟩)), (1, .int .u64 ((m : Nat) : Int))] Tryd.func80 rfl (by kernel_rfl) ?_
    intro w s
    refine wp_seq ?_
    refine region_rule ?_
    refine ops_rule (C := []) [] [] 1 [] 0 (fun φ1 => [(4, .pointer none)]) (fun φ1 => []) (fun φ1 => []) s trivial (fun φ1 => by kernel_rfl) ?_
    intro φ1 w1 s
    refine ops_done (by kernel_rfl) ?_
    refine wp_seq ?_
    refine draw_rule (C := [(k, .cells #[.int .u64 ((n : Nat) : Int), .pointer none, .pointer none] 112)]) ⟨(fun φ2 xs2 => [.look 0 [] [], .look 0 [] [], .look 0 [] [], .look 0 [.c 0] [k], .look 0 [] [], .sub 0 [] [] (.int .u64 (IntKind.wrap .u64 (((n : Nat) : Int) + ((m : Nat) : Int)))), .look 0 [] [], .look 0 [] [], .look 0 [] [], .look 0 [.c 0] [k], .look 0 [] [], .look 0 [] [], .look 0 [] [], .look 0 [.c 0] [k], .look 0 [] [], .new, .look 0 [] []]), (fun φ2 xs2 => [.pointer (some ⟨k, 0, none⟩), .pointer (some ⟨k, 0, none⟩), .pointer (some ⟨k, 0, none⟩), .int .u64 ((n : Nat) : Int), .int .u64 ((m : Nat) : Int), .int .u64 ((n + m : Nat) : Int), .pointer (some ⟨k, 0, none⟩), .pointer (some ⟨k, 0, none⟩), .pointer (some ⟨k, 1, none⟩), .pointer none, .pointer (some ⟨k, 0, none⟩), .pointer (some ⟨k, 0, none⟩), .pointer (some ⟨k, 2, none⟩), .pointer none, .agg #[.int .u64 ((n + m : Nat) : Int), .pointer none, .pointer none], .pointer (some ⟨(φ2 15), 0, none⟩), .pointer (some ⟨(φ2 15), 0, none⟩)]), (fun φ2 xs2 => [[]]), (fun φ2 xs2 => [[default, default, default, default, default, default, default, default, default, default, default, default, default, default, default, .cells #[.int .u64 ((n + m : Nat) : Int), .pointer none, .pointer none] 112, default]]), [], [1, 1, 1, 1, 1, 5, 1, 1, 1, 1, 1, 1, 1, 1, 1, 2, 1]⟩ (fun j => ([MP.any, MP.any, MP.any, MP.any, MP.any, MP.any, MP.any, MP.any, MP.any, MP.any, MP.any, MP.any, MP.any, MP.any, MP.any, MP.any, MP.any] : List MP).getD j MP.any) [] [5] [] (fun φ2 xs2 => []) (fun φ2 xs2 => [(5, .pointer (some ⟨k, 0, none⟩)), (6, .pointer (some ⟨k, 0, none⟩)), (7, .pointer (some ⟨k, 0, none⟩)), (8, .int .u64 ((n : Nat) : Int)), (9, .int .u64 ((m : Nat) : Int)), (10, .int .u64 ((n + m : Nat) : Int)), (11, .pointer (some ⟨k, 0, none⟩)), (12, .pointer (some ⟨k, 0, none⟩)), (13, .pointer (some ⟨k, 1, none⟩)), (14, .pointer none), (15, .pointer (some ⟨k, 0, none⟩)), (16, .pointer (some ⟨k, 0, none⟩)), (17, .pointer (some ⟨k, 2, none⟩)), (18, .pointer none), (19, .agg #[.int .u64 ((n + m : Nat) : Int), .pointer none, .pointer none]), (20, .pointer (some ⟨(φ2 15), 0, none⟩)), (4, .pointer (some ⟨(φ2 15), 0, none⟩))]) (fun φ2 xs2 => [((φ2 15), .cells #[.int .u64 ((n + m : Nat) : Int), .pointer none, .pointer none] 112)]) s ⟨h, trivial⟩ (by kernel_rfl) (by kernel_rfl) (fun _ _ => by kernel_rfl) (fun _ _ => by kernel_rfl) ⟨fun _ _ => by kernel_rfl, fun _ _ => by kernel_rfl, fun _ _ => by kernel_rfl, fun _ _ => by kernel_rfl⟩ (fun _ _ _ => by kernel_rfl) (fun _ _ => by kernel_rfl) (fun _ _ => by kernel_rfl) (fun _ _ => by kernel_rfl) (fun _ _ => by kernel_rfl) (fun _ _ => by kernel_rfl) ⟨kcast (A := ∀ (φ2 : Nat → Nat) (xs2 : Xs), (.int .u64 (IntKind.wrap .u64 (((n : Nat) : Int) + ((m : Nat) : Int))) : Value) = .int .u64 ((n + m : Nat) : Int)) (by kernel_rfl) (fun φ2 xs2 => congrArg (Value.int .u64) ((nat_addU (a := n) (b := m) (by omega)))), trivial⟩ trivial (by kernel_rfl) trivial ?k2
    case k2 =>
      rintro φ2 xs2 I2 w2 le2 s 
      replace h0 := RE.mono le2 h0
      replace h := le2 _ _ h
      refine wp_ret ?_
      refine ret_rule (C := []) [((φ2 15), .cells #[.int .u64 ((n + m : Nat) : Int), .pointer none, .pointer none] 112)] [] (.pointer (some ⟨(φ2 15), 0, none⟩)) [] [] s trivial (by kernel_rfl) ?_
      obtain ⟨I3, le3, hk3, s⟩ := s.freezeAt 0 (φ2 15) (.cells #[.int .u64 ((n + m : Nat) : Int), .pointer none, .pointer none] 112) [] (by kernel_rfl) (by kernel_rfl)
      replace h0 := RE.mono le3 h0
      replace h := le3 _ _ h
      exact ⟨_, _, _, rfl, s, ⟨_, rfl, hk3⟩⟩
  | node n l r =>
    have h0 : RE _ (E.node n l r) k := h
    obtain ⟨kl, kr, hk, hl, hr⟩ := h
    have hb9 : n ≤ (E.node n l r).top := E.base_le (E.node n l r)
    refine enter_rule 21 [(0, .pointer (some ⟨k, 0, none⟩)), (1, .int .u64 ((m : Nat) : Int))] Tryd.func80 rfl (by kernel_rfl) ?_
    intro w s
    refine wp_seq ?_
    refine region_rule ?_
    refine ops_rule (C := []) [] [] 1 [] 0 (fun φ1 => [(4, .pointer none)]) (fun φ1 => []) (fun φ1 => []) s trivial (fun φ1 => by kernel_rfl) ?_
    intro φ1 w1 s
    refine ops_done (by kernel_rfl) ?_
    refine wp_seq ?_
    refine draw_rule (C := [(k, .cells #[.int .u64 ((n : Nat) : Int), .pointer (some ⟨kl, 0, none⟩), .pointer (some ⟨kr, 0, none⟩)] 112)]) ⟨(fun φ2 xs2 => [.look 0 [] [], .look 0 [] [], .look 0 [] [], .look 0 [.c 0] [k], .look 0 [] [], .sub 0 [] [] (.int .u64 (IntKind.wrap .u64 (((n : Nat) : Int) + ((m : Nat) : Int)))), .look 0 [] [], .look 0 [] [], .look 0 [] [], .look 0 [.c 0] [k], .look 0 [] [], .look 0 [] [], .look 0 [] [], .look 0 [.c 0] [k], .look 0 [] [], .new, .look 0 [] []]), (fun φ2 xs2 => [.pointer (some ⟨k, 0, none⟩), .pointer (some ⟨k, 0, none⟩), .pointer (some ⟨k, 0, none⟩), .int .u64 ((n : Nat) : Int), .int .u64 ((m : Nat) : Int), .int .u64 ((n + m : Nat) : Int), .pointer (some ⟨k, 0, none⟩), .pointer (some ⟨k, 0, none⟩), .pointer (some ⟨k, 1, none⟩), .pointer (some ⟨kl, 0, none⟩), .pointer (some ⟨k, 0, none⟩), .pointer (some ⟨k, 0, none⟩), .pointer (some ⟨k, 2, none⟩), .pointer (some ⟨kr, 0, none⟩), .agg #[.int .u64 ((n + m : Nat) : Int), .pointer (some ⟨kl, 0, none⟩), .pointer (some ⟨kr, 0, none⟩)], .pointer (some ⟨(φ2 15), 0, none⟩), .pointer (some ⟨(φ2 15), 0, none⟩)]), (fun φ2 xs2 => [[]]), (fun φ2 xs2 => [[default, default, default, default, default, default, default, default, default, default, default, default, default, default, default, .cells #[.int .u64 ((n + m : Nat) : Int), .pointer (some ⟨kl, 0, none⟩), .pointer (some ⟨kr, 0, none⟩)] 112, default]]), [], [1, 1, 1, 1, 1, 5, 1, 1, 1, 1, 1, 1, 1, 1, 1, 2, 1]⟩ (fun j => ([MP.any, MP.any, MP.any, MP.any, MP.any, MP.any, MP.any, MP.any, MP.any, MP.any, MP.any, MP.any, MP.any, MP.any, MP.any, MP.any, MP.any] : List MP).getD j MP.any) [] [5] [] (fun φ2 xs2 => []) (fun φ2 xs2 => [(5, .pointer (some ⟨k, 0, none⟩)), (6, .pointer (some ⟨k, 0, none⟩)), (7, .pointer (some ⟨k, 0, none⟩)), (8, .int .u64 ((n : Nat) : Int)), (9, .int .u64 ((m : Nat) : Int)), (10, .int .u64 ((n + m : Nat) : Int)), (11, .pointer (some ⟨k, 0, none⟩)), (12, .pointer (some ⟨k, 0, none⟩)), (13, .pointer (some ⟨k, 1, none⟩)), (14, .pointer (some ⟨kl, 0, none⟩)), (15, .pointer (some ⟨k, 0, none⟩)), (16, .pointer (some ⟨k, 0, none⟩)), (17, .pointer (some ⟨k, 2, none⟩)), (18, .pointer (some ⟨kr, 0, none⟩)), (19, .agg #[.int .u64 ((n + m : Nat) : Int), .pointer (some ⟨kl, 0, none⟩), .pointer (some ⟨kr, 0, none⟩)]), (20, .pointer (some ⟨(φ2 15), 0, none⟩)), (4, .pointer (some ⟨(φ2 15), 0, none⟩))]) (fun φ2 xs2 => [((φ2 15), .cells #[.int .u64 ((n + m : Nat) : Int), .pointer (some ⟨kl, 0, none⟩), .pointer (some ⟨kr, 0, none⟩)] 112)]) s ⟨hk, trivial⟩ (by kernel_rfl) (by kernel_rfl) (fun _ _ => by kernel_rfl) (fun _ _ => by kernel_rfl) ⟨fun _ _ => by kernel_rfl, fun _ _ => by kernel_rfl, fun _ _ => by kernel_rfl, fun _ _ => by kernel_rfl⟩ (fun _ _ _ => by kernel_rfl) (fun _ _ => by kernel_rfl) (fun _ _ => by kernel_rfl) (fun _ _ => by kernel_rfl) (fun _ _ => by kernel_rfl) (fun _ _ => by kernel_rfl) ⟨kcast (A := ∀ (φ2 : Nat → Nat) (xs2 : Xs), (.int .u64 (IntKind.wrap .u64 (((n : Nat) : Int) + ((m : Nat) : Int))) : Value) = .int .u64 ((n + m : Nat) : Int)) (by kernel_rfl) (fun φ2 xs2 => congrArg (Value.int .u64) ((nat_addU (a := n) (b := m) (by omega)))), trivial⟩ trivial (by kernel_rfl) trivial ?k2
    case k2 =>
      rintro φ2 xs2 I2 w2 le2 s 
      replace hl := RE.mono le2 hl
      replace hr := RE.mono le2 hr
      replace h0 := RE.mono le2 h0
      replace hk := le2 _ _ hk
      refine wp_ret ?_
      refine ret_rule (C := []) [((φ2 15), .cells #[.int .u64 ((n + m : Nat) : Int), .pointer (some ⟨kl, 0, none⟩), .pointer (some ⟨kr, 0, none⟩)] 112)] [] (.pointer (some ⟨(φ2 15), 0, none⟩)) [] [] s trivial (by kernel_rfl) ?_
      obtain ⟨I3, le3, hk3, s⟩ := s.freezeAt 0 (φ2 15) (.cells #[.int .u64 ((n + m : Nat) : Int), .pointer (some ⟨kl, 0, none⟩), .pointer (some ⟨kr, 0, none⟩)] 112) [] (by kernel_rfl) (by kernel_rfl)
      replace hl := RE.mono le3 hl
      replace hr := RE.mono le3 hr
      replace h0 := RE.mono le3 h0
      replace hk := le3 _ _ hk
      exact ⟨_, _, _, rfl, s, ⟨_, rfl, ⟨_, _, hk3, hl, hr⟩⟩⟩

set_option maxHeartbeats 1000000 in
theorem reLeft_c {I : IM} {e : E} {k : Nat} (h : RE I e k) (ht : e.top < 18446744073709551616) : Fun Tryd.prog 41 #[.pointer (some ⟨k, 0, none⟩)] I (fun v J => ∃ k, v = .pointer (some ⟨k, 0, none⟩) ∧ RE J (E.up e.base e.left) k) := by
  cases e with
  | leaf n =>
    have h0 : RE _ (E.leaf n) k := h
    refine enter_rule 18 [(0, .pointer (some ⟨k, 0, none⟩))] Tryd.func41 rfl (by kernel_rfl) ?_
    intro w s
    refine wp_seq ?_
    refine region_rule ?_
    refine ops_rule (C := []) [] [] 1 [] 0 (fun φ1 => [(2, .pointer none)]) (fun φ1 => []) (fun φ1 => []) s trivial (fun φ1 => by kernel_rfl) ?_
    intro φ1 w1 s
    refine ops_done (by kernel_rfl) ?_
    refine wp_seq ?_
    refine wp_seq ?_
    refine region_rule ?_
    refine ops_rule (C := [(k, .cells #[.int .u64 ((n : Nat) : Int), .pointer none, .pointer none] 112)]) [] [] 5 [.c 0] 0 (fun φ2 => [(7, .bool true), (6, .pointer none), (5, .pointer (some ⟨k, 1, none⟩)), (4, .pointer (some ⟨k, 0, none⟩)), (3, .pointer (some ⟨k, 0, none⟩))]) (fun φ2 => []) (fun φ2 => [k]) s ⟨h, trivial⟩ (fun φ2 => by kernel_rfl) ?_
    intro φ2 w2 s
    refine ops_done (by kernel_rfl) ?_
    refine cond_true_rule (b := true) (by kernel_rfl) rfl ?_
    refine wp_seq ?_
    refine region_rule ?_
    refine ops_rule (C := []) [] [] 2 [] 0 (fun φ3 => [(2, .pointer (some ⟨k, 0, none⟩)), (8, .pointer (some ⟨k, 0, none⟩))]) (fun φ3 => []) (fun φ3 => []) s trivial (fun φ3 => by kernel_rfl) ?_
    intro φ3 w3 s
    refine ops_done (by kernel_rfl) ?_
    refine wp_ret ?_
    refine ret_rule (C := []) [] [] (.pointer (some ⟨k, 0, none⟩)) [] [] s trivial (by kernel_rfl) ?_
    exact ⟨_, _, _, rfl, s, ⟨_, rfl, by show RE _ (E.leaf (0 + n)) _; rw [Nat.zero_add]; exact h0⟩⟩
  | node n l r =>
    have h0 : RE _ (E.node n l r) k := h
    obtain ⟨kl, kr, hk, hl, hr⟩ := h
    have ht1 : n + max l.top r.top < 18446744073709551616 := ht
    refine enter_rule 18 [(0, .pointer (some ⟨k, 0, none⟩))] Tryd.func41 rfl (by kernel_rfl) ?_
    intro w s
    refine wp_seq ?_
    refine region_rule ?_
    refine ops_rule (C := []) [] [] 1 [] 0 (fun φ1 => [(2, .pointer none)]) (fun φ1 => []) (fun φ1 => []) s trivial (fun φ1 => by kernel_rfl) ?_
    intro φ1 w1 s
    refine ops_done (by kernel_rfl) ?_
    refine wp_seq ?_
    refine wp_seq ?_
    refine region_rule ?_
    refine ops_rule (C := [(k, .cells #[.int .u64 ((n : Nat) : Int), .pointer (some ⟨kl, 0, none⟩), .pointer (some ⟨kr, 0, none⟩)] 112)]) [] [] 5 [.c 0] 0 (fun φ2 => [(7, .bool false), (6, .pointer (some ⟨kl, 0, none⟩)), (5, .pointer (some ⟨k, 1, none⟩)), (4, .pointer (some ⟨k, 0, none⟩)), (3, .pointer (some ⟨k, 0, none⟩))]) (fun φ2 => []) (fun φ2 => [k]) s ⟨hk, trivial⟩ (fun φ2 => by kernel_rfl) ?_
    intro φ2 w2 s
    refine ops_done (by kernel_rfl) ?_
    refine cond_false_rule (b := false) (by kernel_rfl) rfl ?_
    refine wp_skip ?_
    refine wp_seq ?_
    refine draw_rule (C := [(k, .cells #[.int .u64 ((n : Nat) : Int), .pointer (some ⟨kl, 0, none⟩), .pointer (some ⟨kr, 0, none⟩)] 112)]) ⟨(fun φ3 xs3 => [.look 0 [] [], .look 0 [] [], .look 0 [] [], .look 0 [.c 0] [k], .look 0 [] [], .look 0 [] [], .look 0 [] [], .look 0 [.c 0] [k], .call 80 #[.pointer (some ⟨kl, 0, none⟩), .int .u64 ((n : Nat) : Int)], .look 0 [] []]), (fun φ3 xs3 => [.pointer (some ⟨k, 0, none⟩), .pointer (some ⟨k, 0, none⟩), .pointer (some ⟨k, 1, none⟩), .pointer (some ⟨kl, 0, none⟩), .pointer (some ⟨k, 0, none⟩), .pointer (some ⟨k, 0, none⟩), .pointer (some ⟨k, 0, none⟩), .int .u64 ((n : Nat) : Int), .pointer (some ⟨(xs3 8).n 0, 0, none⟩), .pointer (some ⟨(xs3 8).n 0, 0, none⟩)]), (fun φ3 xs3 => [[]]), (fun φ3 xs3 => [[default, default, default, default, default, default, default, default, default, default]]), [], [1, 1, 1, 1, 1, 1, 1, 1, 3, 1]⟩ (fun j => ([MP.any, MP.any, MP.any, MP.any, MP.any, MP.any, MP.any, MP.any, ⟨fun x J => RE J (E.up n l) (x.n 0), fun le h => RE.mono le h⟩, MP.any] : List MP).getD j MP.any) [8] [] [] (fun φ3 xs3 => []) (fun φ3 xs3 => [(9, .pointer (some ⟨k, 0, none⟩)), (10, .pointer (some ⟨k, 0, none⟩)), (11, .pointer (some ⟨k, 1, none⟩)), (12, .pointer (some ⟨kl, 0, none⟩)), (13, .pointer (some ⟨k, 0, none⟩)), (14, .pointer (some ⟨k, 0, none⟩)), (15, .pointer (some ⟨k, 0, none⟩)), (16, .int .u64 ((n : Nat) : Int)), (17, .pointer (some ⟨(xs3 8).n 0, 0, none⟩)), (2, .pointer (some ⟨(xs3 8).n 0, 0, none⟩))]) (fun φ3 xs3 => []) s ⟨hk, trivial⟩ (by kernel_rfl) (by kernel_rfl) (fun _ _ => by kernel_rfl) (fun _ _ => by kernel_rfl) ⟨fun _ _ => by kernel_rfl, fun _ _ => by kernel_rfl, fun _ _ => by kernel_rfl, fun _ _ => by kernel_rfl⟩ (fun _ _ _ => by kernel_rfl) (fun _ _ => by kernel_rfl) (fun _ _ => by kernel_rfl) (fun _ _ => by kernel_rfl) (fun _ _ => by kernel_rfl) (fun _ _ => by kernel_rfl) trivial trivial (by kernel_rfl) ⟨?c3_8, trivial⟩ ?k3
    case c3_8 =>
      refine kcast (A := ∀ (φ3 : Nat → Nat) (xs3 : Xs) (J8_3 : IM), I.Le J8_3 → Fun Tryd.prog 80 #[.pointer (some ⟨kl, 0, none⟩), .int .u64 ((n : Nat) : Int)] J8_3 (fun v J' => ∃ x : UX, v = .pointer (some ⟨x.n 0, 0, none⟩) ∧ (RE J' (E.up n l) (x.n 0)))) (by kernel_rfl) ?_
      intro φ3 xs3 J8_3 leJ
      have hl := RE.mono leJ hl
      exact Fun.mono (radd_c (m := n) hl (by omega)) (fun v J' _ ⟨y0, hv, g0⟩ => ⟨{ UX.d with n := fun j => y0 }, hv, g0⟩)
    case k3 =>
      rintro φ3 xs3 I3 w3 le3 s h3_8_0
      replace hl := RE.mono le3 hl
      replace hr := RE.mono le3 hr
      replace h0 := RE.mono le3 h0
      replace hk := le3 _ _ hk
      refine wp_ret ?_
      refine ret_rule (C := []) [] [] (.pointer (some ⟨(xs3 8).n 0, 0, none⟩)) [] [] s trivial (by kernel_rfl) ?_
      exact ⟨_, _, _, rfl, s, ⟨_, rfl, h3_8_0⟩⟩

set_option maxHeartbeats 1000000 in
theorem reRight_c {I : IM} {e : E} {k : Nat} (h : RE I e k) (ht : e.top < 18446744073709551616) : Fun Tryd.prog 42 #[.pointer (some ⟨k, 0, none⟩)] I (fun v J => ∃ k, v = .pointer (some ⟨k, 0, none⟩) ∧ RE J (E.up e.base e.right) k) := by
  cases e with
  | leaf n =>
    have h0 : RE _ (E.leaf n) k := h
    refine enter_rule 18 [(0, .pointer (some ⟨k, 0, none⟩))] Tryd.func42 rfl (by kernel_rfl) ?_
    intro w s
    refine wp_seq ?_
    refine region_rule ?_
    refine ops_rule (C := []) [] [] 1 [] 0 (fun φ1 => [(2, .pointer none)]) (fun φ1 => []) (fun φ1 => []) s trivial (fun φ1 => by kernel_rfl) ?_
    intro φ1 w1 s
    refine ops_done (by kernel_rfl) ?_
    refine wp_seq ?_
    refine wp_seq ?_
    refine region_rule ?_
    refine ops_rule (C := [(k, .cells #[.int .u64 ((n : Nat) : Int), .pointer none, .pointer none] 112)]) [] [] 5 [.c 0] 0 (fun φ2 => [(7, .bool true), (6, .pointer none), (5, .pointer (some ⟨k, 1, none⟩)), (4, .pointer (some ⟨k, 0, none⟩)), (3, .pointer (some ⟨k, 0, none⟩))]) (fun φ2 => []) (fun φ2 => [k]) s ⟨h, trivial⟩ (fun φ2 => by kernel_rfl) ?_
    intro φ2 w2 s
    refine ops_done (by kernel_rfl) ?_
    refine cond_true_rule (b := true) (by kernel_rfl) rfl ?_
    refine wp_seq ?_
    refine region_rule ?_
    refine ops_rule (C := []) [] [] 2 [] 0 (fun φ3 => [(2, .pointer (some ⟨k, 0, none⟩)), (8, .pointer (some ⟨k, 0, none⟩))]) (fun φ3 => []) (fun φ3 => []) s trivial (fun φ3 => by kernel_rfl) ?_
    intro φ3 w3 s
    refine ops_done (by kernel_rfl) ?_
    refine wp_ret ?_
    refine ret_rule (C := []) [] [] (.pointer (some ⟨k, 0, none⟩)) [] [] s trivial (by kernel_rfl) ?_
    exact ⟨_, _, _, rfl, s, ⟨_, rfl, by show RE _ (E.leaf (0 + n)) _; rw [Nat.zero_add]; exact h0⟩⟩
  | node n l r =>
    have h0 : RE _ (E.node n l r) k := h
    obtain ⟨kl, kr, hk, hl, hr⟩ := h
    have ht1 : n + max l.top r.top < 18446744073709551616 := ht
    refine enter_rule 18 [(0, .pointer (some ⟨k, 0, none⟩))] Tryd.func42 rfl (by kernel_rfl) ?_
    intro w s
    refine wp_seq ?_
    refine region_rule ?_
    refine ops_rule (C := []) [] [] 1 [] 0 (fun φ1 => [(2, .pointer none)]) (fun φ1 => []) (fun φ1 => []) s trivial (fun φ1 => by kernel_rfl) ?_
    intro φ1 w1 s
    refine ops_done (by kernel_rfl) ?_
    refine wp_seq ?_
    refine wp_seq ?_
    refine region_rule ?_
    refine ops_rule (C := [(k, .cells #[.int .u64 ((n : Nat) : Int), .pointer (some ⟨kl, 0, none⟩), .pointer (some ⟨kr, 0, none⟩)] 112)]) [] [] 5 [.c 0] 0 (fun φ2 => [(7, .bool false), (6, .pointer (some ⟨kl, 0, none⟩)), (5, .pointer (some ⟨k, 1, none⟩)), (4, .pointer (some ⟨k, 0, none⟩)), (3, .pointer (some ⟨k, 0, none⟩))]) (fun φ2 => []) (fun φ2 => [k]) s ⟨hk, trivial⟩ (fun φ2 => by kernel_rfl) ?_
    intro φ2 w2 s
    refine ops_done (by kernel_rfl) ?_
    refine cond_false_rule (b := false) (by kernel_rfl) rfl ?_
    refine wp_skip ?_
    refine wp_seq ?_
    refine draw_rule (C := [(k, .cells #[.int .u64 ((n : Nat) : Int), .pointer (some ⟨kl, 0, none⟩), .pointer (some ⟨kr, 0, none⟩)] 112)]) ⟨(fun φ3 xs3 => [.look 0 [] [], .look 0 [] [], .look 0 [] [], .look 0 [.c 0] [k], .look 0 [] [], .look 0 [] [], .look 0 [] [], .look 0 [.c 0] [k], .call 80 #[.pointer (some ⟨kr, 0, none⟩), .int .u64 ((n : Nat) : Int)], .look 0 [] []]), (fun φ3 xs3 => [.pointer (some ⟨k, 0, none⟩), .pointer (some ⟨k, 0, none⟩), .pointer (some ⟨k, 2, none⟩), .pointer (some ⟨kr, 0, none⟩), .pointer (some ⟨k, 0, none⟩), .pointer (some ⟨k, 0, none⟩), .pointer (some ⟨k, 0, none⟩), .int .u64 ((n : Nat) : Int), .pointer (some ⟨(xs3 8).n 0, 0, none⟩), .pointer (some ⟨(xs3 8).n 0, 0, none⟩)]), (fun φ3 xs3 => [[]]), (fun φ3 xs3 => [[default, default, default, default, default, default, default, default, default, default]]), [], [1, 1, 1, 1, 1, 1, 1, 1, 3, 1]⟩ (fun j => ([MP.any, MP.any, MP.any, MP.any, MP.any, MP.any, MP.any, MP.any, ⟨fun x J => RE J (E.up n r) (x.n 0), fun le h => RE.mono le h⟩, MP.any] : List MP).getD j MP.any) [8] [] [] (fun φ3 xs3 => []) (fun φ3 xs3 => [(9, .pointer (some ⟨k, 0, none⟩)), (10, .pointer (some ⟨k, 0, none⟩)), (11, .pointer (some ⟨k, 2, none⟩)), (12, .pointer (some ⟨kr, 0, none⟩)), (13, .pointer (some ⟨k, 0, none⟩)), (14, .pointer (some ⟨k, 0, none⟩)), (15, .pointer (some ⟨k, 0, none⟩)), (16, .int .u64 ((n : Nat) : Int)), (17, .pointer (some ⟨(xs3 8).n 0, 0, none⟩)), (2, .pointer (some ⟨(xs3 8).n 0, 0, none⟩))]) (fun φ3 xs3 => []) s ⟨hk, trivial⟩ (by kernel_rfl) (by kernel_rfl) (fun _ _ => by kernel_rfl) (fun _ _ => by kernel_rfl) ⟨fun _ _ => by kernel_rfl, fun _ _ => by kernel_rfl, fun _ _ => by kernel_rfl, fun _ _ => by kernel_rfl⟩ (fun _ _ _ => by kernel_rfl) (fun _ _ => by kernel_rfl) (fun _ _ => by kernel_rfl) (fun _ _ => by kernel_rfl) (fun _ _ => by kernel_rfl) (fun _ _ => by kernel_rfl) trivial trivial (by kernel_rfl) ⟨?c3_8, trivial⟩ ?k3
    case c3_8 =>
      refine kcast (A := ∀ (φ3 : Nat → Nat) (xs3 : Xs) (J8_3 : IM), I.Le J8_3 → Fun Tryd.prog 80 #[.pointer (some ⟨kr, 0, none⟩), .int .u64 ((n : Nat) : Int)] J8_3 (fun v J' => ∃ x : UX, v = .pointer (some ⟨x.n 0, 0, none⟩) ∧ (RE J' (E.up n r) (x.n 0)))) (by kernel_rfl) ?_
      intro φ3 xs3 J8_3 leJ
      have hr := RE.mono leJ hr
      exact Fun.mono (radd_c (m := n) hr (by omega)) (fun v J' _ ⟨y0, hv, g0⟩ => ⟨{ UX.d with n := fun j => y0 }, hv, g0⟩)
    case k3 =>
      rintro φ3 xs3 I3 w3 le3 s h3_8_0
      replace hl := RE.mono le3 hl
      replace hr := RE.mono le3 hr
      replace h0 := RE.mono le3 h0
      replace hk := le3 _ _ hk
      refine wp_ret ?_
      refine ret_rule (C := []) [] [] (.pointer (some ⟨(xs3 8).n 0, 0, none⟩)) [] [] s trivial (by kernel_rfl) ?_
      exact ⟨_, _, _, rfl, s, ⟨_, rfl, h3_8_0⟩⟩

theorem half_top (e : E) : (E.up e.base e.left).top ≤ e.top ∧ (E.up e.base e.right).top ≤ e.top := by
  rw [E.up_top, E.up_top]
  have := E.base_half e
  omega

set_option maxHeartbeats 1000000 in
theorem heights_zero {I : IM} {x : E} {k : Nat} (h : RE I x k) (ht : x.top < 18446744073709551616) : FunM Tryd.prog 22 #[.pointer (some ⟨k, 0, none⟩), .int .i64 ((0 : Nat) : Int)] I [] (fun v J F => RowH 24 1 v (2 ^ 0) ((hL 0 x).map cU) F) := by
  refine enterM_rule 21 [(0, .pointer (some ⟨k, 0, none⟩)), (1, .int .i64 0)] Tryd.func22 rfl (by kernel_rfl) ?_
  intro w s
  refine wp_seq ?_
  refine region_rule ?_
  refine ops_rule (C := []) [] [] 1 [] 0 (fun φ1 => [(4, .slice none 0 0)]) (fun φ1 => []) (fun φ1 => []) s trivial (fun φ1 => by kernel_rfl) ?_
  intro φ1 w1 s
  refine ops_done (by kernel_rfl) ?_
  refine wp_seq ?_
  refine wp_seq ?_
  refine region_rule ?_
  refine ops_rule (C := []) [] [] 2 [] 0 (fun φ2 => [(6, .bool true), (5, .int .i64 0)]) (fun φ2 => []) (fun φ2 => []) s trivial (fun φ2 => by kernel_rfl) ?_
  intro φ2 w2 s
  refine ops_done (by kernel_rfl) ?_
  refine cond_true_rule (b := true) (by kernel_rfl) rfl ?_
  refine wp_seq ?_
  refine region_rule ?_
  refine ops_rule (C := []) [] [] 1 [] 0 (fun φ3 => [(7, .pointer (some ⟨k, 0, none⟩))]) (fun φ3 => []) (fun φ3 => []) s trivial (fun φ3 => by kernel_rfl) ?_
  intro φ3 w3 s
  refine call_rule (some 8) s (rmax_c x h (by omega)) (by kernel_rfl) ?_
  intro v4 I4 w4 le4 h4 s
  replace h := RE.mono le4 h
  obtain rfl := h4
  refine ops_rule (C := []) [] [] 2 [] 1 (fun φ5 => [(4, .slice (some ⟨(φ5 0), 0, none⟩) 1 1), (9, .slice (some ⟨(φ5 0), 0, none⟩) 1 1)]) (fun φ5 => [((φ5 0), .cells #[.int .u64 ((x.top : Nat) : Int)] 24)]) (fun φ5 => []) s trivial (fun φ5 => by kernel_rfl) ?_
  intro φ5 w5 s
  refine ops_done (by kernel_rfl) ?_
  refine wp_ret ?_
  refine ret_rule (C := []) [((φ5 0), .cells #[.int .u64 ((x.top : Nat) : Int)] 24)] [] (.slice (some ⟨(φ5 0), 0, none⟩) 1 1) [] [] s trivial (by kernel_rfl) ?_
  exact ⟨_, _, _, rfl, s, ⟨rfl, .inr ⟨_, 1, _, rfl, rfl, Nat.le_refl _, by decide, rfl, rfl⟩⟩⟩

set_option maxHeartbeats 2000000 in
theorem heights_succ {I : IM} {x : E} {k d : Nat} (h : RE I x k) (ht : x.top < 18446744073709551616) (hd : d ≤ 10) (ih : ∀ {I : IM} {x : E} {k : Nat}, RE I x k → x.top < 18446744073709551616 → FunM Tryd.prog 22 #[.pointer (some ⟨k, 0, none⟩), .int .i64 ((d : Nat) : Int)] I [] (fun v J F => RowH 24 1 v (2 ^ d) ((hL d x).map cU) F)) : FunM Tryd.prog 22 #[.pointer (some ⟨k, 0, none⟩), .int .i64 (((d + 1) : Nat) : Int)] I [] (fun v J F => RowH 24 1 v (2 ^ (d + 1)) ((hL (d + 1) x).map cU) F) := by
  have hp : 2 ^ d ≤ 2 ^ 10 := Nat.pow_le_pow_right (by omega) hd
  have hht := half_top x
  refine enterM_rule 21 [(0, .pointer (some ⟨k, 0, none⟩)), (1, .int .i64 ((d + 1 : Nat) : Int))] Tryd.func22 rfl (by kernel_rfl) ?_
  intro w s
  refine wp_seq ?_
  refine region_rule ?_
  refine ops_rule (C := []) [] [] 1 [] 0 (fun φ1 => [(4, .slice none 0 0)]) (fun φ1 => []) (fun φ1 => []) s trivial (fun φ1 => by kernel_rfl) ?_
  intro φ1 w1 s
  refine ops_done (by kernel_rfl) ?_
  refine wp_seq ?_
  refine wp_seq ?_
  refine region_rule ?_
  refine ops_rule (C := []) [] [] 2 [] 0 (fun φ2 => [(6, .bool (((d + 1 : Nat) : Int) == ((0 : Nat) : Int))), (5, .int .i64 ((d + 1 : Nat) : Int))]) (fun φ2 => []) (fun φ2 => []) s trivial (fun φ2 => by kernel_rfl) ?_
  intro φ2 w2 s
  rw [nat_eql (a := (d + 1)) (b := 0)]
  refine ops_done (by kernel_rfl) ?_
  rcases Bool.eq_false_or_eq_true (decide ((d + 1) = 0)) with hc3 | hc3
  ·
    exact absurd (of_decide_eq_true hc3) (by omega)
  ·
    rw [hc3]
    refine cond_false_rule (b := false) (by kernel_rfl) rfl ?_
    refine wp_skip ?_
    refine wp_seq ?_
    refine region_rule ?_
    refine ops_rule (C := []) [] [] 1 [] 0 (fun φ4 => [(10, .pointer (some ⟨k, 0, none⟩))]) (fun φ4 => []) (fun φ4 => []) s trivial (fun φ4 => by kernel_rfl) ?_
    intro φ4 w4 s
    refine call_rule (some 11) s (reLeft_c h (by omega)) (by kernel_rfl) ?_
    intro v5 I5 w5 le5 h5 s
    replace h := RE.mono le5 h
    obtain ⟨k5, rfl, h5_0⟩ := h5
    refine ops_rule (C := []) [] [] 2 [] 0 (fun φ6 => [(13, .int .i64 (IntKind.wrap .i64 (((d + 1 : Nat) : Int) - ((1 : Nat) : Int)))), (12, .int .i64 ((d + 1 : Nat) : Int))]) (fun φ6 => []) (fun φ6 => []) s trivial (fun φ6 => by kernel_rfl) ?_
    intro φ6 w6 s
    rw [nat_subI (a := (d + 1)) (b := 1) (by omega) (by omega)]
    refine callF_rule (H := []) (F := []) (some 14) s (ih h5_0 (by omega)) (by kernel_rfl) ?_
    intro v7 I7 w7 F7 le7 h7 s
    replace h := RE.mono le7 h
    replace h5_0 := RE.mono le7 h5_0
    refine ops_rule (C := []) [] F7 1 [] 0 (fun φ8 => [(15, .pointer (some ⟨k, 0, none⟩))]) (fun φ8 => []) (fun φ8 => []) s trivial (fun φ8 => by kernel_rfl) ?_
    intro φ8 w8 s
    refine call_rule (some 16) s (reRight_c h (by omega)) (by kernel_rfl) ?_
    intro v9 I9 w9 le9 h9 s
    replace h := RE.mono le9 h
    replace h5_0 := RE.mono le9 h5_0
    obtain ⟨k9, rfl, h9_0⟩ := h9
    refine ops_rule (C := []) [] F7 2 [] 0 (fun φ10 => [(18, .int .i64 (IntKind.wrap .i64 (((d + 1 : Nat) : Int) - ((1 : Nat) : Int)))), (17, .int .i64 ((d + 1 : Nat) : Int))]) (fun φ10 => []) (fun φ10 => []) s trivial (fun φ10 => by kernel_rfl) ?_
    intro φ10 w10 s
    rw [nat_subI (a := (d + 1)) (b := 1) (by omega) (by omega)]
    refine call_rule (some 19) s (fun_of_row (Nat.two_pow_pos d) (ih h9_0 (by omega))) (by kernel_rfl) ?_
    intro v11 I11 w11 le11 h11 s
    replace h := RE.mono le11 h
    replace h5_0 := RE.mono le11 h5_0
    replace h9_0 := RE.mono le11 h9_0
    obtain ⟨b11, c11, rfl, h11_0⟩ := h11
    refine append_rule (H := []) (F := F7) 37 37 24 Tryd.t24 (.int .u64 0) 1 8 (some 20) s Tryd.underlying37 (by kernel_rfl) (by kernel_rfl) (by kernel_rfl) (by kernel_rfl) (by kernel_rfl) (by decide) h7 (src_frozen (c := c11) s.sub h11_0 Tryd.underlying37 (by rw [List.length_map, hL_len]) (one_cU _)) (by simp only [maxLen]; omega) (by omega) (by kernel_rfl) ?_
    intro v12 w12 F12 s h12
    refine ops_rule (C := []) [] F12 1 [] 0 (fun φ13 => [(4, v12)]) (fun φ13 => []) (fun φ13 => []) s trivial (fun φ13 => by kernel_rfl) ?_
    intro φ13 w13 s
    refine ops_done (by kernel_rfl) ?_
    refine wp_ret ?_
    refine ret_rule (C := []) [] F12 (v12) [] [] s trivial (by kernel_rfl) ?_
    replace s := s.drop (List.sublist_append_right [] F12)
    exact ⟨_, _, _, rfl, s, (by have e9 := h12; rw [two_succ]; simp only [hL, List.map_append]; exact e9)⟩

theorem heights_c : ∀ (d : Nat) {I : IM} {x : E} {k : Nat}, d ≤ 10 → RE I x k → x.top < 18446744073709551616 → FunM Tryd.prog 22 #[.pointer (some ⟨k, 0, none⟩), .int .i64 ((d : Nat) : Int)] I [] (fun v J F => RowH 24 1 v (2 ^ d) ((hL d x).map cU) F)
  | 0, _, _, _, _, h, ht => heights_zero h ht
  | d + 1, _, _, _, hd, h, ht => heights_succ h ht (by omega) (fun {I} {x} {k} a b => heights_c d (by omega) a b)

end Go.Proofs.YtgdickihjaomjaaDoor
