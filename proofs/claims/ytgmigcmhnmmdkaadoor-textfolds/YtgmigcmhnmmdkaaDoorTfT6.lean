/- utf8.ValidString. -/
import Derived.Test.YtgmigcmhnmmdkaaDoorTfX2
import Derived.Test.YtgmigcmhnmmdkaaDoorTfShelfA
set_option linter.all false
set_option maxRecDepth 100000
namespace Go.Proofs.YtgmigcmhnmmdkaaDoor
open Go.RowKit Go.Sep
/-- the library's two tables are there -/
def U8 (I : IM) : Prop := ∀ w, I.Sub w → Lib.Utf8Tabs 0 1 w
theorem U8.mono {I J : IM} (le : I.Le J) (h : U8 I) : U8 J := fun w hw => h w (fun k o e => hw k o (le k o e))
theorem st_below {I : IM} {w w' : World} (hw : I.Sub w) (b : Below w.heap.size w w') : St w I [] I w' [] where
  sub k o e := (b.block k (hw.lt e)).trans (hw k o e)
  le := IM.Le.refl _
  new _ _ _ := rfl
  fr := ⟨b.os, b.tape, b.output, b.size, fun k hk _ => b.block k hk⟩
  own := by simp
  free := by simp
  fresh := by simp
  nodup := by simp
theorem valid_c {I : IM} {l : List UInt8} (hT : U8 I) (hn : l.length ≤ 1000000000) : Fun Tryd.prog 53 #[.string ⟨l.toArray⟩] I (fun v J => v = .bool (Lib.validD l)) := fun w hw =>
  (Tryd.utf8_ValidString ⟨l.toArray⟩ w (show l.length ≤ _ by omega) (hT w hw)).mono fun e w' ⟨he, b⟩ => by subst he; exact ⟨_, I, [], rfl, st_below hw b, rfl⟩
theorem ck_bad1 {l : List UInt8} {mi : Int} (h : ¬ ((l.length : Int) > mi)) (e : Lib.validD l = false) : Value.int .i64 7 = .int .i64 ((ckE l mi : Nat) : Int) := ck_bad h (by rw [okS_eq, e]; rfl)
theorem pl_bad {l : List UInt8} {p : Nat} (h : p < l.length) (hg : plainD (dR l p, dW l p) = false) (e : (steps l).all plainD = (steps (l.drop p)).all plainD) : okS l = false := by
  rw [okS_eq, e, steps_at h, List.all_cons, hg]; simp
theorem pl_end {l : List UInt8} {p : Nat} (h : ¬ p < l.length) (hv : Lib.validD l = true) (e : (steps l).all plainD = (steps (l.drop p)).all plainD) : okS l = true := by
  rw [okS_eq, e, steps_end h, hv]; rfl
theorem pl_go {l : List UInt8} {p : Nat} (h : p < l.length) (hg : plainD (dR l p, dW l p) = true) (e : (steps l).all plainD = (steps (l.drop p)).all plainD) : (steps l).all plainD = (steps (l.drop (p + dW l p))).all plainD := by
  rw [e, steps_at h, List.all_cons, hg]; rfl
theorem pl_1 {r w : Nat} (h : r < 32) : plainD (r, w) = false := by unfold plainD; simp [h]
theorem pl_2 {r w : Nat} (h : r = 127) : plainD (r, w) = false := by unfold plainD; simp [h]
theorem pl_3 {r w : Nat} (h : ¬ r < 32) (h2 : ¬ r = 127) : plainD (r, w) = true := by unfold plainD; simp [h, h2]
end Go.Proofs.YtgmigcmhnmmdkaaDoor
