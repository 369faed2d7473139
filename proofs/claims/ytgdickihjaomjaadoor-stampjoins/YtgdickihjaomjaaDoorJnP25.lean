/- StampTicks. -/
import Derived.Test.YtgdickihjaomjaaDoorJnP24
set_option linter.all false
set_option maxRecDepth 100000
namespace Go.Proofs.YtgdickihjaomjaaDoor
open Go.RowKit Go.Sep

theorem sleqT_c {I : IM} {i j : T} {A B : E} {r : Bool} {ba bb : Bool} {pa pb : Option Addr} {bc bd : Nat} {pc pd : Option Addr} (hA : TRep I i ba pa) (hB : TRep I j bb pb) (hC : ERep I A bc pc) (hD : ERep I B bd pd) (hr : leqF 64 A B = r) (h1 : A.depth ≤ 16) (h2 : B.depth ≤ 16) (t1 : A.top ≤ 1048576) (t2 : B.top ≤ 1048576) : Fun Tryd.prog 51 #[stv ba pa bc pc, stv bb pb bd pd] I (fun v J => v = .bool r) := by
  rw [← hr]
  exact sleq_c hA hB hC hD h1 h2 t1 t2

theorem idsameSelf_c {I : IM} {A : T} {ba bb : Bool} {pa pb : Option Addr} (hA : TRep I A ba pa) (hB : TRep I A bb pb) : Fun Tryd.prog 52 #[idv ba pa, idv bb pb] I (fun v J => v = .bool true) :=
  (idsame_c hA hB).mono fun v J _ h => by rw [h, cover_self]; rfl

end Go.Proofs.YtgdickihjaomjaaDoor
