/-
  What the walks of unify's laws share.
-/
import Derived.Test.YtlpmofmhcnclhaaUniDev
import Derived.Test.YtlpmofmhcnclhaaUniC
import Derived.Test.YtlpmofmhcnclhaaUniG
import Derived.Maps.OwnSet
import Derived.Maps.Views
import Derived.Maps.OwnIn
namespace Go.Proofs.Ytlpmofmhcnclhaa
open Go.RowKit

theorem chk_mayU {t : Tm} (h : t.chk = 0) : t.may = true := by
  unfold Tm.chk at h
  split at h
  · assumption
  · cases h
theorem rowS2 {w : World} {A B : Tm} {ad bd : Option Addr} {ca cb : Nat} (hA : TmIn w A ad ca) (hB : TmIn w B bd cb) (C : Array Value) (hC : C = (tcells A ad ca ++ tcells B bd cb).toArray) : TArgs (w.alloc (.cells C 25)) (some ⟨w.heap.size, 0, none⟩) [A, B] := by
  subst hC
  have h1 := hA.args.on ((Below.refl _ w).alloc (Nat.le_refl _) (.cells (tcells A ad ca ++ tcells B bd cb).toArray 25))
  have h2 := hB.args.on ((Below.refl _ w).alloc (Nat.le_refl _) (.cells (tcells A ad ca ++ tcells B bd cb).toArray 25))
  rw [A.eta, B.eta]
  exact .cons _ _ _ _ _ _ _ ad ca (World.cell?_alloc_at _ _ _ _ rfl) (World.cell?_alloc_at _ _ _ _ rfl) (World.cell?_alloc_at _ _ _ _ rfl) (World.cell?_alloc_at _ _ _ _ rfl) hA.kind hA.n hA.name hA.len hA.cap h1
    (.cons _ _ _ _ _ _ _ bd cb (World.cell?_alloc_at _ _ _ _ rfl) (World.cell?_alloc_at _ _ _ _ rfl) (World.cell?_alloc_at _ _ _ _ rfl) (World.cell?_alloc_at _ _ _ _ rfl) hB.kind hB.n hB.name hB.len hB.cap h2 (.nil _))

end Go.Proofs.Ytlpmofmhcnclhaa
