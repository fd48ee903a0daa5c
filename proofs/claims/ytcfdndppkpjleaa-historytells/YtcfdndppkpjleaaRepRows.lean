/-
  Contracts of the functions that make rows of values out of others, of the library's Clone at values and at steps, of the comparison of values.
-/
import Derived.Test.YtcfdndppkpjleaaRepBase
import Derived.Test.YtcfdndppkpjleaaTxnRows
namespace Go.Proofs.Ytcfdndppkpjleaa.Rp
open Go.RowKit Tx
def VlRel (L : List Vp) (e : TypeId) (w : World) (v i : Value) (wr : World) : Prop := ∃ k : Nat, k ≤ L.length ∧ i = .int .i64 k ∧ Rn.Own encV wr w.heap.size e v (L.take k) ∧ Below w.heap.size w wr
def SmRel (L : List Vp) (w : World) (i : Value) (wr : World) : Prop := ∃ k : Nat, k ≤ L.length ∧ i = .int .i64 k ∧ Below w.heap.size w wr
end Go.Proofs.Ytcfdndppkpjleaa.Rp
