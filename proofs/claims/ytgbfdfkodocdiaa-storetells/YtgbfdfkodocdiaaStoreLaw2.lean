/-
  Put and Mark as the statements see them: stores of the same length; what other variables have.
-/
import Derived.Test.YtgbfdfkodocdiaaStoreLaw
namespace Go.Proofs.Ytgbfdfkodocdiaa
open Go.RowKit St
theorem put_slice (A : Option Addr) (c : Nat) (L : List Vr) (x k n ver wr : Int) (w : World) (h : VarsAt w A L) (hl : L.length ≤ 100) (hk : i64p k) (hn : i64p n) (hv : i64p ver) (hw : i64p wr) :
    Calls Try.prog 13 #[.slice A L.length c, .int .i64 x, .agg #[.int .i64 k, .int .i64 n], .int .i64 ver, .int .i64 wr] w fun e w' => ∃ T d, e = .returned (.tuple #[.slice T L.length d, .int .i64 (putE L x k n wr)]) ∧ VarsAt w' T (putL L x k n ver wr) ∧ Below w.heap.size w w' := by
  refine (put_any A c L x k n ver wr w h hl hk hn hv hw).mono ?_
  rintro e w' ⟨T, d, rfl, h1, h2⟩
  exact ⟨T, d, by rw [putL_len], h1, h2⟩
theorem mark_slice (A : Option Addr) (c : Nat) (L : List Vr) (x s : Int) (w : World) (h : VarsAt w A L) (hl : L.length ≤ 100) :
    Calls Try.prog 15 #[.slice A L.length c, .int .i64 x, .int .i64 s] w fun e w' => ∃ T d, e = .returned (.tuple #[.slice T L.length d, .int .i64 (markE L x s)]) ∧ VarsAt w' T (markL L x s) ∧ Below w.heap.size w w' := by
  refine (mark_any A c L x s w h hl).mono ?_
  rintro e w' ⟨T, d, rfl, h1, h2⟩
  exact ⟨T, d, by rw [markL_len], h1, h2⟩
theorem rput_slice (A : Option Addr) (c : Nat) (L : List Vr) (x k n ver wr : Int) (w : World) (h : VarsAt w A L) (hl : L.length ≤ 100) (hc : L.length ≤ c) (hm : c ≤ maxLen) (hk : i64p k) (hn : i64p n) (hv : i64p ver) (hw : i64p wr) :
    Calls Try.prog 14 #[.slice A L.length c, .int .i64 x, .agg #[.int .i64 k, .int .i64 n], .int .i64 ver, .int .i64 wr] w fun e w' => ∃ T d, e = .returned (.tuple #[.slice T L.length d, .int .i64 (putE L x k n wr)]) ∧ VarsAt w' T (putL L x k n ver wr) ∧ Below w.heap.size w w' := by
  refine (rput_any A c L x k n ver wr w h hl hc hm hk hn hv hw).mono ?_
  rintro e w' ⟨T, d, rfl, h1, h2⟩
  exact ⟨T, d, by rw [putL_len], h1, h2⟩
theorem rmark_slice (A : Option Addr) (c : Nat) (L : List Vr) (x s : Int) (w : World) (h : VarsAt w A L) (hl : L.length ≤ 100) (hc : L.length ≤ c) (hm : c ≤ maxLen) :
    Calls Try.prog 16 #[.slice A L.length c, .int .i64 x, .int .i64 s] w fun e w' => ∃ T d, e = .returned (.tuple #[.slice T L.length d, .int .i64 (markE L x s)]) ∧ VarsAt w' T (markL L x s) ∧ Below w.heap.size w w' := by
  refine (rmark_any A c L x s w h hl hc hm).mono ?_
  rintro e w' ⟨T, d, rfl, h1, h2⟩
  exact ⟨T, d, by rw [markL_len], h1, h2⟩
theorem putL_other {L : List Vr} {x k n ver wr : Int} {i : Nat} (h : (i : Int) ≠ x) : (putL L x k n ver wr)[i]? = L[i]? := by
  unfold putL
  split
  · rename_i h0
    have hx : has L x := by
      unfold putE at h0
      split at h0
      · assumption
      · omega
    rw [List.getElem?_set_ne (by have := hx.1; omega)]
  · rfl
theorem markL_other {L : List Vr} {x s : Int} {i : Nat} (h : (i : Int) ≠ x) : (markL L x s)[i]? = L[i]? := by
  unfold markL
  split
  · rename_i h0
    have hx : has L x := by
      unfold markE at h0
      split at h0
      · assumption
      · omega
    rw [List.getElem?_set_ne (by have := hx.1; omega)]
  · rfl
theorem putE_zero {L : List Vr} {x k n wr : Int} (h : putE L x k n wr = 0) : has L x := by
  unfold putE at h
  split at h
  · assumption
  · omega
theorem markE_zero {L : List Vr} {x s : Int} (h : markE L x s = 0) : has L x ∧ slot s := by
  unfold markE at h
  split at h
  · split at h
    · exact ⟨by assumption, by assumption⟩
    · omega
  · omega
theorem putL_same {L : List Vr} {j : Nat} {k n ver wr : Int} (h : putE L (j : Nat) k n wr = 0) : (putL L (j : Nat) k n ver wr)[j]? = some ⟨k, n, ver, wr, 0⟩ := by
  have hx := putE_zero h
  unfold putL
  rw [if_pos h, Int.toNat_natCast, List.getElem?_set_self (by have := hx.2; omega)]
theorem markL_same {L : List Vr} {j : Nat} {s : Int} {v : Vr} (h : markE L (j : Nat) s = 0) (hv : L[j]? = some v) : (markL L (j : Nat) s)[j]? = some (mk s v) := by
  have hx := (markE_zero h).1
  have hat : at_ L (j : Nat) = v := by have := at_mem hx; rw [Int.toNat_natCast, hv] at this; exact (Option.some.inj this).symm
  unfold markL
  rw [if_pos h, Int.toNat_natCast, List.getElem?_set_self (by have := hx.2; omega), hat]
end Go.Proofs.Ytgbfdfkodocdiaa
