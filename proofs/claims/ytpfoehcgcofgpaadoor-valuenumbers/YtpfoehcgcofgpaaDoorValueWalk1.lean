/-
  Contracts of value.Right and value.Print, and of the document's own: each returns what the plain mathematics says, and leaves old memory as it was.
-/
import Derived.Test.YtpfoehcgcofgpaaDoorProg
import Derived.Test.YtpfoehcgcofgpaaDoorValueMath
import Derived.Test.YtpfoehcgcofgpaaDoorValueShelf
import Derived.WalkKit
import Derived.WalkLawsBesides
import Derived.WalkSmall
import Derived.Lib.Hide
import Derived.Lib.AppendIntMem
namespace Go.Proofs.YtpfoehcgcofgpaaDoor
open Go.RowKit
theorem ret_bool {a b : Bool} (h : a = b) : Ending.returned (.bool a) = .returned (.bool b) := by rw [h]
/-- what the walks take of the package-level variables. -/
structure Laid (w : World) : Prop where
  tab : Lib.TabIs Tryd.prog w "internal/strconv.uint64pow10" .u64 Lib.pow10Tab
  syn : ∃ tp p, w.var? Tryd.prog "strconv.ErrSyntax" = some #[.iface tp p]
  rng : ∃ tp p, w.var? Tryd.prog "strconv.ErrRange" = some #[.iface tp p]
theorem var_on {w w' : World} {n : String} {cs : Array Value} (h : w.var? Tryd.prog n = some cs) (hb : Below w.heap.size w w') : w'.var? Tryd.prog n = some cs := by
  unfold World.var? at *
  cases hg : Tryd.prog.globalNamed n with
  | none => simp [hg] at h
  | some g =>
    simp only [hg, Option.bind_some] at h ⊢
    have hlt : g < w.heap.size := by
      rcases Nat.lt_or_ge g w.heap.size with h' | h'
      · exact h'
      · rw [Array.getElem?_eq_none h'] at h; simp at h
    rw [hb.block g hlt]
    exact h
theorem Laid.below {w w' : World} (h : Laid w) (hb : Below w.heap.size w w') : Laid w' := by
  obtain ⟨h1, ⟨t2, p2, h2⟩, ⟨t3, p3, h3⟩⟩ := h
  exact ⟨var_on h1 hb, ⟨t2, p2, var_on h2 hb⟩, ⟨t3, p3, var_on h3 hb⟩⟩
theorem below_new (w : World) (o : Obj) : Below w.heap.size w (w.alloc o) := (Below.refl _ _).alloc (Nat.le_refl _) _
theorem Laid.alloc {w : World} (h : Laid w) (o : Obj) : Laid (w.alloc o) := h.below (below_new w o)
theorem below_grow (w : World) (k : Nat) (os : Array Obj) : Below w.heap.size w (Go.Sort.grow (w.drewN k) os) := by
  refine ⟨rfl, rfl, rfl, ?_, fun i hi => ?_⟩
  · show w.heap.size ≤ (w.heap ++ os).size
    rw [Array.size_append]; omega
  · show (w.heap ++ os)[i]? = _
    rw [Array.getElem?_append_left hi]
set_option maxHeartbeats 1000000 in
theorem right_any (k n : Int) (w : World) :
    Calls Tryd.prog 16 #[.agg #[.int .i64 k, .int .i64 n]] w fun e w' => e = .returned (.bool (Va.right k n)) ∧ Below w.heap.size w w' := by
  unfold Va.right
  by_cases h0 : k = 0
  · subst h0
    go_enter Tryd.func16, Tryd.ntmps16
    go_wp2
    go_ret
    exact ⟨rfl, below_new _ _⟩
  by_cases h1 : k = 1
  · subst h1
    go_enter Tryd.func16, Tryd.ntmps16
    go_wp2
    go_ret
    exact ⟨rfl, below_new _ _⟩
  by_cases h2 : k = 2
  · subst h2
    by_cases hn : 0 ≤ n
    · have hd : decide (0 ≤ n) = true := by simpa using hn
      go_enter Tryd.func16, Tryd.ntmps16
      go_wp2
      go_ret
      exact ⟨rfl, below_new _ _⟩
    · have hd : decide (0 ≤ n) = false := by simpa using hn
      go_enter Tryd.func16, Tryd.ntmps16
      go_wp2
      go_ret
      exact ⟨rfl, below_new _ _⟩
  · go_enter Tryd.func16, Tryd.ntmps16
    go_wp2
    go_ret
    exact ⟨rfl, below_new _ _⟩
set_option maxHeartbeats 1000000 in
theorem rright_any (k n : Int) (w : World) :
    Calls Tryd.prog 17 #[.agg #[.int .i64 k, .int .i64 n]] w fun e w' => e = .returned (.bool (Va.right k n)) ∧ Below w.heap.size w w' := by
  unfold Va.right
  by_cases h0 : k = 0
  · subst h0
    go_enter Tryd.func17, Tryd.ntmps17
    go_wp2
    go_ret
    exact ⟨rfl, below_new _ _⟩
  by_cases h1 : k = 1
  · subst h1
    go_enter Tryd.func17, Tryd.ntmps17
    go_wp2
    go_ret
    exact ⟨rfl, below_new _ _⟩
  by_cases h2 : k = 2
  · subst h2
    by_cases hn : 0 ≤ n
    · have hd : decide (0 ≤ n) = true := by simpa using hn
      go_enter Tryd.func17, Tryd.ntmps17
      go_wp2
      go_ret
      exact ⟨rfl, below_new _ _⟩
    · have hd : decide (0 ≤ n) = false := by simpa using hn
      go_enter Tryd.func17, Tryd.ntmps17
      go_wp2
      go_ret
      exact ⟨rfl, below_new _ _⟩
  · go_enter Tryd.func17, Tryd.ntmps17
    go_wp2
    go_ret
    exact ⟨rfl, below_new _ _⟩
theorem format_any (n : Int) (w : World) (hn : Va.i64p n) (hL : Laid w) :
    Calls Tryd.prog 29 #[.int .i64 n, .int .i64 10] w fun e w' => e = .returned (.string ⟨(Lib.itoa n).toArray⟩) ∧ Below w.heap.size w w' := by
  refine (Tryd.strconv_FormatInt_10 n hn.1 hn.2 w hL.tab).mono ?_
  rintro e w' ⟨rfl, k, os, rfl⟩
  exact ⟨rfl, below_grow _ _ _⟩
theorem right_val (k n : Int) (b : Bool) (w : World) (h : Va.right k n = b) :
    Calls Tryd.prog 16 #[.agg #[.int .i64 k, .int .i64 n]] w fun e w' => e = .returned (.bool b) ∧ Below w.heap.size w w' := by
  have := right_any k n w
  rwa [h] at this
theorem rright_val (k n : Int) (b : Bool) (w : World) (h : Va.right k n = b) :
    Calls Tryd.prog 17 #[.agg #[.int .i64 k, .int .i64 n]] w fun e w' => e = .returned (.bool b) ∧ Below w.heap.size w w' := by
  have := rright_any k n w
  rwa [h] at this
/-- a text as the machine has it. -/
def str (l : List UInt8) : ByteArray := ⟨l.toArray⟩
theorem format_val (n : Int) (l : List UInt8) (w : World) (hn : Va.i64p n) (hl : Lib.itoa n = l) (hL : Laid w) :
    Calls Tryd.prog 29 #[.int .i64 n, .int .i64 10] w fun e w' => e = .returned (.string (str l)) ∧ Below w.heap.size w w' := by
  subst hl; exact format_any n w hn hL
theorem str_size (l : List UInt8) : (str l).size = l.length := rfl
theorem itoa_room {n : Int} (hn : Va.i64p n) : ¬ 9223372036854775807 < 1 + (str (Lib.itoa n)).size := by
  rw [str_size]; have := Va.itoa_len hn; omega
theorem str_cons (c : UInt8) (l : List UInt8) : (⟨#[c]⟩ : ByteArray) ++ str l = str (c :: l) := by
  unfold str
  apply ByteArray.ext
  simp
set_option maxHeartbeats 1000000 in
theorem print_any (k n : Int) (w : World) (hn : Va.i64p n) (hL : Laid w) :
    Calls Tryd.prog 18 #[.agg #[.int .i64 k, .int .i64 n]] w fun e w' => e = .returned (.string (str (Va.text k n))) ∧ Below w.heap.size w w' := by
  have HL := Lib.hid hL
  have HN := Lib.hid hn
  clear hL hn
  cases hr : Va.right k n
  · have HR := Lib.hid hr
    rw [Va.text_wrong hr]
    clear hr
    go_enter Tryd.func18, Tryd.ntmps18
    go_wp2_with fail
    refine (right_val _ _ _ _ HR.out).mono ?_
    rintro e w1 ⟨rfl, hb1⟩
    go_wp2
    go_ret
    exact ⟨rfl, (below_new _ _).trans (hb1.mono (by simp))⟩
  · have HR := Lib.hid hr
    rcases Va.right_cases hr with ⟨rfl, rfl⟩ | rfl | ⟨rfl, h0, h1⟩
    · rw [Va.text_nil]
      clear hr
      go_enter Tryd.func18, Tryd.ntmps18
      go_wp2_with fail
      refine (right_val _ _ _ _ HR.out).mono ?_
      rintro e w1 ⟨rfl, hb1⟩
      have hc := hb1.cell (p := ⟨w.heap.size, 0, none⟩) (by simp)
      go_wp2
      go_ret
      exact ⟨rfl, (below_new _ _).trans (hb1.mono (by simp))⟩
    · rw [Va.text_int]
      clear hr
      go_enter Tryd.func18, Tryd.ntmps18
      go_wp2_with fail
      refine (right_val _ _ _ _ HR.out).mono ?_
      rintro e w1 ⟨rfl, hb1⟩
      have hc := hb1.cell (p := ⟨w.heap.size, 0, none⟩) (by simp)
      have hc1 := hb1.cell (p := ⟨w.heap.size, 1, none⟩) (by simp)
      go_wp2_with fail
      refine (format_val n _ _ HN.out rfl ((HL.out.alloc _).below hb1)).mono ?_
      rintro e w2 ⟨rfl, hb2⟩
      go_wp2
      go_ret
      exact ⟨rfl, ((below_new _ _).trans (hb1.mono (by simp))).trans (hb2.mono (by have := hb1.size; simp at this; omega))⟩
    · rw [Va.text_ref h0 h1]
      clear hr
      have hz := itoa_room HN.out
      go_enter Tryd.func18, Tryd.ntmps18
      go_wp2_with fail
      refine (right_val _ _ _ _ HR.out).mono ?_
      rintro e w1 ⟨rfl, hb1⟩
      have hc := hb1.cell (p := ⟨w.heap.size, 0, none⟩) (by simp)
      have hc1 := hb1.cell (p := ⟨w.heap.size, 1, none⟩) (by simp)
      go_wp2_with fail
      refine (format_val n _ _ HN.out rfl ((HL.out.alloc _).below hb1)).mono ?_
      rintro e w2 ⟨rfl, hb2⟩
      go_wp2
      go_ret
      rw [str_cons]
      exact ⟨rfl, ((below_new _ _).trans (hb1.mono (by simp))).trans (hb2.mono (by have := hb1.size; simp at this; omega))⟩
set_option maxHeartbeats 1000000 in
theorem rprint_any (k n : Int) (w : World) (hn : Va.i64p n) (hL : Laid w) :
    Calls Tryd.prog 19 #[.agg #[.int .i64 k, .int .i64 n]] w fun e w' => e = .returned (.string (str (Va.text k n))) ∧ Below w.heap.size w w' := by
  have HL := Lib.hid hL
  have HN := Lib.hid hn
  clear hL hn
  cases hr : Va.right k n
  · have HR := Lib.hid hr
    rw [Va.text_wrong hr]
    clear hr
    go_enter Tryd.func19, Tryd.ntmps19
    go_wp2_with fail
    refine (rright_val _ _ _ _ HR.out).mono ?_
    rintro e w1 ⟨rfl, hb1⟩
    go_wp2
    go_ret
    exact ⟨rfl, (below_new _ _).trans (hb1.mono (by simp))⟩
  · have HR := Lib.hid hr
    rcases Va.right_cases hr with ⟨rfl, rfl⟩ | rfl | ⟨rfl, h0, h1⟩
    · rw [Va.text_nil]
      clear hr
      go_enter Tryd.func19, Tryd.ntmps19
      go_wp2_with fail
      refine (rright_val _ _ _ _ HR.out).mono ?_
      rintro e w1 ⟨rfl, hb1⟩
      have hc := hb1.cell (p := ⟨w.heap.size, 0, none⟩) (by simp)
      go_wp2
      go_ret
      exact ⟨rfl, (below_new _ _).trans (hb1.mono (by simp))⟩
    · rw [Va.text_int]
      clear hr
      go_enter Tryd.func19, Tryd.ntmps19
      go_wp2_with fail
      refine (rright_val _ _ _ _ HR.out).mono ?_
      rintro e w1 ⟨rfl, hb1⟩
      have hc := hb1.cell (p := ⟨w.heap.size, 0, none⟩) (by simp)
      have hc1 := hb1.cell (p := ⟨w.heap.size, 1, none⟩) (by simp)
      go_wp2_with fail
      refine (format_val n _ _ HN.out rfl ((HL.out.alloc _).below hb1)).mono ?_
      rintro e w2 ⟨rfl, hb2⟩
      go_wp2
      go_ret
      exact ⟨rfl, ((below_new _ _).trans (hb1.mono (by simp))).trans (hb2.mono (by have := hb1.size; simp at this; omega))⟩
    · rw [Va.text_ref h0 h1]
      clear hr
      have hz := itoa_room HN.out
      go_enter Tryd.func19, Tryd.ntmps19
      go_wp2_with fail
      refine (rright_val _ _ _ _ HR.out).mono ?_
      rintro e w1 ⟨rfl, hb1⟩
      have hc := hb1.cell (p := ⟨w.heap.size, 0, none⟩) (by simp)
      have hc1 := hb1.cell (p := ⟨w.heap.size, 1, none⟩) (by simp)
      go_wp2_with fail
      refine (format_val n _ _ HN.out rfl ((HL.out.alloc _).below hb1)).mono ?_
      rintro e w2 ⟨rfl, hb2⟩
      go_wp2
      go_ret
      rw [str_cons]
      exact ⟨rfl, ((below_new _ _).trans (hb1.mono (by simp))).trans (hb2.mono (by have := hb1.size; simp at this; omega))⟩
end Go.Proofs.YtpfoehcgcofgpaaDoor
