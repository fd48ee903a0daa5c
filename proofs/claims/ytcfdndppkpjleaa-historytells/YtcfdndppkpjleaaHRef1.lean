/-
  Contracts of the document's functions: the first event of a kind, of a transaction; its end; its read and its write of a variable.
-/
import Derived.Test.YtcfdndppkpjleaaHRefM
import Derived.Test.YtcfdndppkpjleaaHEnt
namespace Go.Proofs.Ytcfdndppkpjleaa.Hi
open Go.RowKit
open Tx (i64p right)
def WhRel (L : List Ev) (kd id : Int) (w : World) (i : Value) (wr : World) : Prop := ∃ k : Nat, k ≤ L.length ∧ i = .int .i64 k ∧ whI (L.take k) kd id = -1 ∧ wr = w
set_option maxHeartbeats 1000000 in
theorem where_any (A : Option Addr) (c : Nat) (L : List Ev) (kd id : Int) (w : World) (h : Rn.At encE w A L) (hl : L.length ≤ 2000) :
    Calls Try.prog 36 #[.slice A L.length c, .int .i64 kd, .int .i64 id] w fun r w' => r = .returned (.int .i64 (whI L kd id)) ∧ w' = w := by
  have H := Lib.hid h
  have HN := Lib.hid hl
  have hXN : (L.length : Int) ≤ 2000 := by omega
  clear h hl
  go_enter Try.func36, Try.ntmps36
  go_wp2
  go_loopw [7] (WhRel L kd id w) (fun i _ => L.length - (intOf i).toNat)
  case atStart => exact ⟨0, Nat.zero_le _, rfl, rfl, rfl⟩
  case round =>
    obtain ⟨k, hk, rfl, h0, rfl⟩ := hrel
    have H0 := Lib.hid h0
    clear h0
    by_cases hlt : k < L.length
    · have he : L[k]? = some L[k] := List.getElem?_eq_getElem hlt
      generalize L[k] = e at he
      have HE := Lib.hid he
      obtain ⟨ad, rfl, c0, c1, c2, c3, c4⟩ := atE H.out he
      clear he
      have hlt' : (k : Int) < (L.length : Int) := by omega
      by_cases h1 : e.kd = kd
      · by_cases h2 : e.id = id
        · have HA := Lib.hid (whI_hit HE.out H0.out ⟨h1, h2⟩)
          have b1 : (e.kd == kd) = true := by simpa using h1
          have b2 : (e.id == id) = true := by simpa using h2
          clear h1 h2
          go_wp2
          go_ret
          exact ⟨by rw [HA.out]; rfl, rfl⟩
        · have HA := Lib.hid (whI_miss HE.out H0.out (fun q => h2 q.2))
          have b1 : (e.kd == kd) = true := by simpa using h1
          have b2 : (e.id == id) = false := by simpa using h2
          clear h1 h2
          go_wp2
          go_round
          case rel => exact ⟨k + 1, by omega, by go_num, HA.out, rfl⟩
          case measure => simp [intOf]; omega
      · have HA := Lib.hid (whI_miss HE.out H0.out (fun q => h1 q.1))
        have b1 : (e.kd == kd) = false := by simpa using h1
        clear h1
        go_wp2
        go_round
        case rel => exact ⟨k + 1, by omega, by go_num, HA.out, rfl⟩
        case measure => simp [intOf]; omega
    · have hlt' : ¬ (k : Int) < (L.length : Int) := by omega
      have h0 := H0.out
      rw [List.take_of_length_le (by omega)] at h0
      have HA := Lib.hid h0
      clear h0
      go_wp2
      go_ret
      exact ⟨by rw [HA.out]; rfl, rfl⟩
theorem where_val (A : Option Addr) (c : Nat) (L : List Ev) (kd id r : Int) (w : World) (h : Rn.At encE w A L) (hl : L.length ≤ 2000) (hr : whI L kd id = r) :
    Calls Try.prog 36 #[.slice A L.length c, .int .i64 kd, .int .i64 id] w fun e w' => e = .returned (.int .i64 r) ∧ w' = w := hr ▸ where_any A c L kd id w h hl
set_option maxHeartbeats 1000000 in
theorem end_r (A : Option Addr) (c : Nat) (L : List Ev) (id : Int) (w : World) (h : Rn.At encE w A L) (hl : L.length ≤ 2000) :
    Calls Try.prog 37 #[.slice A L.length c, .int .i64 id] w fun r w' => r = .returned (.int .i64 (enI L id)) ∧ w' = w := by
  have H := Lib.hid h
  clear h
  go_enter Try.func37, Try.ntmps37
  go_wp2_with fail
  refine (where_any A c L 3 id w H.out hl).mono ?_
  rintro r w1 ⟨rfl, rfl⟩
  go_wp2_with fail
  refine (where_any A c L 4 id w1 H.out hl).mono ?_
  rintro r w2 ⟨rfl, rfl⟩
  go_wp2
  go_ret
  exact ⟨rfl, rfl⟩
theorem end_rv (A : Option Addr) (c : Nat) (L : List Ev) (id r : Int) (w : World) (h : Rn.At encE w A L) (hl : L.length ≤ 2000) (hr : enI L id = r) :
    Calls Try.prog 37 #[.slice A L.length c, .int .i64 id] w fun e w' => e = .returned (.int .i64 r) ∧ w' = w := hr ▸ end_r A c L id w h hl
def ReRel (L : List Ev) (id x : Int) (w : World) (i : Value) (wr : World) : Prop := ∃ k : Nat, k ≤ L.length ∧ i = .int .i64 k ∧ rdS (L.take k) id x = -1 ∧ wr = w
set_option maxHeartbeats 1000000 in
theorem read_any (A : Option Addr) (c : Nat) (L : List Ev) (id x : Int) (w : World) (h : Rn.At encE w A L) (hl : L.length ≤ 2000) :
    Calls Try.prog 39 #[.slice A L.length c, .int .i64 id, .int .i64 x] w fun r w' => r = .returned (.int .i64 (rdI L id x)) ∧ w' = w := by
  have H := Lib.hid h
  have HN := Lib.hid hl
  have hXN : (L.length : Int) ≤ 2000 := by omega
  clear h hl
  go_enter Try.func39, Try.ntmps39
  go_wp2
  go_loopw [7] (ReRel L id x w) (fun i _ => L.length - (intOf i).toNat)
  case atStart => exact ⟨0, Nat.zero_le _, rfl, rfl, rfl⟩
  case round =>
    obtain ⟨k, hk, rfl, h0, rfl⟩ := hrel
    have H0 := Lib.hid h0
    clear h0
    by_cases hlt : k < L.length
    · have he : L[k]? = some L[k] := List.getElem?_eq_getElem hlt
      generalize L[k] = e at he
      have HE := Lib.hid he
      obtain ⟨ad, rfl, c0, c1, c2, c3, c4⟩ := atE H.out he
      clear he
      have hlt' : (k : Int) < (L.length : Int) := by omega
      by_cases h1 : e.id = id
      · have b1 : (e.id == id) = true := by simpa using h1
        by_cases h2 : e.x = x
        · have b2 : (e.x == x) = true := by simpa using h2
          by_cases h3 : e.kd = 2
          · have b3 : (e.kd == 2) = true := by simpa using h3
            have HA := Lib.hid (rdI_wrote HE.out H0.out ⟨h1, h2, h3⟩)
            clear h1 h2 h3
            go_wp2
            go_ret
            exact ⟨by rw [HA.out]; rfl, rfl⟩
          · have b3 : (e.kd == 2) = false := by simpa using h3
            by_cases h4 : e.kd = 1
            · have b4 : (e.kd == 1) = true := by simpa using h4
              have HA := Lib.hid (rdI_read HE.out H0.out (fun q => h3 q.2.2) ⟨h1, h2, h4⟩)
              clear h1 h2 h3 h4
              go_wp2
              go_ret
              exact ⟨by rw [HA.out]; rfl, rfl⟩
            · have b4 : (e.kd == 1) = false := by simpa using h4
              have HA := Lib.hid (rd_miss HE.out H0.out (fun q => h3 q.2.2) (fun q => h4 q.2.2))
              clear h1 h2 h3 h4
              go_wp2
              go_round
              case rel => exact ⟨k + 1, by omega, by go_num, HA.out, rfl⟩
              case measure => simp [intOf]; omega
        · have b2 : (e.x == x) = false := by simpa using h2
          have HA := Lib.hid (rd_miss HE.out H0.out (fun q => h2 q.2.1) (fun q => h2 q.2.1))
          clear h1 h2
          go_wp2
          go_round
          case rel => exact ⟨k + 1, by omega, by go_num, HA.out, rfl⟩
          case measure => simp [intOf]; omega
      · have b1 : (e.id == id) = false := by simpa using h1
        have HA := Lib.hid (rd_miss HE.out H0.out (fun q => h1 q.1) (fun q => h1 q.1))
        clear h1
        go_wp2
        go_round
        case rel => exact ⟨k + 1, by omega, by go_num, HA.out, rfl⟩
        case measure => simp [intOf]; omega
    · have hlt' : ¬ (k : Int) < (L.length : Int) := by omega
      have h0 := H0.out
      rw [List.take_of_length_le (by omega)] at h0
      have HA := Lib.hid (rdI_none h0)
      clear h0
      go_wp2
      go_ret
      exact ⟨by rw [HA.out]; rfl, rfl⟩
theorem read_val (A : Option Addr) (c : Nat) (L : List Ev) (id x r : Int) (w : World) (h : Rn.At encE w A L) (hl : L.length ≤ 2000) (hr : rdI L id x = r) :
    Calls Try.prog 39 #[.slice A L.length c, .int .i64 id, .int .i64 x] w fun e w' => e = .returned (.int .i64 r) ∧ w' = w := hr ▸ read_any A c L id x w h hl
theorem wr_yes {L : List Ev} {id : Int} (h : 0 ≤ whI L 3 id) (x : Int) : wrI L id x = lsI L id x := by unfold wrI; rw [if_pos h]
theorem wr_no {L : List Ev} {id : Int} (h : ¬ 0 ≤ whI L 3 id) (x : Int) : wrI L id x = -1 := by unfold wrI; rw [if_neg h]
def WrRel (L : List Ev) (id x : Int) (w : World) (v i : Value) (wr : World) : Prop := ∃ k : Nat, k ≤ L.length ∧ i = .int .i64 k ∧ v = .int .i64 (if 0 ≤ whI L 3 id then lsI (L.take k) id x else -1) ∧ wr = w
theorem wr_step {L : List Ev} {k : Nat} {e : Ev} {id x r r' : Int} (he : L[k]? = some e) (h : (if 0 ≤ whI L 3 id then lsI (L.take k) id x else -1) = r)
    (h2 : (if 0 ≤ whI L 3 id then (if e.id = id ∧ e.x = x ∧ e.kd = 2 then (k : Int) else r) else r) = r') : (if 0 ≤ whI L 3 id then lsI (L.take (k + 1)) id x else -1) = r' := by
  rw [ls_take he]
  by_cases q : 0 ≤ whI L 3 id
  · rw [if_pos q] at h h2 ⊢
    rw [h]; exact h2
  · rw [if_neg q] at h h2 ⊢
    rw [h]; exact h2
theorem wr_stay {L : List Ev} {k : Nat} {e : Ev} {id x r : Int} (he : L[k]? = some e) (h : (if 0 ≤ whI L 3 id then lsI (L.take k) id x else -1) = r) (hn : ¬ (e.id = id ∧ e.x = x ∧ e.kd = 2)) : (if 0 ≤ whI L 3 id then lsI (L.take (k + 1)) id x else -1) = r :=
  wr_step he h (by
    by_cases q : 0 ≤ whI L 3 id
    · rw [if_pos q, if_neg hn]
    · rw [if_neg q])
set_option maxHeartbeats 1000000 in
theorem write_any (A : Option Addr) (c : Nat) (L : List Ev) (id x : Int) (w : World) (h : Rn.At encE w A L) (hl : L.length ≤ 2000) :
    Calls Try.prog 40 #[.slice A L.length c, .int .i64 id, .int .i64 x] w fun r w' => r = .returned (.int .i64 (wrI L id x)) ∧ w' = w := by
  have H := Lib.hid h
  have HN := Lib.hid hl
  have hXN : (L.length : Int) ≤ 2000 := by omega
  clear h hl
  go_enter Try.func40, Try.ntmps40
  go_wp2
  go_loopw [7, 8] (WrRel L id x w) (fun _ i _ => L.length - (intOf i).toNat)
  case atStart => exact ⟨0, Nat.zero_le _, rfl, by split <;> rfl, rfl⟩
  case round =>
    obtain ⟨k, hk, rfl, rfl, rfl⟩ := hrel
    generalize hr : (if 0 ≤ whI L 3 id then lsI (L.take k) id x else -1) = r
    have HR := Lib.hid hr
    clear hr
    by_cases hlt : k < L.length
    · have he : L[k]? = some L[k] := List.getElem?_eq_getElem hlt
      generalize L[k] = e at he
      have HE := Lib.hid he
      obtain ⟨ad, rfl, c0, c1, c2, c3, c4⟩ := atE H.out he
      clear he
      have hlt' : (k : Int) < (L.length : Int) := by omega
      by_cases h1 : e.id = id
      · have b1 : (e.id == id) = true := by simpa using h1
        by_cases h2 : e.x = x
        · have b2 : (e.x == x) = true := by simpa using h2
          by_cases h3 : e.kd = 2
          · have b3 : (e.kd == 2) = true := by simpa using h3
            by_cases h4 : 0 ≤ whI L 3 id
            · have HA := Lib.hid (wr_step (r' := (k : Int)) HE.out HR.out (by rw [if_pos h4, if_pos ⟨h1, h2, h3⟩]))
              generalize hz : whI L 3 id = z at h4
              have HZ := Lib.hid hz
              clear h1 h2 h3 hz
              go_wp2_with fail
              refine (where_val (some ad) c L 3 id z _ H.out HN.out HZ.out).mono ?_
              rintro q w1 ⟨rfl, rfl⟩
              go_wp2
              go_round
              case rel => exact ⟨k + 1, by omega, by go_num, by rw [HA.out], rfl⟩
              case measure => simp [intOf]; omega
            · have HA := Lib.hid (wr_step (r' := r) HE.out HR.out (by rw [if_neg h4]))
              generalize hz : whI L 3 id = z at h4
              have HZ := Lib.hid hz
              have h4' : ¬ z ≥ 0 := h4
              clear h1 h2 h3 hz
              go_wp2_with fail
              refine (where_val (some ad) c L 3 id z _ H.out HN.out HZ.out).mono ?_
              rintro q w1 ⟨rfl, rfl⟩
              go_wp2
              go_round
              case rel => exact ⟨k + 1, by omega, by go_num, by rw [HA.out], rfl⟩
              case measure => simp [intOf]; omega
          · have b3 : (e.kd == 2) = false := by simpa using h3
            have HA := Lib.hid (wr_stay HE.out HR.out (fun q => h3 q.2.2))
            clear h1 h2 h3
            go_wp2
            go_round
            case rel => exact ⟨k + 1, by omega, by go_num, by rw [HA.out], rfl⟩
            case measure => simp [intOf]; omega
        · have b2 : (e.x == x) = false := by simpa using h2
          have HA := Lib.hid (wr_stay HE.out HR.out (fun q => h2 q.2.1))
          clear h1 h2
          go_wp2
          go_round
          case rel => exact ⟨k + 1, by omega, by go_num, by rw [HA.out], rfl⟩
          case measure => simp [intOf]; omega
      · have b1 : (e.id == id) = false := by simpa using h1
        have HA := Lib.hid (wr_stay HE.out HR.out (fun q => h1 q.1))
        clear h1
        go_wp2
        go_round
        case rel => exact ⟨k + 1, by omega, by go_num, by rw [HA.out], rfl⟩
        case measure => simp [intOf]; omega
    · have hlt' : ¬ (k : Int) < (L.length : Int) := by omega
      have HA := Lib.hid (show wrI L id x = r from by have h := HR.out; rw [List.take_of_length_le (by omega)] at h; exact h)
      go_wp2
      go_ret
      exact ⟨by rw [HA.out]; rfl, rfl⟩
theorem write_val (A : Option Addr) (c : Nat) (L : List Ev) (id x r : Int) (w : World) (h : Rn.At encE w A L) (hl : L.length ≤ 2000) (hr : wrI L id x = r) :
    Calls Try.prog 40 #[.slice A L.length c, .int .i64 id, .int .i64 x] w fun e w' => e = .returned (.int .i64 r) ∧ w' = w := hr ▸ write_any A c L id x w h hl
end Go.Proofs.Ytcfdndppkpjleaa.Hi
