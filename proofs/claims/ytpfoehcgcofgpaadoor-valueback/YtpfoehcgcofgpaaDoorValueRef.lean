/-
  Contracts of the document's digits and Parse.
-/
import Derived.Test.YtpfoehcgcofgpaaDoorValueWalk4
import Derived.Lib.IndexBytes
namespace Go.Proofs.YtpfoehcgcofgpaaDoor
open Go.RowKit
def DigRel (l : List UInt8) (w : World) (n i : Value) (wr : World) : Prop :=
  ∃ k : Nat, k ≤ l.length ∧ i = .int .i64 k ∧ n = .int .i64 (Va.digs 0 (l.take k)) ∧ wr = w
theorem wrapIn (n : Int) (h : -9223372036854775808 ≤ n ∧ n ≤ 9223372036854775807) : wrap64 n = n := Va.wrap_in h
theorem str_at (l : List UInt8) (k : Nat) (h : k < l.length) (h' : k < (str l).size) : (str l)[k] = l[k] := by
  have e : (str l)[k]? = l[k]? := by
    show (str l).data[k]? = _
    unfold str
    rw [List.getElem?_toArray]
  have e1 : (str l)[k]? = some ((str l)[k]) := getElem?_pos (str l) k h'
  have e2 : l[k]? = some l[k] := List.getElem?_eq_getElem h
  rw [e1, e2] at e
  exact Option.some.inj e
theorem dig_next (l : List UInt8) (w : World) (k : Nat) (hk : k < l.length) (hl : l.length ≤ 1000000) (h' : k < (str l).size) :
    DigRel l w (.int .i64 (wrap64 (wrap64 (wrap64 (Va.digs 0 (l.take k) * 10) + wrap64 ((str l)[k].toNat : Nat)) - 48))) (.int .i64 (wrap64 ((k : Nat) + 1))) w := by
  have e1 : wrap64 (((k : Nat) : Int) + 1) = ((k + 1 : Nat) : Int) := by rw [wrapIn] <;> omega
  have e2 : wrap64 (((str l)[k].toNat : Nat) : Int) = ((l[k].toNat : Nat) : Int) := by
    rw [str_at l k hk h', wrapIn]
    have := l[k].toNat_lt; omega
  refine ⟨k + 1, hk, by rw [e1], ?_, rfl⟩
  rw [e2, List.take_succ_eq_append_getElem hk, Va.digs_snoc]
  rfl
set_option maxHeartbeats 2000000 in
set_option maxRecDepth 100000 in
theorem digits_any (l : List UInt8) (w : World) (hl : l.length ≤ 1000000) :
    Calls Tryd.prog 31 #[.string (str l)] w fun e w' => e = .returned (.int .i64 (Va.digs 0 l)) ∧ w = w' := by
  have hz := str_size l
  have HL := Lib.hid hl
  clear hl
  go_enter Tryd.func31, Tryd.ntmps31
  go_wp2
  go_loopw [3, 4] (DigRel l w) (fun _ i _ => l.length - (intOf i).toNat)
  case atStart => exact ⟨0, by omega, rfl, rfl, rfl⟩
  case round =>
    obtain ⟨k, hk, rfl, rfl, rfl⟩ := hrel
    by_cases hlt : k < l.length
    · go_wp2
      refine ⟨dig_next l wr k hlt HL.out (by rw [hz]; exact hlt), ?_⟩
      have e1 : wrap64 (((k : Nat) : Int) + 1) = ((k + 1 : Nat) : Int) := by have := HL.out; rw [wrapIn] <;> omega
      rw [e1]
      show l.length - (((k + 1 : Nat) : Int)).toNat < l.length - (((k : Nat) : Int)).toNat
      omega
    · have e : k = l.length := by omega
      subst e
      have HT : Hid (Va.digs 0 (l.take l.length) = Va.digs 0 l) := Lib.hid (by rw [List.take_length])
      go_wp2
      go_ret
      rw [HT.out]
      exact ⟨rfl, rfl⟩
theorem two_below (w : World) (A B : Obj) : Below w.heap.size w ((w.alloc A).alloc B) := (below_new w A).trans ((below_new (w.alloc A) B).mono (by simp))
set_option maxHeartbeats 2000000 in
set_option maxRecDepth 100000 in
theorem rparse_nil (w : World) : Calls Tryd.prog 21 #[.string (str [])] w fun e w' => ∃ k n x, e = .returned (.tuple #[.agg #[.int .i64 k, .int .i64 n], .int .i64 x]) ∧ Va.Parsed [] k n x ∧ Below w.heap.size w w' := by
  have he : ((str []).toList == []) = true := by rw [str_toList]; rfl
  generalize str [] = s at *
  go_enter Tryd.func21, Tryd.ntmps21
  go_wp2
  exact bodyPost_ret (results_valE rfl _ _ w.heap.size 23 _ _ _ _ rfl rfl ((valAt_new _ _ _ _).alloc _) Tryd.underlying23 rval_info) rfl ⟨_, _, _, rfl, Va.parsed_empty, two_below _ _ _⟩
theorem str_rest (c : UInt8) (r : List UInt8) : (str (c :: r)).extract 1 (r.length + 1) = str r := by
  have := Lib.extract_to_end (str (c :: r)) 1
  rw [str_list] at this
  have h2 : (str (c :: r)).size = r.length + 1 := rfl
  rw [h2] at this
  rw [← str_data ((str (c :: r)).extract 1 (r.length + 1)), this]
  rfl
theorem str_first (c : UInt8) (r : List UInt8) (h : 0 < (str (c :: r)).size) : (str (c :: r))[0] = c := str_at (c :: r) 0 (by simp) h
theorem byte_ne {c d : UInt8} (h : c ≠ d) : (((c.toNat : Nat) : Int) == ((d.toNat : Nat) : Int)) = false := by
  simp only [beq_eq_false_iff_ne, ne_eq]
  intro e
  exact h (UInt8.toNat_inj.1 (by omega))
theorem cand_else {c : UInt8} {r : List UInt8} (h64 : c ≠ 64) (h45 : c ≠ 45) (hn : c :: r ≠ [110, 105, 108]) : Va.cand (c :: r) = (1, Va.digs 0 (c :: r)) := by
  show (if c = 64 then _ else _) = _
  rw [if_neg h64, if_neg h45, if_neg hn]
/-- the text and what was taken for it. -/
structure Cand (l : List UInt8) (s : ByteArray) (k n : Int) : Prop where
  is : str l = s
  ne : l ≠ []
  cand : Va.cand l = (k, n)
theorem Cand.n64 {l : List UInt8} {s : ByteArray} {k n : Int} (h : Cand l s k n) : Va.i64p n := by have := Va.cand_i64 l; rw [h.cand] at this; exact this
theorem Cand.yes {l : List UInt8} {s : ByteArray} {k n : Int} (h : Cand l s k n) (e : Va.text k n = l) : Va.Parsed l k n 0 := by have := (Va.parsed_cand h.ne).1; rw [h.cand] at this; exact this e
theorem Cand.no {l : List UInt8} {s : ByteArray} {k n : Int} (h : Cand l s k n) (e : Va.text k n ≠ l) : Va.Parsed l 0 0 8 := by have := (Va.parsed_cand h.ne).2; rw [h.cand] at this; exact this e
theorem Cand.eq {l : List UInt8} {s : ByteArray} {k n : Int} (h : Cand l s k n) (b : Bool) (e : decide (Va.text k n = l) = b) : ((str (Va.text k n)).toList == s.toList) = b := by rw [← h.is]; exact text_ne_eq _ _ _ e
set_option maxHeartbeats 4000000 in
set_option maxRecDepth 100000 in
theorem rparse_at (r : List UInt8) (w : World) (hl : (64 :: r).length ≤ 1000000) (hL : Laid w) : Calls Tryd.prog 21 #[.string (str (64 :: r))] w fun e w' => ∃ k n x, e = .returned (.tuple #[.agg #[.int .i64 k, .int .i64 n], .int .i64 x]) ∧ Va.Parsed (64 :: r) k n x ∧ Below w.heap.size w w' := by
  have he : ((str (64 :: r)).toList == []) = false := by rw [str_toList]; rfl
  have hz : (str (64 :: r)).size = r.length + 1 := rfl
  have h0 : ∀ h, ((str (64 :: r))[0]'h).toNat = 64 := fun h => by rw [str_first]; rfl
  have hx := str_rest 64 r
  have HC := Lib.hid (Cand.mk (l := 64 :: r) (s := str (64 :: r)) (k := 2) (n := Va.digs 0 r) rfl (by simp) rfl)
  have HL := Lib.hid hL
  have HZ := Lib.hid hl
  clear hL hl
  generalize str (64 :: r) = s at *
  go_enter Tryd.func21, Tryd.ntmps21
  go_wp2_with fail
  refine (digits_any r _ (by have := HZ.out; simp at this; omega)).mono ?_
  rintro e w1 ⟨rfl, rfl⟩
  go_wp2_with fail
  refine (rprint_any (2) (Va.digs 0 r) _ HC.out.n64 ((HL.out.alloc _).alloc _)).mono ?_
  rintro e w2 ⟨rfl, hb2⟩
  have v2 := ((valAt_new w 0 0 23).alloc (.cells #[.int .i64 (2), .int .i64 (Va.digs 0 r)] 23)).below hb2
  have u2 := ValAt.below (b := w.heap.size + 1) (t := 23) (k := 2) (n := Va.digs 0 r) (by have := valAt_new (w.alloc (.cells #[.int .i64 0, .int .i64 0] 23)) (2) (Va.digs 0 r) 23; simpa using this) hb2
  have c0 := v2.fst
  have c1 := v2.snd
  have f0 := v2.free 0
  have f1 := v2.free 1
  have d0 := u2.fst
  have d1 := u2.snd
  have V2 := Lib.hid v2
  have HB2 := Lib.hid ((two_below w _ _).trans (hb2.mono (by simp; omega)))
  clear v2 u2 hb2
  by_cases ht : Va.text (2) (Va.digs 0 r) = (64 :: r)
  · have he := HC.out.eq true (by simpa using ht)
    have HT := Lib.hid ht
    clear ht
    go_wp2
    exact bodyPost_ret (results_valE rfl _ _ w.heap.size 23 _ _ _ _ rfl rfl (V2.out.put _ _) Tryd.underlying23 rval_info) rfl ⟨_, _, _, rfl, HC.out.yes HT.out, below_put HB2.out (Nat.le_refl _) _ _⟩
  · have he := HC.out.eq false (by simpa using ht)
    have HT := Lib.hid ht
    clear ht
    go_wp2
    exact bodyPost_ret (results_valE rfl _ _ w.heap.size 23 _ _ _ _ rfl rfl (V2.out.put _ _) Tryd.underlying23 rval_info) rfl ⟨_, _, _, rfl, HC.out.no HT.out, below_put HB2.out (Nat.le_refl _) _ _⟩
set_option maxHeartbeats 4000000 in
set_option maxRecDepth 100000 in
theorem rparse_minus (r : List UInt8) (w : World) (hl : (45 :: r).length ≤ 1000000) (hL : Laid w) : Calls Tryd.prog 21 #[.string (str (45 :: r))] w fun e w' => ∃ k n x, e = .returned (.tuple #[.agg #[.int .i64 k, .int .i64 n], .int .i64 x]) ∧ Va.Parsed (45 :: r) k n x ∧ Below w.heap.size w w' := by
  have he : ((str (45 :: r)).toList == []) = false := by rw [str_toList]; rfl
  have hz : (str (45 :: r)).size = r.length + 1 := rfl
  have h0 : ∀ h, ((str (45 :: r))[0]'h).toNat = 45 := fun h => by rw [str_first]; rfl
  have hx := str_rest 45 r
  have HC := Lib.hid (Cand.mk (l := 45 :: r) (s := str (45 :: r)) (k := 1) (n := wrap64 (-(Va.digs 0 r))) rfl (by simp) rfl)
  have HL := Lib.hid hL
  have HZ := Lib.hid hl
  clear hL hl
  generalize str (45 :: r) = s at *
  go_enter Tryd.func21, Tryd.ntmps21
  go_wp2_with fail
  refine (digits_any r _ (by have := HZ.out; simp at this; omega)).mono ?_
  rintro e w1 ⟨rfl, rfl⟩
  go_wp2_with fail
  refine (rprint_any (1) (wrap64 (-(Va.digs 0 r))) _ HC.out.n64 ((HL.out.alloc _).alloc _)).mono ?_
  rintro e w2 ⟨rfl, hb2⟩
  have v2 := ((valAt_new w 0 0 23).alloc (.cells #[.int .i64 (1), .int .i64 (wrap64 (-(Va.digs 0 r)))] 23)).below hb2
  have u2 := ValAt.below (b := w.heap.size + 1) (t := 23) (k := 1) (n := wrap64 (-(Va.digs 0 r))) (by have := valAt_new (w.alloc (.cells #[.int .i64 0, .int .i64 0] 23)) (1) (wrap64 (-(Va.digs 0 r))) 23; simpa using this) hb2
  have c0 := v2.fst
  have c1 := v2.snd
  have f0 := v2.free 0
  have f1 := v2.free 1
  have d0 := u2.fst
  have d1 := u2.snd
  have V2 := Lib.hid v2
  have HB2 := Lib.hid ((two_below w _ _).trans (hb2.mono (by simp; omega)))
  clear v2 u2 hb2
  by_cases ht : Va.text (1) (wrap64 (-(Va.digs 0 r))) = (45 :: r)
  · have he := HC.out.eq true (by simpa using ht)
    have HT := Lib.hid ht
    clear ht
    go_wp2
    exact bodyPost_ret (results_valE rfl _ _ w.heap.size 23 _ _ _ _ rfl rfl (V2.out.put _ _) Tryd.underlying23 rval_info) rfl ⟨_, _, _, rfl, HC.out.yes HT.out, below_put HB2.out (Nat.le_refl _) _ _⟩
  · have he := HC.out.eq false (by simpa using ht)
    have HT := Lib.hid ht
    clear ht
    go_wp2
    exact bodyPost_ret (results_valE rfl _ _ w.heap.size 23 _ _ _ _ rfl rfl (V2.out.put _ _) Tryd.underlying23 rval_info) rfl ⟨_, _, _, rfl, HC.out.no HT.out, below_put HB2.out (Nat.le_refl _) _ _⟩
set_option maxHeartbeats 4000000 in
set_option maxRecDepth 100000 in
theorem rparse_nils  (w : World) (hl : ([110, 105, 108]).length ≤ 1000000) (hL : Laid w) : Calls Tryd.prog 21 #[.string (str ([110, 105, 108]))] w fun e w' => ∃ k n x, e = .returned (.tuple #[.agg #[.int .i64 k, .int .i64 n], .int .i64 x]) ∧ Va.Parsed ([110, 105, 108]) k n x ∧ Below w.heap.size w w' := by
  have he : ((str ([110, 105, 108])).toList == []) = false := by rw [str_toList]; rfl
  have hz : (str [110, 105, 108]).size = 3 := rfl
  have h0 : ∀ h, ((str [110, 105, 108])[0]'h).toNat = 110 := fun h => by rw [str_first]; rfl
  have hn := nil_yes
  have HC := Lib.hid (Cand.mk (l := [110, 105, 108]) (s := str ([110, 105, 108])) (k := 0) (n := 0) rfl (by simp) (by decide))
  have HL := Lib.hid hL
  have HZ := Lib.hid hl
  clear hL hl
  generalize str ([110, 105, 108]) = s at *
  go_enter Tryd.func21, Tryd.ntmps21

  go_wp2_with fail
  refine (rprint_any (0) (0) _ HC.out.n64 ((HL.out.alloc _).alloc _)).mono ?_
  rintro e w2 ⟨rfl, hb2⟩
  have v2 := ((valAt_new w 0 0 23).alloc (.cells #[.int .i64 (0), .int .i64 (0)] 23)).below hb2
  have u2 := ValAt.below (b := w.heap.size + 1) (t := 23) (k := 0) (n := 0) (by have := valAt_new (w.alloc (.cells #[.int .i64 0, .int .i64 0] 23)) (0) (0) 23; simpa using this) hb2
  have c0 := v2.fst
  have c1 := v2.snd
  have f0 := v2.free 0
  have f1 := v2.free 1
  have d0 := u2.fst
  have d1 := u2.snd
  have V2 := Lib.hid v2
  have HB2 := Lib.hid ((two_below w _ _).trans (hb2.mono (by simp; omega)))
  clear v2 u2 hb2
  by_cases ht : Va.text (0) (0) = ([110, 105, 108])
  · have he := HC.out.eq true (by simpa using ht)
    have HT := Lib.hid ht
    clear ht
    go_wp2
    exact bodyPost_ret (results_valE rfl _ _ w.heap.size 23 _ _ _ _ rfl rfl (V2.out.put _ _) Tryd.underlying23 rval_info) rfl ⟨_, _, _, rfl, HC.out.yes HT.out, below_put HB2.out (Nat.le_refl _) _ _⟩
  · have he := HC.out.eq false (by simpa using ht)
    have HT := Lib.hid ht
    clear ht
    go_wp2
    exact bodyPost_ret (results_valE rfl _ _ w.heap.size 23 _ _ _ _ rfl rfl (V2.out.put _ _) Tryd.underlying23 rval_info) rfl ⟨_, _, _, rfl, HC.out.no HT.out, below_put HB2.out (Nat.le_refl _) _ _⟩
set_option maxHeartbeats 4000000 in
set_option maxRecDepth 100000 in
theorem rparse_else (c : UInt8) (r : List UInt8) (w : World) (hl : (c :: r).length ≤ 1000000) (h64 : c ≠ 64) (h45 : c ≠ 45) (hn : c :: r ≠ [110, 105, 108]) (hL : Laid w) : Calls Tryd.prog 21 #[.string (str (c :: r))] w fun e w' => ∃ k n x, e = .returned (.tuple #[.agg #[.int .i64 k, .int .i64 n], .int .i64 x]) ∧ Va.Parsed (c :: r) k n x ∧ Below w.heap.size w w' := by
  have he : ((str (c :: r)).toList == []) = false := by rw [str_toList]; rfl
  have hz : (str (c :: r)).size = r.length + 1 := rfl
  have h0 : ∀ h, (((((str (c :: r))[0]'h).toNat : Nat) : Int) == 64) = false := fun h => by rw [str_first]; exact byte_ne h64
  have h1 : ∀ h, (((((str (c :: r))[0]'h).toNat : Nat) : Int) == 45) = false := fun h => by rw [str_first]; exact byte_ne h45
  have hd := fun W => digits_any (c :: r) W hl
  have HD := Lib.hid hd
  have hn' := nil_no hn
  have HN := Lib.hid (cand_else h64 h45 hn)
  clear hd hn h64 h45
  have HC := Lib.hid (Cand.mk (l := c :: r) (s := str (c :: r)) (k := 1) (n := Va.digs 0 (c :: r)) rfl (by simp) HN.out)
  have HL := Lib.hid hL
  have HZ := Lib.hid hl
  clear hL hl
  generalize str (c :: r) = s at *
  go_enter Tryd.func21, Tryd.ntmps21
  go_wp2_with fail
  refine (HD.out _).mono ?_
  rintro e w1 ⟨rfl, rfl⟩
  go_wp2_with fail
  refine (rprint_any (1) (Va.digs 0 (c :: r)) _ HC.out.n64 ((HL.out.alloc _).alloc _)).mono ?_
  rintro e w2 ⟨rfl, hb2⟩
  have v2 := ((valAt_new w 0 0 23).alloc (.cells #[.int .i64 (1), .int .i64 (Va.digs 0 (c :: r))] 23)).below hb2
  have u2 := ValAt.below (b := w.heap.size + 1) (t := 23) (k := 1) (n := Va.digs 0 (c :: r)) (by have := valAt_new (w.alloc (.cells #[.int .i64 0, .int .i64 0] 23)) (1) (Va.digs 0 (c :: r)) 23; simpa using this) hb2
  have c0 := v2.fst
  have c1 := v2.snd
  have f0 := v2.free 0
  have f1 := v2.free 1
  have d0 := u2.fst
  have d1 := u2.snd
  have V2 := Lib.hid v2
  have HB2 := Lib.hid ((two_below w _ _).trans (hb2.mono (by simp; omega)))
  clear v2 u2 hb2
  by_cases ht : Va.text (1) (Va.digs 0 (c :: r)) = (c :: r)
  · have he := HC.out.eq true (by simpa using ht)
    have HT := Lib.hid ht
    clear ht
    go_wp2
    exact bodyPost_ret (results_valE rfl _ _ w.heap.size 23 _ _ _ _ rfl rfl (V2.out.put _ _) Tryd.underlying23 rval_info) rfl ⟨_, _, _, rfl, HC.out.yes HT.out, below_put HB2.out (Nat.le_refl _) _ _⟩
  · have he := HC.out.eq false (by simpa using ht)
    have HT := Lib.hid ht
    clear ht
    go_wp2
    exact bodyPost_ret (results_valE rfl _ _ w.heap.size 23 _ _ _ _ rfl rfl (V2.out.put _ _) Tryd.underlying23 rval_info) rfl ⟨_, _, _, rfl, HC.out.no HT.out, below_put HB2.out (Nat.le_refl _) _ _⟩
theorem rparse_any (l : List UInt8) (w : World) (hl : l.length ≤ 1000000) (hL : Laid w) : Calls Tryd.prog 21 #[.string (str l)] w fun e w' => ∃ k n x, e = .returned (.tuple #[.agg #[.int .i64 k, .int .i64 n], .int .i64 x]) ∧ Va.Parsed l k n x ∧ Below w.heap.size w w' := by
  match l, hl with
  | [], _ => exact rparse_nil w
  | c :: r, hl =>
    by_cases h64 : c = 64
    · subst h64; exact rparse_at r w hl hL
    by_cases h45 : c = 45
    · subst h45; exact rparse_minus r w hl hL
    by_cases hn : c :: r = [110, 105, 108]
    · rw [hn]; exact rparse_nils w (by simp) hL
    · exact rparse_else c r w hl h64 h45 hn hL
end Go.Proofs.YtpfoehcgcofgpaaDoor
