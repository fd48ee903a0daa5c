/-
  Contracts of value.meant and value.Parse.
-/
import Derived.Test.YtpfoehcgcofgpaaDoorValueWalk2
namespace Go.Proofs.YtpfoehcgcofgpaaDoor
open Go.RowKit
theorem str_data (s : ByteArray) : str s.data.toList = s := by unfold str; simp
theorem str_list (l : List UInt8) : (str l).data.toList = l := by unfold str; simp
theorem str_toList (l : List UInt8) : (str l).toList = l := by rw [ByteArray.toList_eq, str_list]
theorem str_inj {l m : List UInt8} (h : str l = str m) : l = m := by rw [← str_list l, h, str_list]
/-- two texts held against each other. -/
theorem str_eq (l m : List UInt8) : ((str l).toList == (str m).toList) = decide (l = m) := by
  rw [str_toList, str_toList, Bool.eq_iff_iff]; simp
theorem cut_any (l : List UInt8) (w : World) :
    Calls Tryd.prog 33 #[.string (str l), .string ⟨#[64]⟩] w fun e w' => e = .returned (.tuple #[.string (str (Va.numOf l)), .bool (Lib.hasPrefix l [64])]) ∧ w = w' := by
  refine (Tryd.strings_CutPrefix (str l) ⟨#[64]⟩ w).mono ?_
  rintro e w' ⟨rfl, rfl⟩
  rw [str_list]
  exact ⟨rfl, rfl⟩
/-- what ParseInt makes of a text. -/
theorem parseInt_any (l : List UInt8) (w : World) (hl : l.length ≤ 281474976710656) (hL : Laid w) :
    Calls Tryd.prog 34 #[.string (str l), .int .i64 10, .int .i64 64] w fun e w' => ∃ v x, e = .returned (.tuple #[.int .i64 v, x]) ∧ Va.i64p v ∧ (x = .nilIface ∧ Lib.parseIntB 64 l = .ok v ∨ (∃ t p, x = .iface t p) ∧ ∀ u, Lib.parseIntB 64 l ≠ .ok u) ∧ Below w.heap.size w w' := by
  have e1 : (2 ^ (64 - 1) : Nat) = 9223372036854775808 := by decide
  cases h : Lib.parseIntB 64 l
  · rename_i v
    refine (Tryd.strconv_ParseInt_10_at64_ok (str l) (by rw [str_size]; omega) v (by rw [str_list]; exact h) w).mono ?_
    rintro e w' ⟨rfl, hw⟩
    refine ⟨v, _, rfl, ?_, .inl ⟨rfl, rfl⟩, ?_⟩
    · have := Lib.parseIntB_bounds h
      rw [e1] at this
      unfold Va.i64p; omega
    · rcases hw with rfl | ⟨t, rfl⟩
      · exact Below.refl _ _
      · exact Lib.bytesWorld_below _ _ _
  · obtain ⟨tp, p, hv⟩ := hL.syn
    refine (Tryd.strconv_ParseInt_10_at64_syntax_var (str l) (by rw [str_size]; omega) _ ((congrArg (Lib.parseIntB 64) (str_list l)).trans h) (fun h => by cases h) (fun _ h => by cases h) tp p w hv).mono ?_
    rintro e w' ⟨N, rfl, _, _, hb⟩
    exact ⟨_, _, rfl, Va.nought64, .inr ⟨⟨_, _, rfl⟩, fun u hu => by cases hu⟩, hb⟩
  · obtain ⟨tp, p, hv⟩ := hL.rng
    refine (Tryd.strconv_ParseInt_10_at64_range_var (str l) (by rw [str_size]; omega) (by rw [str_list]; exact h) tp p w hv).mono ?_
    rintro e w' ⟨N, rfl, _, _, hb⟩
    refine ⟨_, _, rfl, ?_, .inr ⟨⟨_, _, rfl⟩, fun u hu => by cases hu⟩, hb⟩
    rw [str_list]
    unfold Lib.intSat Va.i64p
    rw [e1]
    split <;> omega
/-- what a text is taken for. -/
def Meant (l : List UInt8) (k n : Int) (ok : Bool) : Prop :=
  Va.i64p n ∧ (ok = false ∧ Va.Parsed l 0 0 8 ∨ ok = true ∧ (Va.text k n = l → Va.Parsed l k n 0) ∧ (Va.text k n ≠ l → Va.Parsed l 0 0 8))
set_option maxHeartbeats 1000000 in
theorem meant_long (l : List UInt8) (w : World) (hl : 20 < l.length) :
    Calls Tryd.prog 30 #[.string (str l)] w fun e w' => e = .returned (.tuple #[.agg #[.int .i64 0, .int .i64 0], .bool false]) ∧ Below w.heap.size w w' := by
  have hz := str_size l
  go_enter Tryd.func30, Tryd.ntmps30
  go_wp2
  exact bodyPost_ret (results_valE rfl _ _ w.heap.size 25 _ _ _ _ rfl rfl (valAt_new _ _ _ _) Tryd.underlying25 val_info) rfl ⟨rfl, below_new _ _⟩
set_option maxHeartbeats 1000000 in
theorem meant_nil' (l : List UInt8) (w : World) (hz : (str l).size = 3) (he : ((str l).toList == [110, 105, 108]) = true) :
    Calls Tryd.prog 30 #[.string (str l)] w fun e w' => e = .returned (.tuple #[.agg #[.int .i64 0, .int .i64 0], .bool true]) ∧ Below w.heap.size w w' := by
  go_enter Tryd.func30, Tryd.ntmps30
  go_wp2
  exact bodyPost_ret (results_valE rfl _ _ w.heap.size 25 _ _ _ _ rfl rfl (valAt_new _ _ _ _) Tryd.underlying25 val_info) rfl ⟨rfl, below_new _ _⟩
theorem nil_no {l : List UInt8} (h : l ≠ [110, 105, 108]) : ((str l).toList == [110, 105, 108]) = false := by
  rw [str_toList]; simpa using h
theorem nil_yes : ((str [110, 105, 108]).toList == [110, 105, 108]) = true := by rw [str_toList]; rfl
theorem meant_nil (w : World) :
    Calls Tryd.prog 30 #[.string (str [110, 105, 108])] w fun e w' => e = .returned (.tuple #[.agg #[.int .i64 0, .int .i64 0], .bool true]) ∧ Below w.heap.size w w' := meant_nil' _ w rfl nil_yes
theorem numOf_len (l : List UInt8) : (Va.numOf l).length ≤ l.length := by
  unfold Va.numOf Lib.trimPrefix
  split
  · rw [List.length_drop]; omega
  · exact Nat.le_refl _
theorem ValAt.drew {w : World} {b : Nat} {t : TypeId} {k n : Int} (h : ValAt w b t k n) : ValAt w.drew b t k n := ⟨h.is⟩
theorem meant_yes {l : List UInt8} {k v : Int} (hk : Va.kindOf l = k) (hne : l ≠ [110, 105, 108]) (hp : Lib.parseIntB 64 (Va.numOf l) = .ok v) (hv : Va.i64p v) : Meant l k v true := by
  subst hk
  have h0 : l ≠ [] := by
    rintro rfl
    have : Va.numOf [] = [] := rfl
    rw [this] at hp; cases hp
  obtain ⟨h1, h2⟩ := Va.parsed_of hne hp hv
  exact ⟨hv, .inr ⟨rfl, fun e => h1 e h0, h2⟩⟩
theorem meant_no {l : List UInt8} {k v : Int} (hne : l ≠ [110, 105, 108]) (hp : ∀ u, Lib.parseIntB 64 (Va.numOf l) ≠ .ok u) (hv : Va.i64p v) : Meant l k v false := ⟨hv, .inl ⟨rfl, Va.parsed_no hne hp⟩⟩
set_option maxHeartbeats 2000000 in
set_option maxRecDepth 100000 in
theorem meant_int (l : List UInt8) (w : World) (hl : l.length ≤ 20) (hne : l ≠ [110, 105, 108]) (hL : Laid w) :
    Calls Tryd.prog 30 #[.string (str l)] w fun e w' => ∃ k n ok, e = .returned (.tuple #[.agg #[.int .i64 k, .int .i64 n], .bool ok]) ∧ Meant l k n ok ∧ Below w.heap.size w w' := by
  have hz := str_size l
  have hz' : ¬ 20 < l.length := by omega
  have he := nil_no hne
  have HL := Lib.hid hL
  have HN := Lib.hid hne
  have HC := Lib.hid hl
  clear hL hne hl
  cases hp : Lib.hasPrefix l [64]
  · have HK : Hid (Va.kindOf l = 1) := Lib.hid (by unfold Va.kindOf; rw [hp]; rfl)
    go_enter Tryd.func30, Tryd.ntmps30
    go_wp2_with fail
    refine (cut_any l _).mono ?_
    rintro e w1 ⟨rfl, rfl⟩
    go_wp2_with fail
    refine (parseInt_any (Va.numOf l) _ (by have := numOf_len l; have := HC.out; omega) (HL.out.alloc _)).mono ?_
    rintro e w1 ⟨v, x, rfl, hv, hx, hb⟩
    have v1 := (valAt_new w 0 0 25).below hb
    have c0 := v1.fst
    have c1 := v1.snd
    have f0 := v1.free 0
    have f1 := v1.free 1
    have V1 := Lib.hid v1
    have HB := Lib.hid ((below_new w _).trans (hb.mono (by simp)))
    have HV := Lib.hid hv
    clear v1 hb hv
    rcases hx with ⟨rfl, hx⟩ | ⟨⟨t, q, rfl⟩, hx⟩
    · have HX := Lib.hid hx
      clear hx
      go_wp2
      go_region
      go_wp2
      exact bodyPost_ret (results_valE rfl _ _ w.heap.size 25 _ _ _ _ rfl rfl (V1.out.put _ _).drew Tryd.underlying25 val_info) rfl ⟨_, _, _, rfl, meant_yes HK.out HN.out HX.out HV.out, (below_put HB.out (Nat.le_refl _) _ _).drew⟩
    · have HX := Lib.hid hx
      clear hx
      go_wp2
      go_region
      go_wp2
      exact bodyPost_ret (results_valE rfl _ _ w.heap.size 25 _ _ _ _ rfl rfl (V1.out.put _ _).drew Tryd.underlying25 val_info) rfl ⟨_, _, _, rfl, meant_no HN.out HX.out HV.out, (below_put HB.out (Nat.le_refl _) _ _).drew⟩
  · have HK : Hid (Va.kindOf l = 2) := Lib.hid (by unfold Va.kindOf; rw [hp]; rfl)
    go_enter Tryd.func30, Tryd.ntmps30
    go_wp2_with fail
    refine (cut_any l _).mono ?_
    rintro e w1 ⟨rfl, rfl⟩
    go_wp2_with fail
    refine (parseInt_any (Va.numOf l) _ (by have := numOf_len l; have := HC.out; omega) (HL.out.alloc _)).mono ?_
    rintro e w1 ⟨v, x, rfl, hv, hx, hb⟩
    have v1 := (valAt_new w 0 0 25).below hb
    have c0 := v1.fst
    have c1 := v1.snd
    have f0 := v1.free 0
    have f1 := v1.free 1
    have V1 := Lib.hid v1
    have HB := Lib.hid ((below_new w _).trans (hb.mono (by simp)))
    have HV := Lib.hid hv
    clear v1 hb hv
    rcases hx with ⟨rfl, hx⟩ | ⟨⟨t, q, rfl⟩, hx⟩
    · have HX := Lib.hid hx
      clear hx
      go_wp2
      go_region
      go_wp2
      exact bodyPost_ret (results_valE rfl _ _ w.heap.size 25 _ _ _ _ rfl rfl (V1.out.put _ _).drew Tryd.underlying25 val_info) rfl ⟨_, _, _, rfl, meant_yes HK.out HN.out HX.out HV.out, (below_put HB.out (Nat.le_refl _) _ _).drew⟩
    · have HX := Lib.hid hx
      clear hx
      go_wp2
      go_region
      go_wp2
      exact bodyPost_ret (results_valE rfl _ _ w.heap.size 25 _ _ _ _ rfl rfl (V1.out.put _ _).drew Tryd.underlying25 val_info) rfl ⟨_, _, _, rfl, meant_no HN.out HX.out HV.out, (below_put HB.out (Nat.le_refl _) _ _).drew⟩
end Go.Proofs.YtpfoehcgcofgpaaDoor
