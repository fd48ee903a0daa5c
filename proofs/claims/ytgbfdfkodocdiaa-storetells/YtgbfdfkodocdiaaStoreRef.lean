/-
  The contracts of the document's own New, Put, Mark and Drop.
-/
import Derived.Test.YtgbfdfkodocdiaaStoreMake
namespace Go.Proofs.Ytgbfdfkodocdiaa
open Go.RowKit St
theorem storePost_row {w w' : World} {L : List Vr} {er : Int} {v : Value} {base : Nat} {e : TypeId} (ho : OwnVars w' base e v L) (hb : Below w.heap.size w w') :
    StorePost L er w (.returned (.tuple #[v, .int .i64 er])) w' := by
  obtain ⟨A', c', rfl, h1, h2, h3⟩ := ho.slice
  exact ⟨_, _, rfl, h3, hb⟩
def RNewRel (n : Nat) (w : World) (v i : Value) (wr : World) : Prop := ∃ k : Nat, k ≤ n ∧ i = .int .i64 k ∧ OwnVars wr w.heap.size 40 v (List.replicate k fresh) ∧ Below w.heap.size w wr
theorem newPost_row {w w' : World} {L : List Vr} {b : Bool} {v : Value} {base : Nat} {e : TypeId} (ho : OwnVars w' base e v L) (hb : Below w.heap.size w w') :
    NewPost L b w (.returned (.tuple #[v, .bool b])) w' := by
  obtain ⟨A', c', rfl, h1, h2, h3⟩ := ho.slice
  exact ⟨_, _, rfl, h3, hb⟩
theorem new_fresh (w : World) (t : TypeId) : VarsAt (w.alloc (.cells #[.int .i64 1, .int .i64 0, .int .i64 0, .int .i64 (-1), .int .u64 0] t)) (some ⟨w.heap.size, 0, none⟩) [fresh] := new_vars w fresh t fresh_ok
set_option maxHeartbeats 1000000 in
theorem rnew_yes (n : Nat) (w : World) (hn : n ≤ 64) : Calls Try.prog 18 #[.int .i64 (n : Nat)] w (NewPost (List.replicate n fresh) true w) := by
  have h0 : ¬ ((n : Int) < 0) := by omega
  have h1 : ¬ ((64 : Int) < (n : Int)) := by omega
  go_enter Try.func18, Try.ntmps18
  go_wp2
  go_loopw [4, 5] (RNewRel n w) (fun _ i _ => n - (intOf i).toNat)
  case atStart => exact ⟨0, Nat.zero_le _, rfl, own_nil _ _ _, Below.refl _ _⟩
  case round =>
    obtain ⟨k, hk, rfl, ho, hb⟩ := hrel
    have HO := Lib.hid ho
    have HB := Lib.hid hb
    clear ho hb
    by_cases hlt : k < n
    · go_wp2_with (at_builtin; refine append_vars rvt rfl _ _ rfl rfl (HO.out.alloc _) _ _ [fresh] rfl rfl (new_fresh _ _) ?c1 ?c2 ?_)
      case c1 => simp; omega
      case c2 => have := HB.out.size; simp; omega
      intro v' w1 ho1 hb1 hs1
      have HO1 := Lib.hid ho1
      have HB1 := Lib.hid ((HB.out.alloc HB.out.size _).trans hb1)
      clear ho1 hb1
      go_wp2
      go_round
      case rel => exact ⟨k + 1, by omega, by go_num, by rw [List.replicate_succ']; exact HO1.out, HB1.out⟩
      case measure => simp [intOf]; omega
    · obtain rfl : k = n := by omega
      go_wp2
      go_ret2
      exact newPost_row HO.out HB.out
set_option maxHeartbeats 1000000 in
theorem rnew_no (n : Int) (w : World) (hn : ¬ (0 ≤ n ∧ n ≤ 64)) : Calls Try.prog 18 #[.int .i64 n] w (NewPost [] false w) := by
  by_cases h0 : n < 0
  · clear hn
    go_enter Try.func18, Try.ntmps18
    go_wp2
    go_ret2
    exact ⟨_, _, rfl, VarsAt.none_ _ _, Below.refl _ _⟩
  · have h1 : (64 : Int) < n := by omega
    clear hn
    go_enter Try.func18, Try.ntmps18
    go_wp2
    go_ret2
    exact ⟨_, _, rfl, VarsAt.none_ _ _, Below.refl _ _⟩
theorem rnew_any (n : Int) (w : World) : Calls Try.prog 18 #[.int .i64 n] w (NewPost (newL n) (newIs n) w) := by
  unfold newL
  by_cases h : 0 ≤ n ∧ n ≤ 64
  · rw [newIs_yes h, if_pos rfl]
    obtain ⟨k, rfl⟩ := Int.eq_ofNat_of_zero_le h.1
    exact rnew_yes k w (by have := h.2; omega)
  · rw [newIs_no h, if_neg (by decide)]
    exact rnew_no n w h
theorem rget_no (A : Option Addr) (c : Nat) (L : List Vr) (x : Int) (w : World) (h : VarsAt w A L) (hx : ¬ has L x) :
    Calls Try.prog 12 #[.slice A L.length c, .int .i64 x] w fun e w' => e = .returned (.tuple #[.agg #[.int .i64 0, .int .i64 0, .int .i64 0, .int .i64 0, .int .u64 0], .int .i64 3]) ∧ Below w.heap.size w w' := by
  have := rget_any A c L x w h
  rwa [getR_no hx] at this
theorem rget_yes (A : Option Addr) (c j : Nat) (L : List Vr) (v : Vr) (w : World) (h : VarsAt w A L) (hv : L[j]? = some v) :
    Calls Try.prog 12 #[.slice A L.length c, .int .i64 (j : Nat)] w fun e w' => e = .returned (.tuple #[.agg #[.int .i64 v.k, .int .i64 v.n, .int .i64 v.ver, .int .i64 v.wr, .int .u64 (v.m : Nat)], .int .i64 0]) ∧ Below w.heap.size w w' := by
  have hj := (List.getElem?_eq_some_iff.1 hv).1
  have hx : has L (j : Nat) := ⟨by omega, by omega⟩
  have := rget_any A c L (j : Nat) w h
  have hat : at_ L (j : Nat) = v := by have := at_mem hx; rw [Int.toNat_natCast, hv] at this; exact (Option.some.inj this).symm
  rw [getR_yes hx, hat] at this
  exact this
set_option maxHeartbeats 1000000 in
theorem rput_no (A : Option Addr) (c : Nat) (L : List Vr) (x k n ver wr : Int) (w : World) (h : VarsAt w A L) (hx : ¬ has L x) :
    Calls Try.prog 14 #[.slice A L.length c, .int .i64 x, .agg #[.int .i64 k, .int .i64 n], .int .i64 ver, .int .i64 wr] w (StorePost L 3 w) := by
  have H := Lib.hid h
  have HX := Lib.hid hx
  clear h hx
  go_enter Try.func14, Try.ntmps14
  go_wp2_with fail
  refine (rget_no _ _ _ _ _ (H.out.alloc _) HX.out).mono ?_
  rintro e w1 ⟨rfl, hb1⟩
  have HB1 := Lib.hid hb1
  clear hb1
  go_wp2
  go_ret2
  exact ⟨_, _, rfl, ((H.out.alloc _).below HB1.out (Nat.le_refl _)).alloc _, ((below_new _ _).trans (HB1.out.mono (by simp))).alloc (by have := HB1.out.size; rw [size_new] at this; omega) _⟩
set_option maxHeartbeats 1000000 in
theorem rput_wrong (A : Option Addr) (c j : Nat) (L : List Vr) (v : Vr) (k n ver wr : Int) (w : World) (h : VarsAt w A L) (hv : L[j]? = some v) (hr : right k n = false) :
    Calls Try.prog 14 #[.slice A L.length c, .int .i64 (j : Nat), .agg #[.int .i64 k, .int .i64 n], .int .i64 ver, .int .i64 wr] w (StorePost L 2 w) := by
  have H := Lib.hid h
  have HV := Lib.hid hv
  have HR := Lib.hid hr
  have HBX := Lib.hid (boxAt_new w k n 24)
  clear h hv hr
  go_enter Try.func14, Try.ntmps14
  go_wp2_with fail
  refine (rget_yes _ _ _ _ _ _ (H.out.alloc _) HV.out).mono ?_
  rintro e w1 ⟨rfl, hb1⟩
  have HB1 := Lib.hid hb1
  obtain ⟨b0, b1⟩ := (HBX.out.below hb1).below (below_new w1 (.cells #[.int .i64 v.k, .int .i64 v.n, .int .i64 v.ver, .int .i64 v.wr, .int .u64 (v.m : Nat)] 40))
  have hlt := hb1.size
  rw [size_new] at hlt
  clear hb1
  go_wp2_with fail
  refine (rright_val _ _ _ _ HR.out).mono ?_
  rintro e w2 ⟨rfl, hb2⟩
  have HB2 := Lib.hid hb2
  clear hb2
  go_wp2
  go_ret2
  exact ⟨_, _, rfl, (((H.out.alloc _).below HB1.out (Nat.le_refl _)).alloc _).below HB2.out (Nat.le_refl _), (((below_new _ _).trans (HB1.out.mono (by simp))).alloc (by omega) _).trans (HB2.out.mono (by rw [size_new]; omega))⟩
set_option maxHeartbeats 1000000 in
theorem rput_slot (A : Option Addr) (c j : Nat) (L : List Vr) (v : Vr) (k n ver wr : Int) (w : World) (h : VarsAt w A L) (hv : L[j]? = some v) (hr : right k n = true) (hs : wr < -1 ∨ 32 ≤ wr) :
    Calls Try.prog 14 #[.slice A L.length c, .int .i64 (j : Nat), .agg #[.int .i64 k, .int .i64 n], .int .i64 ver, .int .i64 wr] w (StorePost L 2 w) := by
  have H := Lib.hid h
  have HV := Lib.hid hv
  have HR := Lib.hid hr
  have HBX := Lib.hid (boxAt_new w k n 24)
  clear h hv hr
  by_cases hn1 : wr < -1
  · have hd : decide (wr < -1) = true := by simpa using hn1
    clear hs
    go_enter Try.func14, Try.ntmps14
    go_wp2_with fail
    refine (rget_yes _ _ _ _ _ _ (H.out.alloc _) HV.out).mono ?_
    rintro e w1 ⟨rfl, hb1⟩
    have HB1 := Lib.hid hb1
    obtain ⟨b0, b1⟩ := (HBX.out.below hb1).below (below_new w1 (.cells #[.int .i64 v.k, .int .i64 v.n, .int .i64 v.ver, .int .i64 v.wr, .int .u64 (v.m : Nat)] 40))
    have hlt := hb1.size
    rw [size_new] at hlt
    clear hb1
    go_wp2_with fail
    refine (rright_val _ _ _ _ HR.out).mono ?_
    rintro e w2 ⟨rfl, hb2⟩
    have HB2 := Lib.hid hb2
    clear hb2
    go_wp2
    go_ret2
    exact ⟨_, _, rfl, (((H.out.alloc _).below HB1.out (Nat.le_refl _)).alloc _).below HB2.out (Nat.le_refl _), (((below_new _ _).trans (HB1.out.mono (by simp))).alloc (by omega) _).trans (HB2.out.mono (by rw [size_new]; omega))⟩
  · have hd : decide (wr < -1) = false := by simpa using hn1
    have hg : (32 : Int) ≤ wr := by omega
    clear hs
    go_enter Try.func14, Try.ntmps14
    go_wp2_with fail
    refine (rget_yes _ _ _ _ _ _ (H.out.alloc _) HV.out).mono ?_
    rintro e w1 ⟨rfl, hb1⟩
    have HB1 := Lib.hid hb1
    obtain ⟨b0, b1⟩ := (HBX.out.below hb1).below (below_new w1 (.cells #[.int .i64 v.k, .int .i64 v.n, .int .i64 v.ver, .int .i64 v.wr, .int .u64 (v.m : Nat)] 40))
    have hlt := hb1.size
    rw [size_new] at hlt
    clear hb1
    go_wp2_with fail
    refine (rright_val _ _ _ _ HR.out).mono ?_
    rintro e w2 ⟨rfl, hb2⟩
    have HB2 := Lib.hid hb2
    clear hb2
    go_wp2
    go_ret2
    exact ⟨_, _, rfl, (((H.out.alloc _).below HB1.out (Nat.le_refl _)).alloc _).below HB2.out (Nat.le_refl _), (((below_new _ _).trans (HB1.out.mono (by simp))).alloc (by omega) _).trans (HB2.out.mono (by rw [size_new]; omega))⟩
theorem with_put (A : Option Addr) (c x : Nat) (L : List Vr) (k n ver wr : Int) (w : World) (h : VarsAt w A L) (hl : L.length ≤ 100) (hc : L.length ≤ c) (hm : c ≤ maxLen) (hx : x < L.length) (hk : i64p k) (hn : i64p n) (hv : i64p ver) (hw : i64p wr) :
    Calls Try.prog 31 #[.slice A L.length c, .int .i64 (x : Nat), .agg #[.int .i64 k, .int .i64 n, .int .i64 ver, .int .i64 wr, .int .u64 0]] w (RowPost (L.set x ⟨k, n, ver, wr, 0⟩) 40 w) :=
  with_row A c x L ⟨k, n, ver, wr, 0⟩ w h hl hc hm hx ⟨hk, hn, hv, hw, Nat.zero_lt_succ _⟩
set_option maxHeartbeats 1000000 in
theorem rput_yes (A : Option Addr) (c j : Nat) (L : List Vr) (k n ver wr : Int) (w : World) (h : VarsAt w A L) (hl : L.length ≤ 100) (hc : L.length ≤ c) (hm : c ≤ maxLen) (v : Vr) (hvv : L[j]? = some v) (hr : right k n = true) (hs : -1 ≤ wr ∧ wr < 32) (hk : i64p k) (hn : i64p n) (hv : i64p ver) (hw : i64p wr) :
    Calls Try.prog 14 #[.slice A L.length c, .int .i64 (j : Nat), .agg #[.int .i64 k, .int .i64 n], .int .i64 ver, .int .i64 wr] w (StorePost (L.set j ⟨k, n, ver, wr, 0⟩) 0 w) := by
  have H := Lib.hid h
  have hj : j < L.length := (List.getElem?_eq_some_iff.1 hvv).1
  have HV := Lib.hid hvv
  have HR := Lib.hid hr
  have HI := Lib.hid (show i64p k ∧ i64p n ∧ i64p ver ∧ i64p wr from ⟨hk, hn, hv, hw⟩)
  have HM := Lib.hid hm
  have HBX := Lib.hid (boxAt_new w k n 24)
  have hd : decide (wr < -1) = false := by simp; omega
  have hg : ¬ ((32 : Int) ≤ wr) := by omega
  clear h hr hs hk hn hv hw hm hvv
  go_enter Try.func14, Try.ntmps14
  go_wp2_with fail
  refine (rget_yes _ _ _ _ _ _ (H.out.alloc _) HV.out).mono ?_
  rintro e w1 ⟨rfl, hb1⟩
  have HB1 := Lib.hid hb1
  obtain ⟨b0, b1⟩ := (HBX.out.below hb1).below (below_new w1 (.cells #[.int .i64 v.k, .int .i64 v.n, .int .i64 v.ver, .int .i64 v.wr, .int .u64 (v.m : Nat)] 40))
  have hlt := hb1.size
  rw [size_new] at hlt
  clear hb1
  go_wp2_with fail
  refine (rright_val _ _ _ _ HR.out).mono ?_
  rintro e w2 ⟨rfl, hb2⟩
  have HB2 := Lib.hid hb2
  obtain ⟨b0', b1'⟩ := ((HBX.out.below HB1.out).below (below_new _ _)).below hb2
  have hlt2 := hb2.size
  rw [size_new] at hlt2
  clear hb2 b0 b1
  go_wp2_with fail
  refine (with_put _ _ _ _ _ _ _ _ _ ((((H.out.alloc _).below HB1.out (Nat.le_refl _)).alloc _).below HB2.out (Nat.le_refl _)) hl hc HM.out hj HI.out.1 HI.out.2.1 HI.out.2.2.1 HI.out.2.2.2).mono ?_
  rintro e w3 ⟨v3, rfl, ho, hb3⟩
  have HO3 := Lib.hid ho
  have HB3 := Lib.hid ((((below_new _ _).trans (HB1.out.mono (by simp))).alloc (by omega) _).trans ((HB2.out.mono (by rw [size_new]; omega)).trans (hb3.mono (by omega))))
  clear ho hb3
  go_wp2
  go_ret2
  exact storePost_row HO3.out HB3.out
theorem rput_any (A : Option Addr) (c : Nat) (L : List Vr) (x k n ver wr : Int) (w : World) (h : VarsAt w A L) (hl : L.length ≤ 100) (hc : L.length ≤ c) (hm : c ≤ maxLen) (hk : i64p k) (hn : i64p n) (hv : i64p ver) (hw : i64p wr) :
    Calls Try.prog 14 #[.slice A L.length c, .int .i64 x, .agg #[.int .i64 k, .int .i64 n], .int .i64 ver, .int .i64 wr] w (StorePost (putL L x k n ver wr) (putE L x k n wr) w) := by
  by_cases hx : has L x
  · obtain ⟨j, rfl⟩ := Int.eq_ofNat_of_zero_le hx.1
    have hj : j < L.length := by have := hx.2; omega
    have hat := List.getElem?_eq_getElem hj
    cases hr : right k n
    · rw [putL_arg hx (by simp [hr]), putE_arg hx (by simp [hr])]
      exact rput_wrong A c j L _ k n ver wr w h hat hr
    · by_cases hs : wr = -1 ∨ slot wr
      · rw [putL_ok hx ⟨hr, hs⟩, putE_ok hx ⟨hr, hs⟩]
        exact rput_yes A c j L k n ver wr w h hl hc hm _ hat hr (by unfold slot at hs; omega) hk hn hv hw
      · rw [putL_arg hx (fun hh => hs hh.2), putE_arg hx (fun hh => hs hh.2)]
        exact rput_slot A c j L _ k n ver wr w h hat hr (by unfold slot at hs; omega)
  · rw [putL_no hx, putE_no hx]
    exact rput_no A c L x k n ver wr w h hx
end Go.Proofs.Ytgbfdfkodocdiaa
