/-
  The contracts of the document's own Mark and Drop.
-/
import Derived.Test.YtgbfdfkodocdiaaStoreRef
namespace Go.Proofs.Ytgbfdfkodocdiaa
open Go.RowKit St
set_option maxHeartbeats 1000000 in
theorem rmark_no (A : Option Addr) (c : Nat) (L : List Vr) (x s : Int) (w : World) (h : VarsAt w A L) (hx : ¬ has L x) :
    Calls Try.prog 16 #[.slice A L.length c, .int .i64 x, .int .i64 s] w (StorePost L 3 w) := by
  have H := Lib.hid h
  have HX := Lib.hid hx
  clear h hx
  go_enter Try.func16, Try.ntmps16
  go_wp2_with fail
  refine (rget_no _ _ _ _ _ H.out HX.out).mono ?_
  rintro e w1 ⟨rfl, hb1⟩
  have HB1 := Lib.hid hb1
  clear hb1
  go_wp2
  go_ret2
  exact ⟨_, _, rfl, (H.out.below HB1.out (Nat.le_refl _)).alloc _, HB1.out.alloc HB1.out.size _⟩
set_option maxHeartbeats 1000000 in
theorem rmark_slot (A : Option Addr) (c j : Nat) (L : List Vr) (v : Vr) (s : Int) (w : World) (h : VarsAt w A L) (hv : L[j]? = some v) (hs : ¬ slot s) :
    Calls Try.prog 16 #[.slice A L.length c, .int .i64 (j : Nat), .int .i64 s] w (StorePost L 2 w) := by
  have H := Lib.hid h
  have HV := Lib.hid hv
  clear h hv
  by_cases hn : s < 0
  · have hd : decide (s < 0) = true := by simpa using hn
    clear hs
    go_enter Try.func16, Try.ntmps16
    go_wp2_with fail
    refine (rget_yes _ _ _ _ _ _ H.out HV.out).mono ?_
    rintro e w1 ⟨rfl, hb1⟩
    have HB1 := Lib.hid hb1
    clear hb1
    go_wp2
    go_ret2
    exact ⟨_, _, rfl, (H.out.below HB1.out (Nat.le_refl _)).alloc _, HB1.out.alloc HB1.out.size _⟩
  · have hd : decide (s < 0) = false := by simpa using hn
    have hg : (32 : Int) ≤ s := by unfold slot at hs; omega
    clear hs
    go_enter Try.func16, Try.ntmps16
    go_wp2_with fail
    refine (rget_yes _ _ _ _ _ _ H.out HV.out).mono ?_
    rintro e w1 ⟨rfl, hb1⟩
    have HB1 := Lib.hid hb1
    clear hb1
    go_wp2
    go_ret2
    exact ⟨_, _, rfl, (H.out.below HB1.out (Nat.le_refl _)).alloc _, HB1.out.alloc HB1.out.size _⟩
theorem with_mark (A : Option Addr) (c x : Nat) (L : List Vr) (v : Vr) (s : Int) (w : World) (h : VarsAt w A L) (hl : L.length ≤ 100) (hc : L.length ≤ c) (hm : c ≤ maxLen) (hv : L[x]? = some v) :
    Calls Try.prog 31 #[.slice A L.length c, .int .i64 (x : Nat), .agg #[.int .i64 v.k, .int .i64 v.n, .int .i64 v.ver, .int .i64 v.wr, .int .u64 (Sm.add v.m s : Nat)]] w (RowPost (L.set x (mk s v)) 40 w) :=
  with_row A c x L (mk s v) w h hl hc hm (List.getElem?_eq_some_iff.1 hv).1 (mk_ok (h.ok v (List.mem_of_getElem? hv)) s)
set_option maxHeartbeats 1000000 in
theorem rmark_yes (A : Option Addr) (c j : Nat) (L : List Vr) (v : Vr) (s : Int) (w : World) (h : VarsAt w A L) (hl : L.length ≤ 100) (hc : L.length ≤ c) (hm : c ≤ maxLen) (hv : L[j]? = some v) (hs : slot s) :
    Calls Try.prog 16 #[.slice A L.length c, .int .i64 (j : Nat), .int .i64 s] w (StorePost (L.set j (mk s v)) 0 w) := by
  have H := Lib.hid h
  have HV := Lib.hid hv
  have HM := Lib.hid hm
  have hb := (h.ok v (List.mem_of_getElem? hv)).2.2.2.2
  have hd : decide (s < 0) = false := by have := hs.1; simp; omega
  have hg : ¬ ((32 : Int) ≤ s) := by have := hs.2; omega
  have h0 := hs.1
  have h1 := hs.2
  clear h hv hs hm
  go_enter Try.func16, Try.ntmps16
  go_wp2_with fail
  refine (rget_yes _ _ _ _ _ _ H.out HV.out).mono ?_
  rintro e w1 ⟨rfl, hb1⟩
  have HB1 := Lib.hid hb1
  clear hb1
  go_wp2_with (go_at_call 32; refine (rwith_any _ _ _ hb (by omega) (by omega)).mono ?_; rintro e w' ⟨rfl, rfl⟩)
  refine (with_mark _ _ _ _ _ _ _ ((H.out.below HB1.out (Nat.le_refl _)).alloc _) hl hc HM.out HV.out).mono ?_
  rintro e w3 ⟨v3, rfl, ho, hb3⟩
  have HO3 := Lib.hid ho
  have HB3 := Lib.hid ((HB1.out.alloc HB1.out.size _).trans (hb3.mono (by rw [size_new]; have := HB1.out.size; omega)))
  clear ho hb3
  go_wp2
  go_ret2
  exact storePost_row HO3.out HB3.out
theorem rmark_any (A : Option Addr) (c : Nat) (L : List Vr) (x s : Int) (w : World) (h : VarsAt w A L) (hl : L.length ≤ 100) (hc : L.length ≤ c) (hm : c ≤ maxLen) :
    Calls Try.prog 16 #[.slice A L.length c, .int .i64 x, .int .i64 s] w (StorePost (markL L x s) (markE L x s) w) := by
  by_cases hx : has L x
  · have ha := at_mem hx
    obtain ⟨j, rfl⟩ := Int.eq_ofNat_of_zero_le hx.1
    rw [Int.toNat_natCast] at ha
    by_cases hs : slot s
    · rw [markL_ok hx hs, markE_ok hx hs]
      exact rmark_yes A c j L _ s w h hl hc hm ha hs
    · rw [markL_arg hx hs, markE_arg hx hs]
      exact rmark_slot A c j L _ s w h ha hs
  · rw [markL_no hx, markE_no hx]
    exact rmark_no A c L x s w h hx
def RDropRel (L : List Vr) (f : Vr → Vr) (w : World) (v i : Value) (wr : World) : Prop := ∃ k : Nat, k ≤ L.length ∧ i = .int .i64 k ∧ OwnVars wr w.heap.size 40 v ((L.map f).take k) ∧ Below w.heap.size w wr
theorem new_dropW (w : World) (v : Vr) (s : Int) (t : TypeId) (hok : v.ok) (hw : v.wr = s) {g : Nat} (hg : w.heap.size = g) :
    VarsAt (w.alloc (.cells #[.int .i64 v.k, .int .i64 v.n, .int .i64 v.ver, .int .i64 (-1), .int .u64 (Sm.less v.m s : Nat)] t)) (some ⟨g, 0, none⟩) [dr s v] := by
  have := new_vars' (w := w) hg (dr s v) t (dr_ok hok s)
  unfold varA at this
  unfold dr at this ⊢
  rw [if_pos hw] at this ⊢
  exact this
theorem new_dropK (w : World) (v : Vr) (s : Int) (t : TypeId) (hok : v.ok) (hw : ¬ v.wr = s) {g : Nat} (hg : w.heap.size = g) :
    VarsAt (w.alloc (.cells #[.int .i64 v.k, .int .i64 v.n, .int .i64 v.ver, .int .i64 v.wr, .int .u64 (Sm.less v.m s : Nat)] t)) (some ⟨g, 0, none⟩) [dr s v] := by
  have := new_vars' (w := w) hg (dr s v) t (dr_ok hok s)
  unfold varA at this
  unfold dr at this ⊢
  rw [if_neg hw] at this ⊢
  exact this
theorem map_at {α β : Type} {f : α → β} {l : List α} {k : Nat} {z : α} (h : l[k]? = some z) : (l.map f)[k]? = some (f z) := by rw [List.getElem?_map, h]; rfl
set_option maxHeartbeats 1000000 in
theorem rdrop_any (A : Option Addr) (c : Nat) (L : List Vr) (s : Int) (w : World) (h : VarsAt w A L) (hl : L.length ≤ 100) (h0 : -9223372036854775808 ≤ s) (h1 : s ≤ 9223372036854775807) :
    Calls Try.prog 23 #[.slice A L.length c, .int .i64 s] w (RowPost (dropL L s) 40 w) := by
  have H := Lib.hid h
  clear h
  go_enter Try.func23, Try.ntmps23
  go_wp2
  go_loopw [5, 6] (RDropRel L (dr s) w) (fun _ i _ => L.length - (intOf i).toNat)
  case atStart => exact ⟨0, Nat.zero_le _, rfl, own_nil _ _ _, Below.refl _ _⟩
  case round =>
    obtain ⟨k, hk, rfl, ho, hb⟩ := hrel
    have HO := Lib.hid ho
    have HB := Lib.hid hb
    clear ho hb
    by_cases hlt : k < L.length
    · obtain ⟨ad, v, rfl, hv, hok, h5⟩ := (H.out.below HB.out (Nat.le_refl _)).at_ hlt
      obtain ⟨c0, c1, c2, c3, c4⟩ := h5
      have HV := Lib.hid hv
      have HK := Lib.hid hok
      have hm := hok.2.2.2.2
      clear hv hok
      by_cases hw : v.wr = s
      · have HW := Lib.hid hw
        rw [hw] at c3
        clear hw
        go_wp2_with (first
          | (go_at_call 34; refine (rless_any _ _ _ hm h0 h1).mono ?_; rintro e w' ⟨rfl, rfl⟩)
          | (at_builtin; refine append_vars rvt rfl _ _ rfl rfl ((HO.out.alloc _).alloc _) _ _ [dr s v] rfl rfl (new_dropW _ v _ _ HK.out HW.out (size_new _ _)) ?c1 ?c2 ?_))
        case c1 => simp; omega
        case c2 => have := HB.out.size; simp; omega
        intro v' w1 ho1 hb1 hs1
        have HO1 := Lib.hid ho1
        have HB1 := Lib.hid (((HB.out.alloc HB.out.size _).alloc (by have := HB.out.size; simp; omega) _).trans hb1)
        clear ho1 hb1
        go_wp2
        go_round
        case rel => exact ⟨k + 1, by omega, by go_num, by rw [take_step (map_at HV.out)]; exact HO1.out, HB1.out⟩
        case measure => simp [intOf]; omega
      · have HW := Lib.hid hw
        go_wp2_with (first
          | (go_at_call 34; refine (rless_any _ _ _ hm h0 h1).mono ?_; rintro e w' ⟨rfl, rfl⟩)
          | (at_builtin; refine append_vars rvt rfl _ _ rfl rfl ((HO.out.alloc _).alloc _) _ _ [dr s v] rfl rfl (new_dropK _ v _ _ HK.out HW.out (size_new _ _)) ?c1 ?c2 ?_))
        case c1 => simp; omega
        case c2 => have := HB.out.size; simp; omega
        intro v' w1 ho1 hb1 hs1
        have HO1 := Lib.hid ho1
        have HB1 := Lib.hid (((HB.out.alloc HB.out.size _).alloc (by have := HB.out.size; simp; omega) _).trans hb1)
        clear ho1 hb1
        go_wp2
        go_round
        case rel => exact ⟨k + 1, by omega, by go_num, by rw [take_step (map_at HV.out)]; exact HO1.out, HB1.out⟩
        case measure => simp [intOf]; omega
    · go_wp2
      go_ret
      have := HO.out
      rw [List.take_of_length_le (by simp; omega)] at this
      exact ⟨_, rfl, this, HB.out⟩
end Go.Proofs.Ytgbfdfkodocdiaa
