/-
  The walk of StoreTells.
-/
import Derived.Test.YtgbfdfkodocdiaaStoreLaw2
namespace Go.Proofs.Ytgbfdfkodocdiaa
open Go.RowKit St
theorem get_is (A : Option Addr) (c : Nat) (L : List Vr) (x : Int) (v : Vr) (er : Int) (w : World) (h : VarsAt w A L) (hv : getV L x = v) (he : getE L x = er) :
    Calls Try.prog 11 #[.slice A L.length c, .int .i64 x] w fun e w' => e = .returned (.tuple #[.agg #[.int .i64 v.k, .int .i64 v.n, .int .i64 v.ver, .int .i64 v.wr, .int .u64 (v.m : Nat)], .int .i64 er]) ∧ Below w.heap.size w w' := by
  subst hv; subst he
  exact get_any A c L x w h
theorem rget_is (A : Option Addr) (c : Nat) (L : List Vr) (x : Int) (v : Vr) (er : Int) (w : World) (h : VarsAt w A L) (hv : getV L x = v) (he : getE L x = er) :
    Calls Try.prog 12 #[.slice A L.length c, .int .i64 x] w fun e w' => e = .returned (.tuple #[.agg #[.int .i64 v.k, .int .i64 v.n, .int .i64 v.ver, .int .i64 v.wr, .int .u64 (v.m : Nat)], .int .i64 er]) ∧ Below w.heap.size w w' := by
  subst hv; subst he
  exact rget_any A c L x w h
theorem put_is (A : Option Addr) (c : Nat) (L : List Vr) (x k n ver wr er : Int) (w : World) (h : VarsAt w A L) (hl : L.length ≤ 100) (hk : i64p k) (hn : i64p n) (hv : i64p ver) (hw : i64p wr) (he : putE L x k n wr = er) :
    Calls Try.prog 13 #[.slice A L.length c, .int .i64 x, .agg #[.int .i64 k, .int .i64 n], .int .i64 ver, .int .i64 wr] w fun e w' => ∃ T d, e = .returned (.tuple #[.slice T L.length d, .int .i64 er]) ∧ VarsAt w' T (putL L x k n ver wr) ∧ Below w.heap.size w w' := by
  subst he; exact put_slice A c L x k n ver wr w h hl hk hn hv hw
theorem rput_is (A : Option Addr) (c : Nat) (L : List Vr) (x k n ver wr er : Int) (w : World) (h : VarsAt w A L) (hl : L.length ≤ 100) (hc : L.length ≤ c) (hm : c ≤ maxLen) (hk : i64p k) (hn : i64p n) (hv : i64p ver) (hw : i64p wr) (he : putE L x k n wr = er) :
    Calls Try.prog 14 #[.slice A L.length c, .int .i64 x, .agg #[.int .i64 k, .int .i64 n], .int .i64 ver, .int .i64 wr] w fun e w' => ∃ T d, e = .returned (.tuple #[.slice T L.length d, .int .i64 er]) ∧ VarsAt w' T (putL L x k n ver wr) ∧ Below w.heap.size w w' := by
  subst he; exact rput_slice A c L x k n ver wr w h hl hc hm hk hn hv hw
theorem mark_is (A : Option Addr) (c : Nat) (L : List Vr) (x s er : Int) (w : World) (h : VarsAt w A L) (hl : L.length ≤ 100) (he : markE L x s = er) :
    Calls Try.prog 15 #[.slice A L.length c, .int .i64 x, .int .i64 s] w fun e w' => ∃ T d, e = .returned (.tuple #[.slice T L.length d, .int .i64 er]) ∧ VarsAt w' T (markL L x s) ∧ Below w.heap.size w w' := by
  subst he; exact mark_slice A c L x s w h hl
theorem rmark_is (A : Option Addr) (c : Nat) (L : List Vr) (x s er : Int) (w : World) (h : VarsAt w A L) (hl : L.length ≤ 100) (hc : L.length ≤ c) (hm : c ≤ maxLen) (he : markE L x s = er) :
    Calls Try.prog 16 #[.slice A L.length c, .int .i64 x, .int .i64 s] w fun e w' => ∃ T d, e = .returned (.tuple #[.slice T L.length d, .int .i64 er]) ∧ VarsAt w' T (markL L x s) ∧ Below w.heap.size w w' := by
  subst he; exact rmark_slice A c L x s w h hl hc hm
theorem new_is (x : Int) (m : Nat) (b : Bool) (w : World) (hm : (newL x).length = m) (hb : newIs x = b) :
    Calls Try.prog 17 #[.int .i64 x] w fun e w' => ∃ T d, e = .returned (.tuple #[.slice T m d, .bool b]) ∧ VarsAt w' T (newL x) ∧ Below w.heap.size w w' := by
  subst hm; subst hb; exact new_any x w
theorem rnew_is (x : Int) (m : Nat) (b : Bool) (w : World) (hm : (newL x).length = m) (hb : newIs x = b) :
    Calls Try.prog 18 #[.int .i64 x] w fun e w' => ∃ T d, e = .returned (.tuple #[.slice T m d, .bool b]) ∧ VarsAt w' T (newL x) ∧ Below w.heap.size w w' := by
  subst hm; subst hb; exact rnew_any x w
theorem ours_is (A : Option Addr) (c m : Nat) (L : List Vr) (w : World) (h : VarsAt w A L) (hm : L.length = m) (hl : m ≤ 100) :
    Calls Try.prog 21 #[.slice A m c] w fun e w' => ∃ T d, e = .returned (.slice T m d) ∧ VarsAt w' T L ∧ Below w.heap.size w w' := by
  subst hm; exact ours_slice A c L w h hl
theorem same_is (A B : Option Addr) (c d m : Nat) (L : List Vr) (w : World) (hA : VarsAt w A L) (hB : VarsAt w B L) (hm : L.length = m) (hl : m ≤ 100) :
    Calls Try.prog 20 #[.slice A m c, .slice B m d] w fun e w' => e = .returned (.bool true) ∧ Below w.heap.size w w' := by
  subst hm; exact same_yes A B c d L w hA hB hl
theorem newL_len (x : Int) : (newL x).length ≤ 100 := by
  unfold newL
  split
  · rename_i h
    unfold newIs at h
    simp at h
    simp
    omega
  · simp
/-- all that the calls answered. -/
structure TlSt (A T C D M N X Y : Option Addr) (L : List Vr) (b ba bb : Nat) (v : Vr) (x ver wr k n s : Int) (w W : World) : Prop where
  st : LawSt A T L b x ver wr k n w W
  va : VarAt W ba 35 v
  vb : VarAt W bb 40 v
  pc : VarsAt W C (putL L x k n ver wr)
  pd : VarsAt W D (putL L x k n ver wr)
  mm : VarsAt W M (markL L x s)
  mn : VarsAt W N (markL L x s)
  nx : VarsAt W X (newL x)
  ny : VarsAt W Y (newL x)
theorem TlSt.below {A T C D M N X Y : Option Addr} {L : List Vr} {b ba bb : Nat} {v : Vr} {x ver wr k n s : Int} {w W W' : World} (h : TlSt A T C D M N X Y L b ba bb v x ver wr k n s w W) (hb : Below W.heap.size W W') :
    TlSt A T C D M N X Y L b ba bb v x ver wr k n s w W' :=
  ⟨h.st.below hb, h.va.below hb h.va.lt, h.vb.below hb h.vb.lt, h.pc.below hb (Nat.le_refl _), h.pd.below hb (Nat.le_refl _), h.mm.below hb (Nat.le_refl _), h.mn.below hb (Nat.le_refl _), h.nx.below hb (Nat.le_refl _), h.ny.below hb (Nat.le_refl _)⟩
def TlRel (A T C D M N X Y : Option Addr) (L : List Vr) (b ba bb : Nat) (v : Vr) (x ver wr k n s : Int) (g base : Nat) (w : World) (i : Value) (W : World) : Prop :=
  ∃ q : Nat, q ≤ L.length ∧ i = .int .i64 q ∧ TlSt A T C D M N X Y L b ba bb v x ver wr k n s w W ∧ ValsAt W base g L.length (L.map vp)
set_option maxHeartbeats 8000000 in
set_option maxRecDepth 100000 in
theorem storeTells_walk (A : Option Addr) (N c : Nat) (L : List Vr) (x ver ww k n s : Int) (w : World) (hL : StoreArg w A N c L) (hver : i64p ver) (hwr : i64p ww) (hk : i64p k) (hn : i64p n) (hs : i64p s) :
    Calls Try.prog 3 #[.slice A N c, .agg #[.int .i64 x, .int .i64 ver, .int .i64 ww, .int .i64 k, .int .i64 n], .int .i64 s] w fun e w' => e = .returned (.bool true) ∧ Below w.heap.size w w' := by
  obtain ⟨rfl, hc, hm, hA⟩ := hL
  have HA := Lib.hid hA
  have HI := Lib.hid (show i64p k ∧ i64p n ∧ i64p ver ∧ i64p ww ∧ i64p s from ⟨hk, hn, hver, hwr, hs⟩)
  have HC := Lib.hid (show L.length ≤ c ∧ c ≤ maxLen from ⟨hc, hm⟩)
  have hN : (L.length : Int) ≤ 9223372036854775807 := by unfold maxLen at hm; omega
  clear hA hver hwr hk hn hs hm hc
  go_enter Try.func3, Try.ntmps3
  go_wp2_with fail
  refine (alive_any _).mono ?_
  rintro e w1 ⟨rfl, hb1⟩
  have B1 := Lib.hid hb1
  clear hb1
  by_cases hbig : 100 < L.length
  · have hbig' : (100 : Int) < (L.length : Int) := by omega
    go_wp2
    go_ret
    exact ⟨rfl, law_below B1.out⟩
  have hbig' : ¬ (100 : Int) < (L.length : Int) := by omega
  have hl : L.length ≤ 100 := by omega
  go_wp2_with fail
  refine (theirs_slice _ _ _ _ (law_mid HA.out B1.out) hl).mono ?_
  rintro e w2 ⟨T, d, rfl, ht, hb2⟩
  have S2 := Lib.hid (law_start HA.out B1.out hb2 ht)
  obtain ⟨p0, p1, p2, p3, p4⟩ := S2.out.box
  clear ht hb2 B1
  obtain ⟨v, hv⟩ : ∃ v, getV L x = v := ⟨_, rfl⟩
  obtain ⟨E, hE⟩ : ∃ E, getE L x = E := ⟨_, rfl⟩
  obtain ⟨F, hF⟩ : ∃ F, putE L x k n ww = F := ⟨_, rfl⟩
  obtain ⟨G, hG⟩ : ∃ G, markE L x s = G := ⟨_, rfl⟩
  obtain ⟨m, hm⟩ : ∃ m, (newL x).length = m := ⟨_, rfl⟩
  obtain ⟨is, his⟩ : ∃ is, newIs x = is := ⟨_, rfl⟩
  have HV := Lib.hid hv
  have HE := Lib.hid hE
  have HF := Lib.hid hF
  have HG := Lib.hid hG
  have HM := Lib.hid hm
  have HS := Lib.hid his
  have HM100 := Lib.hid (show m ≤ 100 by rw [← hm]; exact newL_len x)
  clear hv hE hF hG hm his
  go_wp2_with fail
  refine (get_is _ _ _ _ _ _ _ S2.out.th HV.out HE.out).mono ?_
  rintro e w3 ⟨rfl, hb3⟩
  have S3 := Lib.hid ((S2.out.below hb3).alloc (.cells #[.int .i64 v.k, .int .i64 v.n, .int .i64 v.ver, .int .i64 v.wr, .int .u64 (v.m : Nat)] 35))
  have V3 := Lib.hid (show VarAt (w3.alloc (.cells #[.int .i64 v.k, .int .i64 v.n, .int .i64 v.ver, .int .i64 v.wr, .int .u64 (v.m : Nat)] 35)) w3.heap.size 35 v from varAt_new w3 v 35)
  clear hb3 p0 p1 p2 p3 p4
  obtain ⟨p0, p1, p2, p3, p4⟩ := S3.out.box
  go_wp2_with fail
  refine (rget_is _ _ _ _ _ _ _ S3.out.arg HV.out HE.out).mono ?_
  rintro e w4 ⟨rfl, hb4⟩
  have S4 := Lib.hid ((S3.out.below hb4).alloc (.cells #[.int .i64 v.k, .int .i64 v.n, .int .i64 v.ver, .int .i64 v.wr, .int .u64 (v.m : Nat)] 40))
  have V4 := Lib.hid ((V3.out.below hb4 V3.out.lt).alloc (.cells #[.int .i64 v.k, .int .i64 v.n, .int .i64 v.ver, .int .i64 v.wr, .int .u64 (v.m : Nat)] 40))
  have U4 := Lib.hid (show VarAt (w4.alloc (.cells #[.int .i64 v.k, .int .i64 v.n, .int .i64 v.ver, .int .i64 v.wr, .int .u64 (v.m : Nat)] 40)) w4.heap.size 40 v from varAt_new w4 v 40)
  clear hb4 p0 p1 p2 p3 p4
  obtain ⟨p0, p1, p2, p3, p4⟩ := S4.out.box
  go_wp2_with fail
  refine (put_is _ _ _ _ _ _ _ _ _ _ S4.out.th hl HI.out.1 HI.out.2.1 HI.out.2.2.1 HI.out.2.2.2.1 HF.out).mono ?_
  rintro e w5 ⟨A5, d5, rfl, h5, hb5⟩
  have S5 := Lib.hid (S4.out.below hb5)
  have V5 := Lib.hid (V4.out.below hb5 V4.out.lt)
  have U5 := Lib.hid (U4.out.below hb5 U4.out.lt)
  have P5 := Lib.hid h5
  clear h5 hb5 p0 p1 p2 p3 p4
  obtain ⟨p0, p1, p2, p3, p4⟩ := S5.out.box
  go_wp2_with fail
  refine (rput_is _ _ _ _ _ _ _ _ _ _ S5.out.arg hl HC.out.1 HC.out.2 HI.out.1 HI.out.2.1 HI.out.2.2.1 HI.out.2.2.2.1 HF.out).mono ?_
  rintro e w6 ⟨A6, d6, rfl, h6, hb6⟩
  have S6 := Lib.hid (S5.out.below hb6)
  have V6 := Lib.hid (V5.out.below hb6 V5.out.lt)
  have U6 := Lib.hid (U5.out.below hb6 U5.out.lt)
  have P6 := Lib.hid (P5.out.below hb6 (Nat.le_refl _))
  have Q6 := Lib.hid h6
  clear h6 hb6 p0 p1 p2 p3 p4
  obtain ⟨p0, p1, p2, p3, p4⟩ := S6.out.box
  go_wp2_with fail
  refine (mark_is _ _ _ _ _ _ _ S6.out.th hl HG.out).mono ?_
  rintro e w7 ⟨A7, d7, rfl, h7, hb7⟩
  have S7 := Lib.hid (S6.out.below hb7)
  have V7 := Lib.hid (V6.out.below hb7 V6.out.lt)
  have U7 := Lib.hid (U6.out.below hb7 U6.out.lt)
  have P7 := Lib.hid (P6.out.below hb7 (Nat.le_refl _))
  have Q7 := Lib.hid (Q6.out.below hb7 (Nat.le_refl _))
  have M7 := Lib.hid h7
  clear h7 hb7 p0 p1 p2 p3 p4
  obtain ⟨p0, p1, p2, p3, p4⟩ := S7.out.box
  go_wp2_with fail
  refine (rmark_is _ _ _ _ _ _ _ S7.out.arg hl HC.out.1 HC.out.2 HG.out).mono ?_
  rintro e w8 ⟨A8, d8, rfl, h8, hb8⟩
  have S8 := Lib.hid (S7.out.below hb8)
  have V8 := Lib.hid (V7.out.below hb8 V7.out.lt)
  have U8 := Lib.hid (U7.out.below hb8 U7.out.lt)
  have P8 := Lib.hid (P7.out.below hb8 (Nat.le_refl _))
  have Q8 := Lib.hid (Q7.out.below hb8 (Nat.le_refl _))
  have M8 := Lib.hid (M7.out.below hb8 (Nat.le_refl _))
  have N8 := Lib.hid h8
  clear h8 hb8 p0 p1 p2 p3 p4
  obtain ⟨p0, p1, p2, p3, p4⟩ := S8.out.box
  go_wp2_with fail
  refine (new_is _ _ _ _ HM.out HS.out).mono ?_
  rintro e w9 ⟨A9, d9, rfl, h9, hb9⟩
  have S9 := Lib.hid (S8.out.below hb9)
  have V9 := Lib.hid (V8.out.below hb9 V8.out.lt)
  have U9 := Lib.hid (U8.out.below hb9 U8.out.lt)
  have P9 := Lib.hid (P8.out.below hb9 (Nat.le_refl _))
  have Q9 := Lib.hid (Q8.out.below hb9 (Nat.le_refl _))
  have M9 := Lib.hid (M8.out.below hb9 (Nat.le_refl _))
  have N9 := Lib.hid (N8.out.below hb9 (Nat.le_refl _))
  have X9 := Lib.hid h9
  clear h9 hb9 p0 p1 p2 p3 p4
  obtain ⟨p0, p1, p2, p3, p4⟩ := S9.out.box
  go_wp2_with fail
  refine (rnew_is _ _ _ _ HM.out HS.out).mono ?_
  rintro e wa ⟨Aa, da, rfl, ha, hba⟩
  have R := Lib.hid (show TlSt A T A5 A6 A7 A8 A9 Aa L w.heap.size w3.heap.size w4.heap.size v x ver ww k n s w wa from ⟨S9.out.below hba, V9.out.below hba V9.out.lt, U9.out.below hba U9.out.lt, P9.out.below hba (Nat.le_refl _), Q9.out.below hba (Nat.le_refl _), M9.out.below hba (Nat.le_refl _), N9.out.below hba (Nat.le_refl _), X9.out.below hba (Nat.le_refl _), ha⟩)
  clear ha hba p0 p1 p2 p3 p4 S2 S3 S4 S5 S6 S7 S8 S9 V3 V4 V5 V6 V7 V8 V9 U4 U5 U6 U7 U8 U9 P5 P6 P7 P8 P9 Q6 Q7 Q8 Q9 M7 M8 M9 N8 N9 X9
  go_wp2_with fail
  refine (values_any _ _ _ _ R.out.st.th hl).mono ?_
  rintro e wb ⟨g, rfl, hvb, hbb⟩
  have Rb := Lib.hid (R.out.below hbb)
  have Vb := Lib.hid hvb
  clear hvb hbb R
  go_wp2
  go_loopw [107] (TlRel A T A5 A6 A7 A8 A9 Aa L w.heap.size w3.heap.size w4.heap.size v x ver ww k n s g wa.heap.size w) (fun i _ => L.length - (intOf i).toNat)
  case atStart => exact ⟨0, Nat.zero_le _, rfl, Rb.out, Vb.out⟩
  case round =>
    obtain ⟨q, hq, rfl, hst, hvl⟩ := hrel
    have R := Lib.hid hst
    have VL := Lib.hid hvl
    clear hst hvl
    by_cases hlt : q < L.length
    · have hlt' : (q : Int) < (L.length : Int) := by omega
      have hq0 : (0 : Int) ≤ (q : Int) := by omega
      obtain ⟨ad, u, rfl, hu, hok, h5⟩ := R.out.st.arg.at_ hlt
      obtain ⟨c0, c1, c2, c3, c4⟩ := h5
      have hlen : ((L.length : Int) != (L.length : Int)) = false := by simp
      have R1 := Lib.hid (R.out.below (below_new wr (.cells #[.int .i64 u.k, .int .i64 u.n, .int .i64 u.ver, .int .i64 u.wr, .int .u64 (u.m : Nat)] 40)))
      have VL1 := Lib.hid (VL.out.below (below_new wr (.cells #[.int .i64 u.k, .int .i64 u.n, .int .i64 u.ver, .int .i64 u.wr, .int .u64 (u.m : Nat)] 40)) (Nat.le_refl _))
      have l0 : _ = some (Value.int .i64 u.k) := VL1.out.get0 (map_at (f := vp) hu)
      have l1 : _ = some (Value.int .i64 u.n) := VL1.out.get1 (map_at (f := vp) hu)
      clear hu hok
      go_wp2
      go_quiet (fail)
      go_wp2
      go_round
      case rel => exact ⟨q + 1, by omega, by go_num, R1.out.below (below_drewN _ _ _), VL1.out.below (below_drewN _ _ _) (Nat.le_refl _)⟩
      case measure => simp [intOf]; omega
    · have hlt' : ¬ (q : Int) < (L.length : Int) := by omega
      have va0 := R.out.va.c0
      have va1 := R.out.va.c1
      have va2 := R.out.va.c2
      have va3 := R.out.va.c3
      have va4 := R.out.va.c4
      have R1 := Lib.hid (R.out.below (below_new wr (.cells #[.int .i64 v.k, .int .i64 v.n, .int .i64 v.ver, .int .i64 v.wr, .int .u64 (v.m : Nat)] 40)))
      have vb0 := R1.out.vb.c0
      have vb1 := R1.out.vb.c1
      have vb2 := R1.out.vb.c2
      have vb3 := R1.out.vb.c3
      have vb4 := R1.out.vb.c4
      clear VL
      go_wp2_with fail
      refine (ours_is _ _ _ _ _ R1.out.pc (putL_len ..) hl).mono ?_
      rintro e wR2 ⟨O2, f2, rfl, hh, hb⟩
      have R2 := Lib.hid (R1.out.below hb)
      have K2 := Lib.hid (hh)
      clear hb hh
      go_wp2_with fail
      refine (same_is _ _ _ _ _ _ _ K2.out R2.out.pd (putL_len ..) hl).mono ?_
      rintro e wR3 ⟨rfl, hb⟩
      have R3 := Lib.hid (R2.out.below hb)
      clear hb 
      go_wp2_with fail
      refine (ours_is _ _ _ _ _ R3.out.mm (markL_len ..) hl).mono ?_
      rintro e wR4 ⟨O4, f4, rfl, hh, hb⟩
      have R4 := Lib.hid (R3.out.below hb)
      have K4 := Lib.hid (hh)
      clear hb hh
      go_wp2_with fail
      refine (same_is _ _ _ _ _ _ _ K4.out R4.out.mn (markL_len ..) hl).mono ?_
      rintro e wR5 ⟨rfl, hb⟩
      have R5 := Lib.hid (R4.out.below hb)
      clear hb 
      go_wp2_with fail
      refine (drop_slice _ _ _ _ _ R5.out.st.th hl HI.out.2.2.2.2).mono ?_
      rintro e wR6 ⟨O6, f6, rfl, hh, hb⟩
      have R6 := Lib.hid (R5.out.below hb)
      have K6 := Lib.hid (hh)
      clear hb hh
      go_wp2_with fail
      refine (ours_is _ _ _ _ _ K6.out (dropL_len ..) hl).mono ?_
      rintro e wR7 ⟨O7, f7, rfl, hh, hb⟩
      have R7 := Lib.hid (R6.out.below hb)
      have K7 := Lib.hid (hh)
      clear hb hh
      go_wp2_with fail
      refine (rdrop_slice _ _ _ _ _ R7.out.st.arg hl HI.out.2.2.2.2).mono ?_
      rintro e wR8 ⟨O8, f8, rfl, hh, hb⟩
      have R8 := Lib.hid (R7.out.below hb)
      have K8 := Lib.hid (hh)
      have K78 := Lib.hid (K7.out.below hb (Nat.le_refl _))
      clear hb hh
      go_wp2_with fail
      refine (same_is _ _ _ _ _ _ _ K78.out K8.out (dropL_len ..) hl).mono ?_
      rintro e wR9 ⟨rfl, hb⟩
      have R9 := Lib.hid (R8.out.below hb)
      clear hb 
      go_wp2_with fail
      refine (ours_is _ _ _ _ _ R9.out.nx HM.out HM100.out).mono ?_
      rintro e wRa ⟨Oa, fa, rfl, hh, hb⟩
      have Ra := Lib.hid (R9.out.below hb)
      have Ka := Lib.hid (hh)
      clear hb hh
      go_wp2_with fail
      refine (same_is _ _ _ _ _ _ _ Ka.out Ra.out.ny HM.out HM100.out).mono ?_
      rintro e wRz ⟨rfl, hb⟩
      have Rz := Lib.hid (Ra.out.below hb)
      clear hb 
      go_wp2
      go_ret
      exact ⟨rfl, Rz.out.st.bel⟩
end Go.Proofs.Ytgbfdfkodocdiaa
