/-
  The contract of Commit: nobody, and who is refused.
  The contract of Commit: it goes through.
  The contract of Begin: no room.
  The seats behind a Begin.
  The contract of Begin: there is room.
  The contract of Begin, whole.
-/
import Derived.Test.YtfdfiiocccafkaaGreatDoorJEr
namespace Go.Proofs.YtfdfiiocccafkaaGreatDoor.En
open Go.RowKit
theorem commit_none {g : Eng} {id : Int} (h : liveAt g id = none) : commit g id = (g, whoE g id) := by unfold commit; rw [h]
theorem commit_no {g : Eng} {id : Int} {i : Nat} (h : liveAt g id = some i) (hb : behind g.p i (aheadAll g.s i (Tx.writesL (g.t i))) = none) : commit g id = (closed g i false, 5) := by
  unfold commit; rw [h]; show (match behind g.p i (aheadAll g.s i (Tx.writesL (g.t i))) with | none => _ | some q => _) = _; rw [hb]
theorem commit_yes {g : Eng} {id : Int} {i : Nat} {q : Pl} (h : liveAt g id = some i) (hb : behind g.p i (aheadAll g.s i (Tx.writesL (g.t i))) = some q) : commit g id = (closed (wrote g i q) i true, 0) := by
  unfold commit; rw [h]; show (match behind g.p i (aheadAll g.s i (Tx.writesL (g.t i))) with | none => _ | some q => _) = _; rw [hb]
theorem behindAll_val {F : Nat → Prop} {w : World} {b N : Nat} {g : Eng} {sA : Option Addr} {sc mb : Nat} {lv : Value} {T : Nat → Value} {X : List Xe} (h : EngIs F w b N g sA sc mb lv T X) (hf : Fit g) (hv : ∀ v ∈ g.s, v.ok) {s : Nat} (hs : s < 32)
    {A : Option Addr} {c : Nat} {ws : List Tx.Sp} (hw : Tx.SlAt w A c ws) (hx : ∀ x ∈ ws, St.has g.s x.x) (hl : ws.length ≤ 64) (hT : TabAt w) {ob : Option Pl} (ho : behind g.p s (aheadAll g.s s ws) = ob) :
    Calls Tryz.prog 71 #[.pointer (some ⟨b, 0, none⟩), .int .i64 (s : Nat), .slice A ws.length c] w (BehindPost ob w) := by
  subst ho; exact behindAll_any h hf hv hs hw hx hl hT
set_option maxHeartbeats 4000000 in
set_option maxRecDepth 100000 in
theorem commit_any0 {F : Nat → Prop} {w : World} {b N : Nat} {g : Eng} (h : EngAt F w b N g) (hf : Fit g) (hv : ∀ v ∈ g.s, v.ok) (hlv : ∀ i, g.p.live.testBit i = true → g.c i = false) (hws : ∀ i, Po.tk g.p i → ∀ x ∈ Tx.writesL (g.t i), St.has g.s x.x) (hwl : ∀ i, (Tx.writesL (g.t i)).length ≤ 64) {id : Int} (hid : St.i64p id) (hT : TabAt w)
    (hc : ∀ i, liveAt g id = some i → behind g.p i (aheadAll g.s i (Tx.writesL (g.t i))) = none) :
    Calls Tryz.prog 30 #[.pointer (some ⟨b, 0, none⟩), .int .i64 id] w fun e w' => e = .returned (.int .i64 (commit g id).2) ∧ EngTo F w b (N + 1) (commit g id).1 w' := by
  obtain ⟨sA, sc, mb, lv, T, X, h⟩ := h
  have hz := (zero_of_info zero_pool_info).1
  have H := Lib.hid h
  have HM := Lib.hid (h.mono (Nat.le_succ N))
  have HF := Lib.hid hf
  have HV := Lib.hid hv
  have HLV := Lib.hid hlv
  have HWS := Lib.hid hws
  have HWL := Lib.hid hwl
  have HTB := Lib.hid hT
  have HC := Lib.hid hc
  clear h hf hv hlv hws hwl hT hc
  cases hL : liveAt g id with
  | none =>
    rw [commit_none hL]
    have HL := Lib.hid hL
    have HN := Lib.hid (whoE_ne g id)
    have hN : ((whoE g id) == 0) = false := by simpa using HN.out
    clear hL
    go_enter Tryz.func30, Tryz.ntmps30
    go_wp2_with (go_at_call 45; refine (who_err H.out HF.out.ps hid HL.out).mono ?_; rintro e w1 ⟨rfl, hb⟩)
    have HB := Lib.hid hb
    clear hb
    go_wp2
    go_ret
    exact ⟨rfl, EngTo.keep ⟨_, _, _, _, _, _, HM.out⟩ (HB.out.alloc HB.out.size _)⟩
  | some i =>
    have HBH := Lib.hid (HC.out i hL)
    rw [commit_no hL HBH.out]
    have HL := Lib.hid hL
    have HI := Lib.hid (liveAt_some hL)
    obtain ⟨A, cc, hT, hsl⟩ := H.out.ts i (.inl HI.out.2.1)
    have HT := Lib.hid hT
    have HSL := Lib.hid hsl
    have HTL := Lib.hid (HF.out.tl i (.inl HI.out.2.1))
    obtain ⟨wl, hwl⟩ : ∃ wl, Tx.writesL (g.t i) = wl := ⟨_, rfl⟩
    have HWE := Lib.hid hwl
    have HWX := Lib.hid (show ∀ x ∈ wl, St.has g.s x.x by rw [← hwl]; exact HWS.out i (.inl HI.out.2.1))
    have HWN := Lib.hid (show wl.length ≤ 64 by rw [← hwl]; exact HWL.out i)
    have HBW := Lib.hid (show behind g.p i (aheadAll g.s i wl) = none by rw [← hwl]; exact HBH.out)
    clear hL hT hsl hwl
    go_enter Tryz.func30, Tryz.ntmps30
    go_wp2_with fail
    refine (who_live H.out HF.out.ps hid HL.out HT.out).mono ?_
    rintro e w1 ⟨rfl, hb⟩
    have HB1 := Lib.hid (hb.alloc hb.size (.cells #[.slice A (g.t i).length cc, .int .i64 (i : Nat), .bool (g.c i)] 115))
    have HS1 := Lib.hid (Tx.Blk.new w1 #[.slice A (g.t i).length cc, .int .i64 (i : Nat), .bool (g.c i)] 115)
    have s0 := HS1.out.cell 0
    clear hb
    go_wp2_with fail
    refine (Tx.writes_any A cc (g.t i) _ (HSL.out.sl.below HB1.out).at_ (by have := HTL.out; omega)).mono ?_
    rw [HWE.out]
    rintro e w2 ⟨WA, wc, rfl, hw2, hb2, hf2⟩
    have HB2 := Lib.hid (HB1.out.trans (hb2.mono HB1.out.size))
    have HS2 := Lib.hid (HS1.out.below hb2)
    have HW2 := Lib.hid hw2
    have s1 := HS2.out.cell 1
    clear hb2 hw2 hf2 s0
    go_wp2_with fail
    refine (behindAll_val (H.out.below HB2.out) HF.out HV.out HI.out.1 HW2.out HWX.out HWN.out (HTB.out.below HB2.out HTB.out.lt) HBW.out).mono ?_
    rintro e w3 ⟨⟨qq, rfl, _⟩, hb3⟩
    have HB3 := Lib.hid (HB2.out.trans (hb3.mono HB2.out.size))
    clear hb3 s1
    go_wp2_with (refine let_pool rfl 87 (.tmp 8) (.tmp 30) rfl rfl w3 qq rfl rfl rfl pool_info ?_; intro w4 hp4 hb4; have HB4 := Lib.hid (HB3.out.trans (hb4.mono HB3.out.size)); clear hp4 hb4)
    have hend := end_any (N := N + 1) ⟨_, _, _, _, _, _, HM.out.below HB4.out⟩ HF.out.ps HF.out.cnt HF.out.tl HF.out.len HF.out.log HI.out.2.1
    rw [HI.out.2.2, closed_end (HLV.out i HI.out.2.1)] at hend
    refine hend.mono ?_
    rintro e w6 ⟨rfl, h6⟩
    have H6 := Lib.hid (EngTo.pre HB4.out h6)
    clear h6 hend
    go_wp2
    go_ret
    exact ⟨rfl, H6.out⟩
end Go.Proofs.YtfdfiiocccafkaaGreatDoor.En
namespace Go.Proofs.YtfdfiiocccafkaaGreatDoor.En
open Go.RowKit
attribute [local go_sem ↓] Go.wp_at_zero Go.wp_at_succ
/-- the engine with what was written, ahead of the end. -/
def comEng (g : Eng) (i : Nat) (q : Pl) (wl : List Tx.Sp) : Eng := ⟨q, puts g.s (g.n + 1) i wl, g.t, ud g.c i true, g.log, g.n + 1⟩
theorem com_closed {g : Eng} {i : Nat} {q : Pl} {wl : List Tx.Sp} (h : Tx.writesL (g.t i) = wl) : closed (wrote g i q) i true = gather (endS (comEng g i q wl) i) := by subst h; rfl
theorem SlF.low' {F : Nat → Prop} {w W : World} {A : Option Addr} {c k : Nat} {L : List Tx.Sp} (h : SlF F w A c L) (hk : Kp F w W) (hs : w.heap.size ≤ k) : SlF (fun j => j = k) W A c L :=
  ⟨(h.kp hk).sl, fun hl ad e hx => by have := h.sl.at_.low ad e hl; omega⟩
theorem EngW.box {W : World} {b N sc mb k : Nat} {q : Pl} {S : List St.Vr} {f : Int → Option Value} {log : List Ent} {n : Int} {sA : Option Addr} {lv : Value} {X : List Xe} (h : EngW W b N q S f log n sA sc mb lv X) (hk : ¬ Foot b mb lv k) (h1 : VrF (fun j => j = k) W sA S) (h3 : ∀ x ∈ X, EntAt (fun j => j = k) W x) (o : Nat) (v : Value) : EngW (W.setCell ⟨k, o, none⟩ v) b N q S f log n sA sc mb lv X := by
  have hK : Kp (fun j => j = k) W (W.setCell ⟨k, o, none⟩ v) := Kp.setCell (F := fun j => j = k) (Kp.refl _ W) (p := ⟨k, o, none⟩) (.inl rfl) v
  have ho : ∀ j, j ≠ k → (W.setCell ⟨k, o, none⟩ v).heap[j]? = W.heap[j]? := fun j e => Below.heap_setCell _ _ _ _ e
  have k1 := h1.kp hK
  have k3 : ∀ x ∈ X, EntAt (fun j => j = k) (W.setCell ⟨k, o, none⟩ v) x := fun x hx => (h3 x hx).kp hK
  obtain ⟨sz, hm⟩ := h.mp
  have hbk : b ≠ k := fun e => hk (e ▸ .inl rfl)
  have hmk : mb ≠ k := fun e => hk (e ▸ .inr (.inl rfl))
  refine ⟨h.raw.other (ho b hbk), ⟨k1.at_, h.st.off⟩, ⟨sz, MapV.other hm (ho mb hmk)⟩, row_other h.lg (fun j e => ho j (fun e' => hk (.inr (.inr (e' ▸ e))))), h.xs, fun x hx => ?_⟩
  obtain ⟨⟨A, c, e, hs⟩, ⟨B, d, f, ht⟩⟩ := h.xe x hx
  obtain ⟨⟨A', c', e', hs'⟩, ⟨B', d', f', ht'⟩⟩ := k3 x hx
  rw [e] at e'; cases e'
  rw [f] at f'; cases f'
  exact ⟨⟨A, c, e, ⟨hs'.sl, hs.off⟩⟩, ⟨B, d, f, ⟨ht'.sl, ht.off⟩⟩⟩
/-- the state ahead of each Put. -/
structure CSt (w : World) (sb : Nat) (se : Array Value) (WA : Option Addr) (wcap : Nat) (wl : List Tx.Sp) (b N : Nat) (q : Pl) (P : List St.Vr) (f : Int → Option Value) (log : List Ent) (n : Int) (A : Option Addr) (c mb : Nat) (lv : Value) (X : List Xe) (W : World) : Prop where
  ew : EngW W b N q P f log n A c mb lv X
  kp : Kp (Foot b mb lv) w W
  se : Tx.Blk W sb se 115
  ws : SlF (Foot b mb lv) W WA wcap wl
  s2 : VrF (fun k => Foot b mb lv k ∨ k = sb) W A P
structure CStB (w : World) (sb : Nat) (se : Array Value) (WA : Option Addr) (wcap : Nat) (wl : List Tx.Sp) (b N : Nat) (q : Pl) (P : List St.Vr) (f : Int → Option Value) (log : List Ent) (n : Int) (A : Option Addr) (c mb : Nat) (lv : Value) (X : List Xe) (y : Nat) (st : Array Value) (W : World) : Prop where
  cs : CSt w sb se WA wcap wl b N q P f log n A c mb lv X W
  sp : Tx.Blk W y st 76
section
variable {w W W' : World} {sb b N c wcap mb y : Nat} {se st : Array Value} {WA A : Option Addr} {wl : List Tx.Sp} {q : Pl} {P : List St.Vr} {f : Int → Option Value} {log : List Ent} {n : Int} {lv : Value} {X : List Xe}
theorem CSt.below (h : CSt w sb se WA wcap wl b N q P f log n A c mb lv X W) (hb : Below W.heap.size W W') : CSt w sb se WA wcap wl b N q P f log n A c mb lv X W' :=
  ⟨h.ew.below hb, h.kp.below hb, h.se.below hb, h.ws.below hb, h.s2.kp (.of_below hb)⟩
theorem CStB.below (h : CStB w sb se WA wcap wl b N q P f log n A c mb lv X y st W) (hb : Below W.heap.size W W') : CStB w sb se WA wcap wl b N q P f log n A c mb lv X y st W' := ⟨h.cs.below hb, h.sp.below hb⟩
theorem CSt.put {P' : List St.Vr} {A' : Option Addr} {c' : Nat} (h : CSt w sb se WA wcap wl b N q P f log n A c mb lv X W) (hv : VrF (fun k => Foot b mb lv k ∨ k = sb) W A' P') (hne : sb ≠ b) :
    CSt w sb se WA wcap wl b N q P' f log n A' c' mb lv X (W.setCell ⟨b, 100, none⟩ (.slice A' P'.length c')) := by
  have hk : Kp (Foot b mb lv) W (W.setCell ⟨b, 100, none⟩ (.slice A' P'.length c')) := h.ew.kp_store _
  have hk2 : Kp (fun k => Foot b mb lv k ∨ k = sb) W (W.setCell ⟨b, 100, none⟩ (.slice A' P'.length c')) := (Kp.refl _ W).setCell (p := ⟨b, 100, none⟩) (.inl (.inl (.inl rfl))) _
  exact ⟨h.ew.put_store (hv.foot (fun k _ hx => .inl hx)), h.kp.trans hk, h.se.other (b' := b) hne 100 _, h.ws.kp hk, hv.kp hk2⟩
end
def CmRel (w : World) (sb : Nat) (se : Array Value) (WA : Option Addr) (wcap : Nat) (wl : List Tx.Sp) (b N : Nat) (q : Pl) (g : Eng) (i : Nat) (T : Nat → Value) (mb : Nat) (lv : Value) (X : List Xe) (u : Value) (W : World) : Prop :=
  ∃ (k : Nat) (A : Option Addr) (c : Nat), k ≤ wl.length ∧ u = .int .i64 (k : Nat) ∧ CSt w sb se WA wcap wl b N q (puts g.s (g.n + 1) i (wl.take k)) (seatF T g) g.log (g.n + 1) A c mb lv X W
theorem puts_step {S : List St.Vr} {ver : Int} {i k j : Nat} {wl : List Tx.Sp} {s : Tx.Sp} (hs : wl[k]? = some s) (hi : i < 32) (hx : s.x = (j : Nat)) (hj : j < S.length) (hr : St.right s.k s.n = true) {P : List St.Vr} (hP : puts S ver i (wl.take k) = P) : puts S ver i (wl.take (k + 1)) = P.set j ⟨s.k, s.n, ver, (i : Nat), 0⟩ := by
  have e : puts S ver i (wl.take (k + 1)) = St.putL (puts S ver i (wl.take k)) s.x s.k s.n ver (i : Nat) := by
    rw [Tx.take_step hs]
    unfold puts
    rw [List.foldl_append]; rfl
  have hl : P.length = S.length := by rw [← hP, puts_len]
  rw [e, hP, putL_eq (by rw [hx]; exact ⟨by omega, by omega⟩) hr hi, hx]; rfl
theorem seatF_com {g : Eng} (hs : Po.Sound g.p) {q : Pl} (m : More g.p q) {i : Nat} {id : Int} (hi : i < 32 ∧ g.p.live.testBit i = true ∧ g.p.ids i = id) (wl : List Tx.Sp) (T : Nat → Value) :
    (fun t => if t = id then some (.agg #[T i, .int .i64 (i : Nat), .bool true]) else seatF T g t) = seatF T (comEng g i q wl) := by
  funext y
  have e0 : slotAt (comEng g i q wl) y = slotAt g y := by
    unfold slotAt tkB
    show (List.range 32).find? (fun i => (q.live ||| q.done).testBit i && decide (q.ids i = y)) = _
    rw [m.live, m.done, m.ids]
  unfold seatF
  rw [e0]
  by_cases e : y = id
  · rw [if_pos e, e, ← hi.2.2, slotAt_of hs (.inl hi.2.1)]
    show _ = some (seatV T (comEng g i q wl) i)
    unfold seatV
    show _ = some (Value.agg #[T i, .int .i64 (i : Nat), .bool (ud g.c i true i)])
    rw [ud_same]
  · rw [if_neg e]
    cases hx : slotAt g y with
    | none => rfl
    | some j =>
      have hj := slotAt_some hx
      have ne : j ≠ i := fun e2 => e (by rw [← hj.2.2, e2]; exact hi.2.2)
      show some (seatV T g j) = some (seatV T (comEng g i q wl) j)
      unfold seatV
      show _ = some (Value.agg #[T j, .int .i64 (j : Nat), .bool (ud g.c i true j)])
      rw [ud_other ne]
theorem commit_last {F : Nat → Prop} {w W7 W' : World} {b N sc mb i sz c cc : Nat} {g : Eng} {sA A A0 : Option Addr} {lv : Value} {T : Nat → Value} {X : List Xe} {q : Pl} {id : Int} {wl : List Tx.Sp} (h : EngIs F w b N g sA sc mb lv T X) (m : More g.p q) (hi : i < 32 ∧ g.p.live.testBit i = true ∧ g.p.ids i = id) (hT : T i = .slice A0 (g.t i).length cc)
    (hw : EngW W7 b N q (puts g.s (g.n + 1) i wl) (seatF T g) g.log (g.n + 1) A c mb lv X) (hk : Kp F w W7)
    (hm : Tx.MapV W' mb (N + 1) sz zeroSeat (fun t => if t = id then some (.agg #[.slice A0 (g.t i).length cc, .int .i64 (i : Nat), .bool true]) else seatF T g t)) (hg : W7.drew.grownBy W' (some mb)) (hs : Po.Sound g.p) :
    EngAt F W' b (N + 1) (comEng g i q wl) ∧ Kp F w W' := by
  obtain rfl := h.F_eq
  have hw2 := (hw.below (below_drew W7)).put_map ⟨sz, hm⟩ hg
  rw [← hT, seatF_com hs m hi wl T] at hw2
  have hk2 : Kp (Foot b mb lv) w W' := (hk.below (below_drew W7)).trans (kp_map hg)
  refine ⟨⟨A, c, mb, lv, T, X, EngW.is (g := comEng g i q wl) hw2 (fun j hj => ?_)⟩, hk2⟩
  exact (h.ts.kp hk2) j ((m.tk j).1 hj)
set_option maxHeartbeats 4000000 in
set_option maxRecDepth 100000 in
theorem commit_any1 {F : Nat → Prop} {w : World} {b N : Nat} {g : Eng} (h : EngAt F w b N g) (hf : Fit g) (hv : ∀ v ∈ g.s, v.ok) (hws : ∀ i, Po.tk g.p i → ∀ x ∈ Tx.writesL (g.t i), St.has g.s x.x ∧ St.right x.k x.n = true) (hwl : ∀ i, (Tx.writesL (g.t i)).length ≤ 64) (hnum : 0 ≤ g.n ∧ g.n ≤ 1000000) (hN : N < 4000) {id : Int} (hid : St.i64p id) (hT : TabAt w)
    {i : Nat} (hL : liveAt g id = some i) {q : Pl} (hb : behind g.p i (aheadAll g.s i (Tx.writesL (g.t i))) = some q) :
    Calls Tryz.prog 30 #[.pointer (some ⟨b, 0, none⟩), .int .i64 id] w fun e w' => e = .returned (.int .i64 (commit g id).2) ∧ EngTo F w b (N + 1) (commit g id).1 w' := by
  obtain ⟨sA, sc, mb, lv, T, X, h⟩ := h
  have hz := (zero_of_info zero_pool_info).1
  obtain rfl := h.F_eq
  have H := Lib.hid h
  have HF := Lib.hid hf
  have HV := Lib.hid hv
  have HTB := Lib.hid hT
  rw [commit_yes hL hb]
  have HL := Lib.hid hL
  have HI := Lib.hid (liveAt_some hL)
  have HM2 := Lib.hid (behind_more hf.ps hb).1
  obtain ⟨A, cc, hT, hsl⟩ := H.out.ts i (.inl HI.out.2.1)
  have HT := Lib.hid hT
  have HSL := Lib.hid hsl
  have HTL := Lib.hid (HF.out.tl i (.inl HI.out.2.1))
  have HNUM := Lib.hid hnum
  have hn0 := hnum.1
  have hn1 := hnum.2
  have HLTB := Lib.hid h.raw.lt
  obtain ⟨wl, hwl'⟩ : ∃ wl, Tx.writesL (g.t i) = wl := ⟨_, rfl⟩
  have HWE := Lib.hid hwl'
  have HWX := Lib.hid (show ∀ x ∈ wl, St.has g.s x.x ∧ St.right x.k x.n = true by rw [← hwl']; exact hws i (.inl HI.out.2.1))
  have HWH := Lib.hid (show ∀ x ∈ wl, St.has g.s x.x from fun x hx => (HWX.out x hx).1)
  have HWN := Lib.hid (show wl.length ≤ 64 by rw [← hwl']; exact hwl i)
  have HBW := Lib.hid (show behind g.p i (aheadAll g.s i wl) = some q by rw [← hwl']; exact hb)
  clear h hf hv hws hwl hL hT hsl hwl' hb hnum
  go_enter Tryz.func30, Tryz.ntmps30
  go_wp2_with fail
  refine (who_live H.out HF.out.ps hid HL.out HT.out).mono ?_
  rintro e w1 ⟨rfl, hb⟩
  have HB1 := Lib.hid (hb.alloc hb.size (.cells #[.slice A (g.t i).length cc, .int .i64 (i : Nat), .bool (g.c i)] 115))
  have HS1 := Lib.hid (Tx.Blk.new w1 #[.slice A (g.t i).length cc, .int .i64 (i : Nat), .bool (g.c i)] 115)
  have HLS := Lib.hid hb.size
  have s0 := HS1.out.cell 0
  clear hb
  go_wp2_with fail
  refine (Tx.writes_any A cc (g.t i) _ (HSL.out.sl.below HB1.out).at_ (by have := HTL.out; omega)).mono ?_
  rw [HWE.out]
  rintro e w2 ⟨WA, wcap, rfl, hw2, hb2, hf2⟩
  have HB2 := Lib.hid (HB1.out.trans (hb2.mono HB1.out.size))
  have HS2 := Lib.hid (HS1.out.below hb2)
  have HW2 := Lib.hid hw2
  have HSW2 := Lib.hid (SlF.fresh (F := Foot b mb lv) hw2 hf2 (fun k hk => Nat.lt_of_lt_of_le (H.out.lt k hk) HB1.out.size))
  have s1 := HS2.out.cell 1
  clear hb2 hw2 hf2 s0
  go_wp2_with fail
  refine (behindAll_val (H.out.below HB2.out) HF.out HV.out HI.out.1 HW2.out HWH.out HWN.out (HTB.out.below HB2.out HTB.out.lt) HBW.out).mono ?_
  rintro e w3 ⟨⟨qq, rfl, hqq⟩, hb3⟩
  obtain rfl := hqq q rfl
  have HB3 := Lib.hid (HB2.out.trans (hb3.mono HB2.out.size))
  have HS3 := Lib.hid (HS2.out.below hb3)
  have HSW3 := Lib.hid (HSW2.out.below hb3)
  have HNB := Lib.hid (show w1.heap.size ≠ b by have := HLTB.out; have := HLS.out; omega)
  clear hb3 s1 hqq HSW2 HW2 HS2
  go_wp2_with (first
    | (refine let_pool rfl 87 (.tmp 8) (.tmp 30) rfl rfl w3 qq rfl rfl rfl pool_info ?_; intro w4 hp4 hb4; have HP4 := Lib.hid hp4; have HB4 := Lib.hid (HB3.out.trans (hb4.mono HB3.out.size)); have HS4 := Lib.hid (HS3.out.below hb4); have HSW4 := Lib.hid (HSW3.out.below hb4); have HE4 := Lib.hid (H.out.below HB4.out); clear hp4 hb4)
    | (refine load_pool rfl 87 (.tmp 8) rfl w3.heap.size qq 87 rfl _ HP4.out Tryz.underlying87 rfl pool_info ?_)
    | (refine store_eng rfl 87 (.tmp 40) (.tmp 38) rfl rfl b qq rfl rfl HE4.out.raw pool_info ?_; have HW5 := Lib.hid (HE4.out.toW.put_pool qq); have HS5 := Lib.hid (show Tx.Blk (w4.setCells b 0 (poolA qq).toList) w1.heap.size #[.slice A (g.t i).length cc, .int .i64 (i : Nat), .bool (g.c i)] 115 from (heap_setCells_other b _ HNB.out _ _ _).trans HS4.out); have HK5 := Lib.hid (show Kp (Foot b mb lv) w (w4.setCells b 0 (poolA qq).toList) from (Kp.of_below HB4.out).trans (kp_pool qq w4)); have HSW5 := Lib.hid (HSW4.out.kp (kp_pool qq w4)); generalize w4.setCells b 0 (poolA qq).toList = W5 at *; have n103 := HW5.out.raw.num_; have nf := HW5.out.raw.free; clear HE4 HS4 HSW4 HP4))
  have HC6 := Lib.hid (show CSt w w1.heap.size #[.slice A (g.t i).length cc, .int .i64 (i : Nat), .bool (g.c i)] WA wcap wl b N qq g.s (seatF T g) g.log (g.n + 1) sA sc mb lv X (W5.setCell ⟨b, 103, none⟩ (.int .i64 (g.n + 1))) from by
    have hk : Kp (Foot b mb lv) W5 (W5.setCell ⟨b, 103, none⟩ (.int .i64 (g.n + 1))) := (Kp.refl _ W5).setCell (p := ⟨b, 103, none⟩) (.inl (.inl rfl)) _
    have hk2 : Kp (fun k => Foot b mb lv k ∨ k = w1.heap.size) W5 (W5.setCell ⟨b, 103, none⟩ (.int .i64 (g.n + 1))) := (Kp.refl _ W5).setCell (p := ⟨b, 103, none⟩) (.inl (.inl (.inl rfl))) _
    refine ⟨HW5.out.put_num _, HK5.out.trans hk, HS5.out.other (b' := b) HNB.out 103 _, HSW5.out.kp hk, ?_⟩
    refine VrF.kp ⟨HW5.out.st.at_, fun hl ad e hx => ?_⟩ hk2
    rcases hx with hx | hx
    · exact HW5.out.st.off hl ad e hx
    · have h1 : ad.block < w.heap.size := by
        obtain ⟨ad', e', hc⟩ := H.out.st.at_.cell hl
        rw [e] at e'
        obtain rfl := Option.some.inj e'
        have h0 := World.block_lt_of_cell? w _ (hc 0 _ (List.getElem?_eq_getElem (by rw [Sx.flat_len]; omega)))
        rw [Tx.add_block] at h0
        exact h0
      have h2 := HLS.out
      omega)
  generalize W5.setCell ⟨b, 103, none⟩ (.int .i64 (g.n + 1)) = W6 at *
  clear n103 nf HW5 HS5 HK5 HSW5
  go_loopw [50] (CmRel w w1.heap.size #[.slice A (g.t i).length cc, .int .i64 (i : Nat), .bool (g.c i)] WA wcap wl b N qq g i T mb lv X) (fun u _ => 64 - (intOf u).toNat)
  case atStart => exact ⟨0, sA, sc, Nat.zero_le _, rfl, HC6.out⟩
  case round =>
    obtain ⟨k, A1, c1, hk, rfl, hst⟩ := hrel
    by_cases hlt : k < wl.length
    · obtain ⟨P, hP⟩ : ∃ P, puts g.s (g.n + 1) i (wl.take k) = P := ⟨_, rfl⟩
      rw [hP] at hst
      have HST := Lib.hid hst
      obtain ⟨ad, s0, rfl, hs0, hok, h4⟩ := HST.out.ws.sl.at_.at_ hlt
      have hw0 := HWX.out s0 (List.mem_of_getElem? hs0)
      obtain ⟨j, hj⟩ : ∃ j : Nat, s0.x = j := ⟨s0.x.toNat, by have := hw0.1.1; omega⟩
      have hjl : j < g.s.length := by have := hw0.1.2; omega
      obtain ⟨c0, c1', c2, c3⟩ := h4
      rw [hj] at c0
      have hlt' : (k : Int) < (wl.length : Int) := by omega
      have hk64 : k < 64 := by have := HWN.out; omega
      have HPL := Lib.hid (show P.length ≤ 64 by rw [← hP, puts_len]; exact HF.out.len)
      have HJL := Lib.hid (show j < P.length by rw [← hP, puts_len]; exact hjl)
      have HSR := Lib.hid (show St.right s0.k s0.n = true ∧ s0.ok from ⟨hw0.2, hok⟩)
      have HPN := Lib.hid (puts_step (ver := g.n + 1) hs0 HI.out.1 hj hjl hw0.2 hP)
      have HCB := Lib.hid (show CStB w w1.heap.size #[.slice A (g.t i).length cc, .int .i64 (i : Nat), .bool (g.c i)] (some ad) wcap wl b N qq P (seatF T g) g.log (g.n + 1) A1 c1 mb lv X wr.heap.size #[.int .i64 (j : Nat), .int .i64 s0.k, .int .i64 s0.n, .bool s0.wr] (wr.alloc (.cells #[.int .i64 (j : Nat), .int .i64 s0.k, .int .i64 s0.n, .bool s0.wr] 76)) from ⟨HST.out.below (Tx.below_new _ _), Tx.Blk.new _ _ _⟩)
      clear hst hs0 hok hw0 hj hjl hP
      go_wp2
      clear c0 c1' c2 c3 hlt'
      generalize wr.alloc (.cells #[.int .i64 (j : Nat), .int .i64 s0.k, .int .i64 s0.n, .bool s0.wr] 76) = wx5 at *
      generalize wr.heap.size = y at *
      refine wp_region_noPanic ?_
      refine region_z 22 (CStB w w1.heap.size #[.slice A (g.t i).length cc, .int .i64 (i : Nat), .bool (g.c i)] (some ad) wcap wl b N qq P (seatF T g) g.log (g.n + 1) A1 c1 mb lv X y #[.int .i64 (j : Nat), .int .i64 s0.k, .int .i64 s0.n, .bool s0.wr]) 19 18 rfl (by kernel_rfl) (HCB.out.below (below_drew _)) (fun hHeld => ?_)
      refine take_z 0 55 (.pointer (some ⟨b, 0, none⟩)) rfl rfl (by kernel_rfl) (by kernel_rfl) (by kernel_rfl) (by kernel_rfl) (fun _ _ _ h => h) (Or.inl ⟨by rfl, by intro W hW; clear hW; go_simp⟩) hHeld ?_
      simp only [put_laws]
      refine take_z 1 56 (.pointer (some ⟨b, 0, none⟩)) rfl rfl (by kernel_rfl) (by kernel_rfl) (by kernel_rfl) (by kernel_rfl) (fun _ _ _ h => h) (Or.inl ⟨by rfl, by intro W hW; clear hW; go_simp⟩) hHeld ?_
      simp only [put_laws]
      refine take_z 2 57 (.pointer (some ⟨b, 0, none⟩)) rfl rfl (by kernel_rfl) (by kernel_rfl) (by kernel_rfl) (by kernel_rfl) (fun _ _ _ h => h) (Or.inl ⟨by rfl, by intro W hW; clear hW; go_simp⟩) hHeld ?_
      simp only [put_laws]
      refine take_z 3 58 (.pointer (some ⟨b, 100, none⟩)) rfl rfl (by kernel_rfl) (by kernel_rfl) (by kernel_rfl) (by kernel_rfl) (fun _ _ _ h => h) (Or.inl ⟨by rfl, by intro W hW; clear hW; go_simp⟩) hHeld ?_
      simp only [put_laws]
      refine take_z 4 59 (.slice A1 P.length c1) rfl rfl (by kernel_rfl) (by kernel_rfl) (by kernel_rfl) (by kernel_rfl) (fun _ _ _ h => h) (Or.inl ⟨by rfl, by intro W hW; have hc := hW.cs.ew.raw.store_; clear hW; go_simp⟩) hHeld ?_
      simp only [put_laws]
      refine take_z 5 60 (.pointer (some ⟨y, 0, none⟩)) rfl rfl (by kernel_rfl) (by kernel_rfl) (by kernel_rfl) (by kernel_rfl) (fun _ _ _ h => h) (Or.inl ⟨by rfl, by intro W hW; clear hW; go_simp⟩) hHeld ?_
      simp only [put_laws]
      refine take_z 6 61 (.int .i64 (j : Nat)) rfl rfl (by kernel_rfl) (by kernel_rfl) (by kernel_rfl) (by kernel_rfl) (fun _ _ _ h => h) (Or.inl ⟨by rfl, by intro W hW; have hc := hW.sp.cell 0; clear hW; go_simp⟩) hHeld ?_
      simp only [put_laws]
      refine take_z 7 62 (.pointer (some ⟨y, 1, none⟩)) rfl rfl (by kernel_rfl) (by kernel_rfl) (by kernel_rfl) (by kernel_rfl) (fun _ _ _ h => h) (Or.inl ⟨by rfl, by intro W hW; clear hW; go_simp⟩) hHeld ?_
      simp only [put_laws]
      refine take_z 8 63 (.agg #[.int .i64 s0.k, .int .i64 s0.n]) rfl rfl (by kernel_rfl) (by kernel_rfl) (by kernel_rfl) (by kernel_rfl) (fun _ _ _ h => h) (Or.inl ⟨by rfl, by intro W hW; have hc := hW.sp.cell 1; have hd := hW.sp.cell 2; clear hW; go_simp⟩) hHeld ?_
      simp only [put_laws]
      refine take_z 9 64 (.pointer (some ⟨b, 0, none⟩)) rfl rfl (by kernel_rfl) (by kernel_rfl) (by kernel_rfl) (by kernel_rfl) (fun _ _ _ h => h) (Or.inl ⟨by rfl, by intro W hW; clear hW; go_simp⟩) hHeld ?_
      simp only [put_laws]
      refine take_z 10 65 (.pointer (some ⟨b, 0, none⟩)) rfl rfl (by kernel_rfl) (by kernel_rfl) (by kernel_rfl) (by kernel_rfl) (fun _ _ _ h => h) (Or.inl ⟨by rfl, by intro W hW; clear hW; go_simp⟩) hHeld ?_
      simp only [put_laws]
      refine take_z 11 66 (.pointer (some ⟨b, 103, none⟩)) rfl rfl (by kernel_rfl) (by kernel_rfl) (by kernel_rfl) (by kernel_rfl) (fun _ _ _ h => h) (Or.inl ⟨by rfl, by intro W hW; clear hW; go_simp⟩) hHeld ?_
      simp only [put_laws]
      refine take_z 12 67 (.int .i64 (g.n + 1)) rfl rfl (by kernel_rfl) (by kernel_rfl) (by kernel_rfl) (by kernel_rfl) (fun _ _ _ h => h) (Or.inl ⟨by rfl, by intro W hW; have hc := hW.cs.ew.raw.num_; clear hW; go_simp⟩) hHeld ?_
      simp only [put_laws]
      refine take_z 13 68 (.pointer (some ⟨w1.heap.size, 1, none⟩)) rfl rfl (by kernel_rfl) (by kernel_rfl) (by kernel_rfl) (by kernel_rfl) (fun _ _ _ h => h) (Or.inl ⟨by rfl, by intro W hW; clear hW; go_simp⟩) hHeld ?_
      simp only [put_laws]
      refine take_z 14 69 (.int .i64 (i : Nat)) rfl rfl (by kernel_rfl) (by kernel_rfl) (by kernel_rfl) (by kernel_rfl) (fun _ _ _ h => h) (Or.inl ⟨by rfl, by intro W hW; have hc := hW.cs.se.cell 1; clear hW; go_simp⟩) hHeld ?_
      simp only [put_laws]
      refine anyZ_ready (rs := [15]) (by kernel_rfl) (by simp) ?_
      refine AllZ.cons rfl (fun K hK => ?_) AllZ.nil
      go_simp
      refine (Sx.put_new A1 c1 j P s0.k s0.n (g.n + 1) (i : Nat) _ hHeld.cs.ew.st.at_ (by have := HPL.out; omega) HJL.out HSR.out.1 ⟨by omega, by have := HI.out.1; omega⟩ HSR.out.2.2.1 HSR.out.2.2.2 ⟨by have := HNUM.out; omega, by have := HNUM.out; omega⟩ ⟨by omega, by have := HI.out.1; omega⟩).mono ?_
      rintro e wm ⟨A3, c3, rfl, hv3, hb, hf3⟩
      try go_simp
      have hPrev := hHeld
      have hHeld := hHeld.below hb
      have hv3 := VrF.fresh (F := fun k => Foot b mb lv k ∨ k = w1.heap.size) hv3 hf3 (fun q hq => by
        rcases hq with hq | rfl
        · exact hPrev.cs.ew.lt q hq
        · exact hPrev.cs.se.lt)
      clear hf3
      clear hPrev
      refine hK.out _ _ hHeld (fun hHeld => ?_)
      clear hK K
      refine take_z 16 54 (.tuple #[.slice A3 (P.set j ⟨s0.k, s0.n, g.n + 1, (i : Nat), 0⟩).length c3, .int .i64 0]) rfl rfl (by kernel_rfl) (by kernel_rfl) (by kernel_rfl) (by kernel_rfl) (fun _ _ _ h => h) (Or.inl ⟨by rfl, by intro W hW; clear hW; go_simp⟩) hHeld ?_
      simp only [put_laws]
      refine take_z 17 71 (.slice A3 (P.set j ⟨s0.k, s0.n, g.n + 1, (i : Nat), 0⟩).length c3) rfl rfl (by kernel_rfl) (by kernel_rfl) (by kernel_rfl) (by kernel_rfl) (fun _ _ _ h => h) (Or.inl ⟨by rfl, by intro W hW; clear hW; go_simp⟩) hHeld ?_
      simp only [put_laws]
      refine take_e 72 (.int .i64 0) rfl rfl (by kernel_rfl) (by kernel_rfl) (by kernel_rfl) (fun _ _ _ h => h) (Or.inl ⟨by rfl, by intro W hW; clear hW; go_simp⟩) ?_
      simp only [put_laws]
      refine anyZ_ready (rs := [19]) (by kernel_rfl) (by simp) ?_
      refine AllZ.last rfl rfl (fun K hK => ?_)
      go_simp
      refine hK.out _ _ ?_
      clear hK K
      refine anyZ_ready (rs := [20]) (by kernel_rfl) (by simp) ?_
      refine AllZ.last rfl rfl (fun K hK => ?_)
      go_simp
      refine hK.out _ _ ?_
      clear hK K
      refine anyZ_ready (rs := [21]) (by kernel_rfl) (by simp) ?_
      refine AllZ.last rfl rfl (fun K hK => ?_)
      have b100 := hHeld.cs.ew.raw.store_
      have bf := hHeld.cs.ew.raw.free
      go_simp
      clear b100 bf
      refine hK.out _ _ ?_
      clear hK K
      refine anyZ_done (by kernel_rfl) ?_ _
      refine NoPanic.normal ?_
      have HW8 := Lib.hid (hHeld.cs.put (c' := c3) hv3 HNB.out)
      have hlen : (P.set j ⟨s0.k, s0.n, g.n + 1, (i : Nat), 0⟩).length = P.length := List.length_set
      rw [hlen] at HW8
      clear hHeld hv3 hlen
      go_wp2
      exact ⟨⟨k + 1, A3, c3, by omega, by go_num, by rw [HPN.out]; exact HW8.out⟩, by simp [intOf]; omega⟩
    · obtain rfl : k = wl.length := by omega
      rw [List.take_length] at hst
      have HST := Lib.hid hst
      have s2 := hst.se.cell 2
      have sf := hst.se.free
      clear hst
      go_wp2
      clear s2 sf
      have hnF : ¬ Foot b mb lv w1.heap.size := fun e => by have := H.out.lt _ e; have := HLS.out; omega
      have HW7 := Lib.hid (HST.out.ew.box hnF ⟨HST.out.s2.at_, fun hl ad e hx => HST.out.s2.off hl ad e (.inr hx)⟩ (fun x hx => by
        obtain ⟨⟨A, c, e, h1⟩, ⟨B, d, f, h2⟩⟩ := H.out.xe x hx
        exact ⟨⟨A, c, e, h1.low' HST.out.kp HLS.out⟩, ⟨B, d, f, h2.low' HST.out.kp HLS.out⟩⟩) 2 (.bool true))
      have HSE7 := Lib.hid (show Tx.Blk (wr.setCell ⟨w1.heap.size, 2, none⟩ (.bool true)) w1.heap.size #[.slice A (g.t i).length cc, .int .i64 (i : Nat), .bool true] 115 from HST.out.se.set 2 _)
      have HK7 := Lib.hid (HST.out.kp.setCell (p := ⟨w1.heap.size, 2, none⟩) (.inr HLS.out) (.bool true))
      clear HST
      generalize wr.setCell ⟨w1.heap.size, 2, none⟩ (.bool true) = W7 at *
      have m101 := HW7.out.raw.map_
      have y0 := HSE7.out.cell 0
      have y1 := HSE7.out.cell 1
      have y2 := HSE7.out.cell 2
      obtain ⟨sz, hmp⟩ := HW7.out.mp
      obtain ⟨W', hrun, hm, hg⟩ := Tx.MapV.update (W := W7.drew) hmp Tryz.underlying94 (by omega) hid (.agg #[.slice A (g.t i).length cc, .int .i64 (i : Nat), .bool true])
      have HMP := Lib.hid hm
      have HGR := Lib.hid hg
      clear hm hg hmp hz y0 y1 y2 m101
      refine wp_region_noPanic ?_
      refine region_z 7 (fun W => W = W7.drew) 6 1000 rfl (by kernel_rfl) (rfl) (fun hHeld => ?_)
      refine take_z 0 77 (.pointer (some ⟨b, 0, none⟩)) rfl rfl (by kernel_rfl) (by kernel_rfl) (by kernel_rfl) (by kernel_rfl) (fun _ _ _ h => h) (Or.inl ⟨by rfl, by intro W hW; clear hW; go_simp⟩) hHeld ?_
      simp only [put_laws]
      refine take_z 1 78 (.pointer (some ⟨b, 0, none⟩)) rfl rfl (by kernel_rfl) (by kernel_rfl) (by kernel_rfl) (by kernel_rfl) (fun _ _ _ h => h) (Or.inl ⟨by rfl, by intro W hW; clear hW; go_simp⟩) hHeld ?_
      simp only [put_laws]
      refine take_z 2 79 (.pointer (some ⟨b, 101, none⟩)) rfl rfl (by kernel_rfl) (by kernel_rfl) (by kernel_rfl) (by kernel_rfl) (fun _ _ _ h => h) (Or.inl ⟨by rfl, by intro W hW; clear hW; go_simp⟩) hHeld ?_
      simp only [put_laws]
      refine take_z 3 80 (.map (some mb)) rfl rfl (by kernel_rfl) (by kernel_rfl) (by kernel_rfl) (by kernel_rfl) (fun _ _ _ h => h) (Or.inl ⟨by rfl, by intro W hW; have hc : W.cell? ⟨b, 101, none⟩ = some (.map (some mb)) := (by rw [hW]; exact HW7.out.raw.map_); clear hW; go_simp⟩) hHeld ?_
      simp only [put_laws]
      refine take_z 4 81 (.int .i64 id) rfl rfl (by kernel_rfl) (by kernel_rfl) (by kernel_rfl) (by kernel_rfl) (fun _ _ _ h => h) (Or.inl ⟨by rfl, by intro W hW; clear hW; go_simp⟩) hHeld ?_
      simp only [put_laws]
      refine take_z 5 82 (.agg (#[.slice A (g.t i).length cc, .int .i64 (i : Nat), .bool true])) rfl rfl (by kernel_rfl) (by kernel_rfl) (by kernel_rfl) (by kernel_rfl) (fun _ _ _ h => h) (yields_blk (by rfl) 115 (.tmp 5) rfl w1.heap.size rfl 115 #[.slice A (g.t i).length cc, .int .i64 (i : Nat), .bool true] _ (fun W h => by rw [h]; exact HSE7.out.drew) Tryz.underlying115 seat_size) hHeld ?_
      simp only [put_laws]
      refine anyZ_ready (rs := [6]) (by kernel_rfl) (by simp) ?_
      refine AllZ.last rfl rfl (fun K hK => ?_)
      go_simp
      refine hK.out _ _ ?_
      clear hK K
      refine anyZ_done (by kernel_rfl) ?_ _
      refine NoPanic.normal ?_
      go_wp2_with fail
      obtain ⟨hE9, hk9⟩ := commit_last H.out HM2.out HI.out HT.out HW7.out HK7.out HMP.out HGR.out HF.out.ps
      have HE9 := Lib.hid hE9
      have HK9 := Lib.hid hk9
      clear hE9 hk9
      have hend := end_any (g := comEng g i qq wl) HE9.out HM2.out.sound (by show qq.count ≤ 1000000; rw [HM2.out.count]; exact HF.out.cnt) (fun t ht => HF.out.tl t ((HM2.out.tk t).1 ht)) (by show (puts g.s (g.n + 1) i wl).length ≤ 64; rw [puts_len]; exact HF.out.len) HF.out.log (i := i) (by show qq.live.testBit i = true; rw [HM2.out.live]; exact HI.out.2.1)
      rw [show (comEng g i qq wl).p.ids i = id by show qq.ids i = id; rw [HM2.out.ids]; exact HI.out.2.2] at hend
      refine hend.mono ?_
      rintro e w6 ⟨rfl, h6⟩
      have H6 := Lib.hid h6
      clear h6 hend
      go_wp2
      go_ret
      refine ⟨rfl, ?_⟩
      obtain ⟨F', e6, k6, f6⟩ := H6.out
      rw [com_closed HWE.out]
      exact ⟨F', e6, HK9.out.trans k6, fun t ht hx => f6 t (Nat.lt_of_lt_of_le ht HK9.out.size) hx⟩
end Go.Proofs.YtfdfiiocccafkaaGreatDoor.En
namespace Go.Proofs.YtfdfiiocccafkaaGreatDoor.En
open Go.RowKit
theorem begin_none {g : Eng} (h : Po.ff g.p = none) : begin g = (g, 0, 4) := by unfold begin; rw [h]
theorem begin_go {g : Eng} {i : Nat} (h : Po.ff g.p = some i) : begin g = (begun g i, g.p.count + 1, 0) := by unfold begin; rw [h]
set_option maxHeartbeats 4000000 in
set_option maxRecDepth 100000 in
theorem begin_any0 {F : Nat → Prop} {w : World} {b N : Nat} {g : Eng} (h : EngAt F w b N g) (hf : Fit g) (hn : Po.ff g.p = none) :
    Calls Tryz.prog 32 #[.pointer (some ⟨b, 0, none⟩)] w fun e w' => e = .returned (.tuple #[.int .i64 (begin g).2.1, .int .i64 (begin g).2.2]) ∧ EngTo F w b (N + 1) (begin g).1 w' := by
  obtain ⟨sA, sc, mb, lv, T, X, h⟩ := h
  have hz := (zero_of_info zero_pool_info).1
  rw [begin_none hn]
  have H := Lib.hid h
  have HM := Lib.hid (h.mono (Nat.le_succ N))
  have HF := Lib.hid hf
  have HN := Lib.hid hn
  have HC0 := Lib.hid (h.raw.cell 0 (by omega))
  clear h hf hn
  go_enter Tryz.func32, Tryz.ntmps32
  go_wp2_with fail
  refine (made_yes b g.p.size _ HC0.out HF.out.ps.size.1).mono ?_
  rintro e w1 ⟨rfl, rfl⟩
  go_wp2_with (refine load_eng rfl 87 (.tmp 14) rfl b rfl _ H.out.raw Tryz.underlying87 rfl pool_info ?_)
  refine (begin_full g.p _ (HF.out.ps.ok (by have := HF.out.cnt; omega)) HN.out).mono ?_
  rintro e w2 ⟨rfl, hb2⟩
  have HB2 := Lib.hid hb2
  clear hb2
  go_wp2_with (refine let_pool rfl 87 (.tmp 4) (.tmp 17) rfl rfl w2 g.p rfl rfl rfl pool_info ?_; intro w4 hp4 hb4; have HB4 := Lib.hid (HB2.out.trans (hb4.mono HB2.out.size)); clear hp4 hb4)
  go_ret2
  exact ⟨rfl, EngTo.keep ⟨_, _, _, _, _, _, HM.out⟩ HB4.out⟩
end Go.Proofs.YtfdfiiocccafkaaGreatDoor.En
namespace Go.Proofs.YtfdfiiocccafkaaGreatDoor.En
theorem seatF_begun {g : Eng} (hs : Po.Sound g.p) {s : Nat} (h32 : s < 32) (hsz : (s : Int) < g.p.size) (hf : ¬ Po.tk g.p s) (hid : (Po.begun g.p s).ids s = g.p.count + 1) (hio : ∀ j, j ≠ s → (Po.begun g.p s).ids j = g.p.ids j) (T : Nat → Value) (v : Value) (y : Int) :
    (if y = g.p.count + 1 then some (.agg #[v, .int .i64 (s : Nat), .bool false]) else seatF T g y) = seatF (ud T s v) (begun g s) y := by
  have hb : Po.Sound (begun g s).p := Po.begun_sound hs h32 hsz hf
  have htk : ∀ j, Po.tk (begun g s).p j ↔ Po.tk g.p j ∨ j = s := fun j => Po.begun_tk h32 j
  unfold seatF
  by_cases e : y = g.p.count + 1
  · rw [if_pos e, e]
    have := slotAt_of (g := begun g s) hb (i := s) ((htk s).2 (.inr rfl))
    rw [show (begun g s).p.ids s = g.p.count + 1 from hid] at this
    rw [this]
    show _ = some (seatV (ud T s v) (begun g s) s)
    unfold seatV
    rw [ud_same]
    show _ = some (Value.agg #[v, .int .i64 (s : Nat), .bool (ud g.c s false s)])
    rw [ud_same]
  · rw [if_neg e]
    cases hx : slotAt g y with
    | some j =>
      have hj := slotAt_some hx
      have ne : j ≠ s := fun e2 => hf (e2 ▸ hj.2.1)
      have := slotAt_of (g := begun g s) hb (i := j) ((htk j).2 (.inl hj.2.1))
      rw [show (begun g s).p.ids j = y from (hio j ne).trans hj.2.2] at this
      rw [this]
      show some (seatV T g j) = some (seatV (ud T s v) (begun g s) j)
      unfold seatV
      rw [ud_other ne]
      show _ = some (Value.agg #[T j, .int .i64 (j : Nat), .bool (ud g.c s false j)])
      rw [ud_other ne]
    | none =>
      cases hy : slotAt (begun g s) y with
      | none => rfl
      | some j =>
        have hj := slotAt_some hy
        rcases (htk j).1 hj.2.1 with ht | rfl
        · have ne : j ≠ s := fun e2 => hf (e2 ▸ ht)
          have := slotAt_of hs ht
          rw [show g.p.ids j = y from (hio j ne).symm.trans hj.2.2, hx] at this
          cases this
        · exact absurd (hj.2.2.symm.trans hid) e
end Go.Proofs.YtfdfiiocccafkaaGreatDoor.En
namespace Go.Proofs.YtfdfiiocccafkaaGreatDoor.En
open Go.RowKit
theorem begin_last {F : Nat → Prop} {w W8 W' : World} {b N sc mb s sz : Nat} {g : Eng} {sA : Option Addr} {lv : Value} {T : Nat → Value} {X : List Xe} (h : EngIs F w b N g sA sc mb lv T X) (hs : Po.Sound g.p) (hn : Po.ff g.p = some s) (hid : (Po.begun g.p s).ids s = g.p.count + 1) (hio : ∀ j, j ≠ s → (Po.begun g.p s).ids j = g.p.ids j)
    (hw : EngW W8 b N (Po.begun g.p s) g.s (seatF T g) g.log g.n sA sc mb lv X) (hk : Kp F w W8)
    (hm : Tx.MapV W' mb (N + 1) sz zeroSeat (fun t => if t = g.p.count + 1 then some (.agg #[.slice none 0 0, .int .i64 (s : Nat), .bool false]) else seatF T g t)) (hg : W8.grownBy W' (some mb)) :
    EngTo F w b (N + 1) (begun g s) W' := by
  obtain rfl := h.F_eq
  obtain ⟨h32, hfr, _⟩ := Po.ff_spec hn
  obtain ⟨hsz, hnt⟩ := Po.freeAt_tk hfr
  have h9 := hw.put_map ⟨sz, hm⟩ hg
  have e : (fun t => if t = g.p.count + 1 then some (Value.agg #[.slice none 0 0, .int .i64 (s : Nat), .bool false]) else seatF T g t) = seatF (ud T s (.slice none 0 0)) (begun g s) := funext fun y => seatF_begun hs h32 hsz hnt hid hio T _ y
  rw [e] at h9
  have hk9 : Kp (Foot b mb lv) w W' := hk.trans (kp_map hg)
  have ht : TAt (Foot b mb lv) W' (begun g s) (ud T s (.slice none 0 0)) := fun j hj => by
    show ∃ A c, ud T s (.slice none 0 0) j = .slice A (ud g.t s [] j).length c ∧ SlF _ W' A c (ud g.t s [] j)
    by_cases ej : j = s
    · rw [ej, ud_same, ud_same]; exact ⟨none, 0, rfl, SlF.nil _ _⟩
    · rw [ud_other ej, ud_other ej]
      rcases (Po.begun_tk h32 j).1 hj with h1 | h1
      · obtain ⟨A, c, e1, h2⟩ := h.ts j h1
        exact ⟨A, c, e1, h2.kp hk9⟩
      · exact absurd h1 ej
  exact (EngW.is (g := begun g s) h9 ht).to hk9
theorem begun_ids {p : Pl} (s : Nat) : (Po.begun p s).ids s = p.count + 1 ∧ ∀ j, j ≠ s → (Po.begun p s).ids j = p.ids j := by
  refine ⟨?_, fun j hj => ?_⟩
  · show (Po.opened p s).ids s = _
    simp [Po.opened, Od.upd]
  · show (Po.opened p s).ids j = _
    simp [Po.opened, Od.upd, hj]
end Go.Proofs.YtfdfiiocccafkaaGreatDoor.En
namespace Go.Proofs.YtfdfiiocccafkaaGreatDoor.En
open Go.RowKit
theorem begin_val {p q : Pl} {s : Nat} {w : World} (hq : Po.begun p s = q) (hp : p.Ok) (hc : p.count < 9223372036854775807) (hf : Po.ff p = some s) (hT : TabAt w) :
    Calls Tryz.prog 74 #[.agg (poolA p)] w fun e w' => e = .returned (.tuple #[.agg (poolA q), .int .i64 (s : Nat), .int .i64 0]) ∧ Below w.heap.size w w' := by
  subst hq; exact begin_some p s w hp hc hf hT
set_option maxHeartbeats 4000000 in
set_option maxRecDepth 100000 in
theorem begin_any1 {F : Nat → Prop} {w : World} {b N : Nat} {g : Eng} (h : EngAt F w b N g) (hf : Fit g) (hN : N < 4000) {s : Nat} (hn : Po.ff g.p = some s) (hT : TabAt w) {q : Pl} (hq : Po.begun g.p s = q) :
    Calls Tryz.prog 32 #[.pointer (some ⟨b, 0, none⟩)] w fun e w' => e = .returned (.tuple #[.int .i64 (begin g).2.1, .int .i64 (begin g).2.2]) ∧ EngTo F w b (N + 1) (begin g).1 w' := by
  obtain ⟨sA, sc, mb, lv, T, X, h⟩ := h
  have hz := (zero_of_info zero_pool_info).1
  have hz2 := zero_seat
  unfold zeroSeat at hz2
  rw [begin_go hn]
  have HFE := Lib.hid h.F_eq
  have H := Lib.hid h
  have HF := Lib.hid hf
  have HNF := Lib.hid hn
  have HT := Lib.hid hT
  have HQ := Lib.hid hq
  have HC0 := Lib.hid (h.raw.cell 0 (by omega))
  have h32 := (Po.ff_spec hn).1
  have HCN := Lib.hid (show St.i64p (g.p.count + 1) by have h1 := hf.cnt; have h2 := hf.ps.count; exact ⟨by omega, by omega⟩)
  have HBI := Lib.hid (begun_ids (p := g.p) s)
  have HI := Lib.hid (show q.ids s = g.p.count + 1 by rw [← hq]; exact HBI.out.1)
  clear h hf hn hT hq
  go_enter Tryz.func32, Tryz.ntmps32
  go_wp2_with fail
  refine (made_yes b g.p.size _ HC0.out HF.out.ps.size.1).mono ?_
  rintro e w1 ⟨rfl, rfl⟩
  go_wp2_with (refine load_eng rfl 87 (.tmp 14) rfl b rfl _ H.out.raw Tryz.underlying87 rfl pool_info ?_)
  refine (begin_val HQ.out (HF.out.ps.ok (by have := HF.out.cnt; omega)) (by have := HF.out.cnt; omega) HNF.out HT.out).mono ?_
  rintro e w2 ⟨rfl, hb2⟩
  have HB2 := Lib.hid hb2
  clear hb2
  go_wp2_with (first
    | (refine let_pool rfl 87 (.tmp 4) (.tmp 17) rfl rfl w2 q rfl rfl rfl pool_info ?_; intro w4 hp4 hb4; have HP4 := Lib.hid hp4; have HB4 := Lib.hid (HB2.out.trans (hb4.mono HB2.out.size)); have ci := hp4.id_ s h32; rw [HI.out] at ci; have HE4 := Lib.hid (H.out.below HB4.out); clear hp4 hb4)
    | (refine load_pool rfl 87 (.tmp 4) rfl w2.heap.size q 87 rfl _ HP4.out Tryz.underlying87 rfl pool_info ?_; clear ci)
    | (refine store_eng rfl 87 (.tmp 30) (.tmp 28) rfl rfl b q rfl rfl HE4.out.raw pool_info ?_; have HW7 := Lib.hid (HE4.out.toW.put_pool q); have HK7 := Lib.hid (show Kp (Foot b mb lv) w (w4.setCells b 0 (poolA q).toList) from (Kp.of_below HB4.out).trans (kp_pool q w4)); generalize w4.setCells b 0 (poolA q).toList = W7 at *; have m101 := HW7.out.raw.map_; obtain ⟨sz, hmp⟩ := HW7.out.mp; obtain ⟨W', hrun, hm, hg⟩ := Tx.MapV.update (W := W7) hmp Tryz.underlying94 (by omega) HCN.out (.agg #[.slice none 0 0, .int .i64 (s : Nat), .bool false]); have HMP := Lib.hid hm; have HGR := Lib.hid hg; clear hm hg hmp HE4 HP4))
  go_ret2
  refine ⟨rfl, ?_⟩
  have hFE := HFE.out
  subst hFE
  have hw := HW7.out
  rw [← HQ.out] at hw
  exact begin_last H.out HF.out.ps HNF.out HBI.out.1 HBI.out.2 hw HK7.out HMP.out HGR.out
theorem begin_any {F : Nat → Prop} {w : World} {b N : Nat} {g : Eng} (h : EngAt F w b N g) (hf : Fit g) (hN : N < 4000) (hT : TabAt w) :
    Calls Tryz.prog 32 #[.pointer (some ⟨b, 0, none⟩)] w fun e w' => e = .returned (.tuple #[.int .i64 (begin g).2.1, .int .i64 (begin g).2.2]) ∧ EngTo F w b (N + 1) (begin g).1 w' := by
  cases hn : Po.ff g.p with
  | none => exact begin_any0 h hf hn
  | some s => exact begin_any1 h hf hN hn hT rfl
end Go.Proofs.YtfdfiiocccafkaaGreatDoor.En
