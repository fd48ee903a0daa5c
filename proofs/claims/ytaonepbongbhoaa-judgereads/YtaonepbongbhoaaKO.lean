/-
  Rows of integers: what the library's Index, Contains, Clone and Delete make of them; Ids as a row of one's own; judge.node.
  Ids as a row of one's own; one that is deleted of such a row.
  The contract of what Find hands to the library's IndexFunc, and of this at it.
-/
import Derived.Test.YtaonepbongbhoaaKG
import Derived.Shelf.SlicesG.Delete
import Derived.Lib.RowBridge
import Derived.Test.YtaonepbongbhoaaKB
import Derived.Test.YtaonepbongbhoaaKE
namespace Go.Proofs.Ytaonepbongbhoaa.Jd
open Go.RowKit
open Tx (i64p)
open Hi (idsL Ev encE crs crL)
theorem at_below {α : Type} {E : Rn.Enc α} {W W' : World} {A : Option Addr} {L : List α} (h : Rn.At E W A L) (hb : Below W.heap.size W W') : Rn.At E W' A L := h.below hb (Nat.le_refl _)
theorem vtI : Rn.VT Hi.encI 26 3 := by
  obtain ⟨i0, hi, hz0, hz1, hz2⟩ := info_parts Hi.int_info
  exact ⟨Try.underlying26, i0, _, hi, hz0, hz1, by rw [hz2]; decide, rfl⟩
theorem atI {w : World} {A : Option Addr} {X : List Int} (h : Rn.At Hi.encI w A X) {j : Nat} {x : Int} (hx : X[j]? = some x) : ∃ ad, A = some ad ∧ w.cell? (ad.add j) = some (.int .i64 x) := by
  obtain ⟨ad, e, hc⟩ := h.get hx
  exact ⟨ad, e, by have := hc 0 _ rfl; simpa using this⟩
theorem node_x (x : Int) (w : World) (h : 1 ≤ x ∧ x ≤ 9223372036854775807) : Calls Try.prog 21 #[.int .i64 x] w fun e w' => e = .returned (.int .i64 (x - 1)) ∧ w = w' := by
  go_enter Try.func21, Try.ntmps21
  go_wp2
  go_ret
  exact ⟨rfl, rfl⟩
/-- the first place that P holds at, or -1. -/
def IxS (P : Int → Prop) (L : List Int) (v : Int) : Prop := (v = -1 ∧ ∀ (j : Nat) z, L[j]? = some z → ¬ P z) ∨ ∃ (k : Nat) (y : Int), v = (k : Int) ∧ L[k]? = some y ∧ P y ∧ ∀ (j : Nat) z, j < k → L[j]? = some z → ¬ P z
set_option maxHeartbeats 1000000 in
theorem index_i (A : Option Addr) (c : Nat) (L : List Int) (x : Int) (w : World) (h : Rn.At Hi.encI w A L) (hl : L.length ≤ 100000) :
    Calls Try.prog 55 #[.slice A L.length c, .int .i64 x] w fun e w' => (∃ v, e = .returned (.int .i64 v) ∧ IxS (fun y => y = x) L v) ∧ w = w' := by
  have H := Lib.hid h
  clear h
  have hN : (L.length : Int) ≤ 100000 := by omega
  go_enter Try.func55, Try.ntmps55
  go_wp2
  go_loopw [8] (fun i wr => ∃ k : Nat, k ≤ L.length ∧ i = .int .i64 k ∧ Aside (w = wr) ∧ Aside (∀ (j : Nat) z, j < k → L[j]? = some z → ¬ z = x)) (fun i _ => L.length - (intOf i).toNat)
  case atStart => exact ⟨0, Nat.zero_le _, rfl, rfl, fun j z hj => absurd hj (Nat.not_lt_zero _)⟩
  case round =>
    obtain ⟨k, hk, rfl, HW, HN⟩ := hrel
    have hww := HW.out
    subst hww
    by_cases hlt : k < L.length
    · obtain ⟨z, hz⟩ : ∃ z, L[k]? = some z := ⟨_, List.getElem?_eq_getElem hlt⟩
      obtain ⟨ad, rfl, c0⟩ := atI H.out hz
      have HZ := Lib.hid hz
      clear hz
      have hlt' : (k : Int) < (L.length : Int) := by omega
      have h0 : (0 : Int) ≤ (k : Int) := by omega
      by_cases e : z = x
      · have b : (x == z) = true := by simpa using e.symm
        have HE := Lib.hid e
        clear e
        go_wp2
        go_ret
        exact ⟨⟨_, rfl, .inr ⟨k, z, rfl, HZ.out, HE.out, HN.out⟩⟩, rfl⟩
      · have b : (x == z) = false := by simpa using Ne.symm e
        have HE := Lib.hid e
        clear e
        go_wp2
        go_roundw
        case rel =>
          refine ⟨k + 1, by omega, by go_num, trivial, (show Aside _ from fun j t hj ht => ?_)⟩
          by_cases e : j = k
          · subst e
            rw [HZ.out] at ht
            obtain rfl := Option.some.inj ht
            exact HE.out
          · exact HN.out j t (by omega) ht
        case measure => simp [intOf]; omega
    · have hlt' : ¬ (k : Int) < (L.length : Int) := by omega
      go_wp2
      go_ret
      refine ⟨⟨_, rfl, .inl ⟨rfl, fun j z hz => HN.out j z ?_ hz⟩⟩, rfl⟩
      have := (List.getElem?_eq_some_iff.1 hz).1
      omega
set_option maxHeartbeats 1000000 in
theorem contains_i (A : Option Addr) (c : Nat) (L : List Int) (x : Int) (w : World) (h : Rn.At Hi.encI w A L) (hl : L.length ≤ 100000) :
    Calls Try.prog 39 #[.slice A L.length c, .int .i64 x] w fun e w' => e = .returned (.bool (decide (x ∈ L))) ∧ w = w' := by
  have H := Lib.hid (index_i A c L x w h hl)
  clear h hl
  go_enter Try.func39, Try.ntmps39
  go_wp2_with fail
  refine H.out.mono ?_
  rintro r w' ⟨⟨v, rfl, hv⟩, hw⟩
  subst hw
  rcases hv with ⟨rfl, hn⟩ | ⟨k, y, rfl, hk, rfl, _⟩
  · have hd : decide (x ∈ L) = false := by
      rw [decide_eq_false_iff_not]
      intro hm
      obtain ⟨j, hj⟩ := List.mem_iff_getElem?.1 hm
      exact hn j x hj rfl
    clear hn
    go_wp2
    go_ret
    exact ⟨by rw [hd]; rfl, rfl⟩
  · have hd : decide (y ∈ L) = true := by
      rw [decide_eq_true_eq]; exact List.mem_of_getElem? hk
    clear hk
    have h0 : (k : Int) ≥ 0 := by omega
    go_wp2
    go_ret
    exact ⟨by rw [hd]; rfl, rfl⟩
def IntPost (L : List Int) (w : World) (x : Ending) (w' : World) : Prop := ∃ v, x = .returned v ∧ Rn.Own Hi.encI w' w.heap.size 3 v L ∧ Below w.heap.size w w'
set_option maxHeartbeats 1000000 in
theorem iclone_any (A : Option Addr) (c : Nat) (L : List Int) (w : World) (h : Rn.At Hi.encI w A L) (hl : L.length ≤ 300) :
    Calls Try.prog 11 #[.slice A L.length c] w (IntPost L w) := by
  have H := Lib.hid h
  clear h
  have hnil := fun W => Rn.eq_nil vtI A L.length c W
  rcases A with _ | ad
  · obtain rfl := H.out.nil_
    clear hnil
    have hnil := fun W => Rn.eq_nil vtI none 0 c W
    go_enter Try.func11, Try.ntmps11
    go_wp2
    go_ret
    exact ⟨_, rfl, Rn.Own.nil _ _ _, Below.refl _ _⟩
  · go_enter Try.func11, Try.ntmps11
    go_wp2_with (at_builtin; refine Rn.append_row Hi.encI vtI rfl _ _ rfl rfl (Rn.Own.empty w 3 rfl (Nat.le_refl _)) _ _ L rfl rfl (H.out.alloc _) ?c1 ?c2 ?_)
    case c1 => simp; omega
    case c2 => simp
    intro v' w1 ho1 hb1 hs1
    have HO1 := Lib.hid ho1
    have HB1 := Lib.hid ((Rn.below_new w (.cells #[] 3)).trans hb1)
    clear ho1 hb1
    go_wp2
    go_ret
    exact ⟨_, rfl, HO1.out, HB1.out⟩
/-- a row of one's own hangs on its block alone. -/
theorem own_keep {α : Type} {E : Rn.Enc α} {w w' : World} {base : Nat} {e : TypeId} {v : Value} {L : List α} (h : Rn.Own E w base e v L) (hk : ∀ g, v.ownBlock = some g → w'.heap[g]? = w.heap[g]?) : Rn.Own E w' base e v L := by
  refine ⟨h.1, ?_⟩
  rcases h.2 with hn | ⟨g, cap, cur, e1, hb, hg, rest⟩
  · exact .inl hn
  · exact .inr ⟨g, cap, cur, e1, hb, (hk g (by rw [e1]; rfl)).trans hg, rest⟩
theorem own_fresh {α : Type} {E : Rn.Enc α} {w : World} {base : Nat} {e : TypeId} {v : Value} {L : List α} (h : Rn.Own E w base e v L) : ∀ g, v.ownBlock = some g → base ≤ g ∧ g < w.heap.size := fun g hg => ⟨(World.ownsRow.lt h g hg).1, (World.ownsRow.lt h g hg).2⟩
/-- what a row of one's own that has something is. -/
theorem own_some {α : Type} {E : Rn.Enc α} {w : World} {base : Nat} {e : TypeId} {v : Value} {L : List α} (h : Rn.Own E w base e v L) (hl : 0 < L.length) : ∃ g c, v = .slice (some ⟨g, 0, none⟩) L.length c ∧ base ≤ g ∧ g < w.heap.size ∧ L.length ≤ c ∧ c ≤ maxLen := by
  rcases h.2 with ⟨_, h0⟩ | ⟨g, cap, cur, e1, hb, hg, hn, hm, _⟩
  · omega
  · exact ⟨g, cap, e1, hb, (Array.getElem?_eq_some_iff.1 hg).1, hn, hm⟩
end Go.Proofs.Ytaonepbongbhoaa.Jd
namespace Go.Proofs.Ytaonepbongbhoaa.Jd
open Go.RowKit Go.Sort
open Tx (i64p)
open Hi (idsL Ev encE crs crL Co cs RdC courses_s fill fill_zero fill_at fill_set fill_all)
def OwnPost (L : List Int) (w : World) (x : Ending) (w' : World) : Prop := ∃ g c, x = .returned (.slice (some ⟨g, 0, none⟩) L.length c) ∧ w.heap.size ≤ g ∧ Rn.Own Hi.encI w' g 3 (.slice (some ⟨g, 0, none⟩) L.length c) L ∧ Below w.heap.size w w'
theorem idsL_len (n : Nat) : (idsL n).length = n := by simp [idsL]
set_option maxRecDepth 100000 in
set_option maxHeartbeats 1000000 in
theorem ids_own (A : Option Addr) (c : Nat) (L : List Ev) (w : World) (h : Rn.At encE w A L) (hok : ∀ e ∈ L, e.ok) (hl : L.length ≤ 2000) :
    Calls Try.prog 17 #[.slice A L.length c] w (OwnPost (idsL (crL L).length) w) := by
  have H := Lib.hid (courses_s A c L w h hok hl)
  obtain ⟨i0, hi, hz0, hz1, hz2⟩ := info_parts Hi.int_info
  clear h hok
  go_enter Try.func17, Try.ntmps17
  go_wp2_with fail
  refine H.out.mono ?_
  rintro r w1 ⟨B, d, X, rfl, hX, h1, h2, hr, he, hb⟩
  have HB := Lib.hid hb
  have HE := Lib.hid (show X.length = (crL L).length from by rw [← he, Hi.cs_len])
  have HX := Lib.hid hX
  have hXN : (X.length : Int) ≤ 32 := by omega
  clear hb he hr hX
  go_wp2_with (refine Hi.wpList_make Hi.encI rfl (.tmp 13) (.tmp 13) 26 rfl 3 i0 _ 0 Try.underlying26 hi hz0 hz1 rfl (by rw [hz2]; decide) X.length (by have := HX.out; omega) rfl rfl ?_)
  intro w2 ho hb2 hs2
  have HO := Lib.hid ho
  have HB2 := Lib.hid (show Below w.heap.size w w2 from HB.out.trans (hb2.mono HB.out.size))
  have HG := Lib.hid HB.out.size
  clear ho hb2 hs2
  generalize w1.heap.size = g at *
  go_wp2
  go_loopw [17] (Hi.IdRel w g X.length g) (fun i _ => X.length - (intOf i).toNat)
  case atStart => exact ⟨0, Nat.zero_le _, rfl, by rw [fill_zero]; exact HO.out, HB2.out⟩
  case round =>
    obtain ⟨k, hk, rfl, ho, hb⟩ := hrel
    have HO := Lib.hid ho
    have HB := Lib.hid hb
    clear ho hb
    by_cases hlt : k < X.length
    · have hlt' : (k : Int) < (X.length : Int) := by omega
      have cc := HO.out.get (fill_at _ _ hlt) 0 (by decide)
      have ff := HO.out.free (k * 1 + 0)
      simp only [Nat.mul_one, Nat.add_zero, List.getElem?_cons_zero] at cc ff
      have HP := Lib.hid (HO.out.put (fill_at _ _ hlt) 0 (by decide) (.int .i64 ((k : Int) + 1)) (v' := (k : Int) + 1) rfl)
      have HS := Lib.hid (fill_set (fun i => ((i : Nat) : Int) + 1) (0 : Int) X.length k)
      go_wp2
      go_roundw
      case rel => exact ⟨k + 1, by omega, by go_num, by have := HP.out; simp only [Nat.mul_one, Nat.add_zero] at this; rw [HS.out] at this; exact this, HB.out.setCell HG.out _⟩
      case measure => simp [intOf]; omega
    · have hlt' : ¬ (k : Int) < (X.length : Int) := by omega
      obtain rfl : k = X.length := by omega
      have HF := Lib.hid (show Rn.Own Hi.encI wr g 3 (.slice (some ⟨g, 0, none⟩) X.length X.length) (idsL (crL L).length) from by
        have := HO.out
        rw [fill_all] at this
        rw [← HE.out]; exact this)
      go_wp2
      go_ret
      have e : (idsL (crL L).length).length = X.length := by rw [idsL_len, HE.out]
      refine ⟨g, X.length, by rw [e]; rfl, HG.out, ?_, HB.out⟩
      rw [e]; exact HF.out
/-- the world behind, when cells of one block are written. -/
theorem mapBlock_other (w : World) (b k : Nat) (f : Array Value → Array Value) (h : k ≠ b) : (mapBlock w b f).heap[k]? = w.heap[k]? := by
  unfold mapBlock
  simp [Array.getElem?_modify, Ne.symm h]
theorem mapBlock_own (w : World) (b : Nat) (f : Array Value → Array Value) {c : Array Value} {t : TypeId} {fr : Nat × Nat} (h : w.heap[b]? = some (.cells c t fr)) : (mapBlock w b f).heap[b]? = some (.cells (f c) t fr) := by
  unfold mapBlock
  simp [Array.getElem?_modify, h, onCells]
theorem flatI (L : List Int) : Rn.flat Hi.encI L = L.map (Value.int .i64) := by
  unfold Rn.flat
  induction L with
  | nil => rfl
  | cons x L ih => simp [ih]
theorem putCells_take (d : Array Int) (c : Array Value) (n : Nat) (h1 : n ≤ d.size) (h2 : d.size ≤ c.size) : (putCells (Value.int .i64) 0 d c).toList.take n = (d.toList.take n).map (Value.int .i64) := by
  apply List.ext_getElem?
  intro i
  by_cases hi : i < n
  · rw [List.getElem?_take, if_pos hi, List.getElem?_map, List.getElem?_take, if_pos hi]
    unfold putCells
    have hc : i < c.size := by omega
    have hd : i < d.size := by omega
    simp [hc, hd]
  · rw [List.getElem?_take, if_neg hi, List.getElem?_map, List.getElem?_take, if_neg hi]; rfl
theorem own_del {w : World} {base g c q : Nat} {L : List Int} {k : Nat} (h : Rn.Own Hi.encI w base 3 (.slice (some ⟨g, 0, none⟩) L.length c) L) (hk : k < L.length) :
    Rn.Own Hi.encI (putRow (Value.int .i64) (Sort.ahead w q) g 0 (L.take k ++ L.drop (k + 1) ++ List.replicate (k + 1 - k) 0).toArray) base 3 (.slice (some ⟨g, 0, none⟩) (L.length - 1) c) (L.eraseIdx k) := by
  rcases h.2 with ⟨e, _⟩ | ⟨g', cap, cur, e, hb, hg, hn, hm, hs, ht⟩
  · cases e
  · obtain ⟨e1, e2, e3⟩ := Value.slice.inj e
    have e1 := congrArg Addr.block (Option.some.inj e1)
    subst e3
    obtain rfl : g = g' := e1
    have hle : (L.eraseIdx k).length = L.length - 1 := List.length_eraseIdx_of_lt hk
    have hd : L.eraseIdx k = L.take k ++ L.drop (k + 1) := List.eraseIdx_eq_take_drop_succ ..
    have hl2 : (L.take k ++ L.drop (k + 1)).length = L.length - 1 := by rw [← hd]; exact hle
    refine ⟨by rw [Rn.flat_len], .inr ⟨g, c, _, ?_, hb, mapBlock_own _ _ _ hg, by rw [hle]; omega, hm, ?_, ?_⟩⟩
    · rw [hle]
    · unfold putCells; simpa using hs
    · rw [flatI, hle]
      show List.take ((L.length - 1) * 1) _ = _
      rw [Nat.mul_one, putCells_take _ _ _ (by rw [List.size_toArray, List.length_append, hl2]; omega) (by
        rw [List.size_toArray, List.length_append, hl2, List.length_replicate]
        have : cur.size = c * 1 := hs
        omega)]
      rw [List.toList_toArray, List.take_append_of_le_length (by omega), List.take_of_length_le (by omega), hd]
theorem ahead_heap (w : World) (q : Nat) : (Sort.ahead w q).heap = w.heap := rfl
theorem del_below {w : World} {B g q : Nat} {d : Array Int} (h : B ≤ g) : Below B w (putRow (Value.int .i64) (Sort.ahead w q) g 0 d) := by
  refine ⟨rfl, rfl, rfl, ?_, fun k hk => ?_⟩
  · unfold putRow mapBlock; simp [Sort.ahead]
  · exact mapBlock_other _ _ _ _ (by omega)
theorem del_other {w : World} {g q k : Nat} {d : Array Int} (h : k ≠ g) : (putRow (Value.int .i64) (Sort.ahead w q) g 0 d).heap[k]? = w.heap[k]? := mapBlock_other _ _ _ _ h
theorem own_holds {w : World} {base g c : Nat} {L : List Int} (h : Rn.Own Hi.encI w base 3 (.slice (some ⟨g, 0, none⟩) L.length c) L) : Holds (Value.int .i64) w g 0 L.toArray := by
  intro j hj
  have hj' : j < L.length := by simpa using hj
  have h1 := h.get (List.getElem?_eq_getElem hj') 0 (by decide)
  have h2 := h.free (j * 1 + 0)
  simp only [Nat.mul_one, Nat.add_zero, List.getElem?_cons_zero] at h1 h2
  rw [Nat.zero_add]
  refine ⟨?_, h2⟩
  rw [h1]; simp [hj']
def DelPost (L : List Int) (k g c base : Nat) (w : World) (r : Ending) (w' : World) : Prop := r = .returned (.slice (some ⟨g, 0, none⟩) (L.length - 1) c) ∧ Rn.Own Hi.encI w' base 3 (.slice (some ⟨g, 0, none⟩) (L.length - 1) c) (L.eraseIdx k) ∧ Below g w w' ∧ w.heap.size = w'.heap.size ∧ (∀ j, j ≠ g → w'.heap[j]? = w.heap[j]?)
end Go.Proofs.Ytaonepbongbhoaa.Jd
namespace Go.Proofs.Ytaonepbongbhoaa.Jd
open Go.RowKit
open Az
theorem yields_mat {ops : Array Oper} {S : World → Prop} {op : Oper} {a : Act} (hw : Region.wanted op (yielded ops a.tmps) = true) (ty : TypeId) (x : Operand) (ho : op.op = .load ty x)
    (b : Nat) (hx : a.eval x = .pointer (some ⟨b, 0, none⟩)) (t : Nat) (m : Mm.Gr) {n : Nat} {el : TypeId} (hS : ∀ w, S w → MatAt w b m t)
    (hu : Try.prog.underlying ty = some (.array n el)) (hi : (Try.prog.info? ty).map (·.size) = some (matA m).size) : YieldsIf Try.prog ops S op (.agg (matA m)) a :=
  .inl ⟨hw, fun w hw' => by
    unfold execOp
    simp only [ho, hx, Instr.loadAt, Instr.sureAddr, Sem.run_bind, Sem.run_pure, Result.andThen_ok, run_loadVar_row w b t ty (matA m) (0, 0) _ (hS w hw') hu rfl hi]⟩
theorem node_j (j : Nat) (w : World) (h : j < 32) : Calls Try.prog 21 #[.int .i64 ((j : Int) + 1)] w fun e w' => e = .returned (.int .i64 (j : Nat)) ∧ Below w.heap.size w w' := by
  refine (node_x ((j : Int) + 1) w ⟨by omega, by omega⟩).mono ?_
  rintro e w' ⟨rfl, rfl⟩
  exact ⟨by rw [show (j : Int) + 1 - 1 = (j : Int) from by omega], Below.refl _ _⟩
/-- the graph in its block, and all that lay there. -/
structure Fl (w : World) (g : Nat) (m : Mm.Gr) (W : World) : Prop where
  at_ : MatAt W g m 36
  bel : Below w.heap.size w W
theorem Fl.below {w W W' : World} {g : Nat} {m : Mm.Gr} (h : Fl w g m W) (hb : Below W.heap.size W W') : Fl w g m W' := ⟨h.at_.below hb, h.bel.trans (hb.mono h.bel.size)⟩
theorem Fl.drew {w W : World} {g : Nat} {m : Mm.Gr} (h : Fl w g m W) : Fl w g m W.drew := h.below (Below.refl _ _).drew
set_option maxHeartbeats 2000000 in
theorem findL_j (m : Mm.Gr) (g j : Nat) (w : World) (hm : Mm.Ok m) (hj : j < 32) (hg : MatAt w g m 36) :
    Calls Try.prog 19 #[.int .i64 ((j : Int) + 1), .pointer (some ⟨g, 0, none⟩)] w fun e w' => e = .returned (.bool (decide (Mm.ins m j = 0))) ∧ Below w.heap.size w w' := by
  have HS := Lib.hid (show Fl w g m w from ⟨hg, Below.refl _ _⟩)
  clear hg
  by_cases hi : Mm.ins m j = 0
  · have hd : decide (Mm.ins m j = 0) = true := by simpa using hi
    rw [hd]
    have HE := Lib.hid hi
    clear hi hd
    go_enter Try.func19, Try.ntmps19
    go_wp2
    refine wp_region_noPanic ?_
    refine region_z 6 (Fl w g m) 5 1000 rfl (by kernel_rfl) (by exact HS.out.drew) (fun hHeld => ?_)
    refine take_d [3, 4, 5] 0 4 (.agg (matA m)) rfl rfl (by kernel_rfl) (by kernel_rfl) (by kernel_rfl) (by kernel_rfl) (fun _ _ _ h => h) (yields_mat rfl 36 (.tmp 1) rfl g rfl 36 m (fun W hW => hW.at_) Try.underlying36 (matInfo m)) hHeld ?_
    simp only [put_laws]
    refine take_d [2, 3, 4, 5] 1 5 (.int .i64 ((j : Int) + 1)) rfl rfl (by kernel_rfl) (by kernel_rfl) (by kernel_rfl) (by kernel_rfl) (fun _ _ _ h => h) (Or.inl ⟨by rfl, by intro W hW; clear hW; go_simp⟩) hHeld ?_
    simp only [put_laws]
    refine anyZ_ready (rs := [2]) (by kernel_rfl) (by simp) ?_
    refine AllZ.cons rfl (fun K hK => ?_) AllZ.nil
    go_simp
    refine (node_j j _ hj).mono ?_
    rintro e w2 ⟨rfl, hb⟩
    try go_simp
    have hPrev := hHeld
    have hHeld := hHeld.below hb
    clear hPrev
    refine hK.out _ _ hHeld (fun hHeld => ?_)
    clear hK K
    refine anyZ_ready (rs := [3]) (by kernel_rfl) (by simp) ?_
    refine AllZ.cons rfl (fun K hK => ?_) AllZ.nil
    go_simp
    refine (ins_in m j _ hm hj).mono ?_
    rintro e w3 ⟨rfl, hb⟩
    try go_simp
    have hPrev := hHeld
    have hHeld := hHeld.below hb
    clear hPrev
    refine hK.out _ _ hHeld (fun hHeld => ?_)
    clear hK K
    refine take_d [5] 4 8 (.bool true) rfl rfl (by kernel_rfl) (by kernel_rfl) (by kernel_rfl) (by kernel_rfl) (fun _ _ _ h => h) (Or.inl ⟨by rfl, by intro W hW; have e0 := HE.out; clear hW; go_simp⟩) hHeld ?_
    simp only [put_laws]
    refine anyZ_ready (rs := [5]) (by kernel_rfl) (by simp) ?_
    refine AllZ.last rfl rfl (fun K hK => ?_)
    go_simp
    refine hK.out _ _ ?_
    clear hK K
    refine anyZ_done (by kernel_rfl) ?_ _
    refine NoPanic.normal ?_
    go_wp2
    go_ret
    exact ⟨rfl, hHeld.bel⟩

  · have hd : decide (Mm.ins m j = 0) = false := by simpa using hi
    rw [hd]
    have HE := Lib.hid hi
    clear hi hd
    go_enter Try.func19, Try.ntmps19
    go_wp2
    refine wp_region_noPanic ?_
    refine region_z 6 (Fl w g m) 5 1000 rfl (by kernel_rfl) (by exact HS.out.drew) (fun hHeld => ?_)
    refine take_d [3, 4, 5] 0 4 (.agg (matA m)) rfl rfl (by kernel_rfl) (by kernel_rfl) (by kernel_rfl) (by kernel_rfl) (fun _ _ _ h => h) (yields_mat rfl 36 (.tmp 1) rfl g rfl 36 m (fun W hW => hW.at_) Try.underlying36 (matInfo m)) hHeld ?_
    simp only [put_laws]
    refine take_d [2, 3, 4, 5] 1 5 (.int .i64 ((j : Int) + 1)) rfl rfl (by kernel_rfl) (by kernel_rfl) (by kernel_rfl) (by kernel_rfl) (fun _ _ _ h => h) (Or.inl ⟨by rfl, by intro W hW; clear hW; go_simp⟩) hHeld ?_
    simp only [put_laws]
    refine anyZ_ready (rs := [2]) (by kernel_rfl) (by simp) ?_
    refine AllZ.cons rfl (fun K hK => ?_) AllZ.nil
    go_simp
    refine (node_j j _ hj).mono ?_
    rintro e w2 ⟨rfl, hb⟩
    try go_simp
    have hPrev := hHeld
    have hHeld := hHeld.below hb
    clear hPrev
    refine hK.out _ _ hHeld (fun hHeld => ?_)
    clear hK K
    refine anyZ_ready (rs := [3]) (by kernel_rfl) (by simp) ?_
    refine AllZ.cons rfl (fun K hK => ?_) AllZ.nil
    go_simp
    refine (ins_in m j _ hm hj).mono ?_
    rintro e w3 ⟨rfl, hb⟩
    try go_simp
    have hPrev := hHeld
    have hHeld := hHeld.below hb
    clear hPrev
    refine hK.out _ _ hHeld (fun hHeld => ?_)
    clear hK K
    refine take_d [5] 4 8 (.bool false) rfl rfl (by kernel_rfl) (by kernel_rfl) (by kernel_rfl) (by kernel_rfl) (fun _ _ _ h => h) (Or.inl ⟨by rfl, by intro W hW; have e0 := HE.out; clear hW; go_simp⟩) hHeld ?_
    simp only [put_laws]
    refine anyZ_ready (rs := [5]) (by kernel_rfl) (by simp) ?_
    refine AllZ.last rfl rfl (fun K hK => ?_)
    go_simp
    refine hK.out _ _ ?_
    clear hK K
    refine anyZ_done (by kernel_rfl) ?_ _
    refine NoPanic.normal ?_
    go_wp2
    go_ret
    exact ⟨rfl, hHeld.bel⟩

set_option maxHeartbeats 1000000 in
theorem indexF_i (A : Option Addr) (c : Nat) (L : List Nat) (m : Mm.Gr) (g : Nat) (w : World) (h : Rn.At Hi.encI w A (L.map fun j => ((j : Nat) : Int) + 1)) (hl : L.length ≤ 300) (h32 : ∀ j ∈ L, j < 32) (hm : Mm.Ok m) (hg : MatAt w g m 36) :
    Calls Try.prog 18 #[.slice A L.length c, .func (.func 19) #[] #[.pointer (some ⟨g, 0, none⟩)]] w fun e w' => (∃ v, e = .returned (.int .i64 v) ∧ ((v = -1 ∧ ∀ j ∈ L, Mm.ins m j ≠ 0) ∨ ∃ (k j : Nat), v = (k : Int) ∧ L[k]? = some j ∧ Mm.ins m j = 0 ∧ ∀ (i z : Nat), i < k → L[i]? = some z → Mm.ins m z ≠ 0)) ∧ Below w.heap.size w w' := by
  have H := Lib.hid h
  have HG := Lib.hid hg
  have H32 := Lib.hid h32
  clear h hg h32
  have hN : (L.length : Int) ≤ 300 := by omega
  go_enter Try.func18, Try.ntmps18
  go_wp2
  go_loopw [8] (fun i wr => ∃ k : Nat, k ≤ L.length ∧ i = .int .i64 k ∧ Aside (Below w.heap.size w wr) ∧ Aside (∀ (i z : Nat), i < k → L[i]? = some z → Mm.ins m z ≠ 0)) (fun i _ => L.length - (intOf i).toNat)
  case atStart => exact ⟨0, Nat.zero_le _, rfl, Below.refl _ _, fun j z hj => absurd hj (Nat.not_lt_zero _)⟩
  case round =>
    obtain ⟨k, hk, rfl, HW, HN⟩ := hrel
    by_cases hlt : k < L.length
    · obtain ⟨j, hz⟩ : ∃ z, L[k]? = some z := ⟨_, List.getElem?_eq_getElem hlt⟩
      have hz' : (L.map fun j => ((j : Nat) : Int) + 1)[k]? = some ((j : Int) + 1) := by rw [List.getElem?_map, hz]; rfl
      obtain ⟨ad, rfl, c0⟩ := atI (H.out.below HW.out (Nat.le_refl _)) hz'
      have hj := H32.out j (List.mem_of_getElem? hz)
      have HZ := Lib.hid hz
      have HJ := Lib.hid hj
      clear hz hz' hj
      have hlt' : (k : Int) < (L.length : Int) := by omega
      have h0 : (0 : Int) ≤ (k : Int) := by omega
      by_cases e : Mm.ins m j = 0
      · have HE := Lib.hid e
        have hd : decide (Mm.ins m j = 0) = true := by simpa using e
        clear e
        go_wp2_with fail
        refine (findL_j m g j wr hm HJ.out (HG.out.below HW.out)).mono ?_
        rw [hd]
        rintro r w2 ⟨rfl, hb⟩
        have HB2 := Lib.hid (HW.out.trans (hb.mono HW.out.size))
        clear hb
        go_wp2
        go_ret
        exact ⟨⟨_, rfl, .inr ⟨k, j, rfl, HZ.out, HE.out, HN.out⟩⟩, HB2.out⟩
      · have HE := Lib.hid e
        have hd : decide (Mm.ins m j = 0) = false := by simpa using e
        clear e
        go_wp2_with fail
        refine (findL_j m g j wr hm HJ.out (HG.out.below HW.out)).mono ?_
        rw [hd]
        rintro r w2 ⟨rfl, hb⟩
        have HB2 := Lib.hid (HW.out.trans (hb.mono HW.out.size))
        clear hb c0
        go_wp2
        go_roundw
        case rel =>
          refine ⟨k + 1, by omega, by go_num, HB2.out, (show Aside _ from fun i z hi hz => ?_)⟩
          by_cases e : i = k
          · subst e
            rw [HZ.out] at hz
            obtain rfl := Option.some.inj hz
            exact HE.out
          · exact HN.out i z (by omega) hz
        case measure => simp [intOf]; omega
    · have hlt' : ¬ (k : Int) < (L.length : Int) := by omega
      have HB := Lib.hid HW.out
      go_wp2
      go_ret
      refine ⟨⟨_, rfl, .inl ⟨rfl, fun j hj => ?_⟩⟩, HB.out⟩
      obtain ⟨i, hi⟩ := List.mem_iff_getElem?.1 hj
      exact HN.out i j (by have := (List.getElem?_eq_some_iff.1 hi).1; omega) hi
end Go.Proofs.Ytaonepbongbhoaa.Jd
