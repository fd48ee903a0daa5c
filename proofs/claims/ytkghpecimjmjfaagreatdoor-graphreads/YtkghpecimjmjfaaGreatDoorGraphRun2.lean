/-
  The contract of run.
-/
import Derived.Test.YtkghpecimjmjfaaGreatDoorJEd
namespace Go.Proofs.YtkghpecimjmjfaaGreatDoor.En
open Go.RowKit
attribute [local go_sem ↓] Go.wp_at_zero Go.wp_at_succ
theorem new_liveI (n v : Int) (w : World) (hn : 1 ≤ n ∧ n ≤ 32) (hv : 0 ≤ v ∧ v ≤ 64) : Calls Tryz.prog 11 #[.int .i64 n, .int .i64 v] w fun e w' => ∃ b, e = .returned (.pointer (some ⟨b, 0, none⟩)) ∧ Live w (fun _ => False) b 0 0 (new n v) w' := by
  obtain ⟨k, rfl⟩ := Int.eq_ofNat_of_zero_le hv.1
  exact new_live n k w hn (by omega)
/-- a world behind the first look: the engine is as new as before it. -/
theorem Live.since {w w1 w2 : World} {P : Nat → Prop} {b N : Nat} {K : Int} {g : Eng} (hb : Below w.heap.size w w1) (h : Live w1 P b N K g w2) : Live w P b N K g w2 := by
  obtain ⟨F, hE, hF⟩ := h.ex
  exact ⟨⟨F, hE, fun k hk => ⟨Nat.le_trans hb.size (hF k hk).1, (hF k hk).2⟩⟩, hb.trans (h.bel.mono hb.size), h.pl, h.inv⟩
theorem gact_info : (Tryz.prog.info? 45).map (fun i => (i.zero, i.size)) = some (some (.agg #[.int .u8 0, .int .i64 0, .int .i64 0, .int .i64 0, .int .i64 0]), 5) := by kernel_rfl
set_option maxHeartbeats 4000000 in
set_option maxRecDepth 100000 in
theorem run_any (s v : Nat) (A : Option Addr) (N c : Nat) (l : Nat → Act) (w : World) (hs : s < 256) (hv : v < 256) (hl : ActsAt w A N c l) (hN : N ≤ 150) (hT : TabAt w) :
    Calls Tryz.prog 23 #[.int .u8 (s : Nat), .int .u8 (v : Nat), .slice A N c] w fun e w' => ∃ b, e = .returned (.pointer (some ⟨b, 0, none⟩)) ∧ Live w (fun _ => False) b N (N : Nat) (runE (1 + ((s % 32 : Nat) : Int)) (1 + ((v % 9 : Nat) : Int)) l N) w' := by
  have HT := Lib.hid hT
  have HL := Lib.hid hl
  have hz := (zero_of_info gact_info).1
  have hr1 : (s : Int).tmod 32 = ((s % 32 : Nat) : Int) := u8_rem s 32 (by decide)
  have hr2 : (v : Int).tmod 9 = ((v % 9 : Nat) : Int) := u8_rem v 9 (by decide)
  have hb1 : s % 32 < 32 := Nat.mod_lt _ (by decide)
  have hb2 : v % 9 < 9 := Nat.mod_lt _ (by decide)
  generalize s % 32 = r1 at *
  generalize v % 9 = r2 at *
  clear hT hl
  go_enter Tryz.func23, Tryz.ntmps23
  go_wp2_with fail
  refine (new_liveI (1 + (r1 : Nat)) (1 + (r2 : Nat)) w ⟨by omega, by omega⟩ ⟨by omega, by omega⟩).mono ?_
  rintro e w1 ⟨b, rfl, hl1⟩
  have H1 := Lib.hid hl1
  have hn : (N : Int) ≤ 9223372036854775807 := by omega
  clear hl1
  go_wp2
  go_loopw [21] (RunRel w (1 + ((r1 : Nat) : Int)) (1 + ((r2 : Nat) : Int)) l N b) (fun i _ => N - (intOf i).toNat)
  case atStart => exact ⟨0, Nat.zero_le _, rfl, H1.out⟩
  case round =>
    obtain ⟨k, hk, rfl, hst⟩ := hrel
    have HS := Lib.hid hst
    clear hst
    by_cases hlt : k < N
    · obtain ⟨ad, rfl, hok, hkd, ha⟩ := HL.out.at_ hlt
      generalize hx : l k = x at *
      have HX := Lib.hid hx
      have HA := Lib.hid hok
      have HAT := Lib.hid (ha.below HS.out.bel (Nat.le_refl _))
      have c0 := HAT.out.c0
      have c1 := HAT.out.c1
      have c2 := HAT.out.c2
      have c3 := HAT.out.c3
      have c4 := HAT.out.c4
      have hlt' : (k : Int) < (N : Int) := by omega
      have HS4 := Lib.hid (HS.out.below (Tx.below_new wr (.cells (actA x) 45)))
      unfold actA at HS4
      clear hx hok hkd ha HAT
      go_wp2_with fail
      refine (does_any HS4.out (by omega) (by omega) HT.out HA.out).mono ?_
      rintro e w5 ⟨rfl, hl5, _⟩
      rw [← runE_next HX.out] at hl5
      have H5 := Lib.hid hl5
      clear hl5 HS HS4 c0 c1 c2 c3 c4
      go_wp2
      exact ⟨⟨k + 1, by omega, by go_num, H5.out⟩, by simp [intOf]; omega⟩
    · obtain rfl : k = N := by omega
      go_wp2
      go_ret
      exact ⟨b, rfl, HS.out⟩
end Go.Proofs.YtkghpecimjmjfaaGreatDoor.En
