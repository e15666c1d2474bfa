/-
  slices.Sort of at most twelve numbers; the times of a table of at most twelve unlike times.
-/
import Derived.Test.YtdolceefbikppaaDoorChh
import Derived.Test.YtdolceefbikppaaDoorPtb
set_option linter.unusedVariables false
set_option linter.unusedSimpArgs false
set_option maxRecDepth 100000
namespace Go.Proofs.YtdolceefbikppaaDoor
open Go.RowKit Go.Shelf
attribute [local go_sem ↓] Go.wp_at_zero Go.wp_at_succ
attribute [local go_sem] cell_ext
theorem ins_zero (A : Option Addr) (c : Nat) (w : World) : Calls Tryd.prog 35 #[.slice A 0 c, .int .i64 0, .int .i64 0] w fun e w' => e = .returned (.tuple #[]) ∧ w' = w := by
  go_enter Tryd.func35, Tryd.ntmps35
  go_wp2_with fail
  go_loopw [6] (fun x wx => x = .int .i64 1 ∧ wx = w) (fun _ _ => 0)
  case atStart => exact ⟨rfl, rfl⟩
  case round =>
    obtain ⟨rfl, rfl⟩ := hrel
    go_wp2
    go_end0
    exact ⟨rfl, rfl⟩
set_option maxHeartbeats 2000000 in
theorem pdq_any (A : Option Addr) (n c : Nat) (z : Int) (w : World) (R : World → Prop) (hn : n ≤ 12) (HI : Calls Tryd.prog 35 #[.slice A n c, .int .i64 0, .int .i64 (n : Nat)] w fun e w' => e = .returned (.tuple #[]) ∧ R w') : Calls Tryd.prog 33 #[.slice A n c, .int .i64 0, .int .i64 (n : Nat), .int .i64 z] w fun e w' => e = .returned (.tuple #[]) ∧ R w' := by
  have CI := Lib.hid HI
  clear HI
  have h12 : (n : Int) ≤ 12 := by omega
  go_enter Tryd.func33, Tryd.ntmps33
  go_wp2_with fail
  go_loopw [1, 2, 3] (fun x y v wx => x = .int .i64 0 ∧ y = .int .i64 (n : Nat) ∧ v = .int .i64 z ∧ wx = w) (fun _ _ _ _ => 0)
  case atStart => exact ⟨rfl, rfl, rfl, rfl⟩
  case round =>
    obtain ⟨rfl, rfl, rfl, rfl⟩ := hrel
    go_wp2_with (go_at_call 35; (with_reducible refine CI.out.mono ?_); rintro e w' ⟨rfl, hR⟩)
    refine bodyPost_ret (results_none rfl _ _ _) rfl ?_
    exact ⟨rfl, hR⟩
theorem sort_any (A : Option Addr) (n c : Nat) (w : World) (R : World → Prop) (hn : n ≤ 12) (HI : Calls Tryd.prog 35 #[.slice A n c, .int .i64 0, .int .i64 (n : Nat)] w fun e w' => e = .returned (.tuple #[]) ∧ R w') : Calls Tryd.prog 30 #[.slice A n c] w fun e w' => e = .returned (.tuple #[]) ∧ R w' := by
  have CP := Lib.hid (fun z => pdq_any A n c z w R hn HI)
  have CB := Lib.hid (fun (W : World) => Any.bits_Len lays125 (n : Int) W (by omega) (by omega))
  clear HI
  go_enter Tryd.func30, Tryd.ntmps30
  go_wp2_with (first
    | (go_at_call 34; refine (CB.out _).mono ?_; rintro e w' ⟨rfl, rfl⟩)
    | (go_at_call 33; refine (CP.out _).mono ?_; rintro e w' ⟨rfl, hR⟩))
  go_end0
  exact ⟨rfl, hR⟩
theorem sort_own {base c : Nat} {A : Option Addr} {xs : List Nat} {w : World} (h : Ow 23 1 base w A xs.length c (wds xs)) (hn : xs.length ≤ 12) : Calls Tryd.prog 30 #[.slice A xs.length c] w fun e w' => e = .returned (.tuple #[]) ∧ ∃ ys, Row w' A xs.length (wds ys) ∧ Srtd xs ys ∧ Below base w w' ∧ (∀ ad, A = some ad → 0 < xs.length → base ≤ ad.block) := by
  rcases Nat.eq_zero_or_pos xs.length with h0 | h0
  · have hx : xs = [] := List.eq_nil_of_length_eq_zero h0
    subst hx
    have := sort_any A 0 c w (fun w' => w' = w) (by omega) (ins_zero A c w)
    refine this.mono ?_
    rintro e w' ⟨he, rfl⟩
    exact ⟨he, [], Row.nil _ _, ⟨rfl, fun _ => Iff.rfl, fun a b h1 h2 => absurd h2 (by simp)⟩, (Below.refl _ _).mono h.base, fun ad _ h => absurd h (by simp)⟩
  · obtain ⟨g, rfl, hg, hA⟩ := ow_ar h h0
    have := sort_any (some ⟨g, 0, none⟩) xs.length c w (fun w' => ∃ ys, Ar w' g c ys ∧ Srtd xs ys ∧ Only (fun i => i = g) w w') hn (ins_any g xs.length c xs w hA rfl (by omega))
    refine this.mono ?_
    rintro e w' ⟨he, ys, h1, h2, h3⟩
    refine ⟨he, ys, ?_, h2, h3.below h.base (fun i e => by omega), fun ad e _ => by injection e with e; subst e; exact hg⟩
    have := h1.row
    rwa [h2.len] at this
set_option maxHeartbeats 2000000 in
theorem sorted_any (Bm : Nat) (L : List Nat) (w : World) (hK : Ks w Bm L) (hlen : L.length ≤ 12) :
    Calls Tryd.prog 27 #[.func (.func 31) #[] #[.pointer (some ⟨Bm, 0, none⟩)]] w fun e w' => ∃ (A : Option Addr) (c : Nat) (ys : List Nat), e = .returned (.slice A ys.length c) ∧ Row w' A ys.length (wds ys) ∧ Srtd L ys ∧ Below w.heap.size w w' := by
  have CC := Lib.hid (collect_any Bm L w hK (by omega))
  clear hK
  go_enter Tryd.func27, Tryd.ntmps27
  go_wp2_with (first
    | (go_at_call 29; (with_reducible refine CC.out.mono ?_); rintro e w1 ⟨A, c, ss, hp, rfl, ho, hb1⟩; have CS := Lib.hid (sort_own ho (by rw [hp.length_eq]; exact hlen)); have HB1 := Lib.hid hb1; have HP := Lib.hid hp; clear ho hb1 hp)
    | (go_at_call 30; (with_reducible refine CS.out.mono ?_); rintro e w2 ⟨rfl, ys, hr2, hs2, hb2, hq2⟩))
  go_ret
  exact ⟨A, c, ys, by rw [hs2.len]; rfl, by rw [hs2.len]; exact hr2, ⟨by rw [hs2.len, HP.out.length_eq], fun x => (hs2.mem x).trans HP.out.mem_iff, hs2.rise⟩, HB1.out.trans hb2⟩
/-- A pointer to a table whose map is this. -/
structure Cm (w : World) (p m : Option Nat) : Prop where
  out : ∀ W, Below w.heap.size w W → Calls Tryd.prog 26 #[.pointer (p.map fun g => ⟨g, 0, none⟩)] W fun e w' => e = .returned (.map m) ∧ W = w'
theorem Cm.some {base g : Nat} {w : World} {m : Option Nat} {l : D.Ps} (h : Tab base w g m l) : Cm w (some g) m := ⟨fun W hW => counts_any (h.on hW)⟩
theorem Cm.nil (w : World) : Cm w none none := ⟨fun W _ => counts_nil W⟩
theorem times_any {w : World} {p m : Option Nat} (h : Cm w p m) {L : List Nat} (hK : ∀ b, m = some b → ∃ f, MpAt w b L f) (hN : m = none → L = []) (hL : L.length ≤ 12) :
    Calls Tryd.prog 17 #[.pointer (p.map fun g => ⟨g, 0, none⟩)] w fun e w' => ∃ (A : Option Addr) (c : Nat) (ys : List Nat), e = .returned (.slice A ys.length c) ∧ Row w' A ys.length (wds ys) ∧ Srtd L ys ∧ Below w.heap.size w w' := by
  have CC := Lib.hid (h.out w (Below.refl _ _))
  have CK := Lib.hid (mkeys_any m w)
  have b1 := below_alloc_ w (.cells #[.map m] 25)
  have hc := (Blk.new w 25 #[.map m]).cell
  have hKs : Ks (w.alloc (.cells #[.map m] 25)) w.heap.size L := by
    cases m with
    | none => rw [hN rfl]; exact ks_none hc
    | some b =>
      obtain ⟨f, hM⟩ := hK b rfl
      exact ks_some hc (hM.on b1)
  have CS := Lib.hid (sorted_any w.heap.size L _ hKs hL)
  have HB := Lib.hid b1
  clear h hK hN b1 hc hKs
  go_enter Tryd.func17, Tryd.ntmps17
  go_wp2_with (first
    | (go_at_call 26; (with_reducible refine CC.out.mono ?_); rintro e w1 ⟨rfl, rfl⟩)
    | (go_at_call 28; (with_reducible refine CK.out.mono ?_); rintro e w2 ⟨rfl, rfl⟩)
    | (go_at_call 27; (with_reducible refine CS.out.mono ?_); rintro e w3 ⟨A, c, ys, rfl, hr, hs, hb⟩))
  go_ret
  exact ⟨A, c, ys, rfl, hr, hs, HB.out.trans (hb.mono HB.out.size)⟩
end Go.Proofs.YtdolceefbikppaaDoor
