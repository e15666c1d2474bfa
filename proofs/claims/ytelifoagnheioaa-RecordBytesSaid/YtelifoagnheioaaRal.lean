/-
  The program's All.
-/
import Derived.Test.YtelifoagnheioaaRrd
set_option linter.unusedVariables false
set_option linter.unusedSimpArgs false
set_option maxRecDepth 100000
namespace Go.Proofs.Ytelifoagnheioaa
open Go.RowKit
attribute [local go_sem ↓] Go.wp_at_zero Go.wp_at_succ ld_r st_r bd_r ne_r bs_r
attribute [local go_sem] run_ldr run_str run_bdr1 run_bdr0 run_bsr1 run_ner Shp.rd_new Shp.rd_old Shp.tn_new Shp.tn_old setRow_alloc setRow_alloc2

/-- Where reading leads: these records, up to this place. -/
inductive D.Path (l : List Nat) : List D.Rc → Nat → Prop
  | nil : D.Path l [] 0
  | snoc {L : List D.Rc} {n : Nat} : D.Path l L n → n < l.length → (D.rdr l n).e = 0 → D.Path l (L ++ [(D.rdr l n).r]) (D.rdr l n).n
/-- What all bytes are read as. -/
inductive D.AllC (l : List Nat) : List D.Rc → Nat → Prop
  | fine {L : List D.Rc} {n : Nat} : D.Path l L n → l.length ≤ n → D.AllC l L 0
  | wrong {L : List D.Rc} {n : Nat} : D.Path l L n → n < l.length → (D.rdr l n).e ≠ 0 → D.AllC l [] (D.rdr l n).e
theorem D.rby_pos (r : D.Rc) : 1 ≤ (D.rby r).length := by rw [D.rby, List.length_cons]; omega
theorem D.rdr_more {l : List Nat} (hl : ∀ b ∈ l, b < 256) {n : Nat} (hn : n < l.length) (h : (D.rdr l n).e = 0) : n < (D.rdr l n).n := by
  obtain ⟨_, h1, _⟩ := D.rdr_just hl h
  have h2 := congrArg List.length h1
  rw [List.length_append, List.length_drop, List.length_drop] at h2
  have := D.rby_pos (D.rdr l n).r
  omega
theorem D.path_len {l : List Nat} {L : List D.Rc} {n : Nat} (hl : ∀ b ∈ l, b < 256) (h : D.Path l L n) : L.length ≤ n := by
  induction h with
  | nil => simp
  | snoc p hn he ih =>
    have := D.rdr_more hl hn he
    simp; omega
theorem rec_under : Try.prog.underlying 22 = some (.slice 28) := by kernel_rfl
theorem rec_info : (Try.prog.info? 28).map (fun i => (i.zero, i.size, i.bytes)) = some (some (.agg (rS.v D.zRc)), 9, 40) := by kernel_rfl
theorem ow_only {T : TypeId} {sz base n c : Nat} {S : Nat → Prop} {w w' : World} {A : Option Addr} {xs : List Value} (h : Ow T sz base w A n c xs) (k : Only S w w') (hS : ∀ i, (Value.slice A n c).ownBlock = some i → ¬ S i) : Ow T sz base w' A n c xs :=
  h.kept k.size fun g hg => k.block g (h.lt g hg).2 (hS g hg)
theorem rw_one (w : World) (H : Nat) (x : D.Rc) (hH : w.heap.size = H) : Rw 9 (w.alloc (.cells (rS.v x) 28)) (some ⟨H, 0, none⟩) 1 (rS.rcs [x]) := by
  subst hH
  have := rw_new w 9 28 1 (rS.v x) (by rw [rS.v_size]; rfl)
  simpa [Shp.v, Shp.rcs] using this
def lenOf : Value → Nat
  | .slice _ m _ => m
  | _ => 0
theorem rb_one_rd (w : World) (r : D.Rc) : rS.rd (w.alloc (.cells (rS.v r) 28)) ⟨w.heap.size, 0, none⟩ = some r := (RB.new w w.heap.size r rfl).rd
/-- What All answers. -/
def Alc (l : List Nat) (w : World) (en : Ending) (w' : World) : Prop := ∃ (L : List D.Rc) (e : Nat) (B : Option Addr) (m d : Nat), D.AllC l L e ∧ en = .returned (.tuple #[.slice B m d, .int .i64 (e : Nat)]) ∧ Rw 9 w' B m (rS.rcs L) ∧ Below w.heap.size w w'
set_option maxHeartbeats 8000000 in
theorem all_any (l : List Nat) (A : Option Addr) (n c : Nat) (w : World) (hl : ∀ b ∈ l, b < 256) (hr : Row w A n (bys l)) (hn : n ≤ 100000) :
    Calls Try.prog 18 #[.slice A n c] w (Alc l w) := by
  have hlen := hr.len
  rw [bys_len] at hlen
  have CN := Lib.hid (new_reader n c A l w hr ⟨hl⟩ (by omega))
  have HL := Lib.hid hl
  have HLEN := Lib.hid hlen
  clear hl hr hlen
  go_enter Try.func18, Try.ntmps18
  go_wp2_with (first
    | (go_at_call 30; (with_reducible refine CN.out.mono ?_); rintro en w1 ⟨q, B, d, rfl, h1, hq, hA, b1⟩
       have H1 := Lib.hid h1
       have HQ := Lib.hid hq
       have B1 := Lib.hid b1
       have HA := Lib.hid (show ∀ ad, B = some ad → ad.block < w1.heap.size from fun ad e => (hA ad.block ⟨ad, e, rfl⟩).2)
       clear h1 hq hA b1))
  obtain ⟨H, hH⟩ : ∃ H, w1.heap.size = H := ⟨_, rfl⟩
  have HH := Lib.hid hH
  have LQ := Lib.hid (show q < H by rw [← hH]; exact H1.out.blk.lt)
  clear hH CN
  go_loopw [4] (fun acc wr => ∃ (L : List D.Rc) (p : Nat) (A' : Option Addr) (m c' : Nat), acc = .slice A' m c' ∧ D.Path l L p ∧ Rd wr q B n d l p 0 ∧ Ow 28 9 H wr A' m c' (rS.rcs L) ∧ Only (fun i => i = q) w1 wr ∧ L.length = m ∧ (∀ x ∈ L, x.wf)) (fun acc _ => n + 1 - lenOf acc)
  case atStart => exact ⟨[], 0, none, 0, 0, rfl, .nil, H1.out, Ow.nil _ _ (by rw [HH.out]; exact Nat.le_refl _), Only.self _ _, rfl, fun x hx => by cases hx⟩
  case round =>
    obtain ⟨L, p, A', m, c', rfl, hp, r0, o0, k0, hm, hwf⟩ := hrel
    have R0 := Lib.hid r0
    have O0 := Lib.hid o0
    have K0 := Lib.hid k0
    have HP := Lib.hid hp
    have HM := Lib.hid hm
    have HW := Lib.hid hwf
    have hpn := r0.le
    have hmp := D.path_len HL.out hp
    have CL := Lib.hid (left_any q n d p 0 B wr r0.blk hpn (by omega))
    have HB := Lib.hid (show ∀ ad, B = some ad → ad.block < wr.heap.size from fun ad e => Nat.lt_of_lt_of_le (HA.out ad e) k0.size)
    have HHs := Lib.hid (show H ≤ wr.heap.size by rw [← HH.out]; exact k0.size)
    clear r0 o0 k0 hp hwf
    by_cases hlt : p < n
    · obtain ⟨j, hj⟩ : ∃ j, n - p = j := ⟨_, rfl⟩
      rw [hj] at CL
      have j1 : (0 : Int) < (j : Int) := by omega
      obtain ⟨o, ho⟩ : ∃ o, D.rdr l p = o := ⟨_, rfl⟩
      have CT := fun W (h1 : Rd W q B n d l p 0) (h2 : ∀ ad, B = some ad → ad.block < W.heap.size) => take_any q n d p B l W HL.out h2 h1
      rw [ho] at CT
      have HO := Lib.hid ho
      have hmore := fun he => D.rdr_more (n := p) HL.out (by rw [HLEN.out]; exact hlt) he
      have hjust := fun he => D.rdr_just (n := p) HL.out he
      rw [ho] at hmore hjust
      have HJ := Lib.hid hjust
      obtain ⟨r, k, e⟩ := o
      simp only at hmore
      have HMo := Lib.hid hmore
      clear ho hmore hjust
      by_cases h0 : e = 0
      · subst h0
        have CT0 : Hid (∀ W, Rd W q B n d l p 0 → (∀ ad, B = some ad → ad.block < W.heap.size) → Calls Try.prog 31 #[.pointer (some ⟨q, 0, none⟩)] W fun en w' => en = .returned (.tuple #[.agg (rS.v r), .int .i64 0]) ∧ (0 = 0 → Rd w' q B n d l k 0) ∧ Only (fun i => i = q) W w') := Lib.hid CT
        clear CT
        go_wp2_with (first
          | (go_at_call 32; (with_reducible refine CL.out.mono ?_); rintro en w2 ⟨rfl, u, hu⟩
             have b2 : Below wr.heap.size wr w2 := by rw [hu]; exact below_drewN (Below.refl _ _) u
             have B2 := Lib.hid b2
             clear hu b2)
          | (go_at_call 31; (with_reducible refine (CT0.out _ (R0.out.on B2.out) (fun ad e => Nat.lt_of_lt_of_le (HB.out ad e) B2.out.size)).mono ?_); rintro en w3 ⟨rfl, h3, k3⟩
             have H3 := Lib.hid ((h3 (by trivial)).on (below_alloc w3 (.cells (rS.v r) 28)))
             have K3 := Lib.hid ((Only.off B2.out k3).on (below_alloc w3 (.cells (rS.v r) 28)))
             have O3 := Lib.hid ((ow_only (O0.out.on B2.out) k3 (fun i hi e => by have h1 := O0.out.block_le i hi; have h2 := LQ.out; omega)).on (below_alloc w3 (.cells (rS.v r) 28)))
             have rr := rb_one_rd w3 r
             clear h3 k3)
          | (at_builtin; refine gapp _ rec_under rec_info (by rw [Value.cells, rS.v_size]; rfl) (by decide) (by decide) rfl (.tmp 21) (.tmp 23) rfl rfl (O3.out.alloc _) rfl (rw_one _ _ r (by simp)) (fun u hu => rS.rcs_one _ u hu) (by omega) ?_; intro A4 c4 w4 ho4 hg4 hat4))
        have hPath := D.Path.snoc HP.out (by rw [HLEN.out]; exact hlt) (by rw [HO.out])
        rw [HO.out] at hPath
        have kG : Only (fun i => H ≤ i) ((w3.alloc (.cells (rS.v r) 28)).alloc (.cells (rS.v r) 28)) w4 := (Only.self _ _).grown hg4 (fun i hi => .inl (O3.out.block_le i hi))
        refine ⟨⟨L ++ [r], k, A4, m + 1, c4, rfl, hPath, ?_, ?_, ?_, by simp [HM.out], ?_⟩, ?_⟩
        · exact (H3.out.on (below_alloc _ _)).only kG (fun e => by have := LQ.out; omega) (fun ad e h => by have h1 := HA.out ad e; have h2 := HH.out; omega)
        · rw [rS.rcs_app]
          exact ho4
        · exact (((K0.out.trans K3.out (fun i h => .inl h)).on (below_alloc _ _)).grown hg4 (fun i hi => .inr (by have h1 := O3.out.block_le i hi; have h2 := HH.out; omega)))
        · intro x hx
          rcases List.mem_append.1 hx with hx | hx
          · exact HW.out x hx
          · obtain rfl : x = r := by simpa using hx
            exact (HJ.out (by first | trivial | rfl)).2.2
        · simp only [lenOf]
          omega
      · have hb : ((e : Int) != 0) = true := by simp; exact h0
        have CT0 : Hid (∀ W, Rd W q B n d l p 0 → (∀ ad, B = some ad → ad.block < W.heap.size) → Calls Try.prog 31 #[.pointer (some ⟨q, 0, none⟩)] W fun en w' => en = .returned (.tuple #[.agg (rS.v r), .int .i64 (e : Nat)]) ∧ (e = 0 → Rd w' q B n d l k 0) ∧ Only (fun i => i = q) W w') := Lib.hid CT
        clear CT
        go_wp2_with (first
          | (go_at_call 32; (with_reducible refine CL.out.mono ?_); rintro en w2 ⟨rfl, u, hu⟩
             have b2 : Below wr.heap.size wr w2 := by rw [hu]; exact below_drewN (Below.refl _ _) u
             have B2 := Lib.hid b2
             clear hu b2)
          | (go_at_call 31; (with_reducible refine (CT0.out _ (R0.out.on B2.out) (fun ad e => Nat.lt_of_lt_of_le (HB.out ad e) B2.out.size)).mono ?_); rintro en w3 ⟨rfl, h3, k3⟩
             have K3 := Lib.hid ((Only.off B2.out k3).on (below_alloc w3 (.cells (rS.v r) 28)))
             clear h3 k3))
        go_ret2
        have hA := D.AllC.wrong HP.out (by rw [HLEN.out]; exact hlt) (by rw [HO.out]; exact h0)
        rw [HO.out] at hA
        have hq := HQ.out
        exact ⟨[], e, none, 0, 0, hA, rfl, Rw.nil _ _ _, B1.out.trans ((K0.out.trans K3.out (fun i h => .inl h)).below B1.out.size (fun i hi => by omega))⟩
    · have hj : n - p = 0 := by omega
      rw [hj] at CL
      have CL' : Hid (Calls Try.prog 32 #[.pointer (some ⟨q, 0, none⟩)] wr fun en w' => en = .returned (.int .i64 0) ∧ ∃ u, w' = wr.drewN u) := CL
      go_wp2_with (first
        | (go_at_call 32; (with_reducible refine CL'.out.mono ?_); rintro en w2 ⟨rfl, u, hu⟩
           have b2 : Below wr.heap.size wr w2 := by rw [hu]; exact below_drewN (Below.refl _ _) u
           have B2 := Lib.hid b2
           clear hu b2))
      go_ret2
      have hA := D.AllC.fine HP.out (by rw [HLEN.out]; omega)
      have hq := HQ.out
      exact ⟨L, 0, A', m, c', hA, rfl, (O0.out.to_row).on B2.out, B1.out.trans ((K0.out.on B2.out).below B1.out.size (fun i hi => by omega))⟩
end Go.Proofs.Ytelifoagnheioaa
