/-
  Pin.
-/
import Derived.Test.YtdolceefbikppaaDoorPpn
set_option linter.unusedVariables false
set_option linter.unusedSimpArgs false
set_option maxRecDepth 100000
namespace Go.Proofs.YtdolceefbikppaaDoor
open Go.RowKit
attribute [local go_sem ↓] Go.wp_at_zero Go.wp_at_succ
/-- Behind Pin: the pins, the number, the error. -/
def D.put (l : D.Ps) (t : Nat) : D.Ps := if D.fr l < 64 then l.set (D.fr l) (some t) else l
def D.pid (l : D.Ps) : Nat := if D.fr l < 64 then D.fr l else 0
def D.per (l : D.Ps) : Nat := if D.fr l < 64 then 0 else 6
theorem D.put_len (l : D.Ps) (t : Nat) : (D.put l t).length = l.length := by unfold D.put; split <;> simp
theorem lt_set {l : D.Ps} {i t : Nat} (h : ∀ x, some x ∈ l → x < 18446744073709551616) (ht : t < 18446744073709551616) : ∀ x, some x ∈ l.set i (some t) → x < 18446744073709551616 := by
  intro x hx
  rcases List.mem_or_eq_of_mem_set hx with hx | hx
  · exact h x hx
  · injection hx with hx; subst hx; exact ht
theorem ts_set {l : D.Ps} {ts : List Nat} {k t : Nat} (h : ∀ i x : Nat, l[i]? = some (some x) → ts[i]? = some x) (hk : k < ts.length) : ∀ i x : Nat, (l.set k (some t))[i]? = some (some x) → (ts.set k t)[i]? = some x := by
  intro i x hx
  rw [List.getElem?_set] at hx ⊢
  by_cases e : k = i
  · subst e
    rw [if_pos rfl] at hx ⊢
    split at hx
    · injection hx with hx; injection hx with hx; subst hx; rw [if_pos hk]
    · cases hx
  · rw [if_neg e] at hx ⊢
    exact h i x hx
/-- What a table is behind a call that took it on. -/
def TabTo (base : Nat) (w : World) (g : Nat) (m : Option Nat) (l : D.Ps) (w' : World) : Prop := ∃ m', Tab base w' g m' l ∧ (∀ b, m' = some b → m = some b ∨ w.heap.size ≤ b) ∧ Only (Tf g m) w w'
theorem cnt_put {base : Nat} {w : World} {l : D.Ps} {b t i : Nat} {K : List Nat} (hi : l[i]? = some none) (hb : base ≤ b) (hM : MpAt w b (if t ∈ K then K else t :: K) (fun y => if y = t then D.cn l t + 1 else D.cn l y)) (hK : ∀ x, x ∈ K ↔ 0 < D.cn l x) : Cnt base w (some b) (l.set i (some t)) :=
  ⟨fun e => by (cases e), fun b' e => by
    injection e with e
    subst e
    refine ⟨hb, _, hM.same fun x _ => ?_, fun x => ?_⟩
    · rw [D.cn_put hi]
      by_cases e : t = x
      · subst e; simp
      · rw [if_neg e, if_neg (fun e' => e e'.symm)]
    · rw [D.cn_put hi]
      by_cases e : t = x
      · subst e
        rw [if_pos rfl]
        refine ⟨fun _ => by omega, fun _ => ?_⟩
        split
        · assumption
        · exact List.mem_cons_self ..
      · have e' : ¬ x = t := fun h => e h.symm
        rw [if_neg e, ← hK x]
        split
        · rfl
        · simp [e']⟩
theorem Tab.keys {base g : Nat} {w : World} {m : Option Nat} {l : D.Ps} (h : Tab base w g m l) {K : List Nat} {b : Nat} {w2 : World} {f : Nat → Nat} (hM : MpAt w2 b K f) (hK : ∀ x, x ∈ K ↔ 0 < D.cn l x) : K.length ≤ 64 := by
  have := D.nodup_len (l := l) hM.nodup fun x hx => D.cn_pos.1 ((hK x).1 hx)
  have := h.len
  omega
set_option maxHeartbeats 4000000 in
theorem pin_any {base g : Nat} {w : World} {m : Option Nat} {l : D.Ps} (h : Tab base w g m l) (hE : Env w) (hs : base ≤ w.heap.size) {t : Nat} (ht : t < 18446744073709551616) :
    Calls Tryd.prog 10 #[.pointer (some ⟨g, 0, none⟩), .int .u64 (t : Nat)] w fun e w' => e = .returned (.tuple #[.int .i64 (D.pid l : Nat), .int .i64 (D.per l : Nat)]) ∧ TabTo base w g m (D.put l t) w' := by
  have hl := h.len
  have hw := D.wd_lt l
  rw [hl] at hw
  have hw : D.wd l < 18446744073709551616 := hw
  have c0 := h.c0
  have cm := h.cm
  have ft := h.f
  have CT := Lib.hid (fun W (hW : Env W) => tz_any (18446744073709551615 - D.wd l) (by omega) W hW)
  rw [D.fr_tz hl, ← not_u64 (D.wd l) hw] at CT
  have hsg : IntKind.u64.signed = false := rfl
  by_cases hf : D.fr l < 64
  · have hfn := D.fr_none (l := l) (by omega)
    have HL := Lib.hid h.lt
    have hle := h.le
    have hp : D.put l t = l.set (D.fr l) (some t) := by unfold D.put; rw [if_pos hf]
    have hi : D.pid l = D.fr l := by unfold D.pid; rw [if_pos hf]
    have he : D.per l = 0 := by unfold D.per; rw [if_pos hf]
    rw [hp, hi, he]
    obtain ⟨k, hk⟩ : ∃ k, D.fr l = k := ⟨_, rfl⟩
    have hw2 := D.wd_or l k t (by omega)
    rw [hk] at hf hfn CT ⊢
    have j1 : (k : Int) < 64 := by omega
    have j0 : (0 : Int) ≤ (k : Int) := by omega
    obtain ⟨ts, hB, hts, htt⟩ := h.blk
    cases m with
    | none =>
      have hn := h.cnt.none_ rfl
      have he : ∀ W : World, (binOp .eql 25 (.map none) (.map none)).run Tryd.prog W = .ok (.bool true) W := fun _ => rfl
      have hmm := @run_makeMap Tryd.prog
      obtain ⟨b, hbs⟩ : ∃ b, w.heap.size = b := ⟨_, rfl⟩
      have B0 := hB.alloc (.map #[] 0)
      have fm := B0.f 65
      have cm1 := B0.c 65
      rw [tc_m _ _ hts] at cm1
      have M0 := (mp_new w).same (f' := D.cn l) (fun x _ => hn x)
      have O0 : Only (Tf g none) w (w.alloc (.map #[] 0)) := (Only.self _ _).alloc _
      rw [hbs] at M0
      have hgb : g ≠ b := by have := hB.lt; omega
      have B1 := B0.put 65 (.map (some b))
      rw [tc_setm _ _ _ _ hts] at B1
      have M1 := M0.to (w' := (w.alloc (.map #[] 0)).setCell ⟨g, 65, none⟩ (.map (some b))) (Below.heap_setCell _ _ _ b (fun e => hgb e.symm))
      have O1 := O0.set (p := ⟨g, 65, none⟩) (.inl (.inl rfl)) (.map (some b))
      have hKm : ∀ x, x ∈ ([] : List Nat) ↔ 0 < D.cn l x := fun x => by rw [hn x]; simp
      have hKl : ([] : List Nat).length ≤ 64 := by simp
      have hbb : base ≤ b := by omega
      obtain ⟨K, hKe⟩ : ∃ K : List Nat, ([] : List Nat) = K := ⟨_, rfl⟩
      rw [hKe] at M1 hKm hKl
      have HBS := Lib.hid hbs
      have c1 := B1.c 0
      rw [tc_0] at c1
      have HB1 := Lib.hid B1
      have HM1 := Lib.hid M1
      have HO1 := Lib.hid O1
      clear h hp hi hk B0 M0 O0 hn hKe hB B1 M1 O1
      go_enter Tryd.func10, Tryd.ntmps10
      go_wp2_with (first
        | (go_at_call 21; (with_reducible refine (CT.out _ hE).mono ?_); rintro e w1 ⟨rfl, rfl⟩)
        | fail)
      clear hmm cm1 fm c1
      have hB := HB1.out
      have hM := HM1.out
      have hO0 := HO1.out
      have hbs := HBS.out
      obtain ⟨W1, hW1⟩ : ∃ W1, (w1.alloc (.map #[] 0)).setCell ⟨g, 65, none⟩ (.map (some b)) = W1 := ⟨_, rfl⟩
      rw [hW1] at hB hM hO0
      try rw [hW1]
      clear hW1 HB1 HM1 HO1
      have c9 := hB.c 0
      rw [tc_0] at c9
      go_still_tail 9, (by kernel_rfl)
      change wpList _ _ _ _ _ W1.drew
      have HV : bits .or .u64 ((D.wd l : Nat) : Int) (IntKind.u64.wrap (2 ^ k)) = ((D.wd (l.set k (some t)) : Nat) : Int) := by
        have hp2 : 2 ^ k < 2 ^ 64 := Nat.pow_lt_pow_right (by decide) (by omega)
        have hp3 : IntKind.u64.wrap (2 ^ k) = ((2 ^ k : Nat) : Int) := by
          rw [cast_pow, IntKind.wrap_u64]
          generalize 2 ^ k = q at hp2
          omega
        rw [hp3, bits_or_u64_nat _ _ hw hp2, hw2]
      rw [HV]
      obtain ⟨W2, hW2⟩ : ∃ W2, W1.drew = W2 := ⟨_, rfl⟩
      rw [hW2]
      have hbd : Below W1.heap.size W1 W2 := by rw [← hW2]; exact (Below.refl _ _).drew
      have B2 := hB.on hbd
      have M2 := hM.on hbd
      have o2 := hO0.on hbd
      clear hW2 hbd c0 cm ft hB hM HV CT hO0
      have f2 := B2.f 0
      have c2 : W2.cell? ⟨g, 0, none⟩ = some (.int .u64 (D.wd l : Nat)) := by rw [B2.c, tc_0]
      have B3 := B2.put 0 (.int .u64 ((D.wd (l.set k (some t)) : Nat) : Int))
      rw [tc_set0] at B3
      have M3 : MpAt (W2.setCell ⟨g, 0, none⟩ (.int .u64 ((D.wd (l.set k (some t)) : Nat) : Int))) b K (D.cn l) := M2.to (Below.heap_setCell _ _ _ b (fun e => hgb e.symm))
      have o3 := o2.set (p := ⟨g, 0, none⟩) (.inl (.inl rfl)) (.int .u64 ((D.wd (l.set k (some t)) : Nat) : Int))
      have f3 := B3.f (1 + k)
      obtain ⟨z, hz⟩ : ∃ z, ts[k]? = some z := ⟨_, List.getElem?_eq_getElem (by omega)⟩
      have c3 := B3.c (1 + k)
      rw [tc_t _ _ hz] at c3
      have B4 := B3.put (1 + k) (.int .u64 (t : Nat))
      rw [tc_sett _ _ _ _ _ (by omega)] at B4
      have M4 := M3.to (w' := (W2.setCell ⟨g, 0, none⟩ (.int .u64 ((D.wd (l.set k (some t)) : Nat) : Int))).setCell ⟨g, 1 + k, none⟩ (.int .u64 (t : Nat))) (Below.heap_setCell _ _ _ b (fun e => hgb e.symm))
      have o4 := o3.set (p := ⟨g, 1 + k, none⟩) (.inl (.inl rfl)) (.int .u64 (t : Nat))
      have c4 := B4.c 65
      rw [tc_m _ _ (by simp [hts])] at c4
      have hlk := M4.look ht
      obtain ⟨W5, hu, M5, hg5⟩ := M4.put (v := D.cn l t + 1) (by omega) ht (by have := D.cn_le l t; omega) ((D.cn l t : Nat) + 1 : Int) rfl
      have o5 := o4.grown hg5 (fun j e => .inr (by injection e with e; omega))
      have B5 := B4.grown hg5 (by intro e; injection e with e; exact hgb e)
      have HM := Lib.hid M5
      have HO := Lib.hid o5
      have HB := Lib.hid B5
      have HTS := Lib.hid htt
      have HCN := D.cn_le l t
      clear M2 M3 M4 M5 o2 o3 o4 o5 B2 B3 B4 B5 hg5 hz htt
      go_wp2_with fail
      exact bodyPost_ret (results_tmp2 rfl _ _ _) rfl ⟨rfl, some b, ⟨⟨_, HB.out, by simp [hts], ts_set HTS.out (by omega)⟩, by simp [hl], lt_set HL.out ht, hle, cnt_put hfn hbb HM.out hKm⟩, fun b' e => .inr (by injection e with e; omega), HO.out⟩

    | some b =>
      obtain ⟨hbb, K, hM, hKm⟩ := h.cnt.some_ b rfl
      have hKl := h.keys hM hKm
      have hgb := hM.no_cells hB
      have hO0 : Only (Tf g (some b)) w w := Only.self _ _
      clear h hp hi he hk
      have he : ∀ W : World, (binOp .eql 25 (.map (some b)) (.map none)).run Tryd.prog W = .ok (.bool false) W := fun _ => rfl
      go_enter Tryd.func10, Tryd.ntmps10
      go_wp2_with (first
        | (go_at_call 21; (with_reducible refine (CT.out _ hE).mono ?_); rintro e w1 ⟨rfl, rfl⟩)
        | fail)
      go_still_tail 9, (by kernel_rfl)
      change wpList _ _ _ _ _ w1.drew
      have HV : bits .or .u64 ((D.wd l : Nat) : Int) (IntKind.u64.wrap (2 ^ k)) = ((D.wd (l.set k (some t)) : Nat) : Int) := by
        have hp2 : 2 ^ k < 2 ^ 64 := Nat.pow_lt_pow_right (by decide) (by omega)
        have hp3 : IntKind.u64.wrap (2 ^ k) = ((2 ^ k : Nat) : Int) := by
          rw [cast_pow, IntKind.wrap_u64]
          generalize 2 ^ k = q at hp2
          omega
        rw [hp3, bits_or_u64_nat _ _ hw hp2, hw2]
      rw [HV]
      obtain ⟨W2, hW2⟩ : ∃ W2, w1.drew = W2 := ⟨_, rfl⟩
      rw [hW2]
      have hbd : Below w1.heap.size w1 W2 := by rw [← hW2]; exact (Below.refl _ _).drew
      have B2 := hB.on hbd
      have M2 := hM.on hbd
      have o2 := hO0.on hbd
      clear hW2 hbd c0 cm ft hB hM HV CT hO0
      have f2 := B2.f 0
      have c2 : W2.cell? ⟨g, 0, none⟩ = some (.int .u64 (D.wd l : Nat)) := by rw [B2.c, tc_0]
      have B3 := B2.put 0 (.int .u64 ((D.wd (l.set k (some t)) : Nat) : Int))
      rw [tc_set0] at B3
      have M3 : MpAt (W2.setCell ⟨g, 0, none⟩ (.int .u64 ((D.wd (l.set k (some t)) : Nat) : Int))) b K (D.cn l) := M2.to (Below.heap_setCell _ _ _ b (fun e => hgb e.symm))
      have o3 := o2.set (p := ⟨g, 0, none⟩) (.inl (.inl rfl)) (.int .u64 ((D.wd (l.set k (some t)) : Nat) : Int))
      have f3 := B3.f (1 + k)
      obtain ⟨z, hz⟩ : ∃ z, ts[k]? = some z := ⟨_, List.getElem?_eq_getElem (by omega)⟩
      have c3 := B3.c (1 + k)
      rw [tc_t _ _ hz] at c3
      have B4 := B3.put (1 + k) (.int .u64 (t : Nat))
      rw [tc_sett _ _ _ _ _ (by omega)] at B4
      have M4 := M3.to (w' := (W2.setCell ⟨g, 0, none⟩ (.int .u64 ((D.wd (l.set k (some t)) : Nat) : Int))).setCell ⟨g, 1 + k, none⟩ (.int .u64 (t : Nat))) (Below.heap_setCell _ _ _ b (fun e => hgb e.symm))
      have o4 := o3.set (p := ⟨g, 1 + k, none⟩) (.inl (.inl rfl)) (.int .u64 (t : Nat))
      have c4 := B4.c 65
      rw [tc_m _ _ (by simp [hts])] at c4
      have hlk := M4.look ht
      obtain ⟨W5, hu, M5, hg5⟩ := M4.put (v := D.cn l t + 1) (by omega) ht (by have := D.cn_le l t; omega) ((D.cn l t : Nat) + 1 : Int) rfl
      have o5 := o4.grown hg5 (fun j e => .inl (.inr e))
      have B5 := B4.grown hg5 (by intro e; injection e with e; exact hgb e)
      have HM := Lib.hid M5
      have HO := Lib.hid o5
      have HB := Lib.hid B5
      have HTS := Lib.hid htt
      have HCN := D.cn_le l t
      clear M2 M3 M4 M5 o2 o3 o4 o5 B2 B3 B4 B5 hg5 hz htt
      go_wp2_with fail
      exact bodyPost_ret (results_tmp2 rfl _ _ _) rfl ⟨rfl, some b, ⟨⟨_, HB.out, by simp [hts], ts_set HTS.out (by omega)⟩, by simp [hl], lt_set HL.out ht, hle, cnt_put hfn hbb HM.out hKm⟩, fun b' e => .inl e, HO.out⟩

  · have hp : D.put l t = l := by unfold D.put; rw [if_neg hf]
    have hi : D.pid l = 0 := by unfold D.pid; rw [if_neg hf]
    have he : D.per l = 6 := by unfold D.per; rw [if_neg hf]
    have hfl := D.fr_le l
    have hf4 : D.fr l = 64 := by omega
    rw [hf4] at CT
    rw [hp, hi, he]
    have HT := Lib.hid h
    clear h hp hi he hf hf4 hfl
    go_enter Tryd.func10, Tryd.ntmps10
    go_wp2_with (first
      | (go_at_call 21; (with_reducible refine (CT.out _ hE).mono ?_); rintro e w1 ⟨rfl, rfl⟩)
      | fail)
    refine bodyPost_ret (results_tmp2 rfl _ _ _) rfl ⟨rfl, m, HT.out, fun b e => .inl e, Only.self _ _⟩
end Go.Proofs.YtdolceefbikppaaDoor
