/-
  Unpin.
-/
import Derived.Test.YtdolceefbikppaaDoorPpp
set_option linter.unusedVariables false
set_option linter.unusedSimpArgs false
set_option maxRecDepth 100000
namespace Go.Proofs.YtdolceefbikppaaDoor
open Go.RowKit
attribute [local go_sem ↓] Go.wp_at_zero Go.wp_at_succ
def zs (l : List Int) : List Value := l.map fun z => .int .i64 z
theorem zs_len (l : List Int) : (zs l).length = l.length := by simp [zs]
theorem zs_at {l : List Int} {i : Nat} {z : Int} (h : l[i]? = some z) : (zs l)[i]? = some (.int .i64 z) := by simp [zs, h]
/-- Without a number. -/
def D.out (l : D.Ps) (i : Int) : D.Ps := if (D.pn l i).isSome then l.set i.toNat none else l
def D.outs (l : D.Ps) : List Int → D.Ps
  | [] => l
  | i :: r => D.outs (D.out l i) r
def D.gone (l : D.Ps) : List Int → Nat
  | [] => 0
  | i :: r => (if (D.pn l i).isSome then 1 else 0) + D.gone (D.out l i) r
theorem D.out_len (l : D.Ps) (i : Int) : (D.out l i).length = l.length := by unfold D.out; split <;> simp
theorem D.outs_snoc : ∀ (l : D.Ps) (r : List Int) (i : Int), D.outs l (r ++ [i]) = D.out (D.outs l r) i
  | l, [], i => rfl
  | l, j :: r, i => D.outs_snoc (D.out l j) r i
theorem D.gone_snoc : ∀ (l : D.Ps) (r : List Int) (i : Int), D.gone l (r ++ [i]) = D.gone l r + if (D.pn (D.outs l r) i).isSome then 1 else 0
  | l, [], i => by simp only [List.nil_append, D.gone, D.outs, Nat.zero_add, Nat.add_zero]; rfl
  | l, j :: r, i => by
    show _ + D.gone (D.out l j) (r ++ [i]) = _ + D.gone (D.out l j) r + _
    rw [D.gone_snoc (D.out l j) r i, Nat.add_assoc]
    rfl
theorem D.gone_le : ∀ (l : D.Ps) (r : List Int), D.gone l r ≤ r.length
  | l, [] => Nat.le_refl _
  | l, j :: r => by
    have := D.gone_le (D.out l j) r
    rw [D.gone, List.length_cons]
    split <;> omega
theorem D.pn_some {l : D.Ps} {i : Int} {t : Nat} (hl : l.length = 64) (h : D.pn l i = some t) : ∃ k : Nat, i = k ∧ k < 64 ∧ l[k]? = some (some t) := by
  have hi : 0 ≤ i ∧ i < 64 := by
    apply Classical.byContradiction
    intro h3
    rw [D.pn_no hl h3] at h; cases h
  obtain ⟨k, rfl⟩ : ∃ k : Nat, i = k := ⟨i.toNat, by omega⟩
  refine ⟨k, rfl, by omega, ?_⟩
  rw [D.pn_at, List.getD_eq_getElem?_getD] at h
  cases hq : l[k]? with
  | none => rw [hq] at h; cases h
  | some o => rw [hq] at h; exact congrArg some h
theorem cnt_out {base : Nat} {w : World} {l : D.Ps} {b t i c : Nat} {K : List Nat} (hi : l[i]? = some (some t)) (hb : base ≤ b) (hc : D.cn l t = c + 1) (hM : MpAt w b (if c = 0 then K.erase t else K) (fun y => if y = t then c else D.cn l y)) (hn : K.Nodup) (hK : ∀ x, x ∈ K ↔ 0 < D.cn l x) : Cnt base w (some b) (l.set i none) :=
  ⟨fun e => by (cases e), fun b' e => by
    injection e with e
    subst e
    refine ⟨hb, _, hM.same fun x _ => ?_, fun x => ?_⟩
    · rw [D.cn_out hi]
      by_cases e : t = x
      · subst e; rw [if_pos rfl, if_pos rfl, hc]; omega
      · rw [if_neg e, if_neg (fun e' => e e'.symm)]
    · rw [D.cn_out hi]
      by_cases e : t = x
      · subst e
        rw [if_pos rfl, hc]
        split
        · rename_i h0
          subst h0
          refine ⟨fun h => absurd rfl ((List.Nodup.mem_erase_iff hn).1 h).1, fun h => by omega⟩
        · exact ⟨fun _ => by omega, fun _ => (hK t).2 (by omega)⟩
      · rw [if_neg e, ← hK x]
        split
        · exact List.mem_erase_of_ne (fun e' => e e'.symm)
        · rfl⟩
theorem ts_out {l : D.Ps} {ts : List Nat} {k : Nat} (h : ∀ i x : Nat, l[i]? = some (some x) → ts[i]? = some x) : ∀ i x : Nat, (l.set k none)[i]? = some (some x) → ts[i]? = some x := by
  intro i x hx
  rw [List.getElem?_set] at hx
  by_cases e : k = i
  · subst e
    rw [if_pos rfl] at hx
    split at hx <;> cases hx
  · rw [if_neg e] at hx
    exact h i x hx
theorem lt_out {l : D.Ps} {k : Nat} (h : ∀ x, some x ∈ l → x < 18446744073709551616) : ∀ x, some x ∈ l.set k none → x < 18446744073709551616 := by
  intro x hx
  rcases List.mem_or_eq_of_mem_set hx with hx | hx
  · exact h x hx
  · cases hx
set_option maxHeartbeats 4000000 in
theorem unpin_any {base g : Nat} {w : World} {m : Option Nat} {l : D.Ps} (h : Tab base w g m l) (hs : base ≤ w.heap.size) {A : Option Addr} {n c : Nat} {is : List Int} (hr : Row w A n (zs is)) (hA : ∀ ad, A = some ad → ¬ Tf g m ad.block) (hn : n ≤ 1000000) (hi : ∀ i ∈ is, -9223372036854775808 ≤ i ∧ i ≤ 9223372036854775807) :
    Calls Tryd.prog 8 #[.pointer (some ⟨g, 0, none⟩), .slice A n c] w fun e w' => e = .returned (.int .i64 (D.gone l is : Nat)) ∧ Tab base w' g m (D.outs l is) ∧ Only (Tf g m) w w' := by
  have hlen : is.length = n := by have := hr.len; rwa [zs_len] at this
  have HI := Lib.hid hi
  have HR : Hid (∀ W, Only (Tf g m) w W → Row W A n (zs is)) := Lib.hid fun W hW => hr.only hW hA
  have HT := Lib.hid h
  have HL := Lib.hid hlen
  clear hi hr hA h hlen
  go_enter Tryd.func8, Tryd.ntmps8
  go_wp2_with fail
  go_loopw [5, 10] (fun s5 s10 wr => ∃ (k q : Nat), k ≤ n ∧ q ≤ k ∧ s10 = .int .i64 k ∧ s5 = .int .i64 q ∧ Hid (q = D.gone l (is.take k)) ∧ Hid (Tab base wr g m (D.outs l (is.take k))) ∧ Hid (Only (Tf g m) w wr)) (fun _ s10 _ => n - (intOf s10).toNat)
  case atStart => exact ⟨0, 0, Nat.zero_le _, Nat.le_refl _, rfl, rfl, Lib.hid rfl, HT, Lib.hid (Only.self _ _)⟩
  case round =>
    obtain ⟨k, q, hk, hqk, rfl, rfl, HQ, HTk, HO⟩ := hrel
    by_cases hlt : k < n
    · have j0 : (0 : Int) ≤ (k : Int) := by omega
      have j1 : (k : Int) < (n : Int) := by omega
      obtain ⟨i, hi⟩ : ∃ i, is[k]? = some i := ⟨_, List.getElem?_eq_getElem (by rw [HL.out]; exact hlt)⟩
      obtain ⟨hi1, hi2⟩ := HI.out i (List.mem_of_getElem? hi)
      obtain ⟨ad, rfl, hc⟩ := (HR.out wr HO.out).cell (zs_at hi)
      have HK : Hid (is.take (k + 1) = is.take k ++ [i]) := Lib.hid (by rw [List.take_add_one, hi]; rfl)
      obtain ⟨l1, hl1⟩ : ∃ l1, D.outs l (is.take k) = l1 := ⟨_, rfl⟩
      have HS := Lib.hid (D.outs_snoc l (is.take k) i)
      have HG := Lib.hid (D.gone_snoc l (is.take k) i)
      rw [hl1] at HTk HS HG
      rw [← HK.out] at HS HG
      rw [← HQ.out] at HG
      have CH := Lib.hid (has_any HTk.out i hi1 hi2)
      clear hi hl1
      cases hp : D.pn l1 i with
      | none =>
        rw [hp] at CH HG
        have CH : Hid (Calls Tryd.prog 19 #[.pointer (some ⟨g, 0, none⟩), .int .i64 i] wr fun e w' => e = .returned (.bool false) ∧ wr = w') := CH
        have e1 : D.out l1 i = l1 := by unfold D.out; rw [hp]; rfl
        rw [e1] at HS
        clear hp e1
        go_wp2_with (first
          | (go_at_call 19; (with_reducible refine CH.out.mono ?_); rintro e w1 ⟨rfl, rfl⟩)
          | fail)
        go_roundw
        case rel => exact ⟨k + 1, q, by omega, by omega, by go_num, rfl, Lib.hid (by rw [HG.out]; rfl), by rw [HS.out]; exact HTk, HO⟩
        case measure => simp [intOf]; omega
      | some t =>
        rw [hp] at CH HG
        have CH : Hid (Calls Tryd.prog 19 #[.pointer (some ⟨g, 0, none⟩), .int .i64 i] wr fun e w' => e = .returned (.bool true) ∧ wr = w') := CH
        obtain ⟨j, rfl, hj, hjt⟩ := D.pn_some HTk.out.len hp
        have e1 : D.out l1 (j : Int) = l1.set j none := by unfold D.out; rw [hp]; rfl
        rw [e1] at HS
        obtain ⟨b, rfl⟩ : ∃ b, m = some b := by
          cases m with
          | some b => exact ⟨b, rfl⟩
          | none =>
            have h1 := HTk.out.cnt.none_ rfl t
            have := D.cn_pos.2 (List.mem_of_getElem? hjt)
            omega
        obtain ⟨hbb, K, hM, hKm⟩ := HTk.out.cnt.some_ b rfl
        have hKl := HTk.out.keys hM hKm
        obtain ⟨ts, hB, hts, htt⟩ := HTk.out.blk
        have hgb := hM.no_cells hB
        have hM2n := hM.nodup
        have htl : t < 18446744073709551616 := HTk.out.lt t (List.mem_of_getElem? hjt)
        obtain ⟨c1, hc1⟩ : ∃ c1, D.cn l1 t = c1 + 1 := ⟨D.cn l1 t - 1, by have := D.cn_pos.2 (List.mem_of_getElem? hjt); omega⟩
        have hcl := D.cn_le l1 t
        have hl4 := HTk.out.len
        have j2 : (0 : Int) ≤ (j : Int) := by omega
        have j3 : (j : Int) < 64 := by omega
        have hw := D.wd_lt l1
        rw [hl4] at hw
        have hw : D.wd l1 < 18446744073709551616 := hw
        have hw2 := D.wd_not l1 j (by omega) 64 (by omega)
        have c0 := HTk.out.c0
        have HTT := Lib.hid htt
        have HJ := Lib.hid hjt
        have hfr := HTk.out.f 0
        clear hp e1 htt hjt
        go_wp2_with (first
          | (go_at_call 19; (with_reducible refine CH.out.mono ?_); rintro e w1 ⟨rfl, rfl⟩)
          | fail)
        go_still_tail 9, (by kernel_rfl)
        change wpList _ _ _ _ _ wr.drew
        have HV : bits .andNot .u64 ((D.wd l1 : Nat) : Int) (IntKind.u64.wrap (2 ^ j)) = ((D.wd (l1.set j none) : Nat) : Int) := by
          have hp2 : 2 ^ j < 2 ^ 64 := Nat.pow_lt_pow_right (by decide) (by omega)
          have hp3 : IntKind.u64.wrap (2 ^ j) = ((2 ^ j : Nat) : Int) := by
            rw [cast_pow, IntKind.wrap_u64]
            generalize 2 ^ j = q at hp2
            omega
          rw [hp3, u64_andNot_nat _ _ hw hp2]
          congr 1
        rw [HV]
        obtain ⟨W2, hW2⟩ : ∃ W2, wr.drew = W2 := ⟨_, rfl⟩
        rw [hW2]
        have hbd : Below wr.heap.size wr W2 := by rw [← hW2]; exact (Below.refl _ _).drew
        have B2 := hB.on hbd
        have M2 := hM.on hbd
        have o2 := HO.out.on hbd
        clear hW2 hbd c0 hB hM HV hfr hc
        have f2 := B2.f 0
        have c2 : W2.cell? ⟨g, 0, none⟩ = some (.int .u64 (D.wd l1 : Nat)) := by rw [B2.c, tc_0]
        have B3 := B2.put 0 (.int .u64 ((D.wd (l1.set j none) : Nat) : Int))
        rw [tc_set0] at B3
        have M3 := M2.to (w' := W2.setCell ⟨g, 0, none⟩ (.int .u64 ((D.wd (l1.set j none) : Nat) : Int))) (Below.heap_setCell _ _ _ b (fun e => hgb e.symm))
        have o3 := o2.set (p := ⟨g, 0, none⟩) (.inl (.inl rfl)) (.int .u64 ((D.wd (l1.set j none) : Nat) : Int))
        have c3 := B3.c (1 + j)
        rw [tc_t _ _ (HTT.out _ _ HJ.out)] at c3
        have c4 := B3.c 65
        rw [tc_m _ _ hts] at c4
        have CLV := Lib.hid (leave_any c4 hgb M3 (by omega) htl hc1 (by omega) ((hKm t).2 (by omega)))
        have HB3 := Lib.hid B3
        have HO3 := Lib.hid o3
        have HN := Lib.hid hM2n
        have HKm := Lib.hid hKm
        have HLE := Lib.hid HTk.out.le
        have HLT := Lib.hid HTk.out.lt
        clear B2 B3 M2 M3 o2 o3 c4 hKm HTk HO CH
        go_wp2_with (first
          | (go_at_call 20; (with_reducible refine CLV.out.mono ?_); rintro e w4 ⟨⟨v, rfl⟩, hM4, ho4⟩; have HM4 := Lib.hid hM4; have HO4 := Lib.hid ho4; clear hM4 ho4)
          | fail)
        go_roundw
        case rel => exact ⟨k + 1, q + 1, by omega, by omega, by go_num, by go_num, Lib.hid (by rw [HG.out]; rfl), by
          rw [HS.out]
          exact Lib.hid ⟨⟨ts, HB3.out.only HO4.out hgb, hts, ts_out HTT.out⟩, by simp [hl4], lt_out HLT.out, HLE.out, cnt_out HJ.out hbb hc1 HM4.out HN.out HKm.out⟩, Lib.hid (HO3.out.trans HO4.out (fun i e => .inl (.inr (by rw [e]))))⟩
        case measure => simp [intOf]; omega
    · have e : is.take k = is := List.take_of_length_le (by rw [HL.out]; omega)
      rw [e] at HQ HTk
      have i1 : (n : Int) ≤ (k : Int) := by omega
      clear e
      go_wp2
      go_ret
      exact ⟨by rw [HQ.out]; rfl, HTk.out, HO.out⟩
end Go.Proofs.YtdolceefbikppaaDoor
