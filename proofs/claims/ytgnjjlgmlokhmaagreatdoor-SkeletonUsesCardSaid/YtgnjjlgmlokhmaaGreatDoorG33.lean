/-
  
-/
import Derived.Test.YtgnjjlgmlokhmaaGreatDoorG32
import Derived.Test.YtgnjjlgmlokhmaaGreatDoorG11
import Derived.Test.YtgnjjlgmlokhmaaGreatDoorG17
import Derived.BigQuiet
set_option linter.unusedVariables false
set_option linter.unusedSimpArgs false
set_option maxRecDepth 100000
namespace Go.Proofs.YtgnjjlgmlokhmaaGreatDoor
namespace D
def vDu (v : Uv) : Du := ⟨v.n, v.h, if v.h = 4 then [ns v.t] else []⟩
def foldV (S : List Uv) : List Du := S.foldl (fun d v => addD d (vDu v)) []
theorem foldV_take {S : List Uv} {j : Nat} {u : Uv} (h : S[j]? = some u) : foldV (S.take (j + 1)) = addD (foldV (S.take j)) (vDu u) := by
 unfold foldV
 rw [List.take_add_one, h, List.foldl_append]
 rfl
theorem ugd_h {v : Uv} (h : Ugd v) : v.h = 1 ∨ v.h = 2 ∨ v.h = 4 := by
 rcases h with ⟨h | h, _⟩ | ⟨h, _⟩
 ·exact .inl h
 ·exact .inr (.inl h)
 ·exact .inr (.inr h)
theorem vDu_st {v : Uv} (h : Ugd v) : St (vDu v) [v] := by
 refine ⟨ugd_h h, by simp, fun u hu => ?_, fun w => ?_⟩
 ·obtain rfl : u = v := by simpa using hu
  exact ⟨rfl, rfl⟩
 ·unfold vDu
  simp only [List.mem_singleton, exists_eq_left]
  by_cases h4 : v.h = 4
  ·simp [h4, eq_comm]
  ·simp [h4]
theorem foldV_rep {S : List Uv} (h : ∀ v ∈ S, Ugd v) : ∀ (j : Nat), j <= S.length -> Rep (S.take j) (foldV (S.take j))
 | 0, _ => by simpa [foldV] using Rep.nil
 | j + 1, hj => by
  have hv : S[j]? = some S[j] := List.getElem?_eq_getElem (by omega)
  have ih := (foldV_rep h j (by omega)).step (vDu_st (h S[j] (List.getElem_mem _)))
  rw [foldV_take hv, List.take_add_one, hv]
  exact ih
def jn (ws : List (List Nat)) : ByteArray := ws.foldl (fun s w => (if s.size = 0 then s else s ++ ⟨#[44]⟩) ++ sb w) ⟨#[]⟩
theorem jn_snoc (ws : List (List Nat)) (w : List Nat) : jn (ws ++ [w]) = (if (jn ws).size = 0 then jn ws else jn ws ++ ⟨#[44]⟩) ++ sb w := by
 unfold jn
 rw [List.foldl_append]
 rfl
theorem empty_app (s : ByteArray) : (⟨#[]⟩ : ByteArray) ++ s = s := ByteArray.empty_append
theorem jn_one (w : List Nat) : jn [w] = sb w := empty_app _
def pj (x : Du) : Uv := ⟨x.n, x.h, jn x.ws⟩
theorem or_bit {a b : Nat} (ha : a < 8) (hb : b = 1 ∨ b = 2 ∨ b = 4) : a ||| b = if a / b % 2 = 0 then a + b else a := by
 have h : ∀ a : Fin 8, (a.1 ||| 1 = if a.1 / 1 % 2 = 0 then a.1 + 1 else a.1) ∧ (a.1 ||| 2 = if a.1 / 2 % 2 = 0 then a.1 + 2 else a.1) ∧ (a.1 ||| 4 = if a.1 / 4 % 2 = 0 then a.1 + 4 else a.1) := by decide
 have := h ⟨a, ha⟩
 rcases hb with rfl | rfl | rfl
 ·exact this.1
 ·exact this.2.1
 ·exact this.2.2
theorem pj_new {v : Uv} (h : Ugd v) : pj (newD (vDu v)) = v := by
 obtain ⟨n, k, t⟩ := v
 unfold pj newD vDu
 rcases h with ⟨h1, h2⟩ | ⟨h1, _⟩
 ·simp only at h1 h2
  have h4 : ¬ k = 4 := by omega
  subst h2
  simp [h4, insWs, jn]
 ·simp only at h1
  subst h1
  simp only [insWs, if_true, List.foldl_cons, List.foldl_nil, insW, jn_one, sb_ns]
theorem cfU_lt {a v : Uv} (h : cfU v a ≠ -1) (hne : a ≠ v) : cfU a v = -1 := by
 rcases Nm.D.cmp_in (ue v) (ue a) with e | e | e
 ·exact absurd e h
 ·exact absurd (ue_inj (x := v) (y := a) e).symm hne
 ·unfold cfU
  rw [Nm.D.cmp_neg, e]
theorem foldU_pj {S : List Uv} (hs : S.Pairwise fun a b => cfU b a ≠ -1) (hnd : S.Nodup) (hg : ∀ v ∈ S, Ugd v) : ∀ (j : Nat), j <= S.length -> foldU [] (S.take j) = (foldV (S.take j)).map pj
 | 0, _ => by simp [foldU, foldV]
 | j + 1, hj => by
  have hv : S[j]? = some S[j] := List.getElem?_eq_getElem (by omega)
  have ih := foldU_pj hs hnd hg j (by omega)
  have hr := foldV_rep hg j (by omega)
  have hlt : ∀ a ∈ S.take j, cfU a S[j] = -1 := fun a ha => by
   obtain ⟨i, hi⟩ := List.mem_iff_getElem?.1 ha
   have hil : i < j := by
    have := (List.getElem?_eq_some_iff.1 hi).1
    simp at this; omega
   rw [List.getElem?_take_of_lt hil] at hi
   have hi' := List.getElem?_eq_some_iff.1 hi
   obtain ⟨hi1, rfl⟩ := hi'
   refine cfU_lt (List.pairwise_iff_getElem.1 hs i j hi1 (by omega) hil) fun e => ?_
   have := (List.pairwise_iff_getElem.1 hnd) i j hi1 (by omega) hil
   exact this e
  have hgv := hg S[j] (List.getElem_mem _)
  have hga : ∀ a ∈ S.take j, Ugd a := fun a ha => hg a (List.mem_of_mem_take ha)
  rw [foldU_take hv, foldV_take hv, ih]
  obtain ⟨v, hvv⟩ : ∃ v, S[j] = v := ⟨_, rfl⟩
  obtain ⟨P, hP⟩ : ∃ P, S.take j = P := ⟨_, rfl⟩
  rw [hvv] at hlt hgv ⊢
  rw [hP] at hlt hr hga ⊢
  obtain ⟨d, hd⟩ : ∃ d, foldV P = d := ⟨_, rfl⟩
  rw [hd] at hr ⊢
  clear hd hP ih hv hvv
  have hname : ∀ x ∈ d, x.n ≠ v.n -> ltL x.n.l v.n.l := fun x hx hne => by
   obtain ⟨a, ha, e⟩ := hr.src x hx
   have h1 := hlt a ha
   rw [cfU_is, if_neg (fun e2 => hne (by rw [<- e]; exact Nm.D.Nm.eq ((Nm.D.cmp_zero _ _).1 e2)))] at h1
   rw [<- e]
   exact h1
  rcases List.eq_nil_or_concat d with rfl | ⟨d', y, e⟩
  ·simp only [List.map_nil, addD, List.map_cons, pj_new hgv]
   rfl
  ·obtain rfl : d = d' ++ [y] := by simpa using e
   have hpre : ∀ x ∈ d', ltL x.n.l y.n.l := fun x hx => by
    have := List.pairwise_append.1 hr.srt
    exact this.2.2 x hx y (by simp)
   have hy : y ∈ d' ++ [y] := by simp
   by_cases hn : y.n = v.n
   ·rw [List.map_append, List.map_cons, List.map_nil, addU_same (show (pj y).n = v.n from hn), addD_last (u := vDu v) (fun x hx => by have := hpre x hx; rw [hn] at this; exact this) hn, List.map_append, List.map_cons, List.map_nil]
    congr 1
    have h8 := hr.lt8 y hy
    have hor := or_bit h8 (ugd_h hgv)
    unfold wth pj updD vDu
    simp only
    rw [hor]
    congr 1
    congr 1
    have hw : ∀ w ∈ y.ws, v.h = 4 ∧ ltL w (ns v.t) := fun w hw => by
     obtain ⟨a, ha, h1, h2, rfl⟩ := (hr.wrd y hy w).1 hw
     have h3 := hlt a ha
     rw [cfU_is, h1, hn, if_pos (Nm.D.cmp_self _)] at h3
     have ha4 : a.t.size ≠ 0 := by
      rcases hga a ha with ⟨h5, _⟩ | ⟨_, h5⟩
      ·omega
      ·exact h5
     rcases hgv with ⟨h5, h6⟩ | ⟨h5, h6⟩
     ·exfalso
      rw [h6] at h3
      have e0 : ns (⟨#[]⟩ : ByteArray) = [] := rfl
      have e1 : (ns a.t).length = a.t.size := ns_len _
      rw [e0] at h3
      obtain ⟨c, cs, ec⟩ : ∃ c cs, ns a.t = c :: cs := by
       cases hq : ns a.t with
       | nil => rw [hq] at e1; simp at e1; omega
       | cons c cs => exact ⟨c, cs, rfl⟩
      rw [ec] at h3
      simp [Nm.D.cmp] at h3
     ·refine ⟨h5, ?_⟩
      split at h3
      ·rw [h2, h5, Nm.D.cmp_self] at h3
       cases h3
      ·exact h3
    by_cases h4 : v.h = 4
    ·simp only [if_pos h4, insWs, List.foldl_cons, List.foldl_nil]
     rw [insW_end fun w hw' => (hw w hw').2, jn_snoc, sb_ns]
    ·have h0 : y.ws = [] := by
      cases hq : y.ws with
      | nil => rfl
      | cons w ws => exact absurd (hw w (by rw [hq]; simp)).1 h4
     have ht : v.t = ⟨#[]⟩ := by
      rcases hgv with ⟨_, h6⟩ | ⟨h5, _⟩
      ·exact h6
      ·exact absurd h5 h4
     rw [h0, ht]
     simp only [if_neg h4, insWs, List.foldl_nil]
     rfl
   ·have hyn := hname y hy hn
    rw [List.map_append, List.map_cons, List.map_nil, addU_else (show (pj y).n ≠ v.n from hn), addD_end (u := vDu v) (fun x hx => by
     rcases List.mem_append.1 hx with hx | hx
     ·exact ltL_tr (hpre x hx) hyn
     ·obtain rfl : x = y := by simpa using hx
      exact hyn), List.map_append, List.map_append, List.map_cons, List.map_nil, List.map_cons, List.map_nil, pj_new hgv]
theorem uses_eq {l : List Nd} (hR : Rt 3 false l) {S : List Uv} (hs : S.Pairwise fun a b => cfU b a ≠ -1) (hp : S.Perm (insA [] (gth 3 l))) : foldU [] S = (us 3 l []).map pj := by
 have hnd : S.Nodup := (List.Perm.nodup_iff hp).2 (insA_nodup List.nodup_nil)
 have hm : ∀ v, v ∈ S ↔ v ∈ gth 3 l := fun v => by rw [hp.mem_iff, insA_mem]; simp
 have hg : ∀ v ∈ S, Ugd v := fun v hv => gth_gd 3 hR v ((hm v).1 hv)
 have h1 := foldU_pj hs hnd hg S.length (Nat.le_refl _)
 have h2 := foldV_rep hg S.length (Nat.le_refl _)
 rw [List.take_length] at h1 h2
 have h3 := us_rep 3 hR Rep.nil
 rw [List.nil_append] at h3
 rw [h1, (h2.congr hm).uniq h3]
end D
end Go.Proofs.YtgnjjlgmlokhmaaGreatDoor
namespace Go.Proofs.YtgnjjlgmlokhmaaGreatDoor
open Go.RowKit
attribute [local go_sem ↓] Go.wp_at_zero Go.wp_at_succ

theorem bytes_less : ∀ a b : List UInt8, Op.bytesLess a b = decide (Nm.D.cmp (a.map (·.toNat)) (b.map (·.toNat)) = -1)
 | [], [] => rfl
 | [], _ :: _ => rfl
 | _ :: _, [] => rfl
 | x :: a, y :: b => by
  have ih := bytes_less a b
  rw [Op.bytesLess, ih, List.map_cons, List.map_cons, Nm.D.cmp]
  by_cases h1 : x.toNat = y.toNat
  ·have e : x = y := UInt8.toNat_inj.1 h1
   subst e
   simp
  ·have e : ¬ x = y := fun e => h1 (by rw [e])
   rw [if_neg h1]
   by_cases h2 : x < y
   ·have := UInt8.lt_iff_toNat_lt.1 h2
    rw [if_pos this]
    simp [h2]
   ·have : ¬ x.toNat < y.toNat := fun h => h2 (UInt8.lt_iff_toNat_lt.2 h)
    rw [if_neg this]
    simp [h2, e]
theorem txt_less {a b : List Nat} (ha : ∀ x ∈ a, x < 256) (hb : ∀ x ∈ b, x < 256) : Op.bytesLess (D.sb a).toList (D.sb b).toList = decide (D.ltL a b) := by
 rw [ByteArray.toList_eq, ByteArray.toList_eq, bytes_less]
 have e1 : (D.sb a).data.toList.map (·.toNat) = a := D.ns_sb ha
 have e2 : (D.sb b).data.toList.map (·.toNat) = b := D.ns_sb hb
 rw [e1, e2]
 rfl
theorem txt_same {a b : List Nat} (ha : ∀ x ∈ a, x < 256) (hb : ∀ x ∈ b, x < 256) : ((D.sb a).toList == (D.sb b).toList) = decide (a = b) := by
 rw [txt_eq, D.ns_sb ha, D.ns_sb hb]
namespace D
theorem insW_le {l : List (List Nat)} {s : List Nat} : ∀ {k : Nat}, k <= l.length -> (∀ x ∈ l.take k, ltL x s) -> insW l s = l.take k ++ insW (l.drop k) s := by
 induction l with
 | nil => intro k hk _; simp at hk; subst hk; rfl
 | cons x l ih =>
  intro k hk h
  cases k with
  | zero => rfl
  | succ k =>
   rw [insW, if_pos (h x (by simp)), ih (k := k) (by simpa using hk) fun y hy => h y (by simp [hy])]
   rfl
theorem insW_here {l : List (List Nat)} {s a : List Nat} {k : Nat} (ha : l[k]? = some a) (h : ∀ x ∈ l.take k, ltL x s) (h1 : ¬ ltL a s) : insW l s = if a = s then l else l.take k ++ [s] ++ l.drop k := by
 have hk := (List.getElem?_eq_some_iff.1 ha).1
 have e : l.drop k = a :: l.drop (k + 1) := by
  rw [List.drop_eq_getElem_cons hk, (List.getElem?_eq_some_iff.1 ha).2]
 rw [insW_le (Nat.le_of_lt hk) h, e, insW, if_neg h1]
 by_cases h2 : a = s
 ·rw [if_pos h2, if_pos h2, <- e, List.take_append_drop]
 ·rw [if_neg h2, if_neg h2, List.append_assoc]
  rfl
theorem insW_out {l : List (List Nat)} {s : List Nat} (h : ∀ x ∈ l, ltL x s) : insW l s = l.take l.length ++ [s] ++ l.drop l.length := by
 rw [insW_end h]
 simp
end D
theorem RF.cut {sz n k cap : Nat} {F : Nat -> Prop} {w : World} {A : Option Addr} {xs : List Value} (h : RF sz F w A n xs) (hk : k <= n) (hc : n <= cap) : RF sz F w (if cap = k then A else A.map (·.add (k * sz))) (n - k) (xs.drop (k * sz)) := by
 refine ⟨⟨by have := h.row.len; rw [List.length_drop, this, Nat.sub_mul], fun hn => ?_⟩, fun hn ad e => ?_, fun hn ad e => ?_⟩
 ·obtain ⟨ad, rfl, hb, hcell⟩ := h.row.tow (by omega)
  rw [if_neg (by omega)]
  refine ⟨ad.add (k * sz), rfl, by rw [block_of_add]; exact hb, fun i x hx => ?_⟩
  rw [add_of_add]
  exact hcell _ x (by rw [<- hx, List.getElem?_drop])
 ·obtain ⟨ad', rfl, _⟩ := h.row.tow (by omega)
  rw [if_neg (by omega)] at e
  injection e with e
  rw [<- e, block_of_add]
  exact h.on_ (by omega) ad' rfl
 ·obtain ⟨ad', rfl, _⟩ := h.row.tow (by omega)
  rw [if_neg (by omega)] at e
  injection e with e
  rw [<- e, block_of_add]
  exact h.pl (by omega) ad' rfl
theorem from_s (A : Option Addr) (n c k : Nat) (hk : k <= n) (hc : n <= c) : ∃ A1, (∀ W, (Instr.slice 35 (.slice A n c) (some (.int .i64 (k : Int))) none none).run Tryz.prog W = .ok (.slice A1 (n - k) (c - k)) W) ∧
  ∀ F W xs, RF 1 F W A n xs -> RF 1 F W A1 (n - k) (xs.drop k) := by
 refine ⟨if c = k then A else A.map (·.add (k * 1)), fun W => ?_, fun F W xs h => by have := h.cut hk hc; rw [Nat.mul_one] at this ⊢; exact this⟩
 rw [run_slice_l W 35 A n c (by kernel_rfl) .i64 k (by omega) (by omega)]
 simp [Result.andThen, sliced, go_sem]
theorem RF.cast {sz n : Nat} {F : Nat -> Prop} {w : World} {A : Option Addr} {xs ys : List Value} (h : RF sz F w A n xs) (e : xs = ys) : RF sz F w A n ys := e ▸ h
set_option maxHeartbeats 4000000 in
theorem insert_any (F : Nat -> Prop) (A : Option Addr) (n c : Nat) (ws : List (List Nat)) (s : List Nat) (w : World) (hr : RF 1 F w A n (strs ws)) (hc : n <= c) (hb : D.B8 ws) (hs : ∀ x ∈ s, x < 256) (hn : n <= 1000) :
  Calls Tryz.prog 43 #[.slice A n c, .string (D.sb s)] w fun e w' => ∃ (A' : Option Addr) (n' c' : Nat), e = .returned (.slice A' n' c') ∧ RF 1 (fun b => F b ∨ w.heap.size <= b) w' A' n' (strs (D.insW ws s)) ∧ n' <= c' ∧ Below w.heap.size w w' := by
 have hlen := hr.row.len
 rw [strs_len, Nat.mul_one] at hlen
 have HR := Lib.hid hr
 have HB := Lib.hid hb
 have HS := Lib.hid hs
 have HLn := Kept.mk hlen
 clear hr hb hs hlen
 go_enter Tryz.func43, Tryz.ntmps43
 go_wp2_with fail
 go_loopw [5, 6] (fun s5 s6 wr => ∃ (k : Nat) (A2 : Option Addr) (c2 : Nat), k <= n ∧ s6 = .int .i64 k ∧ s5 = .slice A2 k c2 ∧ Hid (∀ x ∈ ws.take k, D.ltL x s) ∧ Hid (Ow 9 1 w.heap.size wr A2 k c2 (strs (ws.take k))) ∧ Hid (Below w.heap.size w wr)) (fun _ s6 _ => n - (intOf s6).toNat)
 case atStart => exact ⟨0, none, 0, Nat.zero_le _, rfl, rfl, Lib.hid (by simp), Lib.hid (Ow.nil _ 1 (Nat.le_refl _)), Lib.hid (Below.refl _ _)⟩
 case round =>
  obtain ⟨k, A2, c2, hk, rfl, rfl, HL, HO, HZ⟩ := hrel
  obtain ⟨wo, rfl⟩ : ∃ wo : World, wo = wr := ⟨_, rfl⟩
  have HRr := Lib.hid (HR.out.keep (keeps_below HZ.out))
  by_cases hlt : k < n
  ·obtain ⟨a, ha⟩ : ∃ a, ws[k]? = some a := ⟨_, List.getElem?_eq_getElem (by have := HLn.out; omega)⟩
   obtain ⟨ad, rfl, _, hcc⟩ := HRr.out.row.cell (strs_at ha)
   have hI : (k : Int) < n := by omega
   have ha8 := HB.out a (List.mem_of_getElem? ha)
   have hl1 := txt_less ha8 HS.out
   have hl2 := txt_same ha8 HS.out
   by_cases h1 : D.ltL a s
   ·rw [decide_eq_true h1] at hl1
    have HL' : Hid (∀ x ∈ ws.take (k + 1), D.ltL x s) := Lib.hid fun x hx => by
     rw [List.take_add_one, ha] at hx
     rcases List.mem_append.1 hx with hx | hx
     ·exact HL.out x hx
     ·simp at hx; subst hx; exact h1
    have HT : Kept (strs (ws.take (k + 1)) = strs (ws.take k) ++ [.string (D.sb a)]) := ⟨by rw [List.take_add_one, ha, strs_app]; rfl⟩
    clear ha h1 ha8 hl2
    go_wp2_with (at_builtin; refine gapp _ str_under str_inf8 rfl (by decide) (by decide) rfl (.tmp 19) (.tmp 24) rfl rfl (HO.out.alloc _) rfl (rw_one wo _ rfl 9 (.string (D.sb a))) (fun u h => by simp at h; rw [h]; rfl) (by omega) ?_; intro A5 c5 w5 h5 hg5 hor5; have H5 := Lib.hid h5; have HB5 := Lib.hid ((HZ.out.trans ((below_alloc_ _ (.cells #[.string (D.sb a)] 9)).mono HZ.out.size)).trans (ow_below (HO.out.alloc _) hg5)); clear h5 hg5 hor5)
    go_roundw
    case rel => exact ⟨k + 1, A5, c5, by omega, by go_num, rfl, HL', Lib.hid (by rw [HT.out]; exact H5.out), HB5⟩
    case measure => simp [intOf]; omega
   ·rw [decide_eq_false h1] at hl1
    have hi := D.insW_here ha HL.out h1
    by_cases h2 : a = s
    ·rw [decide_eq_true h2] at hl2
     rw [if_pos h2] at hi
     have HI := Kept.mk hi
     clear ha h1 ha8 h2 hi
     go_wp2_with fail
     go_ret
     refine ⟨some ad, n, c, rfl, ?_, hc, HZ.out⟩
     rw [HI.out]
     exact HRr.out.weaken fun b _ hb => .inl hb
    ·rw [decide_eq_false h2] at hl2
     rw [if_neg h2] at hi
     have HI := Kept.mk hi
     clear ha h1 ha8 h2 hi
     obtain ⟨A1, hcut, hA1⟩ := from_s (some ad) n c k (by omega) hc
     have HA1 := Lib.hid hA1
     clear hA1
     go_wp2_with (first
      | (at_builtin; refine gapp _ str_under str_inf8 rfl (by decide) (by decide) rfl (.tmp 41) (.tmp 43) rfl rfl (HO.out.alloc _) rfl (rw_one wo _ rfl 9 (.string (D.sb s))) (fun u h => by simp at h; rw [h]; rfl) (by omega) ?_; intro A5 c5 w5 h5 hg5 hor5; have H5 := Lib.hid h5; have HB5 := Lib.hid ((HZ.out.trans ((below_alloc_ _ (.cells #[.string (D.sb s)] 9)).mono HZ.out.size)).trans (ow_below (HO.out.alloc _) hg5)); clear h5 hg5 hor5)
      | (at_builtin; refine gapp _ str_under str_inf8 rfl (by decide) (by decide) rfl (.tmp 45) (.tmp 48) rfl rfl H5.out rfl (HA1.out _ _ _ (HR.out.keep (keeps_below HB5.out))).row (fun u h => strs_one _ u (List.mem_of_mem_drop h)) (by omega) ?_; intro A6 c6 w6 h6 hg6 hor6; have H6 := Lib.hid h6; have HB6 := Lib.hid (HB5.out.trans (ow_below H5.out hg6)); clear h6 hg6 hor6))
     have h6 := H6.out
     have hb6 := HB6.out
     go_ret
     refine ⟨A6, _, c6, rfl, ?_, h6.cap.1, hb6⟩
     rw [HI.out]
     refine (h6.rf (F := fun b => F b ∨ w.heap.size <= b) fun g hg => .inr (h6.block_le g hg)).cast ?_
     rw [strs_app, strs_app]
     simp [strs, List.map_drop]
  ·obtain rfl : k = n := by omega
   have hi := D.insW_out (s := s) (l := ws) (fun x hx => HL.out x (by rw [List.take_of_length_le (by have := HLn.out; omega)]; exact hx))
   rw [HLn.out] at hi
   have HI := Kept.mk hi
   clear hi
   obtain ⟨A1, hcut, hA1⟩ := from_s A k c k (by omega) hc
   have HA1 := Lib.hid hA1
   clear hA1
   go_wp2_with (first
    | (at_builtin; refine gapp _ str_under str_inf8 rfl (by decide) (by decide) rfl (.tmp 41) (.tmp 43) rfl rfl (HO.out.alloc _) rfl (rw_one wo _ rfl 9 (.string (D.sb s))) (fun u h => by simp at h; rw [h]; rfl) (by omega) ?_; intro A5 c5 w5 h5 hg5 hor5; have H5 := Lib.hid h5; have HB5 := Lib.hid ((HZ.out.trans ((below_alloc_ _ (.cells #[.string (D.sb s)] 9)).mono HZ.out.size)).trans (ow_below (HO.out.alloc _) hg5)); clear h5 hg5 hor5)
    | (at_builtin; refine gapp _ str_under str_inf8 rfl (by decide) (by decide) rfl (.tmp 45) (.tmp 48) rfl rfl H5.out rfl (Rw.nil 1 _ _) (fun u h => by cases h) (by omega) ?_; intro A6 c6 w6 h6 hg6 hor6; have H6 := Lib.hid h6; have HB6 := Lib.hid (HB5.out.trans (ow_below H5.out hg6)); clear h6 hg6 hor6))
   have h6 := H6.out
   have hb6 := HB6.out
   go_ret
   refine ⟨A6, _, c6, rfl, ?_, h6.cap.1, hb6⟩
   rw [HI.out]
   refine (h6.rf (F := fun b => F b ∨ w.heap.size <= b) fun g hg => .inr (h6.block_le g hg)).cast ?_
   rw [strs_app, strs_app]
   simp [strs, <- HLn.out]
end Go.Proofs.YtgnjjlgmlokhmaaGreatDoor
namespace Go.Proofs.YtgnjjlgmlokhmaaGreatDoor
open Go.RowKit
namespace D
def unp (x : Nm.D.Nm) : List Nat := Nm.D.hd x.l
structure RnN (x : Nm.D.Nm) : Prop where
 b : Nm.D.isB (unp x) = true
 p : Nm.D.padl (unp x) 12 = x.l
theorem RnN.lt {x : Nm.D.Nm} (h : RnN x) : ∀ c ∈ unp x, c < 256 := fun c hc => x.lt c (Nm.D.hd_mem hc)
theorem unp_lt {x y : Nm.D.Nm} (hx : RnN x) (hy : RnN y) : ltL (unp x) (unp y) ↔ ltL x.l y.l := by
 unfold ltL
 rw [<- hx.p, <- hy.p, Nm.D.cmp_pad hx.b hy.b]
theorem unp_eq {x y : Nm.D.Nm} (hx : RnN x) (hy : RnN y) : unp x = unp y ↔ x = y := by
 constructor
 ·intro h
  refine Nm.D.Nm.eq ?_
  rw [<- hx.p, <- hy.p, h]
 ·rintro rfl; rfl
end D
theorem dus_under : Tryz.prog.underlying 33 = some (.slice 37) := by kernel_rfl
theorem dus_info : (Tryz.prog.info? 37).map (fun i => (i.zero, i.size, i.bytes)) = some (some (.agg #[.string ⟨#[]⟩, .int .i64 0, .slice none 0 0]), 3, 48) := by kernel_rfl
def dcl : List (D.Du × Value) -> List Value
 | [] => []
 | (x, a) :: r => .string (D.sb (D.unp x.n)) :: .int .i64 (x.h : Nat) :: a :: dcl r
theorem dcl_app : ∀ (l k : List (D.Du × Value)), dcl (l ++ k) = dcl l ++ dcl k
 | [], k => rfl
 | (x, a) :: l, k => by simp [dcl, dcl_app l k]
theorem dcl_len : ∀ l : List (D.Du × Value), (dcl l).length = l.length * 3
 | [] => rfl
 | (x, a) :: l => by simp [dcl, dcl_len l]; omega
theorem dcl_at : ∀ {l : List (D.Du × Value)} {i : Nat} {x : D.Du} {a : Value}, l[i]? = some (x, a) ->
  (dcl l)[i * 3]? = some (.string (D.sb (D.unp x.n))) ∧ (dcl l)[i * 3 + 1]? = some (.int .i64 (x.h : Nat)) ∧ (dcl l)[i * 3 + 2]? = some a
 | [], i, x, a, h => by simp at h
 | (y, c) :: l, 0, x, a, h => by
  simp at h
  obtain ⟨rfl, rfl⟩ := h
  exact ⟨rfl, rfl, rfl⟩
 | (y, c) :: l, i + 1, x, a, h => by
  have := dcl_at (l := l) (i := i) (by simpa using h)
  rw [show (i + 1) * 3 = i * 3 + 3 by omega]
  exact this
theorem dcl_drop (l : List (D.Du × Value)) (k : Nat) : (dcl l).drop (k * 3) = dcl (l.drop k) := by
 induction k generalizing l with
 | zero => simp
 | succ k ih =>
  cases l with
  | nil => simp [dcl]
  | cons y l =>
   obtain ⟨y, c⟩ := y
   rw [show (k + 1) * 3 = k * 3 + 3 by omega, List.drop_succ_cons, <- ih l]
   rfl
theorem dcl_one : ∀ (vs : List (D.Du × Value)), (∀ (i : Nat) (x : D.Du) (a : Value), vs[i]? = some (x, a) -> a.oneCell' = true) -> ∀ u ∈ dcl vs, u.oneCell' = true
 | [], _, u, h => by cases h
 | (x, a) :: l, h, u, hu => by
  rw [dcl, List.mem_cons, List.mem_cons, List.mem_cons] at hu
  rcases hu with rfl | rfl | rfl | hu
  ·rfl
  ·rfl
  ·exact h 0 x u rfl
  ·exact dcl_one l (fun i y b hi => h (i + 1) y b (by simpa using hi)) u hu
def Dbl (F : Nat -> Prop) (w : World) (x : D.Du) (a : Value) : Prop := ∃ (A : Option Addr) (n c : Nat), a = .slice A n c ∧ n <= c ∧ RF 1 F w A n (strs x.ws) ∧ D.B8 x.ws ∧ D.RnN x.n ∧ x.h < 8
theorem Dbl.keep {F : Nat -> Prop} {w w' : World} {x : D.Du} {a : Value} (h : Dbl F w x a) (k : Keeps F w w') : Dbl F w' x a := by
 obtain ⟨A, n, c, e, hc, hr, h2⟩ := h
 exact ⟨A, n, c, e, hc, hr.keep k, h2⟩
theorem Dbl.weaken {F F' : Nat -> Prop} {w : World} {x : D.Du} {a : Value} (h : Dbl F w x a) (k : ∀ b, b < w.heap.size -> F b -> F' b) : Dbl F' w x a := by
 obtain ⟨A, n, c, e, hc, hr, h2⟩ := h
 exact ⟨A, n, c, e, hc, hr.weaken k, h2⟩
theorem Dbl.one {F : Nat -> Prop} {w : World} {x : D.Du} {a : Value} (h : Dbl F w x a) : a.oneCell' = true := by
 obtain ⟨A, n, c, rfl, _⟩ := h
 rfl
structure Dus (F : Nat -> Prop) (w : World) (A : Option Addr) (n c : Nat) (l : List D.Du) : Prop where
 cap : n <= c
 out : ∃ vs : List (D.Du × Value), RF 3 F w A n (dcl vs) ∧ vs.map (·.1) = l ∧ ∀ (i : Nat) (x : D.Du) (a : Value), vs[i]? = some (x, a) -> Dbl F w x a
theorem Dus.nil (F : Nat -> Prop) (w : World) (A : Option Addr) (c : Nat) : Dus F w A 0 c [] := ⟨Nat.zero_le _, [], RF.nil _ _ _ _, rfl, fun i x a h => by simp at h⟩
theorem Dus.keep {F : Nat -> Prop} {w w' : World} {A : Option Addr} {n c : Nat} {l : List D.Du} (h : Dus F w A n c l) (k : Keeps F w w') : Dus F w' A n c l := by
 obtain ⟨hc, vs, hr, hl, hb⟩ := h
 exact ⟨hc, vs, hr.keep k, hl, fun i x a hi => (hb i x a hi).keep k⟩
theorem Dus.weaken {F F' : Nat -> Prop} {w : World} {A : Option Addr} {n c : Nat} {l : List D.Du} (h : Dus F w A n c l) (k : ∀ b, b < w.heap.size -> F b -> F' b) : Dus F' w A n c l := by
 obtain ⟨hc, vs, hr, hl, hb⟩ := h
 exact ⟨hc, vs, hr.weaken k, hl, fun i x a hi => (hb i x a hi).weaken k⟩
theorem Dus.len {F : Nat -> Prop} {w : World} {A : Option Addr} {n c : Nat} {l : List D.Du} (h : Dus F w A n c l) : l.length = n := by
 obtain ⟨vs, hr, hl, _⟩ := h.out
 have := hr.row.len
 rw [dcl_len] at this
 rw [<- hl, List.length_map]; omega
theorem from_u (A : Option Addr) (n c k : Nat) (hk : k <= n) (hc : n <= c) : ∃ A1, (∀ W, (Instr.slice 33 (.slice A n c) (some (.int .i64 (k : Int))) none none).run Tryz.prog W = .ok (.slice A1 (n - k) (c - k)) W) ∧
  ∀ F W (vs : List (D.Du × Value)), RF 3 F W A n (dcl vs) -> RF 3 F W A1 (n - k) (dcl (vs.drop k)) := by
 refine ⟨if c = k then A else A.map (·.add (k * 3)), fun W => ?_, fun F W vs h => by have := h.cut hk hc; rw [dcl_drop] at this; exact this⟩
 rw [run_slice_l W 33 A n c (by kernel_rfl) .i64 k (by omega) (by omega)]
 simp [Result.andThen, sliced, go_sem]
namespace D
theorem addD_at {d : List Du} {u x : Du} {k : Nat} (hx : d[k]? = some x) (h : ∀ y ∈ d.take k, ltL y.n.l u.n.l) (h1 : ¬ ltL x.n.l u.n.l) : addD d u = if x.n = u.n then d.take k ++ [updD x u.h u.ws] ++ d.drop (k + 1) else d.take k ++ [newD u] ++ d.drop k := by
 induction d generalizing k with
 | nil => simp at hx
 | cons y d ih =>
  cases k with
  | zero =>
   simp at hx
   subst hx
   rw [addD, if_neg h1]
   by_cases h2 : y.n = u.n
   ·rw [if_pos h2, if_pos h2]; rfl
   ·rw [if_neg h2, if_neg h2]; rfl
  | succ k =>
   rw [addD, if_pos (h y (by simp)), ih (k := k) (by simpa using hx) fun z hz => h z (by simp [hz])]
   split <;> simp
theorem addD_out {d : List Du} {u : Du} (h : ∀ y ∈ d, ltL y.n.l u.n.l) : addD d u = d.take d.length ++ [newD u] ++ d.drop d.length := by
 rw [addD_end h]
 simp
end D
end Go.Proofs.YtgnjjlgmlokhmaaGreatDoor
namespace Go.Proofs.YtgnjjlgmlokhmaaGreatDoor
open Go.RowKit
attribute [local go_sem ↓] Go.wp_at_zero Go.wp_at_succ

def duc (x : D.Du) (a : Value) : Array Value := #[.string (D.sb (D.unp x.n)), .int .i64 (x.h : Nat), a]
theorem duc_cells {w : World} {g : Nat} {x : D.Du} {a : Value} {T : TypeId} (h : Blk w g T (duc x a)) : w.cell? ⟨g, 0, none⟩ = some (.string (D.sb (D.unp x.n))) ∧ w.cell? ⟨g, 1, none⟩ = some (.int .i64 (x.h : Nat)) ∧ w.cell? ⟨g, 2, none⟩ = some a ∧ g < w.heap.size :=
 ⟨by rw [h.c_ 0]; rfl, by rw [h.c_ 1]; rfl, by rw [h.c_ 2]; rfl, h.lt⟩
structure DC (w : World) (ad : Addr) (i : Nat) (x : D.Du) (a : Value) : Prop where
 l : ad.block < w.heap.size
 n : w.cell? (ad.add (i * 3)) = some (.string (D.sb (D.unp x.n)))
 h : w.cell? ⟨(ad.add (i * 3)).block, (ad.add (i * 3)).off + 1, none⟩ = some (.int .i64 (x.h : Nat))
 a : w.cell? ⟨(ad.add (i * 3)).block, (ad.add (i * 3)).off + 2, none⟩ = some a
theorem dc_at {w : World} {A : Option Addr} {n j : Nat} {vs : List (D.Du × Value)} {x : D.Du} {a : Value} (h : Rw 3 w A n (dcl vs)) (hj : vs[j]? = some (x, a)) : ∃ ad, A = some ad ∧ DC w ad j x a := by
 obtain ⟨c0, c1, c2⟩ := dcl_at hj
 obtain ⟨ad, rfl, hl, e0⟩ := h.cell c0
 obtain ⟨ad1, e, _, e1⟩ := h.cell c1
 obtain rfl := Option.some.inj e
 obtain ⟨ad2, e, _, e2⟩ := h.cell c2
 obtain rfl := Option.some.inj e
 refine ⟨ad, rfl, hl, e0, ?_, ?_⟩
 ·rw [<- add_succ (ad.add (j * 3)) 0, add_of_add]; exact e1
 ·rw [<- add_succ (ad.add (j * 3)) 1, add_of_add]; exact e2
theorem hw_bit {a b : Nat} (ha : a < 8) (hb : b = 1 ∨ b = 2 ∨ b = 4) : ((wrap64 ((a : Int) / (b : Int))).tmod 2 == 0) = decide (a / b % 2 = 0) := by
 have hc : a = 0 ∨ a = 1 ∨ a = 2 ∨ a = 3 ∨ a = 4 ∨ a = 5 ∨ a = 6 ∨ a = 7 := by omega
 rcases hc with rfl | rfl | rfl | rfl | rfl | rfl | rfl | rfl <;> rcases hb with rfl | rfl | rfl <;> first | rfl | decide | simp [wrap64]
theorem dus_make {base n c : Nat} {F' : Nat -> Prop} {w : World} {A : Option Addr} {V : List (D.Du × Value)} (ho : Ow 37 3 base w A n c (dcl V)) (hF : ∀ g, base <= g -> F' g) (hV : ∀ x a, (x, a) ∈ V -> Dbl F' w x a) : Dus F' w A n c (V.map (·.1)) :=
 ⟨ho.cap.1, V, ho.rf fun g hg => hF g (ho.block_le g hg), rfl, fun i x a hi => hV x a (List.mem_of_getElem? hi)⟩
theorem insWs_len (k : List (List Nat)) : ∀ (l : List (List Nat)), (D.insWs l k).length <= l.length + k.length := by
 have h1 : ∀ (l : List (List Nat)) (s : List Nat), (D.insW l s).length <= l.length + 1 := by
  intro l s
  induction l with
  | nil => simp [D.insW]
  | cons x l ih =>
   rw [D.insW]
   split
   ·simp only [List.length_cons]; omega
   ·split <;> simp
 induction k with
 | nil => intro l; simp [D.insWs]
 | cons s k ih =>
  intro l
  have h2 := ih (D.insW l s)
  have h3 := h1 l s
  rw [show D.insWs l (s :: k) = D.insWs (D.insW l s) k from rfl]
  simp only [List.length_cons]; omega
theorem insWs_snoc (l k : List (List Nat)) (s : List Nat) : D.insWs l (k ++ [s]) = D.insW (D.insWs l k) s := by
 unfold D.insWs
 rw [List.foldl_append]
 rfl
theorem insWs_b8 {l k : List (List Nat)} (hl : D.B8 l) (hk : D.B8 k) : D.B8 (D.insWs l k) := fun w hw => by
 rcases D.insWs_mem.1 hw with h | h
 ·exact hk w h
 ·exact hl w h
theorem rw_du (w : World) (g : Nat) (hg : g = w.heap.size) (x : D.Du) (a : Value) (T : TypeId) : Rw 3 (w.alloc (.cells (duc x a) T)) (some ⟨g, 0, none⟩) 1 (dcl [(x, a)]) := by
 subst hg
 have := rw_new w 3 T 1 (duc x a) rfl
 simpa [duc, dcl] using this
set_option maxHeartbeats 16000000 in
theorem add_any (F : Nat -> Prop) (A : Option Addr) (n c : Nat) (d : List D.Du) (u : D.Du) (Au : Option Addr) (nu cu : Nat) (w : World) (hd : Dus F w A n c d) (hu : Dbl F w u (.slice Au nu cu)) (hh : u.h = 1 ∨ u.h = 2 ∨ u.h = 4) (hn : n <= 1000) (hM : ∀ x ∈ d, x.ws.length + u.ws.length <= 900) (hMu : u.ws.length <= 900) :
  Calls Tryz.prog 21 #[.slice A n c, .agg (duc u (.slice Au nu cu))] w fun e w' => ∃ (A' : Option Addr) (n' c' : Nat), e = .returned (.slice A' n' c') ∧ Dus (fun b => F b ∨ w.heap.size <= b) w' A' n' c' (D.addD d u) ∧ Below w.heap.size w w' := by
 have hlen := hd.len
 obtain ⟨hcap, vs, hr, hl, hb⟩ := hd
 obtain ⟨_, _, _, e0, hcu, hru, hb8, hrn, hu8⟩ := hu
 cases e0
 have hlu := hru.row.len
 rw [strs_len, Nat.mul_one] at hlu
 have hnu : nu <= 1000 := by omega
 obtain ⟨X, hX⟩ : ∃ X, D.unp u.n = X := ⟨_, rfl⟩
 have hX8 := hrn.lt
 rw [hX] at hX8
 obtain ⟨w1, hw1⟩ : ∃ w1, w.alloc (.cells (duc u (.slice Au nu cu)) 37) = w1 := ⟨_, rfl⟩
 have hN : Blk w1 w.heap.size 37 (duc u (.slice Au nu cu)) := by rw [<- hw1]; exact Blk.new _ _ _
 have hb1 : Below w.heap.size w w1 := by rw [<- hw1]; exact below_alloc_ _ _
 have HR := Lib.hid hr
 have HL := Kept.mk hl
 have HBl := Lib.hid hb
 have HRU := Lib.hid hru
 have HB8 := Lib.hid hb8
 have HRN := Lib.hid hrn
 have HLN := Kept.mk hlen
 have HLU := Kept.mk hlu
 have HN := Lib.hid hN
 have HB1 := Lib.hid hb1
 have HM := Lib.hid hM
 have HU8 := Kept.mk hu8
 have HX := Kept.mk hX
 clear hr hl hb hru hb8 hrn hlen hlu hN hb1 hM hX
 unfold duc at hw1 ⊢
 try rw [HX.out] at hw1 ⊢
 go_enter Tryz.func21, Tryz.ntmps21
 go_wp2_with fail
 go_loopw [5, 6] (fun s5 s6 wr => ∃ (k : Nat) (A2 : Option Addr) (c2 : Nat), k <= n ∧ s6 = .int .i64 k ∧ s5 = .slice A2 k c2 ∧ Hid (∀ y ∈ d.take k, D.ltL y.n.l u.n.l) ∧ Hid (Ow 37 3 w1.heap.size wr A2 k c2 (dcl (vs.take k))) ∧ Hid (Below w1.heap.size w1 wr)) (fun _ s6 _ => n - (intOf s6).toNat)
 case atStart => exact ⟨0, none, 0, Nat.zero_le _, rfl, rfl, Lib.hid (by simp), Lib.hid (Ow.nil _ 3 (Nat.le_refl _)), Lib.hid (Below.refl _ _)⟩
 case round =>
  obtain ⟨k, A2, c2, hk, rfl, rfl, HLe, HO, HZ⟩ := hrel
  obtain ⟨wo, rfl⟩ : ∃ wo : World, wo = wr := ⟨_, rfl⟩
  have HRr := Lib.hid ((HR.out.keep (keeps_below HB1.out)).keep (keeps_below HZ.out))
  have HN2 := Lib.hid (HN.out.on HZ.out)
  obtain ⟨n0, n1, n2, n3⟩ := duc_cells HN2.out
  rw [HX.out] at n0
  by_cases hlt : k < n
  ·obtain ⟨⟨x, a⟩, hv⟩ : ∃ a, vs[k]? = some a := ⟨_, List.getElem?_eq_getElem (by have := HLN.out; rw [<- HL.out, List.length_map] at this; omega)⟩
   have hdx : d[k]? = some x := by rw [<- HL.out, List.getElem?_map, hv]; rfl
   obtain ⟨Ax, nx, cx, rfl, hcx, hrx, hx8, hxn, hxh⟩ := HBl.out k x a hv
   obtain ⟨ad, rfl, hDC⟩ := dc_at HRr.out.row hv
   obtain ⟨d0, d1, d2, d3⟩ := hDC
   have hI : (k : Int) < n := by omega
   have hl1 := txt_less hxn.lt hX8
   have hl2 := txt_same hxn.lt hX8
   have hl3 := D.unp_lt hxn HRN.out
   have hl4 := D.unp_eq hxn HRN.out
   rw [HX.out] at hl3 hl4
   obtain ⟨Y, hY⟩ : ∃ Y, D.unp x.n = Y := ⟨_, rfl⟩
   rw [hY] at hl1 hl2 hl3 hl4 d1
   have HY := Kept.mk hY
   have HRX := Lib.hid hrx
   have HXN := Lib.hid hxn
   have HX8 := Lib.hid hx8
   have HXH := Kept.mk hxh
   have HCX := Kept.mk hcx
   have HV := Kept.mk hv
   have HMX := Kept.mk (HM.out x (List.mem_of_getElem? hdx))
   clear hY hrx hxn hx8 hxh hcx
   by_cases h1 : D.ltL x.n.l u.n.l
   ·rw [decide_eq_true (hl3.2 h1)] at hl1
    have HL' : Hid (∀ y ∈ d.take (k + 1), D.ltL y.n.l u.n.l) := Lib.hid fun y hy => by
     rw [List.take_add_one, hdx] at hy
     rcases List.mem_append.1 hy with hy | hy
     ·exact HLe.out y hy
     ·simp at hy; subst hy; exact h1
    have HT : Kept (dcl (vs.take (k + 1)) = dcl (vs.take k) ++ dcl [(x, .slice Ax nx cx)]) := ⟨by rw [List.take_add_one, hv, dcl_app]; rfl⟩
    clear hv hdx h1 hl2 hl3 hl4
    go_wp2_with fail
    go_quiet (fail)
    obtain ⟨W2, hW2⟩ : ∃ W2, wo.drewN nq = W2 := ⟨_, rfl⟩
    have hbW : Below wo.heap.size wo W2 := by rw [<- hW2]; exact below_drewN (Below.refl _ _) nq
    rw [hW2]
    have HO2 := Lib.hid (HO.out.on hbW)
    have HZ2 := Lib.hid (HZ.out.trans (hbW.mono HZ.out.size))
    have HRr2 := Lib.hid (HRr.out.keep (keeps_below hbW))
    clear hW2 hbW d0 d1 d2 d3 n0 n1 n2 n3
    obtain ⟨ad2, e2, d0, d1, d2, d3⟩ := dc_at HRr2.out.row HV.out
    obtain rfl := Option.some.inj e2
    rw [HY.out] at d1
    have hrow := rw_du W2 W2.heap.size rfl x (.slice Ax nx cx) 37
    rw [duc, HY.out] at hrow
    have HRow := Lib.hid hrow
    clear hrow
    go_wp2_with (at_builtin; refine gapp _ dus_under dus_info rfl (by decide) (by decide) rfl (.tmp 25) (.tmp 30) rfl rfl (HO2.out.alloc _) rfl HRow.out (dcl_one _ fun i z b hi => by rcases i with _ | i <;> simp at hi; obtain ⟨rfl, rfl⟩ := hi; rfl) (by omega) ?_; intro A5 c5 w5 h5 hg5 hor5; have H5 := Lib.hid h5; have HB5 := Lib.hid ((HZ2.out.trans ((below_alloc_ W2 _).mono HZ2.out.size)).trans (ow_below (HO2.out.alloc _) hg5)); clear h5 hg5 hor5)
    go_roundw
    case rel => exact ⟨k + 1, A5, c5, by omega, by go_num, rfl, HL', Lib.hid (by rw [HT.out]; exact H5.out), HB5⟩
    case measure => simp [intOf]; omega
   ·rw [decide_eq_false (fun h => h1 (hl3.1 h))] at hl1
    have hi := D.addD_at hdx HLe.out h1
    by_cases h2 : x.n = u.n
    ·rw [decide_eq_true (hl4.2 h2)] at hl2
     rw [if_pos h2] at hi
     have HI := Kept.mk hi
     clear h1 h2 hi hl3 hl4 hv hdx
     go_wp2_with fail
     go_quiet (fail)
     obtain ⟨W2, hW2⟩ : ∃ W2, wo.drewN nq = W2 := ⟨_, rfl⟩
     have hbW : Below wo.heap.size wo W2 := by rw [<- hW2]; exact below_drewN (Below.refl _ _) nq
     rw [hW2]
     have HO2 := Lib.hid (HO.out.on hbW)
     have HZ2 := Lib.hid (HZ.out.trans (hbW.mono HZ.out.size))
     have HRr2 := Lib.hid (HRr.out.keep (keeps_below hbW))
     have HN3 := Lib.hid (HN2.out.on hbW)
     clear hW2 hbW d0 d1 d2 d3 n0 n1 n2 n3
     obtain ⟨n0, n1, n2, n3⟩ := duc_cells HN3.out
     rw [HX.out] at n0
     obtain ⟨ad2, e2, d0, d1, d2, d3⟩ := dc_at HRr2.out.row HV.out
     obtain rfl := Option.some.inj e2
     rw [HY.out] at d1
     go_wp2_with fail
     go_quiet (fail)
     obtain ⟨W4, hW4⟩ : ∃ W4, W2.drewN nq = W4 := ⟨_, rfl⟩
     have hbW : Below W2.heap.size W2 W4 := by rw [<- hW4]; exact below_drewN (Below.refl _ _) nq
     rw [hW4]
     have HO4 := Lib.hid (HO2.out.on hbW)
     have HZ4 := Lib.hid (HZ2.out.trans (hbW.mono HZ2.out.size))
     have HRr4 := Lib.hid (HRr2.out.keep (keeps_below hbW))
     have HN4 := Lib.hid (HN3.out.on hbW)
     clear hW4 hbW d0 d1 d2 d3 n0 n1 n2 n3
     obtain ⟨n0, n1, n2, n3⟩ := duc_cells HN4.out
     rw [HX.out] at n0
     obtain ⟨ad3, e3, d0, d1, d2, d3⟩ := dc_at HRr4.out.row HV.out
     obtain rfl := Option.some.inj e3
     rw [HY.out] at d1
     by_cases hbt : x.h / u.h % 2 = 0
     ·have hbq := hw_bit HXH.out hh
      rw [decide_eq_true hbt] at hbq
      have hup : D.updD x u.h u.ws = ⟨x.n, x.h + u.h, D.insWs x.ws u.ws⟩ := by unfold D.updD; rw [if_pos hbt]
      have hxh := HXH.out
      obtain ⟨Hv, hHv⟩ : ∃ Hv, x.h + u.h = Hv := ⟨_, rfl⟩
      have hv8 : Hv < 8 := by rw [<- hHv]; first | exact hxh | (rcases hh with e | e | e <;> rw [e] at hbt ⊢ <;> omega)
      have HV8 := Kept.mk hv8
      rw [hHv] at hup
      have HHV := Kept.mk hHv
      have HUP := Kept.mk hup
      have HWS8 := HX8
      clear hbt hup hHv hv8
      go_wp2_with fail
      clear hbq
      obtain ⟨W5, hW5⟩ : ∃ W5, W4.alloc (.cells #[.string (D.sb Y), .int .i64 ((x.h : Int) + (u.h : Int)), .slice Ax nx cx] 37) = W5 := ⟨_, rfl⟩
      have hbk : Blk W5 W4.heap.size 37 (duc (⟨x.n, Hv, []⟩ : D.Du) (.slice Ax nx cx)) := by
       rw [<- hW5]
       have h := Blk.new W4 37 #[.string (D.sb Y), .int .i64 ((x.h : Int) + (u.h : Int)), .slice Ax nx cx]
       unfold duc
       simp only [HX.out, HY.out, <- HHV.out, Int.natCast_add]
       exact h
      have hb5 : Below W4.heap.size W4 W5 := by rw [<- hW5]; exact below_alloc_ _ _
      have hz5 : W5.heap.size = W4.heap.size + 1 := by rw [<- hW5]; simp
      rw [hW5]
      have HBK := Lib.hid hbk
      have HO5 := Lib.hid (HO4.out.on hb5)
      have HZ5 := Lib.hid (HZ4.out.trans (hb5.mono HZ4.out.size))
      have hzz := HZ4.out.size
      have hz1 : w.heap.size < w1.heap.size := HN.out.lt
      obtain ⟨G, hG⟩ : ∃ G : Nat -> Prop, G = fun b => (F b ∧ b < w1.heap.size) ∨ W5.heap.size <= b := ⟨_, rfl⟩
      have HG := Kept.mk hG
      have HW0 : Hid (RF 1 G W5 Ax nx (strs x.ws)) := Lib.hid (((HRX.out.keep (keeps_below HB1.out)).weaken (F' := G) fun b hb hF => by rw [HG.out]; exact .inl ⟨hF, hb⟩).keep (keeps_below HZ5.out))
      have hwl : nx <= cx := by first | exact HCX.out | exact Nat.le_refl _
      clear hW5 hb5 hbk hG
      go_loopw [8] (fun s8 wr => ∃ (q : Nat) (A7 : Option Addr) (n7 c7 : Nat), q <= nu ∧ s8 = .int .i64 q ∧ n7 <= c7 ∧ Hid (Blk wr W4.heap.size 37 (duc (⟨x.n, Hv, []⟩ : D.Du) (.slice A7 n7 c7))) ∧ Hid (RF 1 G wr A7 n7 (strs (D.insWs x.ws (u.ws.take q)))) ∧ Hid (Fr (· = W4.heap.size) W5 wr)) (fun s8 _ => nu - (intOf s8).toNat)
      case atStart => exact ⟨0, Ax, nx, cx, Nat.zero_le _, rfl, hwl, HBK, Lib.hid HW0.out, Lib.hid (Fr.refl _ _)⟩
      case round =>
       obtain ⟨q, A7, n7, c7, hq, rfl, hc7, HB7, HW7, HF7⟩ := hrel
       obtain ⟨wi, rfl⟩ : ∃ wi : World, wi = wr := ⟨_, rfl⟩
       have HZ7 := Lib.hid (HZ5.out.trans (HF7.out.below (B := w1.heap.size) HZ5.out.size (fun i hi e => by omega)))
       have HN7 := Lib.hid (HN.out.on HZ7.out)
       have hsz7 := HF7.out.size
       clear n0 n1 n2 n3
       obtain ⟨n0, n1, n2, n3⟩ := duc_cells HN7.out
       rw [HX.out] at n0
       by_cases hlq : q < nu
       ·obtain ⟨t, htq⟩ : ∃ t, u.ws[q]? = some t := ⟨_, List.getElem?_eq_getElem (by have := HLU.out; omega)⟩
        obtain ⟨adu, hadu, hbu, hcc⟩ := ((HRU.out.keep (keeps_below HB1.out)).keep (keeps_below HZ7.out)).row.cell (strs_at htq)
        obtain ⟨adu', e9, hbu0, _⟩ := HRU.out.row.cell (strs_at htq)
        rw [hadu] at e9
        obtain rfl := Option.some.inj e9
        clear e9
        subst hadu
        have HLQ := Kept.mk hlq
        have hIq : (q : Int) < nu := by omega
        have HTK : Kept (u.ws.take (q + 1) = u.ws.take q ++ [t]) := ⟨by rw [List.take_add_one, htq]; rfl⟩
        have hn7 : n7 <= 1000 := by
         have h1 := HW7.out.row.len
         rw [strs_len, Nat.mul_one] at h1
         have h2 := insWs_len (u.ws.take q) x.ws
         have h3 : (u.ws.take q).length <= u.ws.length := by simp; omega
         have h4 := HMX.out
         omega
        have HB87 : Hid (D.B8 (D.insWs x.ws (u.ws.take q))) := Lib.hid (insWs_b8 HWS8.out fun z hz => HB8.out z (List.mem_of_mem_take hz))
        have HT8 := Lib.hid (HB8.out t (List.mem_of_getElem? htq))
        have HC : Hid (∀ W, RF 1 G W A7 n7 (strs (D.insWs x.ws (u.ws.take q))) -> Calls Tryz.prog 43 #[.slice A7 n7 c7, .string (D.sb t)] W fun e w' => ∃ (A' : Option Addr) (n' c' : Nat), e = .returned (.slice A' n' c') ∧ RF 1 (fun b => G b ∨ W.heap.size <= b) w' A' n' (strs (D.insW (D.insWs x.ws (u.ws.take q)) t)) ∧ n' <= c' ∧ Below W.heap.size W w') := Lib.hid fun W h => insert_any G A7 n7 c7 _ t W h hc7 HB87.out HT8.out hn7
        clear htq
        go_upto_region 13 with fail
        refine wp_region_noPanic ?_
        refine wp_region_held_drew (S := fun W' => Blk W' w.heap.size 37 (duc u (.slice (some adu) nu cu)) ∧ W'.cell? (adu.add q) = some (.string (D.sb t))) (by kernel_rfl) ⟨HN7.out.on (Below.refl _ _).drew, cell_kept_ (Below.refl _ _).drew hcc⟩ (fun _ => ?_)
        obtain ⟨wd, hwd⟩ : ∃ wd, wi.drew = wd := ⟨_, rfl⟩
        have bd0 : Below wi.heap.size wi wd := by rw [<- hwd]; exact (Below.refl _ _).drew
        have HB7d := Lib.hid (HB7.out.on bd0)
        have HW7d := Lib.hid (HW7.out.keep (keeps_below bd0))
        have HF7d := Lib.hid (HF7.out.step (Fr.of_below bd0 (Nat.le_refl _)))
        have sd : Blk wd w.heap.size 37 (duc u (.slice (some adu) nu cu)) ∧ wd.cell? (adu.add q) = some (.string (D.sb t)) := ⟨HN7.out.on bd0, cell_kept_ bd0 hcc⟩
        obtain ⟨k0, k1, k2, k3⟩ := duc_cells HB7d.out
        rw [hwd]
        clear hwd
        refine takeT 0 (some 72) ?vh0 ?hyh0 sd ?resth0
        case hyh0 => (intro o ho W hW; simp only [gT, gS, gZ, sI] at ho; subst ho; (try dsimp only at hW); go_simp; first | rfl | (rw [if_pos (by omega)]) | skip)
        try simp only [Act.put, iT, iZ, iS]
        refine takeT 2 (some 74) ?vh2 ?hyh2 sd ?resth2
        case hyh2 => (intro o ho W hW; simp only [gT, gS, gZ, sI] at ho; subst ho; (try dsimp only at hW); go_simp; first | rfl | (rw [if_pos (by omega)]) | skip)
        try simp only [Act.put, iT, iZ, iS]
        refine takeT 3 (some 75) ?vh3 ?hyh3 sd ?resth3
        case hyh3 => (intro o ho W hW; simp only [gT, gS, gZ, sI] at ho; subst ho; (try dsimp only at hW); obtain ⟨g0, g1, g2, g3⟩ := duc_cells hW.1; have g4 := hW.2; go_simp; first | rfl | (rw [if_pos (by omega)]) | skip)
        try simp only [Act.put, iT, iZ, iS]
        refine takeT 4 (some 76) ?vh4 ?hyh4 sd ?resth4
        case hyh4 => (intro o ho W hW; simp only [gT, gS, gZ, sI] at ho; subst ho; (try dsimp only at hW); go_simp; first | rfl | (rw [if_pos (by omega)]) | skip)
        try simp only [Act.put, iT, iZ, iS]
        refine takeT 5 (some 77) ?vh5 ?hyh5 sd ?resth5
        case hyh5 => (intro o ho W hW; simp only [gT, gS, gZ, sI] at ho; subst ho; (try dsimp only at hW); go_simp; first | rfl | (rw [if_pos (by omega)]) | skip)
        try simp only [Act.put, iT, iZ, iS]
        refine takeT 6 (some 78) ?vh6 ?hyh6 sd ?resth6
        case hyh6 => (intro o ho W hW; simp only [gT, gS, gZ, sI] at ho; subst ho; (try dsimp only at hW); obtain ⟨g0, g1, g2, g3⟩ := duc_cells hW.1; have g4 := hW.2; go_simp; first | rfl | (rw [if_pos (by omega)]) | skip)
        try simp only [Act.put, iT, iZ, iS]
        refine nextS 1 (by kernel_rfl) (by rfl) (fun o ho K hK => ?_)
        simp only [gT, gS, gZ, sI] at ho; subst ho
        go_simp
        refine hK.out _ _ sd (fun _ => ?_)
        clear hK K
        try simp only [Act.put, iT, iZ, iS]
        refine nextS 7 (by kernel_rfl) (by rfl) (fun o ho K hK => ?_)
        simp only [gT, gS, gZ, sI] at ho; subst ho
        go_simp
        (go_at_call 43; (with_reducible refine (HC.out wd HW7d.out).mono ?_); rintro e w6 ⟨A8, n8, c8, rfl, hr8, hc8, b6⟩)
        have s6 : Blk w6 w.heap.size 37 (duc u (.slice (some adu) nu cu)) ∧ w6.cell? (adu.add q) = some (.string (D.sb t)) := ⟨sd.1.on b6, cell_kept_ b6 sd.2⟩
        refine hK.out _ _ s6 (fun _ => ?_)
        clear hK K k0 k1 k2 k3
        try simp only [Act.put, iT, iZ, iS]
        refine takeT 8 (some 80) ?vhb8 ?hyhb8 s6 ?resthb8
        case hyhb8 => (intro o ho W hW; simp only [gT, gS, gZ, sI] at ho; subst ho; (try dsimp only at hW); go_simp; first | rfl | (rw [if_pos (by omega)]) | skip)
        try simp only [Act.put, iT, iZ, iS]
        have hB6 := HB7d.out.on b6
        have k2 : w6.cell? ⟨W4.heap.size, 2, none⟩ = some (.slice A7 n7 c7) := by rw [hB6.c_ 2]; rfl
        have k3 := hB6.f_ 2
        have k4 := hB6.lt
        have hput := hB6.put_ 2 (.slice A8 n8 c8)
        have HP : Hid (Blk (w6.setCell ⟨W4.heap.size, 2, none⟩ (.slice A8 n8 c8)) W4.heap.size 37 (duc (⟨x.n, Hv, []⟩ : D.Du) (.slice A8 n8 c8))) := Lib.hid hput
        have HF9 := Lib.hid (fr_next HF7d.out (b6.mono HF7d.out.size |>.mono (Nat.le_refl _)) ⟨W4.heap.size, 2, none⟩ rfl (.slice A8 n8 c8))
        have HR9 : Hid (RF 1 G (w6.setCell ⟨W4.heap.size, 2, none⟩ (.slice A8 n8 c8)) A8 n8 (strs (D.insWs x.ws (u.ws.take (q + 1))))) := Lib.hid (by
         rw [HTK.out, insWs_snoc]
         have h1 := HF7d.out.size
         refine (hr8.weaken (F' := G) fun b _ hb => ?_).keep (keeps_setCell _ _ _ fun b hb => ?_)
         ·rcases hb with hb | hb
          ·exact hb
          ·rw [HG.out]; exact .inr (by omega)
         ·rw [HG.out] at hb
          show b ≠ W4.heap.size
          omega)
        have s9 : Blk (w6.setCell ⟨W4.heap.size, 2, none⟩ (.slice A8 n8 c8)) w.heap.size 37 (duc u (.slice (some adu) nu cu)) ∧ (w6.setCell ⟨W4.heap.size, 2, none⟩ (.slice A8 n8 c8)).cell? (adu.add q) = some (.string (D.sb t)) := by
         have f1 : Fr (· = W4.heap.size) w6 (w6.setCell ⟨W4.heap.size, 2, none⟩ (.slice A8 n8 c8)) := (Fr.refl _ _).setCell _ _ fun _ => rfl
         exact ⟨f1.blk s6.1 (by show ¬ w.heap.size = W4.heap.size; omega), f1.cell s6.2 (by rw [block_of_add]; show ¬ adu.block = W4.heap.size; omega)⟩
        clear hput hB6 hr8
        refine nextS 9 (by kernel_rfl) (by rfl) (fun o ho K hK => ?_)
        simp only [gT, gS, gZ, sI] at ho; subst ho
        go_simp
        refine hK.out _ _ s9 (fun _ => ?_)
        clear hK K k2 k3 k4
        try simp only [Act.put, iT, iZ, iS]
        refine wpAnyH_done (by kernel_rfl) ?_ _
        refine NoPanic.normal ?_
        go_wp2_with fail
        go_roundw
        case rel => exact ⟨q + 1, A8, n8, c8, HLQ.out, by go_num, hc8, HP, HR9, HF9⟩
        case measure => have := HLQ.out; simp [intOf]; omega
       ·obtain rfl : q = nu := by omega
        have etk : u.ws.take q = u.ws := List.take_of_length_le (by have := HLU.out; omega)
        rw [etk] at HW7
        clear etk
        have HO7 := Lib.hid (HO5.out.kept HF7.out.size fun g hg => HF7.out.same g (HO5.out.lt g hg).2 (fun e => by
         have e' : g = W4.heap.size := e
         have := (HO4.out.lt g hg).2
         omega))
        obtain ⟨G2, hG2⟩ : ∃ G2 : Nat -> Prop, G2 = fun b => G b ∧ b < wi.heap.size := ⟨_, rfl⟩
        have HG2 := Kept.mk hG2
        have HWn : Hid (RF 1 G2 wi A7 n7 (strs (D.insWs x.ws u.ws))) := Lib.hid (HW7.out.weaken fun b hb h => by rw [HG2.out]; exact ⟨h, hb⟩)
        clear hG2
        obtain ⟨k0, k1, k2, k3⟩ := duc_cells HB7.out
        have hrow := rw_du wi wi.heap.size rfl (⟨x.n, Hv, D.insWs x.ws u.ws⟩ : D.Du) (.slice A7 n7 c7) 37
        unfold duc at hrow
        simp only [HX.out, HY.out, Nat.le_refl] at hrow k0
        have HRow := Lib.hid hrow
        clear hrow
        obtain ⟨A1, hcut, hA1⟩ := from_u (some ad) n c (k + 1) (by omega) hcap
        try simp only [Int.natCast_add, Int.natCast_one, Int.cast_ofNat_Int] at hcut
        have HA1 := Lib.hid hA1
        clear hA1
        go_wp2_with (first
         | (at_builtin; refine gapp _ dus_under dus_info rfl (by decide) (by decide) rfl (.tmp 81) (.tmp 83) rfl rfl (HO7.out.alloc _) rfl HRow.out (dcl_one _ fun i z b hi => by rcases i with _ | i <;> simp at hi; obtain ⟨rfl, rfl⟩ := hi; rfl) (by omega) ?_; intro A8 c8 w8 h8 hg8 hor8
            have H8 := Lib.hid h8
            have hzw : (wi.alloc (.cells #[.string (D.sb Y), .int .i64 (Hv : Nat), .slice A7 n7 c7] 37)).heap.size = wi.heap.size + 1 := by simp
            have HOR := Lib.hid hor8
            have HB8w := Lib.hid ((HZ7.out.trans ((below_alloc_ wi (.cells #[.string (D.sb Y), .int .i64 (Hv : Nat), .slice A7 n7 c7] 37)).mono HZ7.out.size)).trans (ow_below (HO7.out.alloc _) hg8))
            have HWm := Lib.hid ((HWn.out.keep (keeps_below (below_alloc_ wi (.cells #[.string (D.sb Y), .int .i64 (Hv : Nat), .slice A7 n7 c7] 37)))).keep (keeps_grown hg8 (fun b hb e => by
             rw [HG2.out, HG.out] at hb
             have h1 := HO4.out.lt b e
             have h2 := hb.1
             omega)))
            clear h8 hg8 hor8)
         | (at_builtin; refine gapp _ dus_under dus_info rfl (by decide) (by decide) rfl (.tmp 85) (.tmp 89) rfl rfl H8.out rfl (HA1.out _ _ _ ((HR.out.keep (keeps_below HB1.out)).keep (keeps_below HB8w.out))).row (dcl_one _ fun i z b hi => (HBl.out _ z b (by rw [List.getElem?_drop] at hi; exact hi)).one) (by omega) ?_; intro A9 c9 w9 h9 hg9 hor9
            have H9 := Lib.hid h9
            have HB9w := Lib.hid (HB8w.out.trans (ow_below H8.out hg9))
            have HWl := Lib.hid (HWm.out.keep (keeps_grown hg9 (fun b hb e => by
             rw [HG2.out, HG.out] at hb
             rcases HOR.out with h1 | h1
             ·rw [h1] at e
              have h1 := HO4.out.lt b e
              have h2 := hb.1
              omega
             ·rw [h1, hzw] at e
              injection e with e
              have h2 := hb.2
              omega)))
            clear h9 hg9 hor9))
        have h9 := H9.out
        have hb9 : Below w.heap.size w w9 := HB1.out.trans (HB9w.out.mono HB1.out.size)
        have hz0 := HB1.out.size
        have hv9 : (Dbl (fun b => F b ∨ w.heap.size <= b) w9 (⟨x.n, Hv, D.insWs x.ws u.ws⟩ : D.Du) (.slice A7 n7 c7)) := ⟨A7, n7, c7, rfl, hc7, HWl.out.weaken fun b _ hb => by
         rw [HG2.out, HG.out] at hb
         rcases hb.1 with h | h
         ·exact .inl h.1
         ·exact .inr (by omega), insWs_b8 HWS8.out HB8.out, HXN.out, HV8.out⟩
        go_ret
        refine ⟨A9, _, c9, rfl, ?_, hb9⟩
        rw [HI.out, HUP.out]
        have hm : (vs.take k ++ [((⟨x.n, Hv, D.insWs x.ws u.ws⟩ : D.Du), Value.slice A7 n7 c7)] ++ vs.drop (k + 1)).map (·.1) = d.take k ++ [(⟨x.n, Hv, D.insWs x.ws u.ws⟩ : D.Du)] ++ d.drop (k + 1) := by
         rw [<- HL.out]
         simp [List.map_take, List.map_drop]
        rw [<- hm]
        refine dus_make (base := w1.heap.size) ?_ (fun g hg => .inr (by omega)) (fun x' a' h => ?_)
        ·rw [dcl_app, dcl_app]
         exact h9
        ·rcases List.mem_append.1 h with h | h
         ·rcases List.mem_append.1 h with h | h
          ·obtain ⟨i, hi⟩ := List.mem_iff_getElem?.1 (List.mem_of_mem_take h)
           exact ((HBl.out i x' a' hi).keep (keeps_below hb9)).weaken fun b _ hb => .inl hb
          ·simp at h
           obtain ⟨rfl, rfl⟩ := h
           exact hv9
         ·obtain ⟨i, hi⟩ := List.mem_iff_getElem?.1 (List.mem_of_mem_drop h)
          exact ((HBl.out i x' a' hi).keep (keeps_below hb9)).weaken fun b _ hb => .inl hb
     ·have hbq := hw_bit HXH.out hh
      rw [decide_eq_false hbt] at hbq
      have hup : D.updD x u.h u.ws = ⟨x.n, x.h, D.insWs x.ws u.ws⟩ := by unfold D.updD; rw [if_neg hbt]
      have hxh := HXH.out
      obtain ⟨Hv, hHv⟩ : ∃ Hv, x.h = Hv := ⟨_, rfl⟩
      have hv8 : Hv < 8 := by rw [<- hHv]; first | exact hxh | (rcases hh with e | e | e <;> rw [e] at hbt ⊢ <;> omega)
      have HV8 := Kept.mk hv8
      rw [hHv] at hup
      have HHV := Kept.mk hHv
      have HUP := Kept.mk hup
      have HWS8 := HX8
      clear hbt hup hHv hv8
      go_wp2_with fail
      clear hbq
      obtain ⟨W5, hW5⟩ : ∃ W5, W4.alloc (.cells #[.string (D.sb Y), .int .i64 (x.h : Nat), .slice Ax nx cx] 37) = W5 := ⟨_, rfl⟩
      have hbk : Blk W5 W4.heap.size 37 (duc (⟨x.n, Hv, []⟩ : D.Du) (.slice Ax nx cx)) := by
       rw [<- hW5]
       have h := Blk.new W4 37 #[.string (D.sb Y), .int .i64 (x.h : Nat), .slice Ax nx cx]
       unfold duc
       simp only [HX.out, HY.out, <- HHV.out, Int.natCast_add]
       exact h
      have hb5 : Below W4.heap.size W4 W5 := by rw [<- hW5]; exact below_alloc_ _ _
      have hz5 : W5.heap.size = W4.heap.size + 1 := by rw [<- hW5]; simp
      rw [hW5]
      have HBK := Lib.hid hbk
      have HO5 := Lib.hid (HO4.out.on hb5)
      have HZ5 := Lib.hid (HZ4.out.trans (hb5.mono HZ4.out.size))
      have hzz := HZ4.out.size
      have hz1 : w.heap.size < w1.heap.size := HN.out.lt
      obtain ⟨G, hG⟩ : ∃ G : Nat -> Prop, G = fun b => (F b ∧ b < w1.heap.size) ∨ W5.heap.size <= b := ⟨_, rfl⟩
      have HG := Kept.mk hG
      have HW0 : Hid (RF 1 G W5 Ax nx (strs x.ws)) := Lib.hid (((HRX.out.keep (keeps_below HB1.out)).weaken (F' := G) fun b hb hF => by rw [HG.out]; exact .inl ⟨hF, hb⟩).keep (keeps_below HZ5.out))
      have hwl : nx <= cx := by first | exact HCX.out | exact Nat.le_refl _
      clear hW5 hb5 hbk hG
      go_loopw [8] (fun s8 wr => ∃ (q : Nat) (A7 : Option Addr) (n7 c7 : Nat), q <= nu ∧ s8 = .int .i64 q ∧ n7 <= c7 ∧ Hid (Blk wr W4.heap.size 37 (duc (⟨x.n, Hv, []⟩ : D.Du) (.slice A7 n7 c7))) ∧ Hid (RF 1 G wr A7 n7 (strs (D.insWs x.ws (u.ws.take q)))) ∧ Hid (Fr (· = W4.heap.size) W5 wr)) (fun s8 _ => nu - (intOf s8).toNat)
      case atStart => exact ⟨0, Ax, nx, cx, Nat.zero_le _, rfl, hwl, HBK, Lib.hid HW0.out, Lib.hid (Fr.refl _ _)⟩
      case round =>
       obtain ⟨q, A7, n7, c7, hq, rfl, hc7, HB7, HW7, HF7⟩ := hrel
       obtain ⟨wi, rfl⟩ : ∃ wi : World, wi = wr := ⟨_, rfl⟩
       have HZ7 := Lib.hid (HZ5.out.trans (HF7.out.below (B := w1.heap.size) HZ5.out.size (fun i hi e => by omega)))
       have HN7 := Lib.hid (HN.out.on HZ7.out)
       have hsz7 := HF7.out.size
       clear n0 n1 n2 n3
       obtain ⟨n0, n1, n2, n3⟩ := duc_cells HN7.out
       rw [HX.out] at n0
       by_cases hlq : q < nu
       ·obtain ⟨t, htq⟩ : ∃ t, u.ws[q]? = some t := ⟨_, List.getElem?_eq_getElem (by have := HLU.out; omega)⟩
        obtain ⟨adu, hadu, hbu, hcc⟩ := ((HRU.out.keep (keeps_below HB1.out)).keep (keeps_below HZ7.out)).row.cell (strs_at htq)
        obtain ⟨adu', e9, hbu0, _⟩ := HRU.out.row.cell (strs_at htq)
        rw [hadu] at e9
        obtain rfl := Option.some.inj e9
        clear e9
        subst hadu
        have HLQ := Kept.mk hlq
        have hIq : (q : Int) < nu := by omega
        have HTK : Kept (u.ws.take (q + 1) = u.ws.take q ++ [t]) := ⟨by rw [List.take_add_one, htq]; rfl⟩
        have hn7 : n7 <= 1000 := by
         have h1 := HW7.out.row.len
         rw [strs_len, Nat.mul_one] at h1
         have h2 := insWs_len (u.ws.take q) x.ws
         have h3 : (u.ws.take q).length <= u.ws.length := by simp; omega
         have h4 := HMX.out
         omega
        have HB87 : Hid (D.B8 (D.insWs x.ws (u.ws.take q))) := Lib.hid (insWs_b8 HWS8.out fun z hz => HB8.out z (List.mem_of_mem_take hz))
        have HT8 := Lib.hid (HB8.out t (List.mem_of_getElem? htq))
        have HC : Hid (∀ W, RF 1 G W A7 n7 (strs (D.insWs x.ws (u.ws.take q))) -> Calls Tryz.prog 43 #[.slice A7 n7 c7, .string (D.sb t)] W fun e w' => ∃ (A' : Option Addr) (n' c' : Nat), e = .returned (.slice A' n' c') ∧ RF 1 (fun b => G b ∨ W.heap.size <= b) w' A' n' (strs (D.insW (D.insWs x.ws (u.ws.take q)) t)) ∧ n' <= c' ∧ Below W.heap.size W w') := Lib.hid fun W h => insert_any G A7 n7 c7 _ t W h hc7 HB87.out HT8.out hn7
        clear htq
        go_upto_region 13 with fail
        refine wp_region_noPanic ?_
        refine wp_region_held_drew (S := fun W' => Blk W' w.heap.size 37 (duc u (.slice (some adu) nu cu)) ∧ W'.cell? (adu.add q) = some (.string (D.sb t))) (by kernel_rfl) ⟨HN7.out.on (Below.refl _ _).drew, cell_kept_ (Below.refl _ _).drew hcc⟩ (fun _ => ?_)
        obtain ⟨wd, hwd⟩ : ∃ wd, wi.drew = wd := ⟨_, rfl⟩
        have bd0 : Below wi.heap.size wi wd := by rw [<- hwd]; exact (Below.refl _ _).drew
        have HB7d := Lib.hid (HB7.out.on bd0)
        have HW7d := Lib.hid (HW7.out.keep (keeps_below bd0))
        have HF7d := Lib.hid (HF7.out.step (Fr.of_below bd0 (Nat.le_refl _)))
        have sd : Blk wd w.heap.size 37 (duc u (.slice (some adu) nu cu)) ∧ wd.cell? (adu.add q) = some (.string (D.sb t)) := ⟨HN7.out.on bd0, cell_kept_ bd0 hcc⟩
        obtain ⟨k0, k1, k2, k3⟩ := duc_cells HB7d.out
        rw [hwd]
        clear hwd
        refine takeT 0 (some 72) ?vi0 ?hyi0 sd ?resti0
        case hyi0 => (intro o ho W hW; simp only [gT, gS, gZ, sI] at ho; subst ho; (try dsimp only at hW); go_simp; first | rfl | (rw [if_pos (by omega)]) | skip)
        try simp only [Act.put, iT, iZ, iS]
        refine takeT 2 (some 74) ?vi2 ?hyi2 sd ?resti2
        case hyi2 => (intro o ho W hW; simp only [gT, gS, gZ, sI] at ho; subst ho; (try dsimp only at hW); go_simp; first | rfl | (rw [if_pos (by omega)]) | skip)
        try simp only [Act.put, iT, iZ, iS]
        refine takeT 3 (some 75) ?vi3 ?hyi3 sd ?resti3
        case hyi3 => (intro o ho W hW; simp only [gT, gS, gZ, sI] at ho; subst ho; (try dsimp only at hW); obtain ⟨g0, g1, g2, g3⟩ := duc_cells hW.1; have g4 := hW.2; go_simp; first | rfl | (rw [if_pos (by omega)]) | skip)
        try simp only [Act.put, iT, iZ, iS]
        refine takeT 4 (some 76) ?vi4 ?hyi4 sd ?resti4
        case hyi4 => (intro o ho W hW; simp only [gT, gS, gZ, sI] at ho; subst ho; (try dsimp only at hW); go_simp; first | rfl | (rw [if_pos (by omega)]) | skip)
        try simp only [Act.put, iT, iZ, iS]
        refine takeT 5 (some 77) ?vi5 ?hyi5 sd ?resti5
        case hyi5 => (intro o ho W hW; simp only [gT, gS, gZ, sI] at ho; subst ho; (try dsimp only at hW); go_simp; first | rfl | (rw [if_pos (by omega)]) | skip)
        try simp only [Act.put, iT, iZ, iS]
        refine takeT 6 (some 78) ?vi6 ?hyi6 sd ?resti6
        case hyi6 => (intro o ho W hW; simp only [gT, gS, gZ, sI] at ho; subst ho; (try dsimp only at hW); obtain ⟨g0, g1, g2, g3⟩ := duc_cells hW.1; have g4 := hW.2; go_simp; first | rfl | (rw [if_pos (by omega)]) | skip)
        try simp only [Act.put, iT, iZ, iS]
        refine nextS 1 (by kernel_rfl) (by rfl) (fun o ho K hK => ?_)
        simp only [gT, gS, gZ, sI] at ho; subst ho
        go_simp
        refine hK.out _ _ sd (fun _ => ?_)
        clear hK K
        try simp only [Act.put, iT, iZ, iS]
        refine nextS 7 (by kernel_rfl) (by rfl) (fun o ho K hK => ?_)
        simp only [gT, gS, gZ, sI] at ho; subst ho
        go_simp
        (go_at_call 43; (with_reducible refine (HC.out wd HW7d.out).mono ?_); rintro e w6 ⟨A8, n8, c8, rfl, hr8, hc8, b6⟩)
        have s6 : Blk w6 w.heap.size 37 (duc u (.slice (some adu) nu cu)) ∧ w6.cell? (adu.add q) = some (.string (D.sb t)) := ⟨sd.1.on b6, cell_kept_ b6 sd.2⟩
        refine hK.out _ _ s6 (fun _ => ?_)
        clear hK K k0 k1 k2 k3
        try simp only [Act.put, iT, iZ, iS]
        refine takeT 8 (some 80) ?vib8 ?hyib8 s6 ?restib8
        case hyib8 => (intro o ho W hW; simp only [gT, gS, gZ, sI] at ho; subst ho; (try dsimp only at hW); go_simp; first | rfl | (rw [if_pos (by omega)]) | skip)
        try simp only [Act.put, iT, iZ, iS]
        have hB6 := HB7d.out.on b6
        have k2 : w6.cell? ⟨W4.heap.size, 2, none⟩ = some (.slice A7 n7 c7) := by rw [hB6.c_ 2]; rfl
        have k3 := hB6.f_ 2
        have k4 := hB6.lt
        have hput := hB6.put_ 2 (.slice A8 n8 c8)
        have HP : Hid (Blk (w6.setCell ⟨W4.heap.size, 2, none⟩ (.slice A8 n8 c8)) W4.heap.size 37 (duc (⟨x.n, Hv, []⟩ : D.Du) (.slice A8 n8 c8))) := Lib.hid hput
        have HF9 := Lib.hid (fr_next HF7d.out (b6.mono HF7d.out.size |>.mono (Nat.le_refl _)) ⟨W4.heap.size, 2, none⟩ rfl (.slice A8 n8 c8))
        have HR9 : Hid (RF 1 G (w6.setCell ⟨W4.heap.size, 2, none⟩ (.slice A8 n8 c8)) A8 n8 (strs (D.insWs x.ws (u.ws.take (q + 1))))) := Lib.hid (by
         rw [HTK.out, insWs_snoc]
         have h1 := HF7d.out.size
         refine (hr8.weaken (F' := G) fun b _ hb => ?_).keep (keeps_setCell _ _ _ fun b hb => ?_)
         ·rcases hb with hb | hb
          ·exact hb
          ·rw [HG.out]; exact .inr (by omega)
         ·rw [HG.out] at hb
          show b ≠ W4.heap.size
          omega)
        have s9 : Blk (w6.setCell ⟨W4.heap.size, 2, none⟩ (.slice A8 n8 c8)) w.heap.size 37 (duc u (.slice (some adu) nu cu)) ∧ (w6.setCell ⟨W4.heap.size, 2, none⟩ (.slice A8 n8 c8)).cell? (adu.add q) = some (.string (D.sb t)) := by
         have f1 : Fr (· = W4.heap.size) w6 (w6.setCell ⟨W4.heap.size, 2, none⟩ (.slice A8 n8 c8)) := (Fr.refl _ _).setCell _ _ fun _ => rfl
         exact ⟨f1.blk s6.1 (by show ¬ w.heap.size = W4.heap.size; omega), f1.cell s6.2 (by rw [block_of_add]; show ¬ adu.block = W4.heap.size; omega)⟩
        clear hput hB6 hr8
        refine nextS 9 (by kernel_rfl) (by rfl) (fun o ho K hK => ?_)
        simp only [gT, gS, gZ, sI] at ho; subst ho
        go_simp
        refine hK.out _ _ s9 (fun _ => ?_)
        clear hK K k2 k3 k4
        try simp only [Act.put, iT, iZ, iS]
        refine wpAnyH_done (by kernel_rfl) ?_ _
        refine NoPanic.normal ?_
        go_wp2_with fail
        go_roundw
        case rel => exact ⟨q + 1, A8, n8, c8, HLQ.out, by go_num, hc8, HP, HR9, HF9⟩
        case measure => have := HLQ.out; simp [intOf]; omega
       ·obtain rfl : q = nu := by omega
        have etk : u.ws.take q = u.ws := List.take_of_length_le (by have := HLU.out; omega)
        rw [etk] at HW7
        clear etk
        have HO7 := Lib.hid (HO5.out.kept HF7.out.size fun g hg => HF7.out.same g (HO5.out.lt g hg).2 (fun e => by
         have e' : g = W4.heap.size := e
         have := (HO4.out.lt g hg).2
         omega))
        obtain ⟨G2, hG2⟩ : ∃ G2 : Nat -> Prop, G2 = fun b => G b ∧ b < wi.heap.size := ⟨_, rfl⟩
        have HG2 := Kept.mk hG2
        have HWn : Hid (RF 1 G2 wi A7 n7 (strs (D.insWs x.ws u.ws))) := Lib.hid (HW7.out.weaken fun b hb h => by rw [HG2.out]; exact ⟨h, hb⟩)
        clear hG2
        obtain ⟨k0, k1, k2, k3⟩ := duc_cells HB7.out
        have hrow := rw_du wi wi.heap.size rfl (⟨x.n, Hv, D.insWs x.ws u.ws⟩ : D.Du) (.slice A7 n7 c7) 37
        unfold duc at hrow
        simp only [HX.out, HY.out, Nat.le_refl] at hrow k0
        have HRow := Lib.hid hrow
        clear hrow
        obtain ⟨A1, hcut, hA1⟩ := from_u (some ad) n c (k + 1) (by omega) hcap
        try simp only [Int.natCast_add, Int.natCast_one, Int.cast_ofNat_Int] at hcut
        have HA1 := Lib.hid hA1
        clear hA1
        go_wp2_with (first
         | (at_builtin; refine gapp _ dus_under dus_info rfl (by decide) (by decide) rfl (.tmp 81) (.tmp 83) rfl rfl (HO7.out.alloc _) rfl HRow.out (dcl_one _ fun i z b hi => by rcases i with _ | i <;> simp at hi; obtain ⟨rfl, rfl⟩ := hi; rfl) (by omega) ?_; intro A8 c8 w8 h8 hg8 hor8
            have H8 := Lib.hid h8
            have hzw : (wi.alloc (.cells #[.string (D.sb Y), .int .i64 (Hv : Nat), .slice A7 n7 c7] 37)).heap.size = wi.heap.size + 1 := by simp
            have HOR := Lib.hid hor8
            have HB8w := Lib.hid ((HZ7.out.trans ((below_alloc_ wi (.cells #[.string (D.sb Y), .int .i64 (Hv : Nat), .slice A7 n7 c7] 37)).mono HZ7.out.size)).trans (ow_below (HO7.out.alloc _) hg8))
            have HWm := Lib.hid ((HWn.out.keep (keeps_below (below_alloc_ wi (.cells #[.string (D.sb Y), .int .i64 (Hv : Nat), .slice A7 n7 c7] 37)))).keep (keeps_grown hg8 (fun b hb e => by
             rw [HG2.out, HG.out] at hb
             have h1 := HO4.out.lt b e
             have h2 := hb.1
             omega)))
            clear h8 hg8 hor8)
         | (at_builtin; refine gapp _ dus_under dus_info rfl (by decide) (by decide) rfl (.tmp 85) (.tmp 89) rfl rfl H8.out rfl (HA1.out _ _ _ ((HR.out.keep (keeps_below HB1.out)).keep (keeps_below HB8w.out))).row (dcl_one _ fun i z b hi => (HBl.out _ z b (by rw [List.getElem?_drop] at hi; exact hi)).one) (by omega) ?_; intro A9 c9 w9 h9 hg9 hor9
            have H9 := Lib.hid h9
            have HB9w := Lib.hid (HB8w.out.trans (ow_below H8.out hg9))
            have HWl := Lib.hid (HWm.out.keep (keeps_grown hg9 (fun b hb e => by
             rw [HG2.out, HG.out] at hb
             rcases HOR.out with h1 | h1
             ·rw [h1] at e
              have h1 := HO4.out.lt b e
              have h2 := hb.1
              omega
             ·rw [h1, hzw] at e
              injection e with e
              have h2 := hb.2
              omega)))
            clear h9 hg9 hor9))
        have h9 := H9.out
        have hb9 : Below w.heap.size w w9 := HB1.out.trans (HB9w.out.mono HB1.out.size)
        have hz0 := HB1.out.size
        have hv9 : (Dbl (fun b => F b ∨ w.heap.size <= b) w9 (⟨x.n, Hv, D.insWs x.ws u.ws⟩ : D.Du) (.slice A7 n7 c7)) := ⟨A7, n7, c7, rfl, hc7, HWl.out.weaken fun b _ hb => by
         rw [HG2.out, HG.out] at hb
         rcases hb.1 with h | h
         ·exact .inl h.1
         ·exact .inr (by omega), insWs_b8 HWS8.out HB8.out, HXN.out, HV8.out⟩
        go_ret
        refine ⟨A9, _, c9, rfl, ?_, hb9⟩
        rw [HI.out, HUP.out]
        have hm : (vs.take k ++ [((⟨x.n, Hv, D.insWs x.ws u.ws⟩ : D.Du), Value.slice A7 n7 c7)] ++ vs.drop (k + 1)).map (·.1) = d.take k ++ [(⟨x.n, Hv, D.insWs x.ws u.ws⟩ : D.Du)] ++ d.drop (k + 1) := by
         rw [<- HL.out]
         simp [List.map_take, List.map_drop]
        rw [<- hm]
        refine dus_make (base := w1.heap.size) ?_ (fun g hg => .inr (by omega)) (fun x' a' h => ?_)
        ·rw [dcl_app, dcl_app]
         exact h9
        ·rcases List.mem_append.1 h with h | h
         ·rcases List.mem_append.1 h with h | h
          ·obtain ⟨i, hi⟩ := List.mem_iff_getElem?.1 (List.mem_of_mem_take h)
           exact ((HBl.out i x' a' hi).keep (keeps_below hb9)).weaken fun b _ hb => .inl hb
          ·simp at h
           obtain ⟨rfl, rfl⟩ := h
           exact hv9
         ·obtain ⟨i, hi⟩ := List.mem_iff_getElem?.1 (List.mem_of_mem_drop h)
          exact ((HBl.out i x' a' hi).keep (keeps_below hb9)).weaken fun b _ hb => .inl hb
    ·rw [decide_eq_false (fun h => h2 (hl4.1 h))] at hl2
     rw [if_neg h2] at hi
     have HI := Kept.mk hi
     clear h1 h2 hi hl3 hl4 hv hdx
     go_wp2_with fail
     go_quiet (fail)
     obtain ⟨W2, hW2⟩ : ∃ W2, wo.drewN nq = W2 := ⟨_, rfl⟩
     have hbW : Below wo.heap.size wo W2 := by rw [<- hW2]; exact below_drewN (Below.refl _ _) nq
     rw [hW2]
     have HO2 := Lib.hid (HO.out.on hbW)
     have HZ2 := Lib.hid (HZ.out.trans (hbW.mono HZ.out.size))
     have HRr2 := Lib.hid (HRr.out.keep (keeps_below hbW))
     have HN3 := Lib.hid (HN2.out.on hbW)
     clear hW2 hbW d0 d1 d2 d3 n0 n1 n2 n3
     obtain ⟨n0, n1, n2, n3⟩ := duc_cells HN3.out
     rw [HX.out] at n0
     obtain ⟨ad2, e2, d0, d1, d2, d3⟩ := dc_at HRr2.out.row HV.out
     obtain rfl := Option.some.inj e2
     rw [HY.out] at d1
     go_wp2_with fail
     go_quiet (fail)
     obtain ⟨W4, hW4⟩ : ∃ W4, W2.drewN nq = W4 := ⟨_, rfl⟩
     have hbW : Below W2.heap.size W2 W4 := by rw [<- hW4]; exact below_drewN (Below.refl _ _) nq
     rw [hW4]
     have HO4 := Lib.hid (HO2.out.on hbW)
     have HZ4 := Lib.hid (HZ2.out.trans (hbW.mono HZ2.out.size))
     have HRr4 := Lib.hid (HRr2.out.keep (keeps_below hbW))
     have HN4 := Lib.hid (HN3.out.on hbW)
     clear hW4 hbW d0 d1 d2 d3 n0 n1 n2 n3
     obtain ⟨n0, n1, n2, n3⟩ := duc_cells HN4.out
     rw [HX.out] at n0
     obtain ⟨ad3, e3, d0, d1, d2, d3⟩ := dc_at HRr4.out.row HV.out
     obtain rfl := Option.some.inj e3
     rw [HY.out] at d1
     have HMX : Kept (([] : List (List Nat)).length + u.ws.length <= 900) := ⟨by simp; exact hMu⟩
     have HWS8 : Hid (D.B8 []) := Lib.hid (fun w hw => by cases hw)
     go_wp2_with fail
     obtain ⟨W5, hW5⟩ : ∃ W5, W4.alloc (.cells #[.string (D.sb X), .int .i64 (u.h : Nat), .slice none 0 0] 37) = W5 := ⟨_, rfl⟩
     have hbk : Blk W5 W4.heap.size 37 (duc (⟨u.n, u.h, []⟩ : D.Du) (.slice none 0 0)) := by
      rw [<- hW5]
      have h := Blk.new W4 37 #[.string (D.sb X), .int .i64 (u.h : Nat), .slice none 0 0]
      unfold duc
      simp only [HX.out,   Int.natCast_add]
      exact h
     have hb5 : Below W4.heap.size W4 W5 := by rw [<- hW5]; exact below_alloc_ _ _
     have hz5 : W5.heap.size = W4.heap.size + 1 := by rw [<- hW5]; simp
     rw [hW5]
     have HBK := Lib.hid hbk
     have HO5 := Lib.hid (HO4.out.on hb5)
     have HZ5 := Lib.hid (HZ4.out.trans (hb5.mono HZ4.out.size))
     have hzz := HZ4.out.size
     have hz1 : w.heap.size < w1.heap.size := HN.out.lt
     obtain ⟨G, hG⟩ : ∃ G : Nat -> Prop, G = fun b => (F b ∧ b < w1.heap.size) ∨ W5.heap.size <= b := ⟨_, rfl⟩
     have HG := Kept.mk hG
     have HW0 : Hid (RF 1 G W5 none 0 (strs ([] : List (List Nat)))) := Lib.hid (RF.nil _ _ _ _)
     have hwl : 0 <= 0 := by first | exact HCX.out | exact Nat.le_refl _
     clear hW5 hb5 hbk hG
     go_loopw [10] (fun s8 wr => ∃ (q : Nat) (A7 : Option Addr) (n7 c7 : Nat), q <= nu ∧ s8 = .int .i64 q ∧ n7 <= c7 ∧ Hid (Blk wr W4.heap.size 37 (duc (⟨u.n, u.h, []⟩ : D.Du) (.slice A7 n7 c7))) ∧ Hid (RF 1 G wr A7 n7 (strs (D.insWs ([] : List (List Nat)) (u.ws.take q)))) ∧ Hid (Fr (· = W4.heap.size) W5 wr)) (fun s8 _ => nu - (intOf s8).toNat)
     case atStart => exact ⟨0, none, 0, 0, Nat.zero_le _, rfl, hwl, HBK, Lib.hid HW0.out, Lib.hid (Fr.refl _ _)⟩
     case round =>
      obtain ⟨q, A7, n7, c7, hq, rfl, hc7, HB7, HW7, HF7⟩ := hrel
      obtain ⟨wi, rfl⟩ : ∃ wi : World, wi = wr := ⟨_, rfl⟩
      have HZ7 := Lib.hid (HZ5.out.trans (HF7.out.below (B := w1.heap.size) HZ5.out.size (fun i hi e => by omega)))
      have HN7 := Lib.hid (HN.out.on HZ7.out)
      have hsz7 := HF7.out.size
      clear n0 n1 n2 n3
      obtain ⟨n0, n1, n2, n3⟩ := duc_cells HN7.out
      rw [HX.out] at n0
      by_cases hlq : q < nu
      ·obtain ⟨t, htq⟩ : ∃ t, u.ws[q]? = some t := ⟨_, List.getElem?_eq_getElem (by have := HLU.out; omega)⟩
       obtain ⟨adu, hadu, hbu, hcc⟩ := ((HRU.out.keep (keeps_below HB1.out)).keep (keeps_below HZ7.out)).row.cell (strs_at htq)
       obtain ⟨adu', e9, hbu0, _⟩ := HRU.out.row.cell (strs_at htq)
       rw [hadu] at e9
       obtain rfl := Option.some.inj e9
       clear e9
       subst hadu
       have HLQ := Kept.mk hlq
       have hIq : (q : Int) < nu := by omega
       have HTK : Kept (u.ws.take (q + 1) = u.ws.take q ++ [t]) := ⟨by rw [List.take_add_one, htq]; rfl⟩
       have hn7 : n7 <= 1000 := by
        have h1 := HW7.out.row.len
        rw [strs_len, Nat.mul_one] at h1
        have h2 := insWs_len (u.ws.take q) ([] : List (List Nat))
        have h3 : (u.ws.take q).length <= u.ws.length := by simp; omega
        have h4 := HMX.out
        omega
       have HB87 : Hid (D.B8 (D.insWs ([] : List (List Nat)) (u.ws.take q))) := Lib.hid (insWs_b8 HWS8.out fun z hz => HB8.out z (List.mem_of_mem_take hz))
       have HT8 := Lib.hid (HB8.out t (List.mem_of_getElem? htq))
       have HC : Hid (∀ W, RF 1 G W A7 n7 (strs (D.insWs ([] : List (List Nat)) (u.ws.take q))) -> Calls Tryz.prog 43 #[.slice A7 n7 c7, .string (D.sb t)] W fun e w' => ∃ (A' : Option Addr) (n' c' : Nat), e = .returned (.slice A' n' c') ∧ RF 1 (fun b => G b ∨ W.heap.size <= b) w' A' n' (strs (D.insW (D.insWs ([] : List (List Nat)) (u.ws.take q)) t)) ∧ n' <= c' ∧ Below W.heap.size W w') := Lib.hid fun W h => insert_any G A7 n7 c7 _ t W h hc7 HB87.out HT8.out hn7
       clear htq
       go_upto_region 20 with fail
       refine wp_region_noPanic ?_
       refine wp_region_held_drew (S := fun W' => Blk W' w.heap.size 37 (duc u (.slice (some adu) nu cu)) ∧ W'.cell? (adu.add q) = some (.string (D.sb t))) (by kernel_rfl) ⟨HN7.out.on (Below.refl _ _).drew, cell_kept_ (Below.refl _ _).drew hcc⟩ (fun _ => ?_)
       obtain ⟨wd, hwd⟩ : ∃ wd, wi.drew = wd := ⟨_, rfl⟩
       have bd0 : Below wi.heap.size wi wd := by rw [<- hwd]; exact (Below.refl _ _).drew
       have HB7d := Lib.hid (HB7.out.on bd0)
       have HW7d := Lib.hid (HW7.out.keep (keeps_below bd0))
       have HF7d := Lib.hid (HF7.out.step (Fr.of_below bd0 (Nat.le_refl _)))
       have sd : Blk wd w.heap.size 37 (duc u (.slice (some adu) nu cu)) ∧ wd.cell? (adu.add q) = some (.string (D.sb t)) := ⟨HN7.out.on bd0, cell_kept_ bd0 hcc⟩
       obtain ⟨k0, k1, k2, k3⟩ := duc_cells HB7d.out
       rw [hwd]
       clear hwd
       refine takeT 0 (some 103) ?vm0 ?hym0 sd ?restm0
       case hym0 => (intro o ho W hW; simp only [gT, gS, gZ, sI] at ho; subst ho; (try dsimp only at hW); go_simp; first | rfl | (rw [if_pos (by omega)]) | skip)
       try simp only [Act.put, iT, iZ, iS]
       refine takeT 2 (some 105) ?vm2 ?hym2 sd ?restm2
       case hym2 => (intro o ho W hW; simp only [gT, gS, gZ, sI] at ho; subst ho; (try dsimp only at hW); go_simp; first | rfl | (rw [if_pos (by omega)]) | skip)
       try simp only [Act.put, iT, iZ, iS]
       refine takeT 3 (some 106) ?vm3 ?hym3 sd ?restm3
       case hym3 => (intro o ho W hW; simp only [gT, gS, gZ, sI] at ho; subst ho; (try dsimp only at hW); obtain ⟨g0, g1, g2, g3⟩ := duc_cells hW.1; have g4 := hW.2; go_simp; first | rfl | (rw [if_pos (by omega)]) | skip)
       try simp only [Act.put, iT, iZ, iS]
       refine takeT 4 (some 107) ?vm4 ?hym4 sd ?restm4
       case hym4 => (intro o ho W hW; simp only [gT, gS, gZ, sI] at ho; subst ho; (try dsimp only at hW); go_simp; first | rfl | (rw [if_pos (by omega)]) | skip)
       try simp only [Act.put, iT, iZ, iS]
       refine takeT 5 (some 108) ?vm5 ?hym5 sd ?restm5
       case hym5 => (intro o ho W hW; simp only [gT, gS, gZ, sI] at ho; subst ho; (try dsimp only at hW); go_simp; first | rfl | (rw [if_pos (by omega)]) | skip)
       try simp only [Act.put, iT, iZ, iS]
       refine takeT 6 (some 109) ?vm6 ?hym6 sd ?restm6
       case hym6 => (intro o ho W hW; simp only [gT, gS, gZ, sI] at ho; subst ho; (try dsimp only at hW); obtain ⟨g0, g1, g2, g3⟩ := duc_cells hW.1; have g4 := hW.2; go_simp; first | rfl | (rw [if_pos (by omega)]) | skip)
       try simp only [Act.put, iT, iZ, iS]
       refine nextS 1 (by kernel_rfl) (by rfl) (fun o ho K hK => ?_)
       simp only [gT, gS, gZ, sI] at ho; subst ho
       go_simp
       refine hK.out _ _ sd (fun _ => ?_)
       clear hK K
       try simp only [Act.put, iT, iZ, iS]
       refine nextS 7 (by kernel_rfl) (by rfl) (fun o ho K hK => ?_)
       simp only [gT, gS, gZ, sI] at ho; subst ho
       go_simp
       (go_at_call 43; (with_reducible refine (HC.out wd HW7d.out).mono ?_); rintro e w6 ⟨A8, n8, c8, rfl, hr8, hc8, b6⟩)
       have s6 : Blk w6 w.heap.size 37 (duc u (.slice (some adu) nu cu)) ∧ w6.cell? (adu.add q) = some (.string (D.sb t)) := ⟨sd.1.on b6, cell_kept_ b6 sd.2⟩
       refine hK.out _ _ s6 (fun _ => ?_)
       clear hK K k0 k1 k2 k3
       try simp only [Act.put, iT, iZ, iS]
       refine takeT 8 (some 111) ?vmb8 ?hymb8 s6 ?restmb8
       case hymb8 => (intro o ho W hW; simp only [gT, gS, gZ, sI] at ho; subst ho; (try dsimp only at hW); go_simp; first | rfl | (rw [if_pos (by omega)]) | skip)
       try simp only [Act.put, iT, iZ, iS]
       have hB6 := HB7d.out.on b6
       have k2 : w6.cell? ⟨W4.heap.size, 2, none⟩ = some (.slice A7 n7 c7) := by rw [hB6.c_ 2]; rfl
       have k3 := hB6.f_ 2
       have k4 := hB6.lt
       have hput := hB6.put_ 2 (.slice A8 n8 c8)
       have HP : Hid (Blk (w6.setCell ⟨W4.heap.size, 2, none⟩ (.slice A8 n8 c8)) W4.heap.size 37 (duc (⟨u.n, u.h, []⟩ : D.Du) (.slice A8 n8 c8))) := Lib.hid hput
       have HF9 := Lib.hid (fr_next HF7d.out (b6.mono HF7d.out.size |>.mono (Nat.le_refl _)) ⟨W4.heap.size, 2, none⟩ rfl (.slice A8 n8 c8))
       have HR9 : Hid (RF 1 G (w6.setCell ⟨W4.heap.size, 2, none⟩ (.slice A8 n8 c8)) A8 n8 (strs (D.insWs ([] : List (List Nat)) (u.ws.take (q + 1))))) := Lib.hid (by
        rw [HTK.out, insWs_snoc]
        have h1 := HF7d.out.size
        refine (hr8.weaken (F' := G) fun b _ hb => ?_).keep (keeps_setCell _ _ _ fun b hb => ?_)
        ·rcases hb with hb | hb
         ·exact hb
         ·rw [HG.out]; exact .inr (by omega)
        ·rw [HG.out] at hb
         show b ≠ W4.heap.size
         omega)
       have s9 : Blk (w6.setCell ⟨W4.heap.size, 2, none⟩ (.slice A8 n8 c8)) w.heap.size 37 (duc u (.slice (some adu) nu cu)) ∧ (w6.setCell ⟨W4.heap.size, 2, none⟩ (.slice A8 n8 c8)).cell? (adu.add q) = some (.string (D.sb t)) := by
        have f1 : Fr (· = W4.heap.size) w6 (w6.setCell ⟨W4.heap.size, 2, none⟩ (.slice A8 n8 c8)) := (Fr.refl _ _).setCell _ _ fun _ => rfl
        exact ⟨f1.blk s6.1 (by show ¬ w.heap.size = W4.heap.size; omega), f1.cell s6.2 (by rw [block_of_add]; show ¬ adu.block = W4.heap.size; omega)⟩
       clear hput hB6 hr8
       refine nextS 9 (by kernel_rfl) (by rfl) (fun o ho K hK => ?_)
       simp only [gT, gS, gZ, sI] at ho; subst ho
       go_simp
       refine hK.out _ _ s9 (fun _ => ?_)
       clear hK K k2 k3 k4
       try simp only [Act.put, iT, iZ, iS]
       refine wpAnyH_done (by kernel_rfl) ?_ _
       refine NoPanic.normal ?_
       go_wp2_with fail
       go_roundw
       case rel => exact ⟨q + 1, A8, n8, c8, HLQ.out, by go_num, hc8, HP, HR9, HF9⟩
       case measure => have := HLQ.out; simp [intOf]; omega
      ·obtain rfl : q = nu := by omega
       have etk : u.ws.take q = u.ws := List.take_of_length_le (by have := HLU.out; omega)
       rw [etk] at HW7
       clear etk
       have HO7 := Lib.hid (HO5.out.kept HF7.out.size fun g hg => HF7.out.same g (HO5.out.lt g hg).2 (fun e => by
        have e' : g = W4.heap.size := e
        have := (HO4.out.lt g hg).2
        omega))
       obtain ⟨G2, hG2⟩ : ∃ G2 : Nat -> Prop, G2 = fun b => G b ∧ b < wi.heap.size := ⟨_, rfl⟩
       have HG2 := Kept.mk hG2
       have HWn : Hid (RF 1 G2 wi A7 n7 (strs (D.insWs ([] : List (List Nat)) u.ws))) := Lib.hid (HW7.out.weaken fun b hb h => by rw [HG2.out]; exact ⟨h, hb⟩)
       clear hG2
       obtain ⟨k0, k1, k2, k3⟩ := duc_cells HB7.out
       have hrow := rw_du wi wi.heap.size rfl (⟨u.n, u.h, D.insWs ([] : List (List Nat)) u.ws⟩ : D.Du) (.slice A7 n7 c7) 37
       unfold duc at hrow
       simp only [HX.out,  Nat.le_refl] at hrow k0
       have HRow := Lib.hid hrow
       clear hrow
       obtain ⟨A1, hcut, hA1⟩ := from_u (some ad) n c (k) (by omega) hcap
       try simp only [Int.natCast_add, Int.natCast_one, Int.cast_ofNat_Int] at hcut
       have HA1 := Lib.hid hA1
       clear hA1
       go_wp2_with (first
        | (at_builtin; refine gapp _ dus_under dus_info rfl (by decide) (by decide) rfl (.tmp 112) (.tmp 114) rfl rfl (HO7.out.alloc _) rfl HRow.out (dcl_one _ fun i z b hi => by rcases i with _ | i <;> simp at hi; obtain ⟨rfl, rfl⟩ := hi; rfl) (by omega) ?_; intro A8 c8 w8 h8 hg8 hor8
           have H8 := Lib.hid h8
           have hzw : (wi.alloc (.cells #[.string (D.sb X), .int .i64 (u.h : Nat), .slice A7 n7 c7] 37)).heap.size = wi.heap.size + 1 := by simp
           have HOR := Lib.hid hor8
           have HB8w := Lib.hid ((HZ7.out.trans ((below_alloc_ wi (.cells #[.string (D.sb X), .int .i64 (u.h : Nat), .slice A7 n7 c7] 37)).mono HZ7.out.size)).trans (ow_below (HO7.out.alloc _) hg8))
           have HWm := Lib.hid ((HWn.out.keep (keeps_below (below_alloc_ wi (.cells #[.string (D.sb X), .int .i64 (u.h : Nat), .slice A7 n7 c7] 37)))).keep (keeps_grown hg8 (fun b hb e => by
            rw [HG2.out, HG.out] at hb
            have h1 := HO4.out.lt b e
            have h2 := hb.1
            omega)))
           clear h8 hg8 hor8)
        | (at_builtin; refine gapp _ dus_under dus_info rfl (by decide) (by decide) rfl (.tmp 116) (.tmp 119) rfl rfl H8.out rfl (HA1.out _ _ _ ((HR.out.keep (keeps_below HB1.out)).keep (keeps_below HB8w.out))).row (dcl_one _ fun i z b hi => (HBl.out _ z b (by rw [List.getElem?_drop] at hi; exact hi)).one) (by omega) ?_; intro A9 c9 w9 h9 hg9 hor9
           have H9 := Lib.hid h9
           have HB9w := Lib.hid (HB8w.out.trans (ow_below H8.out hg9))
           have HWl := Lib.hid (HWm.out.keep (keeps_grown hg9 (fun b hb e => by
            rw [HG2.out, HG.out] at hb
            rcases HOR.out with h1 | h1
            ·rw [h1] at e
             have h1 := HO4.out.lt b e
             have h2 := hb.1
             omega
            ·rw [h1, hzw] at e
             injection e with e
             have h2 := hb.2
             omega)))
           clear h9 hg9 hor9))
       have h9 := H9.out
       have hb9 : Below w.heap.size w w9 := HB1.out.trans (HB9w.out.mono HB1.out.size)
       have hz0 := HB1.out.size
       have hv9 : (Dbl (fun b => F b ∨ w.heap.size <= b) w9 (⟨u.n, u.h, D.insWs ([] : List (List Nat)) u.ws⟩ : D.Du) (.slice A7 n7 c7)) := ⟨A7, n7, c7, rfl, hc7, HWl.out.weaken fun b _ hb => by
        rw [HG2.out, HG.out] at hb
        rcases hb.1 with h | h
        ·exact .inl h.1
        ·exact .inr (by omega), insWs_b8 HWS8.out HB8.out, HRN.out, HU8.out⟩
       go_ret
       refine ⟨A9, _, c9, rfl, ?_, hb9⟩
       rw [HI.out, show D.newD u = ⟨u.n, u.h, D.insWs [] u.ws⟩ from rfl]
       have hm : (vs.take k ++ [((⟨u.n, u.h, D.insWs ([] : List (List Nat)) u.ws⟩ : D.Du), Value.slice A7 n7 c7)] ++ vs.drop (k)).map (·.1) = d.take k ++ [(⟨u.n, u.h, D.insWs ([] : List (List Nat)) u.ws⟩ : D.Du)] ++ d.drop (k) := by
        rw [<- HL.out]
        simp [List.map_take, List.map_drop]
       rw [<- hm]
       refine dus_make (base := w1.heap.size) ?_ (fun g hg => .inr (by omega)) (fun x' a' h => ?_)
       ·rw [dcl_app, dcl_app]
        exact h9
       ·rcases List.mem_append.1 h with h | h
        ·rcases List.mem_append.1 h with h | h
         ·obtain ⟨i, hi⟩ := List.mem_iff_getElem?.1 (List.mem_of_mem_take h)
          exact ((HBl.out i x' a' hi).keep (keeps_below hb9)).weaken fun b _ hb => .inl hb
         ·simp at h
          obtain ⟨rfl, rfl⟩ := h
          exact hv9
        ·obtain ⟨i, hi⟩ := List.mem_iff_getElem?.1 (List.mem_of_mem_drop h)
         exact ((HBl.out i x' a' hi).keep (keeps_below hb9)).weaken fun b _ hb => .inl hb
  ·obtain rfl : k = n := by omega
   have hi := D.addD_out (u := u) (d := d) (fun y hy => HLe.out y (by rw [List.take_of_length_le (by have := HLN.out; omega)]; exact hy))
   rw [HLN.out] at hi
   have HI := Kept.mk hi
   clear hi
   go_wp2_with fail
   go_quiet (fail)
   obtain ⟨W2, hW2⟩ : ∃ W2, wo.drewN nq = W2 := ⟨_, rfl⟩
   have hbW : Below wo.heap.size wo W2 := by rw [<- hW2]; exact below_drewN (Below.refl _ _) nq
   rw [hW2]
   have HO2 := Lib.hid (HO.out.on hbW)
   have HZ2 := Lib.hid (HZ.out.trans (hbW.mono HZ.out.size))
   have HN3 := Lib.hid (HN2.out.on hbW)
   clear hW2 hbW n0 n1 n2 n3
   obtain ⟨n0, n1, n2, n3⟩ := duc_cells HN3.out
   rw [HX.out] at n0
   go_wp2_with fail
   go_quiet (fail)
   obtain ⟨W4, hW4⟩ : ∃ W4, W2.drewN nq = W4 := ⟨_, rfl⟩
   have hbW : Below W2.heap.size W2 W4 := by rw [<- hW4]; exact below_drewN (Below.refl _ _) nq
   rw [hW4]
   have HO4 := Lib.hid (HO2.out.on hbW)
   have HZ4 := Lib.hid (HZ2.out.trans (hbW.mono HZ2.out.size))
   have HN4 := Lib.hid (HN3.out.on hbW)
   clear hW4 hbW n0 n1 n2 n3
   obtain ⟨n0, n1, n2, n3⟩ := duc_cells HN4.out
   rw [HX.out] at n0
   have HMX : Kept (([] : List (List Nat)).length + u.ws.length <= 900) := ⟨by simp; exact hMu⟩
   have HWS8 : Hid (D.B8 []) := Lib.hid (fun w hw => by cases hw)
   go_wp2_with fail
   obtain ⟨W5, hW5⟩ : ∃ W5, W4.alloc (.cells #[.string (D.sb X), .int .i64 (u.h : Nat), .slice none 0 0] 37) = W5 := ⟨_, rfl⟩
   have hbk : Blk W5 W4.heap.size 37 (duc (⟨u.n, u.h, []⟩ : D.Du) (.slice none 0 0)) := by
    rw [<- hW5]
    have h := Blk.new W4 37 #[.string (D.sb X), .int .i64 (u.h : Nat), .slice none 0 0]
    unfold duc
    simp only [HX.out,   Int.natCast_add]
    exact h
   have hb5 : Below W4.heap.size W4 W5 := by rw [<- hW5]; exact below_alloc_ _ _
   have hz5 : W5.heap.size = W4.heap.size + 1 := by rw [<- hW5]; simp
   rw [hW5]
   have HBK := Lib.hid hbk
   have HO5 := Lib.hid (HO4.out.on hb5)
   have HZ5 := Lib.hid (HZ4.out.trans (hb5.mono HZ4.out.size))
   have hzz := HZ4.out.size
   have hz1 : w.heap.size < w1.heap.size := HN.out.lt
   obtain ⟨G, hG⟩ : ∃ G : Nat -> Prop, G = fun b => (F b ∧ b < w1.heap.size) ∨ W5.heap.size <= b := ⟨_, rfl⟩
   have HG := Kept.mk hG
   have HW0 : Hid (RF 1 G W5 none 0 (strs ([] : List (List Nat)))) := Lib.hid (RF.nil _ _ _ _)
   have hwl : 0 <= 0 := by first | exact HCX.out | exact Nat.le_refl _
   clear hW5 hb5 hbk hG
   go_loopw [10] (fun s8 wr => ∃ (q : Nat) (A7 : Option Addr) (n7 c7 : Nat), q <= nu ∧ s8 = .int .i64 q ∧ n7 <= c7 ∧ Hid (Blk wr W4.heap.size 37 (duc (⟨u.n, u.h, []⟩ : D.Du) (.slice A7 n7 c7))) ∧ Hid (RF 1 G wr A7 n7 (strs (D.insWs ([] : List (List Nat)) (u.ws.take q)))) ∧ Hid (Fr (· = W4.heap.size) W5 wr)) (fun s8 _ => nu - (intOf s8).toNat)
   case atStart => exact ⟨0, none, 0, 0, Nat.zero_le _, rfl, hwl, HBK, Lib.hid HW0.out, Lib.hid (Fr.refl _ _)⟩
   case round =>
    obtain ⟨q, A7, n7, c7, hq, rfl, hc7, HB7, HW7, HF7⟩ := hrel
    obtain ⟨wi, rfl⟩ : ∃ wi : World, wi = wr := ⟨_, rfl⟩
    have HZ7 := Lib.hid (HZ5.out.trans (HF7.out.below (B := w1.heap.size) HZ5.out.size (fun i hi e => by omega)))
    have HN7 := Lib.hid (HN.out.on HZ7.out)
    have hsz7 := HF7.out.size
    clear n0 n1 n2 n3
    obtain ⟨n0, n1, n2, n3⟩ := duc_cells HN7.out
    rw [HX.out] at n0
    by_cases hlq : q < nu
    ·obtain ⟨t, htq⟩ : ∃ t, u.ws[q]? = some t := ⟨_, List.getElem?_eq_getElem (by have := HLU.out; omega)⟩
     obtain ⟨adu, hadu, hbu, hcc⟩ := ((HRU.out.keep (keeps_below HB1.out)).keep (keeps_below HZ7.out)).row.cell (strs_at htq)
     obtain ⟨adu', e9, hbu0, _⟩ := HRU.out.row.cell (strs_at htq)
     rw [hadu] at e9
     obtain rfl := Option.some.inj e9
     clear e9
     subst hadu
     have HLQ := Kept.mk hlq
     have hIq : (q : Int) < nu := by omega
     have HTK : Kept (u.ws.take (q + 1) = u.ws.take q ++ [t]) := ⟨by rw [List.take_add_one, htq]; rfl⟩
     have hn7 : n7 <= 1000 := by
      have h1 := HW7.out.row.len
      rw [strs_len, Nat.mul_one] at h1
      have h2 := insWs_len (u.ws.take q) ([] : List (List Nat))
      have h3 : (u.ws.take q).length <= u.ws.length := by simp; omega
      have h4 := HMX.out
      omega
     have HB87 : Hid (D.B8 (D.insWs ([] : List (List Nat)) (u.ws.take q))) := Lib.hid (insWs_b8 HWS8.out fun z hz => HB8.out z (List.mem_of_mem_take hz))
     have HT8 := Lib.hid (HB8.out t (List.mem_of_getElem? htq))
     have HC : Hid (∀ W, RF 1 G W A7 n7 (strs (D.insWs ([] : List (List Nat)) (u.ws.take q))) -> Calls Tryz.prog 43 #[.slice A7 n7 c7, .string (D.sb t)] W fun e w' => ∃ (A' : Option Addr) (n' c' : Nat), e = .returned (.slice A' n' c') ∧ RF 1 (fun b => G b ∨ W.heap.size <= b) w' A' n' (strs (D.insW (D.insWs ([] : List (List Nat)) (u.ws.take q)) t)) ∧ n' <= c' ∧ Below W.heap.size W w') := Lib.hid fun W h => insert_any G A7 n7 c7 _ t W h hc7 HB87.out HT8.out hn7
     clear htq
     go_upto_region 20 with fail
     refine wp_region_noPanic ?_
     refine wp_region_held_drew (S := fun W' => Blk W' w.heap.size 37 (duc u (.slice (some adu) nu cu)) ∧ W'.cell? (adu.add q) = some (.string (D.sb t))) (by kernel_rfl) ⟨HN7.out.on (Below.refl _ _).drew, cell_kept_ (Below.refl _ _).drew hcc⟩ (fun _ => ?_)
     obtain ⟨wd, hwd⟩ : ∃ wd, wi.drew = wd := ⟨_, rfl⟩
     have bd0 : Below wi.heap.size wi wd := by rw [<- hwd]; exact (Below.refl _ _).drew
     have HB7d := Lib.hid (HB7.out.on bd0)
     have HW7d := Lib.hid (HW7.out.keep (keeps_below bd0))
     have HF7d := Lib.hid (HF7.out.step (Fr.of_below bd0 (Nat.le_refl _)))
     have sd : Blk wd w.heap.size 37 (duc u (.slice (some adu) nu cu)) ∧ wd.cell? (adu.add q) = some (.string (D.sb t)) := ⟨HN7.out.on bd0, cell_kept_ bd0 hcc⟩
     obtain ⟨k0, k1, k2, k3⟩ := duc_cells HB7d.out
     rw [hwd]
     clear hwd
     refine takeT 0 (some 103) ?vn0 ?hyn0 sd ?restn0
     case hyn0 => (intro o ho W hW; simp only [gT, gS, gZ, sI] at ho; subst ho; (try dsimp only at hW); go_simp; first | rfl | (rw [if_pos (by omega)]) | skip)
     try simp only [Act.put, iT, iZ, iS]
     refine takeT 2 (some 105) ?vn2 ?hyn2 sd ?restn2
     case hyn2 => (intro o ho W hW; simp only [gT, gS, gZ, sI] at ho; subst ho; (try dsimp only at hW); go_simp; first | rfl | (rw [if_pos (by omega)]) | skip)
     try simp only [Act.put, iT, iZ, iS]
     refine takeT 3 (some 106) ?vn3 ?hyn3 sd ?restn3
     case hyn3 => (intro o ho W hW; simp only [gT, gS, gZ, sI] at ho; subst ho; (try dsimp only at hW); obtain ⟨g0, g1, g2, g3⟩ := duc_cells hW.1; have g4 := hW.2; go_simp; first | rfl | (rw [if_pos (by omega)]) | skip)
     try simp only [Act.put, iT, iZ, iS]
     refine takeT 4 (some 107) ?vn4 ?hyn4 sd ?restn4
     case hyn4 => (intro o ho W hW; simp only [gT, gS, gZ, sI] at ho; subst ho; (try dsimp only at hW); go_simp; first | rfl | (rw [if_pos (by omega)]) | skip)
     try simp only [Act.put, iT, iZ, iS]
     refine takeT 5 (some 108) ?vn5 ?hyn5 sd ?restn5
     case hyn5 => (intro o ho W hW; simp only [gT, gS, gZ, sI] at ho; subst ho; (try dsimp only at hW); go_simp; first | rfl | (rw [if_pos (by omega)]) | skip)
     try simp only [Act.put, iT, iZ, iS]
     refine takeT 6 (some 109) ?vn6 ?hyn6 sd ?restn6
     case hyn6 => (intro o ho W hW; simp only [gT, gS, gZ, sI] at ho; subst ho; (try dsimp only at hW); obtain ⟨g0, g1, g2, g3⟩ := duc_cells hW.1; have g4 := hW.2; go_simp; first | rfl | (rw [if_pos (by omega)]) | skip)
     try simp only [Act.put, iT, iZ, iS]
     refine nextS 1 (by kernel_rfl) (by rfl) (fun o ho K hK => ?_)
     simp only [gT, gS, gZ, sI] at ho; subst ho
     go_simp
     refine hK.out _ _ sd (fun _ => ?_)
     clear hK K
     try simp only [Act.put, iT, iZ, iS]
     refine nextS 7 (by kernel_rfl) (by rfl) (fun o ho K hK => ?_)
     simp only [gT, gS, gZ, sI] at ho; subst ho
     go_simp
     (go_at_call 43; (with_reducible refine (HC.out wd HW7d.out).mono ?_); rintro e w6 ⟨A8, n8, c8, rfl, hr8, hc8, b6⟩)
     have s6 : Blk w6 w.heap.size 37 (duc u (.slice (some adu) nu cu)) ∧ w6.cell? (adu.add q) = some (.string (D.sb t)) := ⟨sd.1.on b6, cell_kept_ b6 sd.2⟩
     refine hK.out _ _ s6 (fun _ => ?_)
     clear hK K k0 k1 k2 k3
     try simp only [Act.put, iT, iZ, iS]
     refine takeT 8 (some 111) ?vnb8 ?hynb8 s6 ?restnb8
     case hynb8 => (intro o ho W hW; simp only [gT, gS, gZ, sI] at ho; subst ho; (try dsimp only at hW); go_simp; first | rfl | (rw [if_pos (by omega)]) | skip)
     try simp only [Act.put, iT, iZ, iS]
     have hB6 := HB7d.out.on b6
     have k2 : w6.cell? ⟨W4.heap.size, 2, none⟩ = some (.slice A7 n7 c7) := by rw [hB6.c_ 2]; rfl
     have k3 := hB6.f_ 2
     have k4 := hB6.lt
     have hput := hB6.put_ 2 (.slice A8 n8 c8)
     have HP : Hid (Blk (w6.setCell ⟨W4.heap.size, 2, none⟩ (.slice A8 n8 c8)) W4.heap.size 37 (duc (⟨u.n, u.h, []⟩ : D.Du) (.slice A8 n8 c8))) := Lib.hid hput
     have HF9 := Lib.hid (fr_next HF7d.out (b6.mono HF7d.out.size |>.mono (Nat.le_refl _)) ⟨W4.heap.size, 2, none⟩ rfl (.slice A8 n8 c8))
     have HR9 : Hid (RF 1 G (w6.setCell ⟨W4.heap.size, 2, none⟩ (.slice A8 n8 c8)) A8 n8 (strs (D.insWs ([] : List (List Nat)) (u.ws.take (q + 1))))) := Lib.hid (by
      rw [HTK.out, insWs_snoc]
      have h1 := HF7d.out.size
      refine (hr8.weaken (F' := G) fun b _ hb => ?_).keep (keeps_setCell _ _ _ fun b hb => ?_)
      ·rcases hb with hb | hb
       ·exact hb
       ·rw [HG.out]; exact .inr (by omega)
      ·rw [HG.out] at hb
       show b ≠ W4.heap.size
       omega)
     have s9 : Blk (w6.setCell ⟨W4.heap.size, 2, none⟩ (.slice A8 n8 c8)) w.heap.size 37 (duc u (.slice (some adu) nu cu)) ∧ (w6.setCell ⟨W4.heap.size, 2, none⟩ (.slice A8 n8 c8)).cell? (adu.add q) = some (.string (D.sb t)) := by
      have f1 : Fr (· = W4.heap.size) w6 (w6.setCell ⟨W4.heap.size, 2, none⟩ (.slice A8 n8 c8)) := (Fr.refl _ _).setCell _ _ fun _ => rfl
      exact ⟨f1.blk s6.1 (by show ¬ w.heap.size = W4.heap.size; omega), f1.cell s6.2 (by rw [block_of_add]; show ¬ adu.block = W4.heap.size; omega)⟩
     clear hput hB6 hr8
     refine nextS 9 (by kernel_rfl) (by rfl) (fun o ho K hK => ?_)
     simp only [gT, gS, gZ, sI] at ho; subst ho
     go_simp
     refine hK.out _ _ s9 (fun _ => ?_)
     clear hK K k2 k3 k4
     try simp only [Act.put, iT, iZ, iS]
     refine wpAnyH_done (by kernel_rfl) ?_ _
     refine NoPanic.normal ?_
     go_wp2_with fail
     go_roundw
     case rel => exact ⟨q + 1, A8, n8, c8, HLQ.out, by go_num, hc8, HP, HR9, HF9⟩
     case measure => have := HLQ.out; simp [intOf]; omega
    ·obtain rfl : q = nu := by omega
     have etk : u.ws.take q = u.ws := List.take_of_length_le (by have := HLU.out; omega)
     rw [etk] at HW7
     clear etk
     have HO7 := Lib.hid (HO5.out.kept HF7.out.size fun g hg => HF7.out.same g (HO5.out.lt g hg).2 (fun e => by
      have e' : g = W4.heap.size := e
      have := (HO4.out.lt g hg).2
      omega))
     obtain ⟨G2, hG2⟩ : ∃ G2 : Nat -> Prop, G2 = fun b => G b ∧ b < wi.heap.size := ⟨_, rfl⟩
     have HG2 := Kept.mk hG2
     have HWn : Hid (RF 1 G2 wi A7 n7 (strs (D.insWs ([] : List (List Nat)) u.ws))) := Lib.hid (HW7.out.weaken fun b hb h => by rw [HG2.out]; exact ⟨h, hb⟩)
     clear hG2
     obtain ⟨k0, k1, k2, k3⟩ := duc_cells HB7.out
     have hrow := rw_du wi wi.heap.size rfl (⟨u.n, u.h, D.insWs ([] : List (List Nat)) u.ws⟩ : D.Du) (.slice A7 n7 c7) 37
     unfold duc at hrow
     simp only [HX.out,  Nat.le_refl] at hrow k0
     have HRow := Lib.hid hrow
     clear hrow
     obtain ⟨A1, hcut, hA1⟩ := from_u A k c (k) (by omega) hcap
     try simp only [Int.natCast_add, Int.natCast_one, Int.cast_ofNat_Int] at hcut
     have HA1 := Lib.hid hA1
     clear hA1
     go_wp2_with (first
      | (at_builtin; refine gapp _ dus_under dus_info rfl (by decide) (by decide) rfl (.tmp 112) (.tmp 114) rfl rfl (HO7.out.alloc _) rfl HRow.out (dcl_one _ fun i z b hi => by rcases i with _ | i <;> simp at hi; obtain ⟨rfl, rfl⟩ := hi; rfl) (by omega) ?_; intro A8 c8 w8 h8 hg8 hor8
         have H8 := Lib.hid h8
         have hzw : (wi.alloc (.cells #[.string (D.sb X), .int .i64 (u.h : Nat), .slice A7 n7 c7] 37)).heap.size = wi.heap.size + 1 := by simp
         have HOR := Lib.hid hor8
         have HB8w := Lib.hid ((HZ7.out.trans ((below_alloc_ wi (.cells #[.string (D.sb X), .int .i64 (u.h : Nat), .slice A7 n7 c7] 37)).mono HZ7.out.size)).trans (ow_below (HO7.out.alloc _) hg8))
         have HWm := Lib.hid ((HWn.out.keep (keeps_below (below_alloc_ wi (.cells #[.string (D.sb X), .int .i64 (u.h : Nat), .slice A7 n7 c7] 37)))).keep (keeps_grown hg8 (fun b hb e => by
          rw [HG2.out, HG.out] at hb
          have h1 := HO4.out.lt b e
          have h2 := hb.1
          omega)))
         clear h8 hg8 hor8)
      | (at_builtin; refine gapp _ dus_under dus_info rfl (by decide) (by decide) rfl (.tmp 116) (.tmp 119) rfl rfl H8.out rfl (Rw.nil 3 _ _) (fun u h => by cases h) (by omega) ?_; intro A9 c9 w9 h9 hg9 hor9
         have H9 := Lib.hid h9
         have HB9w := Lib.hid (HB8w.out.trans (ow_below H8.out hg9))
         have HWl := Lib.hid (HWm.out.keep (keeps_grown hg9 (fun b hb e => by
          rw [HG2.out, HG.out] at hb
          rcases HOR.out with h1 | h1
          ·rw [h1] at e
           have h1 := HO4.out.lt b e
           have h2 := hb.1
           omega
          ·rw [h1, hzw] at e
           injection e with e
           have h2 := hb.2
           omega)))
         clear h9 hg9 hor9))
     have h9 := H9.out
     have hb9 : Below w.heap.size w w9 := HB1.out.trans (HB9w.out.mono HB1.out.size)
     have hz0 := HB1.out.size
     have hv9 : (Dbl (fun b => F b ∨ w.heap.size <= b) w9 (⟨u.n, u.h, D.insWs ([] : List (List Nat)) u.ws⟩ : D.Du) (.slice A7 n7 c7)) := ⟨A7, n7, c7, rfl, hc7, HWl.out.weaken fun b _ hb => by
      rw [HG2.out, HG.out] at hb
      rcases hb.1 with h | h
      ·exact .inl h.1
      ·exact .inr (by omega), insWs_b8 HWS8.out HB8.out, HRN.out, HU8.out⟩
     go_ret
     refine ⟨A9, _, c9, rfl, ?_, hb9⟩
     rw [HI.out, show D.newD u = ⟨u.n, u.h, D.insWs [] u.ws⟩ from rfl]
     have hm : (vs.take k ++ [((⟨u.n, u.h, D.insWs ([] : List (List Nat)) u.ws⟩ : D.Du), Value.slice A7 n7 c7)] ++ vs.drop (k)).map (·.1) = d.take k ++ [(⟨u.n, u.h, D.insWs ([] : List (List Nat)) u.ws⟩ : D.Du)] ++ d.drop (k) := by
      rw [<- HL.out]
      simp [List.map_take, List.map_drop]
     rw [<- hm]
     refine dus_make (base := w1.heap.size) ?_ (fun g hg => .inr (by omega)) (fun x' a' h => ?_)
     ·rw [dcl_app, dcl_app]
      have e0 : vs.drop k = [] := List.drop_eq_nil_of_le (by have := HLN.out; rw [<- HL.out, List.length_map] at this; omega)
      rw [e0]
      simpa [dcl] using h9
     ·rcases List.mem_append.1 h with h | h
      ·rcases List.mem_append.1 h with h | h
       ·obtain ⟨i, hi⟩ := List.mem_iff_getElem?.1 (List.mem_of_mem_take h)
        exact ((HBl.out i x' a' hi).keep (keeps_below hb9)).weaken fun b _ hb => .inl hb
       ·simp at h
        obtain ⟨rfl, rfl⟩ := h
        exact hv9
      ·obtain ⟨i, hi⟩ := List.mem_iff_getElem?.1 (List.mem_of_mem_drop h)
       exact ((HBl.out i x' a' hi).keep (keeps_below hb9)).weaken fun b _ hb => .inl hb
end Go.Proofs.YtgnjjlgmlokhmaaGreatDoor
