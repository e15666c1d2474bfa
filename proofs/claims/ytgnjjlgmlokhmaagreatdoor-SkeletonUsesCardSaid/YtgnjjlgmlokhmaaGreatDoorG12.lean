/-
  
-/
import Derived.Test.YtgnjjlgmlokhmaaGreatDoorG04
import Derived.Test.YtgnjjlgmlokhmaaGreatDoorG09
import Derived.Test.YtgnjjlgmlokhmaaGreatDoorG11
import Derived.Test.YtgnjjlgmlokhmaaGreatDoorG10
import Derived.Test.YtgnjjlgmlokhmaaGreatDoorG06
set_option linter.unusedVariables false
set_option linter.unusedSimpArgs false
set_option maxRecDepth 100000
namespace Go.Proofs.YtgnjjlgmlokhmaaGreatDoor
open Go.RowKit
attribute [local go_sem ↓] Go.wp_at_zero Go.wp_at_succ
attribute [local go_sem] cell_ext

def D.wf (p : Nat -> Bool) (l : List Nat) (a e : Nat) : Nat := if e = 0 then D.far p l a else a
theorem D.wf_ge (p : Nat -> Bool) (l : List Nat) (a e : Nat) : a <= D.wf p l a e := by
 unfold D.wf
 split
 ·exact D.far_ge p l a
 ·exact Nat.le_refl _
theorem D.wf_le {p : Nat -> Bool} {l : List Nat} {a e : Nat} (h : a <= l.length) : D.wf p l a e <= l.length := by
 unfold D.wf
 split
 ·exact D.far_le h
 ·exact h
theorem D.wf_go {p : Nat -> Bool} {l : List Nat} {k e : Nat} (h0 : p 0 = false) (h : p (D.nb l k e) = true) : k < l.length ∧ e = 0 ∧ D.wf p l k e = D.wf p l (k + 1) e := by
 by_cases he : e = 0
 ·subst he
  rw [D.nb_live] at h
  by_cases hk : k < l.length
  ·have e1 : l[k]? = some l[k] := List.getElem?_eq_getElem hk
   rw [List.getD, e1] at h
   exact ⟨hk, rfl, by unfold D.wf; rw [if_pos rfl, if_pos rfl]; exact D.far_step e1 h⟩
  ·rw [List.getD, List.getElem?_eq_none (by omega)] at h
   simp [h0] at h
 ·rw [D.nb_dead he, h0] at h
  cases h
theorem D.wf_end {p : Nat -> Bool} {l : List Nat} {k e : Nat} (h : p (D.nb l k e) = false) : D.wf p l k e = k := by
 unfold D.wf
 split
 ·rename_i he
  subst he
  rw [D.nb_live] at h
  by_cases hk : k < l.length
  ·have e1 : l[k]? = some l[k] := List.getElem?_eq_getElem hk
   rw [List.getD, e1] at h
   exact D.far_stop e1 h
  ·exact D.far_end (by omega)
 ·rfl
theorem D.nb_lt {l : List Nat} (h : ∀ b ∈ l, b < 256) (a e : Nat) : D.nb l a e < 256 := by
 unfold D.nb
 split
 ·by_cases hk : a < l.length
  ·rw [List.getD, List.getElem?_eq_getElem hk]
   exact h _ (List.getElem_mem _)
  ·rw [List.getD, List.getElem?_eq_none (by omega)]; decide
 ·decide
def posOf (w : World) (g : Nat) : Nat := match w.cell? ⟨g, 1, none⟩ with
 | some (.int _ z) => z.toNat
 | _ => 0
theorem Rdr.pos {w : World} {g a e : Nat} {s : ByteArray} (h : Rdr w g s a e) : posOf w g = a := by
 unfold posOf
 rw [h.c1]
 simp
theorem textByte_any (d : Nat) (v : Bool) (c : Nat) (hc : c < 256) (w : World) : Calls Tryz.prog 25 #[.agg #[.int .i64 (d : Nat), .bool v], .int .u8 (c : Nat)] w fun x w' => x = .returned (.bool (D.plB v c)) ∧ Below w.heap.size w w' := by
 obtain ⟨b, hb⟩ : ∃ b, D.plB v c = b := ⟨_, rfl⟩
 have hu : b = (decide (32 <= c) && c != 127 && c != 123 && c != 125 && (c != 35 || !v)) := hb.symm
 rw [hb]
 by_cases h1 : 32 <= c
 ·have i1 : (32 : Int) <= c := by omega
  by_cases h2 : c = 127
  ·subst h2
   simp at hu
   go_enter Tryz.func25, Tryz.ntmps25
   go_wp2
   go_ret
   exact ⟨by rw [hu]; first | done | rfl, (Below.refl _ _).alloc (Nat.le_refl _) _⟩
  ·have i2 : ((c : Int) != 127) = true := by simp; omega
   by_cases h3 : c = 123
   ·subst h3
    simp at hu
    go_enter Tryz.func25, Tryz.ntmps25
    go_wp2
    go_ret
    exact ⟨by rw [hu]; first | done | rfl, (Below.refl _ _).alloc (Nat.le_refl _) _⟩
   ·have i3 : ((c : Int) != 123) = true := by simp; omega
    by_cases h4 : c = 125
    ·subst h4
     simp at hu
     go_enter Tryz.func25, Tryz.ntmps25
     go_wp2
     go_ret
     exact ⟨by rw [hu]; first | done | rfl, (Below.refl _ _).alloc (Nat.le_refl _) _⟩
    ·have i4 : ((c : Int) != 125) = true := by simp; omega
     by_cases h5 : c = 35
     ·subst h5
      cases v
      ·simp at hu
       go_enter Tryz.func25, Tryz.ntmps25
       go_wp2
       go_ret
       exact ⟨by rw [hu]; first | done | rfl, (Below.refl _ _).alloc (Nat.le_refl _) _⟩
      ·simp at hu
       go_enter Tryz.func25, Tryz.ntmps25
       go_wp2
       go_ret
       exact ⟨by rw [hu]; first | done | rfl, (Below.refl _ _).alloc (Nat.le_refl _) _⟩
     ·have i5 : ((c : Int) == 35) = false := by simp; omega
      have hu' : b = true := by
       rw [hu]
       simp [h1, h2, h3, h4, h5]
      go_enter Tryz.func25, Tryz.ntmps25
      go_wp2
      go_ret
      exact ⟨by first | rfl | (rw [hu']; first | done | rfl), (Below.refl _ _).alloc (Nat.le_refl _) _⟩
 ·have i1 : ¬ (32 : Int) <= c := by omega
  have i1' : (c : Int) < 32 := by omega
  have hu' : b = false := by rw [hu]; simp [h1]
  go_enter Tryz.func25, Tryz.ntmps25
  go_wp2
  go_ret
  exact ⟨by first | rfl | (rw [hu']; first | done | rfl), (Below.refl _ _).alloc (Nat.le_refl _) _⟩
set_option maxHeartbeats 4000000 in
theorem wordByte_any (c : Nat) (hc : c < 256) (w : World) : Calls Tryz.prog 78 #[.int .u8 (c : Nat)] w fun x w' => x = .returned (.bool (D.wdB c)) ∧ Below w.heap.size w w' := by
 have b0 := Below.refl w.heap.size w
 have B0 := Lib.hid b0
 clear b0
 rcases cls8 c with ⟨h, hb⟩ | ⟨h, hb⟩ | ⟨h, hb⟩ | ⟨h, hb⟩ | ⟨h, h2, hb⟩ | ⟨h, h2, hb⟩ | ⟨h, hb⟩ | ⟨h, hb⟩ | ⟨h, h2, hb⟩ | ⟨h, hb⟩
 ·have i0 : ((c : Int) < 97) := by omega
  have i1 : ((c : Int) < 48) := by omega
  have q45 : ((c : Int) == 45) = false := by simp; omega
  have q95 : ((c : Int) == 95) = false := by simp; omega
  have q46 : ((c : Int) == 46) = false := by simp; omega
  have HB := Lib.hid hb
  clear hb h
  go_enter Tryz.func78, Tryz.ntmps78
  go_wp2
  go_ret
  exact ⟨by rw [HB.out]; first | done | rfl, B0.out⟩
 ·have i0 : ((c : Int) < 97) := by omega
  have i1 : ((c : Int) < 48) := by omega
  have q45 : ((c : Int) == 45) = true := by simp; omega
  have HB := Lib.hid hb
  clear hb h
  go_enter Tryz.func78, Tryz.ntmps78
  go_wp2
  go_ret
  exact ⟨by rw [HB.out]; first | done | rfl, B0.out⟩
 ·have i0 : ((c : Int) < 97) := by omega
  have i1 : ((c : Int) < 48) := by omega
  have q45 : ((c : Int) == 45) = false := by simp; omega
  have q95 : ((c : Int) == 95) = false := by simp; omega
  have q46 : ((c : Int) == 46) = true := by simp; omega
  have HB := Lib.hid hb
  clear hb h
  go_enter Tryz.func78, Tryz.ntmps78
  go_wp2
  go_ret
  exact ⟨by rw [HB.out]; first | done | rfl, B0.out⟩
 ·have i0 : ((c : Int) < 97) := by omega
  have i1 : ((c : Int) < 48) := by omega
  have q45 : ((c : Int) == 45) = false := by simp; omega
  have q95 : ((c : Int) == 95) = false := by simp; omega
  have q46 : ((c : Int) == 46) = false := by simp; omega
  have HB := Lib.hid hb
  clear hb h
  go_enter Tryz.func78, Tryz.ntmps78
  go_wp2
  go_ret
  exact ⟨by rw [HB.out]; first | done | rfl, B0.out⟩
 ·have i0 : ((c : Int) < 97) := by omega
  have i1 : ((48 : Int) <= c) := by omega
  have i2 : ((c : Int) <= 57) := by omega
  have HB := Lib.hid hb
  clear hb h h2
  go_enter Tryz.func78, Tryz.ntmps78
  go_wp2
  go_ret
  exact ⟨by rw [HB.out]; first | done | rfl, B0.out⟩
 ·have i0 : ((c : Int) < 97) := by omega
  have i1 : ((48 : Int) <= c) := by omega
  have i2 : ¬ ((c : Int) <= 57) := by omega
  have i3 : (57 : Int) < c := by omega
  have q45 : ((c : Int) == 45) = false := by simp; omega
  have q95 : ((c : Int) == 95) = false := by simp; omega
  have q46 : ((c : Int) == 46) = false := by simp; omega
  have HB := Lib.hid hb
  clear hb h h2
  go_enter Tryz.func78, Tryz.ntmps78
  go_wp2
  go_ret
  exact ⟨by rw [HB.out]; first | done | rfl, B0.out⟩
 ·have i0 : ((c : Int) < 97) := by omega
  have i1 : ((48 : Int) <= c) := by omega
  have i2 : ¬ ((c : Int) <= 57) := by omega
  have i3 : (57 : Int) < c := by omega
  have q45 : ((c : Int) == 45) = false := by simp; omega
  have q95 : ((c : Int) == 95) = true := by simp; omega
  have HB := Lib.hid hb
  clear hb h
  go_enter Tryz.func78, Tryz.ntmps78
  go_wp2
  go_ret
  exact ⟨by rw [HB.out]; first | done | rfl, B0.out⟩
 ·have i0 : ((c : Int) < 97) := by omega
  have i1 : ((48 : Int) <= c) := by omega
  have i2 : ¬ ((c : Int) <= 57) := by omega
  have i3 : (57 : Int) < c := by omega
  have q45 : ((c : Int) == 45) = false := by simp; omega
  have q95 : ((c : Int) == 95) = false := by simp; omega
  have q46 : ((c : Int) == 46) = false := by simp; omega
  have HB := Lib.hid hb
  clear hb h
  go_enter Tryz.func78, Tryz.ntmps78
  go_wp2
  go_ret
  exact ⟨by rw [HB.out]; first | done | rfl, B0.out⟩
 ·have i0 : ((97 : Int) <= c) := by omega
  have i1 : ((c : Int) <= 122) := by omega
  have HB := Lib.hid hb
  clear hb h h2
  go_enter Tryz.func78, Tryz.ntmps78
  go_wp2
  go_ret
  exact ⟨by rw [HB.out]; first | done | rfl, B0.out⟩
 ·have i0 : ((97 : Int) <= c) := by omega
  have i1 : ¬ ((c : Int) <= 122) := by omega
  have i2 : (122 : Int) < c := by omega
  have i4 : ((48 : Int) <= c) := by omega
  have i5 : ¬ ((c : Int) <= 57) := by omega
  have i6 : (57 : Int) < c := by omega
  have q45 : ((c : Int) == 45) = false := by simp; omega
  have q95 : ((c : Int) == 95) = false := by simp; omega
  have q46 : ((c : Int) == 46) = false := by simp; omega
  have HB := Lib.hid hb
  clear hb h
  go_enter Tryz.func78, Tryz.ntmps78
  go_wp2
  go_ret
  exact ⟨by rw [HB.out]; first | done | rfl, B0.out⟩
theorem blank_any (c : Nat) (hc : c < 256) (w : World) : Calls Tryz.prog 103 #[.int .u8 (c : Nat)] w fun x w' => x = .returned (.bool (c == 32)) ∧ Below w.heap.size w w' := by
 by_cases h : c = 32
 ·subst h
  go_enter Tryz.func103, Tryz.ntmps103
  go_wp2
  go_ret
  exact ⟨rfl, Below.refl _ _⟩
 ·have t : ((c : Int) == 32) = false := by simp; omega
  have t' : (c == 32) = false := by simpa using h
  rw [t']
  clear t'
  go_enter Tryz.func103, Tryz.ntmps103
  go_wp2
  go_ret
  exact ⟨rfl, Below.refl _ _⟩
set_option maxHeartbeats 4000000 in
theorem while_word (s : ByteArray) (g a e : Nat) (w : World) (h : Rdr w g s a e) (ha : a <= s.size) (hs : s.size <= 1000) : Calls Tryz.prog 26 #[vr g, .func (.func 78) #[] #[]] w fun x w' => x = .returned (.string (D.sb (D.sub (D.ns s) a (D.wf D.wdB (D.ns s) a e)))) ∧ Rdr w' g s (D.wf D.wdB (D.ns s) a e) e ∧ Fr (· = g) w w' := by
 have hx := ext_sub s
 have hlen := D.ns_len s
 have h256 := ns_lt s
 have cN := Lib.hid (fun k W (hk : k <= s.size) (hW : Rdr W g s k e) => next_any s g k e W hW hk)
 obtain ⟨l, hl⟩ : ∃ l, D.ns s = l := ⟨_, rfl⟩
 obtain ⟨Q, hQ⟩ : ∃ Q, D.wf D.wdB l a e = Q := ⟨_, rfl⟩
 have cP := Lib.hid (fun c W (hc : c < 256) => wordByte_any c hc W)
 rw [hl] at hx hlen h256 cN ⊢
 have hQ1 : a <= Q := hQ ▸ D.wf_ge _ _ _ _
 have hQ2 : Q <= s.size := by rw [<- hQ, <- hlen]; exact D.wf_le (by rw [hlen]; exact ha)
 have HX := Lib.hid hx
 have H6 := Lib.hid h256
 have HH := Lib.hid h
 have HQ0 : Kept (D.wf D.wdB l a e = Q) := ⟨hQ⟩
 rw [hQ]
 have c1 := h.c1
 clear hx h256 hl h hQ
 go_enter Tryz.func26, Tryz.ntmps26
 go_wp2_with fail
 clear c1
 go_loopw [] (fun wr => ∃ k : Nat, a <= k ∧ k <= s.size ∧ Hid (Rdr wr g s k e) ∧ Kept (D.wf D.wdB l k e = Q) ∧ Hid (Fr (· = g) w wr)) (fun wr => s.size - posOf wr g)
 case atStart => exact ⟨a, Nat.le_refl _, ha, HH, HQ0, Lib.hid (Fr.refl _ _)⟩
 case round =>
  obtain ⟨k, hak, hk, HR, HK, HF⟩ := hrel
  obtain ⟨wo, rfl⟩ : ∃ wo : World, wo = wr := ⟨_, rfl⟩
  clear HH HQ0
  have CN := Lib.hid (cN.out k wo hk HR.out)
  have hb := D.nb_lt H6.out k e
  have hp := D.wf_go (p := D.wdB) (l := l) (k := k) (e := e) (by rfl)
  have hq := D.wf_end (p := D.wdB) (l := l) (k := k) (e := e)
  have hpos := HR.out.pos
  obtain ⟨x, hx⟩ : ∃ x, D.nb l k e = x := ⟨_, rfl⟩
  rw [hx] at CN hb hp hq
  have CP := Lib.hid (fun W => cP.out x W hb)
  clear cN cP hx
  cases hv : D.wdB x with
  | true =>
   rw [hv] at CP
   obtain ⟨hk1, he0, hk2⟩ := hp hv
   have HK' : Kept (D.wf D.wdB l (k + 1) e = Q) := ⟨by rw [<- hk2]; exact HK.out⟩
   have hmeas : posOf wo g = k := hpos
   clear hp hq hv HK hk2
   go_wp2_with (first
    | (go_at_call 22; (with_reducible refine CN.out.mono ?_); rintro y w1 ⟨rfl, b1⟩; have B1 := Lib.hid b1; clear b1)
    | (go_at_call 78; (with_reducible refine (CP.out _).mono ?_); rintro y w2 ⟨rfl, b2⟩; have B2 := Lib.hid b2; have H2 := Lib.hid ((HR.out.on B1.out).on b2); clear b2; have c1 := H2.out.c1; have ff := H2.out.f))
   go_roundw
   case rel =>
    refine ⟨k + 1, by omega, by omega, Lib.hid ?_, HK', Lib.hid ((HF.out.step (Fr.of_below (B1.out.trans (B2.out.mono B1.out.size)) (Nat.le_refl _))).setCell _ _ fun _ => rfl)⟩
    have h2 := H2.out.put1 (k + 1)
    have e1 : ((k + 1 : Nat) : Int) = (k : Int) + 1 := by omega
    rw [e1] at h2
    simpa using h2
   case measure =>
    have h2 := H2.out.put1 (k + 1)
    have e1 : ((k + 1 : Nat) : Int) = (k : Int) + 1 := by omega
    have h3 := h2.pos
    rw [e1] at h3
    have h4 : posOf (w2.setCell ⟨g, 1, none⟩ (.int .i64 ((k : Int) + 1))) g = k + 1 := h3
    simp only [hmeas]
    first
     | (rw [h4]; omega)
     | (simp [h4]; omega)
  | false =>
   rw [hv] at CP
   have hQk : Kept (k = Q) := ⟨by rw [<- HK.out]; exact (hq hv).symm⟩
   clear hp hq hv HK hb hpos
   go_upto_region 4 with (first
    | (go_at_call 22; (with_reducible refine CN.out.mono ?_); rintro y w1 ⟨rfl, b1⟩; have B1 := Lib.hid b1; clear b1)
    | (go_at_call 78; (with_reducible refine (CP.out _).mono ?_); rintro y w2 ⟨rfl, b2⟩; have B2 := Lib.hid b2; have H2 := Lib.hid ((HR.out.on B1.out).on b2); clear b2; have c0 := H2.out.c0; have c1 := H2.out.c1; have gl := H2.out.lt))
   have hI1 : (a : Int) <= k := by omega
   have hI2 : (k : Int) <= s.size := by omega
   have CC := Lib.hid (fun W => clone_any (s.extract a k) W (by rw [ByteArray.size_extract]; omega))
   refine wp_region_ext (by kernel_rfl) (by kernel_rfl) ?_
   repeat (go_big_quiet_step (first | (go_at_call 35; with_reducible exact calls_ext (CC.out _))))
   refine wpQuiet_nil ?_
   intro w4 hw4
   have B4 := Lib.hid (ext_to hw4)
   clear hw4 c0 c1
   go_wp2
   go_ret
   obtain rfl := hQk.out
   exact ⟨congrArg (fun u => Ending.returned (Value.string u)) (HX.out a k), H2.out.on B4.out, HF.out.step (Fr.of_below ((B1.out.trans (B2.out.mono B1.out.size)).trans (B4.out.mono (B1.out.trans (B2.out.mono B1.out.size)).size)) (Nat.le_refl _))⟩
set_option maxHeartbeats 4000000 in
theorem while_blank (s : ByteArray) (g a e : Nat) (w : World) (h : Rdr w g s a e) (ha : a <= s.size) (hs : s.size <= 1000) : Calls Tryz.prog 26 #[vr g, .func (.func 103) #[] #[]] w fun x w' => x = .returned (.string (D.sb (D.sub (D.ns s) a (D.wf (· == 32) (D.ns s) a e)))) ∧ Rdr w' g s (D.wf (· == 32) (D.ns s) a e) e ∧ Fr (· = g) w w' := by
 have hx := ext_sub s
 have hlen := D.ns_len s
 have h256 := ns_lt s
 have cN := Lib.hid (fun k W (hk : k <= s.size) (hW : Rdr W g s k e) => next_any s g k e W hW hk)
 obtain ⟨l, hl⟩ : ∃ l, D.ns s = l := ⟨_, rfl⟩
 obtain ⟨Q, hQ⟩ : ∃ Q, D.wf (· == 32) l a e = Q := ⟨_, rfl⟩
 have cP := Lib.hid (fun c W (hc : c < 256) => blank_any c hc W)
 rw [hl] at hx hlen h256 cN ⊢
 have hQ1 : a <= Q := hQ ▸ D.wf_ge _ _ _ _
 have hQ2 : Q <= s.size := by rw [<- hQ, <- hlen]; exact D.wf_le (by rw [hlen]; exact ha)
 have HX := Lib.hid hx
 have H6 := Lib.hid h256
 have HH := Lib.hid h
 have HQ0 : Kept (D.wf (· == 32) l a e = Q) := ⟨hQ⟩
 rw [hQ]
 have c1 := h.c1
 clear hx h256 hl h hQ
 go_enter Tryz.func26, Tryz.ntmps26
 go_wp2_with fail
 clear c1
 go_loopw [] (fun wr => ∃ k : Nat, a <= k ∧ k <= s.size ∧ Hid (Rdr wr g s k e) ∧ Kept (D.wf (· == 32) l k e = Q) ∧ Hid (Fr (· = g) w wr)) (fun wr => s.size - posOf wr g)
 case atStart => exact ⟨a, Nat.le_refl _, ha, HH, HQ0, Lib.hid (Fr.refl _ _)⟩
 case round =>
  obtain ⟨k, hak, hk, HR, HK, HF⟩ := hrel
  obtain ⟨wo, rfl⟩ : ∃ wo : World, wo = wr := ⟨_, rfl⟩
  clear HH HQ0
  have CN := Lib.hid (cN.out k wo hk HR.out)
  have hb := D.nb_lt H6.out k e
  have hp := D.wf_go (p := (· == 32)) (l := l) (k := k) (e := e) (by rfl)
  have hq := D.wf_end (p := (· == 32)) (l := l) (k := k) (e := e)
  have hpos := HR.out.pos
  obtain ⟨x, hx⟩ : ∃ x, D.nb l k e = x := ⟨_, rfl⟩
  rw [hx] at CN hb hp hq
  have CP := Lib.hid (fun W => cP.out x W hb)
  clear cN cP hx
  cases hv : (x == 32) with
  | true =>
   rw [hv] at CP
   obtain ⟨hk1, he0, hk2⟩ := hp hv
   have HK' : Kept (D.wf (· == 32) l (k + 1) e = Q) := ⟨by rw [<- hk2]; exact HK.out⟩
   have hmeas : posOf wo g = k := hpos
   clear hp hq hv HK hk2
   go_wp2_with (first
    | (go_at_call 22; (with_reducible refine CN.out.mono ?_); rintro y w1 ⟨rfl, b1⟩; have B1 := Lib.hid b1; clear b1)
    | (go_at_call 103; (with_reducible refine (CP.out _).mono ?_); rintro y w2 ⟨rfl, b2⟩; have B2 := Lib.hid b2; have H2 := Lib.hid ((HR.out.on B1.out).on b2); clear b2; have c1 := H2.out.c1; have ff := H2.out.f))
   go_roundw
   case rel =>
    refine ⟨k + 1, by omega, by omega, Lib.hid ?_, HK', Lib.hid ((HF.out.step (Fr.of_below (B1.out.trans (B2.out.mono B1.out.size)) (Nat.le_refl _))).setCell _ _ fun _ => rfl)⟩
    have h2 := H2.out.put1 (k + 1)
    have e1 : ((k + 1 : Nat) : Int) = (k : Int) + 1 := by omega
    rw [e1] at h2
    simpa using h2
   case measure =>
    have h2 := H2.out.put1 (k + 1)
    have e1 : ((k + 1 : Nat) : Int) = (k : Int) + 1 := by omega
    have h3 := h2.pos
    rw [e1] at h3
    have h4 : posOf (w2.setCell ⟨g, 1, none⟩ (.int .i64 ((k : Int) + 1))) g = k + 1 := h3
    simp only [hmeas]
    first
     | (rw [h4]; omega)
     | (simp [h4]; omega)
  | false =>
   rw [hv] at CP
   have hQk : Kept (k = Q) := ⟨by rw [<- HK.out]; exact (hq hv).symm⟩
   clear hp hq hv HK hb hpos
   go_upto_region 4 with (first
    | (go_at_call 22; (with_reducible refine CN.out.mono ?_); rintro y w1 ⟨rfl, b1⟩; have B1 := Lib.hid b1; clear b1)
    | (go_at_call 103; (with_reducible refine (CP.out _).mono ?_); rintro y w2 ⟨rfl, b2⟩; have B2 := Lib.hid b2; have H2 := Lib.hid ((HR.out.on B1.out).on b2); clear b2; have c0 := H2.out.c0; have c1 := H2.out.c1; have gl := H2.out.lt))
   have hI1 : (a : Int) <= k := by omega
   have hI2 : (k : Int) <= s.size := by omega
   have CC := Lib.hid (fun W => clone_any (s.extract a k) W (by rw [ByteArray.size_extract]; omega))
   refine wp_region_ext (by kernel_rfl) (by kernel_rfl) ?_
   repeat (go_big_quiet_step (first | (go_at_call 35; with_reducible exact calls_ext (CC.out _))))
   refine wpQuiet_nil ?_
   intro w4 hw4
   have B4 := Lib.hid (ext_to hw4)
   clear hw4 c0 c1
   go_wp2
   go_ret
   obtain rfl := hQk.out
   exact ⟨congrArg (fun u => Ending.returned (Value.string u)) (HX.out a k), H2.out.on B4.out, HF.out.step (Fr.of_below ((B1.out.trans (B2.out.mono B1.out.size)).trans (B4.out.mono (B1.out.trans (B2.out.mono B1.out.size)).size)) (Nat.le_refl _))⟩
set_option maxHeartbeats 4000000 in
theorem while_text (s : ByteArray) (g a e : Nat) (d : Nat) (v : Bool) (w : World) (h : Rdr w g s a e) (ha : a <= s.size) (hs : s.size <= 1000) : Calls Tryz.prog 26 #[vr g, .func (.func 25) #[.agg #[.int .i64 (d : Nat), .bool v]] #[]] w fun x w' => x = .returned (.string (D.sb (D.sub (D.ns s) a (D.wf (D.plB v) (D.ns s) a e)))) ∧ Rdr w' g s (D.wf (D.plB v) (D.ns s) a e) e ∧ Fr (· = g) w w' := by
 have hx := ext_sub s
 have hlen := D.ns_len s
 have h256 := ns_lt s
 have cN := Lib.hid (fun k W (hk : k <= s.size) (hW : Rdr W g s k e) => next_any s g k e W hW hk)
 obtain ⟨l, hl⟩ : ∃ l, D.ns s = l := ⟨_, rfl⟩
 obtain ⟨Q, hQ⟩ : ∃ Q, D.wf (D.plB v) l a e = Q := ⟨_, rfl⟩
 have cP := Lib.hid (fun c W (hc : c < 256) => textByte_any d v c hc W)
 rw [hl] at hx hlen h256 cN ⊢
 have hQ1 : a <= Q := hQ ▸ D.wf_ge _ _ _ _
 have hQ2 : Q <= s.size := by rw [<- hQ, <- hlen]; exact D.wf_le (by rw [hlen]; exact ha)
 have HX := Lib.hid hx
 have H6 := Lib.hid h256
 have HH := Lib.hid h
 have HQ0 : Kept (D.wf (D.plB v) l a e = Q) := ⟨hQ⟩
 rw [hQ]
 have c1 := h.c1
 clear hx h256 hl h hQ
 go_enter Tryz.func26, Tryz.ntmps26
 go_wp2_with fail
 clear c1
 go_loopw [] (fun wr => ∃ k : Nat, a <= k ∧ k <= s.size ∧ Hid (Rdr wr g s k e) ∧ Kept (D.wf (D.plB v) l k e = Q) ∧ Hid (Fr (· = g) w wr)) (fun wr => s.size - posOf wr g)
 case atStart => exact ⟨a, Nat.le_refl _, ha, HH, HQ0, Lib.hid (Fr.refl _ _)⟩
 case round =>
  obtain ⟨k, hak, hk, HR, HK, HF⟩ := hrel
  obtain ⟨wo, rfl⟩ : ∃ wo : World, wo = wr := ⟨_, rfl⟩
  clear HH HQ0
  have CN := Lib.hid (cN.out k wo hk HR.out)
  have hb := D.nb_lt H6.out k e
  have hp := D.wf_go (p := (D.plB v)) (l := l) (k := k) (e := e) (by rfl)
  have hq := D.wf_end (p := (D.plB v)) (l := l) (k := k) (e := e)
  have hpos := HR.out.pos
  obtain ⟨x, hx⟩ : ∃ x, D.nb l k e = x := ⟨_, rfl⟩
  rw [hx] at CN hb hp hq
  have CP := Lib.hid (fun W => cP.out x W hb)
  clear cN cP hx
  cases hv : (D.plB v) x with
  | true =>
   rw [hv] at CP
   obtain ⟨hk1, he0, hk2⟩ := hp hv
   have HK' : Kept (D.wf (D.plB v) l (k + 1) e = Q) := ⟨by rw [<- hk2]; exact HK.out⟩
   have hmeas : posOf wo g = k := hpos
   clear hp hq hv HK hk2
   go_wp2_with (first
    | (go_at_call 22; (with_reducible refine CN.out.mono ?_); rintro y w1 ⟨rfl, b1⟩; have B1 := Lib.hid b1; clear b1)
    | (go_at_call 25; (with_reducible refine (CP.out _).mono ?_); rintro y w2 ⟨rfl, b2⟩; have B2 := Lib.hid b2; have H2 := Lib.hid ((HR.out.on B1.out).on b2); clear b2; have c1 := H2.out.c1; have ff := H2.out.f))
   go_roundw
   case rel =>
    refine ⟨k + 1, by omega, by omega, Lib.hid ?_, HK', Lib.hid ((HF.out.step (Fr.of_below (B1.out.trans (B2.out.mono B1.out.size)) (Nat.le_refl _))).setCell _ _ fun _ => rfl)⟩
    have h2 := H2.out.put1 (k + 1)
    have e1 : ((k + 1 : Nat) : Int) = (k : Int) + 1 := by omega
    rw [e1] at h2
    simpa using h2
   case measure =>
    have h2 := H2.out.put1 (k + 1)
    have e1 : ((k + 1 : Nat) : Int) = (k : Int) + 1 := by omega
    have h3 := h2.pos
    rw [e1] at h3
    have h4 : posOf (w2.setCell ⟨g, 1, none⟩ (.int .i64 ((k : Int) + 1))) g = k + 1 := h3
    simp only [hmeas]
    first
     | (rw [h4]; omega)
     | (simp [h4]; omega)
  | false =>
   rw [hv] at CP
   have hQk : Kept (k = Q) := ⟨by rw [<- HK.out]; exact (hq hv).symm⟩
   clear hp hq hv HK hb hpos
   go_upto_region 4 with (first
    | (go_at_call 22; (with_reducible refine CN.out.mono ?_); rintro y w1 ⟨rfl, b1⟩; have B1 := Lib.hid b1; clear b1)
    | (go_at_call 25; (with_reducible refine (CP.out _).mono ?_); rintro y w2 ⟨rfl, b2⟩; have B2 := Lib.hid b2; have H2 := Lib.hid ((HR.out.on B1.out).on b2); clear b2; have c0 := H2.out.c0; have c1 := H2.out.c1; have gl := H2.out.lt))
   have hI1 : (a : Int) <= k := by omega
   have hI2 : (k : Int) <= s.size := by omega
   have CC := Lib.hid (fun W => clone_any (s.extract a k) W (by rw [ByteArray.size_extract]; omega))
   refine wp_region_ext (by kernel_rfl) (by kernel_rfl) ?_
   repeat (go_big_quiet_step (first | (go_at_call 35; with_reducible exact calls_ext (CC.out _))))
   refine wpQuiet_nil ?_
   intro w4 hw4
   have B4 := Lib.hid (ext_to hw4)
   clear hw4 c0 c1
   go_wp2
   go_ret
   obtain rfl := hQk.out
   exact ⟨congrArg (fun u => Ending.returned (Value.string u)) (HX.out a k), H2.out.on B4.out, HF.out.step (Fr.of_below ((B1.out.trans (B2.out.mono B1.out.size)).trans (B4.out.mono (B1.out.trans (B2.out.mono B1.out.size)).size)) (Nat.le_refl _))⟩
end Go.Proofs.YtgnjjlgmlokhmaaGreatDoor
namespace Go.Proofs.YtgnjjlgmlokhmaaGreatDoor
open Go.RowKit
attribute [local go_sem ↓] Go.wp_at_zero Go.wp_at_succ ld_a ld_n st_a st_n eq_a eq_n ne_a ne_n lv_a lv_n lp_3 lp_4
attribute [local go_sem] run_ld_a run_ld_n run_sw_a run_sw_n run_eq_a run_eq_n run_ne_a run_ne_n run_lv_a run_lv_n st_z ne_z eq_z rd_new rd_old rd_drew rd_drewN rd_set tn_new tn_old tn_drew tn_drewN setRow_alloc run_lp_3 run_lp_4

noncomputable def bld (ps : Array (Nat × Value)) : Sem Value := Instr.build 61 ps
theorem bl_d (ps : Array (Nat × Value)) : Instr.build 61 ps = bld ps := rfl
theorem run_bld0 (W : World) : (bld #[]).run Tryz.prog W = .ok (.agg #[.int .u8 0, .int .u8 0, .int .u8 0, .int .u8 0, .int .u8 0, .int .u8 0, .int .u8 0, .int .u8 0, .int .u8 0, .int .u8 0]) W := by simp [bld, Instr.build, go_sem]
theorem build_one (x y : D.Tg) (hy : y.l = D.pl x ++ [0, 0, 0, 0, 0, 0, 0]) (W : World) : (bld #[(0, .agg (pv (D.pl x)))]).run Tryz.prog W = .ok (.agg (nc y)) W := by
 have hx := x.len
 match hl : x.l, hx with
 | [a, b, c, d, e, f, g, h, i, j], _ =>
  have e1 : D.pl x = [a, b, c] := by rw [D.pl, hl]; rfl
  rw [e1] at hy ⊢
  rw [nc, hy]
  simp [bld, Instr.build, go_sem, pv, bys]
attribute [local go_sem ↓] bl_d
attribute [local go_sem] run_bld0
set_option maxRecDepth 100000 in
set_option maxHeartbeats 2000000 in
theorem language_any (x : D.Tg) (w : World) : Calls Tryz.prog 131 #[.agg (nc x)] w fun e w' => e = .returned (.string (D.sb (D.lg x))) ∧ Below w.heap.size w w' := by
 have cR := Lib.hid (fun w => right_any x w)
 have f0 := rd_new w w.heap.size 61 x rfl
 have b0 := below_alloc_ w (.cells (nc x) 61)
 have t0 : tn (w.alloc (.cells (nc x) 61)) w.heap.size = true := tn_of (Blk.new w 61 (nc x)) (nc_size x)
 obtain ⟨W0, hW0⟩ : ∃ W, w.alloc (.cells (nc x) 61) = W := ⟨_, rfl⟩
 rw [hW0] at f0 b0 t0
 have s0 : w.heap.size < W0.heap.size := by rw [<- hW0]; simp
 cases hpt : D.pt x with
 | none =>
  have hr : D.right x = false := by unfold D.right; rw [hpt]; rfl
  have hl : D.lg x = D.rootT := by unfold D.lg; rw [hpt]
  rw [hl]
  rw [hr] at cR
  have cT := fun W => text_any D.zero W
  rw [show D.tx D.zero = D.rootT by decide] at cT
  have CT := Lib.hid cT
  have hb := fun W => build_one D.zero D.zero rfl W
  clear cT hl hr hpt
  go_enter Tryz.func131, Tryz.ntmps131
  go_wp2_with (first
   | (go_at_call 139; (with_reducible refine (cR.out _).mono ?_); rintro e w1 ⟨rfl, b1⟩; have t1 := tn_on t0 b1; have b2 := below_on b0 (Nat.le_of_lt s0) b1; have b3 := below_setRow b2 (Nat.le_refl _) (nc D.zero); have f1 := rd_set w1 w.heap.size D.zero t1; obtain ⟨r1, -, -⟩ := rd_parts f1)
   | (go_at_call 140; (with_reducible refine (CT.out _).mono ?_); rintro e w2 ⟨rfl, b4⟩))
  go_ret
  exact ⟨rfl, below_on b3 b3.size b4⟩
 | some p =>
  have hr : D.right x = true := by unfold D.right; rw [hpt]; rfl
  obtain ⟨hc, hx⟩ := D.pt_some hpt
  have hl : D.lg x = D.txt ⟨p.l, [], []⟩ := by unfold D.lg; rw [hpt]
  rw [hl]
  rw [hr] at cR
  have cT := fun W => text_any (D.lt3 x) W
  rw [D.lt3_some hpt, D.tx_tb (D.can_l hc), <- D.lt3_some hpt] at cT
  obtain ⟨y, hy⟩ : ∃ y, D.lt3 x = y := ⟨_, rfl⟩
  obtain ⟨u, hu⟩ : ∃ u, D.txt ⟨p.l, [], []⟩ = u := ⟨_, rfl⟩
  have hb := fun W => build_one x (D.lt3 x) rfl W
  rw [hy] at hb cT
  rw [hu] at cT ⊢
  have CT := Lib.hid cT
  clear cT hl hr hpt hc hx hy hu
  go_enter Tryz.func131, Tryz.ntmps131
  go_wp2_with (first
   | (go_at_call 139; (with_reducible refine (cR.out _).mono ?_); rintro e w1 ⟨rfl, b1⟩; have f1 := rd_on f0 b1; have b2 := below_on b0 (Nat.le_of_lt s0) b1; obtain ⟨r1, -, -⟩ := rd_parts f1)
   | (go_at_call 140; (with_reducible refine (CT.out _).mono ?_); rintro e w2 ⟨rfl, b4⟩))
  go_ret
  exact ⟨rfl, below_on b2 b2.size b4⟩
end Go.Proofs.YtgnjjlgmlokhmaaGreatDoor
namespace Go.Proofs.YtgnjjlgmlokhmaaGreatDoor
open Go.RowKit
attribute [local go_sem ↓] Go.wp_at_zero Go.wp_at_succ st_u bd_u
attribute [local go_sem] run_stu run_bdu
set_option maxHeartbeats 64000000 in
theorem rules_1 (s : ByteArray) (w : World) (i : Nat) (ht : Tst s fun j => decide (j = i ∨ 16 <= j)) (hi : i = 0 ∨ i = 1 ∨ i = 2 ∨ i = 3 ∨ i = 4 ∨ i = 5 ∨ i = 6 ∨ i = 7 ∨ i = 15) : Calls Tryz.prog 130 #[.string s] w fun e w' => ∃ A n c, e = .returned (.slice A n c) ∧ RR w' A n (D.rls (D.langs.getD i ([], 0)).2) ∧ n <= c ∧ Below w.heap.size w w' := by
 obtain ⟨t0, t1, t2, t3, t4, t5, t6, t7, t8, t9, t10, t11, t12, t13, t14, t15⟩ := ht
 obtain rfl | rfl | rfl | rfl | rfl | rfl | rfl | rfl | rfl := hi
 all_goals
  first | replace t0 := t0.trans (by decide : _ = true) | replace t0 := t0.trans (by decide : _ = false)
  first | replace t1 := t1.trans (by decide : _ = true) | replace t1 := t1.trans (by decide : _ = false)
  first | replace t2 := t2.trans (by decide : _ = true) | replace t2 := t2.trans (by decide : _ = false)
  first | replace t3 := t3.trans (by decide : _ = true) | replace t3 := t3.trans (by decide : _ = false)
  first | replace t4 := t4.trans (by decide : _ = true) | replace t4 := t4.trans (by decide : _ = false)
  first | replace t5 := t5.trans (by decide : _ = true) | replace t5 := t5.trans (by decide : _ = false)
  first | replace t6 := t6.trans (by decide : _ = true) | replace t6 := t6.trans (by decide : _ = false)
  first | replace t7 := t7.trans (by decide : _ = true) | replace t7 := t7.trans (by decide : _ = false)
  first | replace t8 := t8.trans (by decide : _ = true) | replace t8 := t8.trans (by decide : _ = false)
  first | replace t9 := t9.trans (by decide : _ = true) | replace t9 := t9.trans (by decide : _ = false)
  first | replace t10 := t10.trans (by decide : _ = true) | replace t10 := t10.trans (by decide : _ = false)
  first | replace t11 := t11.trans (by decide : _ = true) | replace t11 := t11.trans (by decide : _ = false)
  first | replace t12 := t12.trans (by decide : _ = true) | replace t12 := t12.trans (by decide : _ = false)
  first | replace t13 := t13.trans (by decide : _ = true) | replace t13 := t13.trans (by decide : _ = false)
  first | replace t14 := t14.trans (by decide : _ = true) | replace t14 := t14.trans (by decide : _ = false)
  first | replace t15 := t15.trans (by decide : _ = true) | replace t15 := t15.trans (by decide : _ = false)
  go_enter Tryz.func130, Tryz.ntmps130
  go_wp2_with (first
   | (go_at_call 135; (with_reducible refine (am_11 w).mono ?_); rintro e w1 ⟨v1, g1, h1, rfl, f1, o1, b1⟩; have z1 := (Fw.self w).on b1)
   | (go_at_call 135; (with_reducible refine (am_24 (w1.alloc _)).mono ?_); rintro e w2 ⟨v2, g2, h2, rfl, f2, o2, b2⟩; have f1_2 := (f1.on (below_alloc_ w1 (.cells #[.int .i64 1, v1] 201))).on b2; have B_2 := (Blk.new w1 201 #[.int .i64 1, v1]).on b2; have z2 := (((z1).alloc (.cells #[.int .i64 1, v1] 201))).on b2)
   | (go_at_call 137; (with_reducible refine (re_10 _ _ _ _ _ _ f2).mono ?_); rintro e w3 ⟨v3, g3, h3, rfl, f3, o3, b3⟩; have f1_3 := f1_2.on b3; have B_3 := B_2.on b3; have f2_3 := f2.on b3; have z3 := (z2).on b3)
   | (go_at_call 135; (with_reducible refine (am_1214 _).mono ?_); rintro e w4 ⟨v4, g4, h4, rfl, f4, o4, b4⟩; have f1_4 := f1_3.on b4; have B_4 := B_3.on b4; have f2_4 := f2_3.on b4; have f3_4 := f3.on b4; have z4 := (z3).on b4)
   | (go_at_call 137; (with_reducible refine (re_100 _ _ _ _ _ _ f4).mono ?_); rintro e w5 ⟨v5, g5, h5, rfl, f5, o5, b5⟩; have f1_5 := f1_4.on b5; have B_5 := B_4.on b5; have f2_5 := f2_4.on b5; have f3_5 := f3_4.on b5; have f4_5 := f4.on b5; have z5 := (z4).on b5)
   | (go_at_call 136; (with_reducible refine (but_any _ _ _ _ _ _ _ _ _ _ _ _ _ _ _ _ _ f3_5 f5).mono ?_); rintro e w6 ⟨v6, g6, h6, rfl, f6, o6, b6⟩; have f1_6 := f1_5.on b6; have B_6 := B_5.on b6; have f2_6 := f2_5.on b6; have f3_6 := f3_5.on b6; have f4_6 := f4_5.on b6; have f5_6 := f5.on b6; have z6 := (z5).on b6)
   | (go_at_call 135; (with_reducible refine (am_1119 _).mono ?_); rintro e w7 ⟨v7, g7, h7, rfl, f7, o7, b7⟩; have f1_7 := (f1_6.on (below_alloc_ w6 (.cells #[.int .i64 3, v6] 201))).on b7; have B_7 := (B_6.on (below_alloc_ w6 (.cells #[.int .i64 3, v6] 201))).on b7; have f2_7 := (f2_6.on (below_alloc_ w6 (.cells #[.int .i64 3, v6] 201))).on b7; have f3_7 := (f3_6.on (below_alloc_ w6 (.cells #[.int .i64 3, v6] 201))).on b7; have f4_7 := (f4_6.on (below_alloc_ w6 (.cells #[.int .i64 3, v6] 201))).on b7; have f5_7 := (f5_6.on (below_alloc_ w6 (.cells #[.int .i64 3, v6] 201))).on b7; have f6_7 := (f6.on (below_alloc_ w6 (.cells #[.int .i64 3, v6] 201))).on b7; have C_7 := (Blk.new w6 201 #[.int .i64 3, v6]).on b7; have z7 := (((z6).alloc (.cells #[.int .i64 3, v6] 201))).on b7)
   | (go_at_call 137; (with_reducible refine (re_100 _ _ _ _ _ _ f7).mono ?_); rintro e w8 ⟨v8, g8, h8, rfl, f8, o8, b8⟩; have f1_8 := f1_7.on b8; have B_8 := B_7.on b8; have f2_8 := f2_7.on b8; have f3_8 := f3_7.on b8; have f4_8 := f4_7.on b8; have f5_8 := f5_7.on b8; have f6_8 := f6_7.on b8; have C_8 := C_7.on b8; have f7_8 := f7.on b8; have z8 := (z7).on b8)
   | fail)
 iterate 6
  focus
   go_ret
   exact ⟨none, 0, 0, rfl, RR.nil _ _, Nat.le_refl _, z8.below⟩
 iterate 2
  focus
   go_wp2_with (first
     | (go_at_call 135; (with_reducible refine (am_01 w8).mono ?_); rintro e w9 ⟨v9, g9, h9, rfl, f9, o9, b9⟩; have f1_9 := f1_8.on b9; have B_9 := B_8.on b9; have f6_9 := f6_8.on b9; have C_9 := C_8.on b9; have f8_9 := f8.on b9; have z9 := (z8).on b9)
     | fail)
   have hl : ∀ q ∈ ([(1, v9, .am 0 1)] : List (Nat × Value × D.Ts)), FT w9 q.2.1 q.2.2 := by
    intro q hq
    simp only [List.mem_cons, List.not_mem_nil, or_false] at hq
    subst hq
    ·exact ⟨_, _, f9⟩
   have HR : RR (w9.alloc (.cells #[.int .i64 1, v9] 201)) (some ⟨w9.heap.size, 0, none⟩) 1 (D.rls 2) := RR.new w9 _ _ rfl [(1, v9, .am 0 1)] hl _ rfl 1 rfl
   have ZR := (z9).alloc (.cells #[.int .i64 1, v9] 201)
   go_ret
   exact ⟨_, _, _, rfl, HR, Nat.le_refl _, ZR.below⟩
 focus
  go_wp2_with (first
    | (go_at_call 135; (with_reducible refine (am_11 w8).mono ?_); rintro e w9 ⟨v9, g9, h9, rfl, f9, o9, b9⟩; have f1_9 := f1_8.on b9; have B_9 := B_8.on b9; have f6_9 := f6_8.on b9; have C_9 := C_8.on b9; have f8_9 := f8.on b9; have z9 := (z8).on b9)
    | (go_at_call 137; (with_reducible refine (re_10 _ _ _ _ _ _ f9).mono ?_); rintro e w10 ⟨v10, g10, h10, rfl, f10, o10, b10⟩; have f1_10 := f1_9.on b10; have B_10 := B_9.on b10; have f6_10 := f6_9.on b10; have C_10 := C_9.on b10; have f8_10 := f8_9.on b10; have f9_10 := f9.on b10; have z10 := (z9).on b10)
    | (go_at_call 136; (with_reducible refine (but_any _ _ _ _ _ _ _ _ _ _ _ _ _ _ _ _ _ f10 f8_10).mono ?_); rintro e w11 ⟨v11, g11, h11, rfl, f11, o11, b11⟩; have f1_11 := f1_10.on b11; have B_11 := B_10.on b11; have f6_11 := f6_10.on b11; have C_11 := C_10.on b11; have f8_11 := f8_10.on b11; have f9_11 := f9_10.on b11; have f10_11 := f10.on b11; have z11 := (z10).on b11)
    | (go_at_call 135; (with_reducible refine (am_29 _).mono ?_); rintro e w12 ⟨v12, g12, h12, rfl, f12, o12, b12⟩; have f1_12 := f1_11.on b12; have B_12 := B_11.on b12; have f6_12 := f6_11.on b12; have C_12 := C_11.on b12; have f8_12 := f8_11.on b12; have f9_12 := f9_11.on b12; have f10_12 := f10_11.on b12; have f11_12 := f11.on b12; have z12 := (z11).on b12)
    | (go_at_call 137; (with_reducible refine (re_10 _ _ _ _ _ _ f12).mono ?_); rintro e w13 ⟨v13, g13, h13, rfl, f13, o13, b13⟩; have f1_13 := f1_12.on b13; have B_13 := B_12.on b13; have f6_13 := f6_12.on b13; have C_13 := C_12.on b13; have f8_13 := f8_12.on b13; have f9_13 := f9_12.on b13; have f10_13 := f10_12.on b13; have f11_13 := f11_12.on b13; have f12_13 := f12.on b13; have z13 := (z12).on b13)
    | (go_at_call 136; (with_reducible refine (but_any _ _ _ _ _ _ _ _ _ _ _ _ _ _ _ _ _ f13 f8_13).mono ?_); rintro e w14 ⟨v14, g14, h14, rfl, f14, o14, b14⟩; have f1_14 := f1_13.on b14; have B_14 := B_13.on b14; have f6_14 := f6_13.on b14; have C_14 := C_13.on b14; have f8_14 := f8_13.on b14; have f9_14 := f9_13.on b14; have f10_14 := f10_13.on b14; have f11_14 := f11_13.on b14; have f12_14 := f12_13.on b14; have f13_14 := f13.on b14; have z14 := (z13).on b14)
    | fail)
  have hl : ∀ q ∈ ([(1, v11, .bu 10 1 1 100 11 19), (3, v14, .bu 10 2 9 100 11 19)] : List (Nat × Value × D.Ts)), FT w14 q.2.1 q.2.2 := by
   intro q hq
   simp only [List.mem_cons, List.not_mem_nil, or_false] at hq
   rcases hq with rfl | rfl
   ·exact ⟨by decide, by decide, _, _, _, _, _, _, _, _, _, _, f11_14⟩
   ·exact ⟨by decide, by decide, _, _, _, _, _, _, _, _, _, _, f14⟩
  have HR : RR (w14.alloc (.cells #[.int .i64 1, v11, .int .i64 3, v14] 201)) (some ⟨w14.heap.size, 0, none⟩) 2 (D.rls 7) := RR.new w14 _ _ rfl [(1, v11, .bu 10 1 1 100 11 19), (3, v14, .bu 10 2 9 100 11 19)] hl _ rfl 2 rfl
  have ZR := (z14).alloc (.cells #[.int .i64 1, v11, .int .i64 3, v14] 201)
  go_ret
  exact ⟨_, _, _, rfl, HR, Nat.le_refl _, ZR.below⟩
set_option maxHeartbeats 4000000 in
theorem rules_none (s : ByteArray) (w : World) (h : Tst s fun _ => false) : Calls Tryz.prog 130 #[.string s] w fun e w' => ∃ A n c, e = .returned (.slice A n c) ∧ RR w' A n (D.rls 0) ∧ n <= c ∧ Below w.heap.size w w' := by
 obtain ⟨t0, t1, t2, t3, t4, t5, t6, t7, t8, t9, t10, t11, t12, t13, t14, t15⟩ := h
 go_enter Tryz.func130, Tryz.ntmps130
 go_wp2_with (first
  | (go_at_call 135; (with_reducible refine (am_11 w).mono ?_); rintro e w1 ⟨v1, g1, h1, rfl, f1, o1, b1⟩; have z1 := (Fw.self w).on b1)
  | (go_at_call 135; (with_reducible refine (am_24 (w1.alloc _)).mono ?_); rintro e w2 ⟨v2, g2, h2, rfl, f2, o2, b2⟩; have f1_2 := (f1.on (below_alloc_ w1 (.cells #[.int .i64 1, v1] 201))).on b2; have B_2 := (Blk.new w1 201 #[.int .i64 1, v1]).on b2; have z2 := (((z1).alloc (.cells #[.int .i64 1, v1] 201))).on b2)
  | (go_at_call 137; (with_reducible refine (re_10 _ _ _ _ _ _ f2).mono ?_); rintro e w3 ⟨v3, g3, h3, rfl, f3, o3, b3⟩; have f1_3 := f1_2.on b3; have B_3 := B_2.on b3; have f2_3 := f2.on b3; have z3 := (z2).on b3)
  | (go_at_call 135; (with_reducible refine (am_1214 _).mono ?_); rintro e w4 ⟨v4, g4, h4, rfl, f4, o4, b4⟩; have f1_4 := f1_3.on b4; have B_4 := B_3.on b4; have f2_4 := f2_3.on b4; have f3_4 := f3.on b4; have z4 := (z3).on b4)
  | (go_at_call 137; (with_reducible refine (re_100 _ _ _ _ _ _ f4).mono ?_); rintro e w5 ⟨v5, g5, h5, rfl, f5, o5, b5⟩; have f1_5 := f1_4.on b5; have B_5 := B_4.on b5; have f2_5 := f2_4.on b5; have f3_5 := f3_4.on b5; have f4_5 := f4.on b5; have z5 := (z4).on b5)
  | (go_at_call 136; (with_reducible refine (but_any _ _ _ _ _ _ _ _ _ _ _ _ _ _ _ _ _ f3_5 f5).mono ?_); rintro e w6 ⟨v6, g6, h6, rfl, f6, o6, b6⟩; have f1_6 := f1_5.on b6; have B_6 := B_5.on b6; have f2_6 := f2_5.on b6; have f3_6 := f3_5.on b6; have f4_6 := f4_5.on b6; have f5_6 := f5.on b6; have z6 := (z5).on b6)
  | (go_at_call 135; (with_reducible refine (am_1119 _).mono ?_); rintro e w7 ⟨v7, g7, h7, rfl, f7, o7, b7⟩; have f1_7 := (f1_6.on (below_alloc_ w6 (.cells #[.int .i64 3, v6] 201))).on b7; have B_7 := (B_6.on (below_alloc_ w6 (.cells #[.int .i64 3, v6] 201))).on b7; have f2_7 := (f2_6.on (below_alloc_ w6 (.cells #[.int .i64 3, v6] 201))).on b7; have f3_7 := (f3_6.on (below_alloc_ w6 (.cells #[.int .i64 3, v6] 201))).on b7; have f4_7 := (f4_6.on (below_alloc_ w6 (.cells #[.int .i64 3, v6] 201))).on b7; have f5_7 := (f5_6.on (below_alloc_ w6 (.cells #[.int .i64 3, v6] 201))).on b7; have f6_7 := (f6.on (below_alloc_ w6 (.cells #[.int .i64 3, v6] 201))).on b7; have C_7 := (Blk.new w6 201 #[.int .i64 3, v6]).on b7; have z7 := (((z6).alloc (.cells #[.int .i64 3, v6] 201))).on b7)
  | (go_at_call 137; (with_reducible refine (re_100 _ _ _ _ _ _ f7).mono ?_); rintro e w8 ⟨v8, g8, h8, rfl, f8, o8, b8⟩; have f1_8 := f1_7.on b8; have B_8 := B_7.on b8; have f2_8 := f2_7.on b8; have f3_8 := f3_7.on b8; have f4_8 := f4_7.on b8; have f5_8 := f5_7.on b8; have f6_8 := f6_7.on b8; have C_8 := C_7.on b8; have f7_8 := f7.on b8; have z8 := (z7).on b8; have c0 : w8.cell? ⟨w1.heap.size, 0, none⟩ = some (.int .i64 1) := B_8.c 0; have c1 : w8.cell? ⟨w1.heap.size, 1, none⟩ = some v1 := B_8.c 1)
  | fail)
 have hl : ∀ q ∈ ([(1, v1, .am 1 1)] : List (Nat × Value × D.Ts)), FT w8 q.2.1 q.2.2 := by
  intro q hq
  simp only [List.mem_cons, List.not_mem_nil, or_false] at hq
  subst hq
  ·exact ⟨_, _, f1_8⟩
 have HR : RR (w8.alloc (.cells #[.int .i64 1, v1] 201)) (some ⟨w8.heap.size, 0, none⟩) 1 (D.rls 0) := RR.new w8 _ _ rfl [(1, v1, .am 1 1)] hl _ rfl 1 rfl
 have ZR := (z8).alloc (.cells #[.int .i64 1, v1] 201)
 go_ret
 exact ⟨_, _, _, rfl, HR, Nat.le_refl _, ZR.below⟩
set_option maxHeartbeats 64000000 in
theorem rules_2 (s : ByteArray) (w : World) (i : Nat) (ht : Tst s fun j => decide (j = i ∨ 16 <= j)) (hi : i = 8 ∨ i = 9 ∨ i = 10 ∨ i = 11 ∨ i = 12 ∨ i = 13 ∨ i = 14) : Calls Tryz.prog 130 #[.string s] w fun e w' => ∃ A n c, e = .returned (.slice A n c) ∧ RR w' A n (D.rls (D.langs.getD i ([], 0)).2) ∧ n <= c ∧ Below w.heap.size w w' := by
 obtain ⟨t0, t1, t2, t3, t4, t5, t6, t7, t8, t9, t10, t11, t12, t13, t14, t15⟩ := ht
 obtain rfl | rfl | rfl | rfl | rfl | rfl | rfl := hi
 all_goals
  first | replace t0 := t0.trans (by decide : _ = true) | replace t0 := t0.trans (by decide : _ = false)
  first | replace t1 := t1.trans (by decide : _ = true) | replace t1 := t1.trans (by decide : _ = false)
  first | replace t2 := t2.trans (by decide : _ = true) | replace t2 := t2.trans (by decide : _ = false)
  first | replace t3 := t3.trans (by decide : _ = true) | replace t3 := t3.trans (by decide : _ = false)
  first | replace t4 := t4.trans (by decide : _ = true) | replace t4 := t4.trans (by decide : _ = false)
  first | replace t5 := t5.trans (by decide : _ = true) | replace t5 := t5.trans (by decide : _ = false)
  first | replace t6 := t6.trans (by decide : _ = true) | replace t6 := t6.trans (by decide : _ = false)
  first | replace t7 := t7.trans (by decide : _ = true) | replace t7 := t7.trans (by decide : _ = false)
  first | replace t8 := t8.trans (by decide : _ = true) | replace t8 := t8.trans (by decide : _ = false)
  first | replace t9 := t9.trans (by decide : _ = true) | replace t9 := t9.trans (by decide : _ = false)
  first | replace t10 := t10.trans (by decide : _ = true) | replace t10 := t10.trans (by decide : _ = false)
  first | replace t11 := t11.trans (by decide : _ = true) | replace t11 := t11.trans (by decide : _ = false)
  first | replace t12 := t12.trans (by decide : _ = true) | replace t12 := t12.trans (by decide : _ = false)
  first | replace t13 := t13.trans (by decide : _ = true) | replace t13 := t13.trans (by decide : _ = false)
  first | replace t14 := t14.trans (by decide : _ = true) | replace t14 := t14.trans (by decide : _ = false)
  first | replace t15 := t15.trans (by decide : _ = true) | replace t15 := t15.trans (by decide : _ = false)
  go_enter Tryz.func130, Tryz.ntmps130
  go_wp2_with (first
   | (go_at_call 135; (with_reducible refine (am_11 w).mono ?_); rintro e w1 ⟨v1, g1, h1, rfl, f1, o1, b1⟩; have z1 := (Fw.self w).on b1)
   | (go_at_call 135; (with_reducible refine (am_24 (w1.alloc _)).mono ?_); rintro e w2 ⟨v2, g2, h2, rfl, f2, o2, b2⟩; have f1_2 := (f1.on (below_alloc_ w1 (.cells #[.int .i64 1, v1] 201))).on b2; have B_2 := (Blk.new w1 201 #[.int .i64 1, v1]).on b2; have z2 := (((z1).alloc (.cells #[.int .i64 1, v1] 201))).on b2)
   | (go_at_call 137; (with_reducible refine (re_10 _ _ _ _ _ _ f2).mono ?_); rintro e w3 ⟨v3, g3, h3, rfl, f3, o3, b3⟩; have f1_3 := f1_2.on b3; have B_3 := B_2.on b3; have f2_3 := f2.on b3; have z3 := (z2).on b3)
   | (go_at_call 135; (with_reducible refine (am_1214 _).mono ?_); rintro e w4 ⟨v4, g4, h4, rfl, f4, o4, b4⟩; have f1_4 := f1_3.on b4; have B_4 := B_3.on b4; have f2_4 := f2_3.on b4; have f3_4 := f3.on b4; have z4 := (z3).on b4)
   | (go_at_call 137; (with_reducible refine (re_100 _ _ _ _ _ _ f4).mono ?_); rintro e w5 ⟨v5, g5, h5, rfl, f5, o5, b5⟩; have f1_5 := f1_4.on b5; have B_5 := B_4.on b5; have f2_5 := f2_4.on b5; have f3_5 := f3_4.on b5; have f4_5 := f4.on b5; have z5 := (z4).on b5)
   | (go_at_call 136; (with_reducible refine (but_any _ _ _ _ _ _ _ _ _ _ _ _ _ _ _ _ _ f3_5 f5).mono ?_); rintro e w6 ⟨v6, g6, h6, rfl, f6, o6, b6⟩; have f1_6 := f1_5.on b6; have B_6 := B_5.on b6; have f2_6 := f2_5.on b6; have f3_6 := f3_5.on b6; have f4_6 := f4_5.on b6; have f5_6 := f5.on b6; have z6 := (z5).on b6)
   | (go_at_call 135; (with_reducible refine (am_1119 _).mono ?_); rintro e w7 ⟨v7, g7, h7, rfl, f7, o7, b7⟩; have f1_7 := (f1_6.on (below_alloc_ w6 (.cells #[.int .i64 3, v6] 201))).on b7; have B_7 := (B_6.on (below_alloc_ w6 (.cells #[.int .i64 3, v6] 201))).on b7; have f2_7 := (f2_6.on (below_alloc_ w6 (.cells #[.int .i64 3, v6] 201))).on b7; have f3_7 := (f3_6.on (below_alloc_ w6 (.cells #[.int .i64 3, v6] 201))).on b7; have f4_7 := (f4_6.on (below_alloc_ w6 (.cells #[.int .i64 3, v6] 201))).on b7; have f5_7 := (f5_6.on (below_alloc_ w6 (.cells #[.int .i64 3, v6] 201))).on b7; have f6_7 := (f6.on (below_alloc_ w6 (.cells #[.int .i64 3, v6] 201))).on b7; have C_7 := (Blk.new w6 201 #[.int .i64 3, v6]).on b7; have z7 := (((z6).alloc (.cells #[.int .i64 3, v6] 201))).on b7)
   | (go_at_call 137; (with_reducible refine (re_100 _ _ _ _ _ _ f7).mono ?_); rintro e w8 ⟨v8, g8, h8, rfl, f8, o8, b8⟩; have f1_8 := f1_7.on b8; have B_8 := B_7.on b8; have f2_8 := f2_7.on b8; have f3_8 := f3_7.on b8; have f4_8 := f4_7.on b8; have f5_8 := f5_7.on b8; have f6_8 := f6_7.on b8; have C_8 := C_7.on b8; have f7_8 := f7.on b8; have z8 := (z7).on b8)
   | fail)
 iterate 3
  focus
   clear t0 t1 t2 t3 t4 t5 t6 t7 t8 t9 t10 t11 t12 t13 t14 t15
   have s8 : (fun W => Blk W w6.heap.size 201 #[.int .i64 3, v6]) w8.drew := ⟨C_8.out⟩
   refine wp_region_noPanic ?_
   refine wp_region_held_drew (S := (fun W => Blk W w6.heap.size 201 #[.int .i64 3, v6])) (by kernel_rfl) s8 (fun _ => ?_)
   obtain ⟨wd, hwd⟩ : ∃ wd, w8.drew = wd := ⟨_, rfl⟩
   rw [hwd] at s8
   rw [hwd]
   have bd : Below w8.heap.size w8 wd := by rw [<- hwd]; exact (Below.refl _ _).drew
   clear hwd
   have f1_d := f1_8.on bd
   have f6_d := f6_8.on bd
   have B_d := B_8.on bd
   have C_d := C_8.on bd
   have zd := (z8).on bd
   have sN := s8
   clear s8
   refine takeT 6 (some 40) (.agg #[.int .i64 3, v6]) ?_ sN ?_
   ·(intro o ho W hW; simp only [gT, gS, gZ, sI] at ho; subst ho; (try dsimp only at hW); have q0 := (hW).c 0; have q1 := (hW).c 1; simp only [List.getElem?_toArray, List.getElem?_cons_succ, List.getElem?_cons_zero] at q0 q1; go_simp; try rfl)
   try simp only [Act.put, iT, iZ, iS]
   refine nextS 0 (by kernel_rfl) (by rfl) (fun o ho K hK => ?_)
   simp only [gT, gS, gZ, sI] at ho; subst ho
   go_simp
   (go_at_call 135; (with_reducible refine (am_11 _).mono ?_); rintro e w9 ⟨v9, g9, h9, rfl, f9, o9, b9⟩)
   have f1_9 := f1_d.on b9
   have B_9 := B_d.on b9
   have f6_9 := f6_d.on b9
   have C_9 := C_d.on b9
   have z9 := (zd).on b9
   have sM : (fun W => Blk W w6.heap.size 201 #[.int .i64 3, v6]) w9 := C_9
   refine hK.out _ _ sM (fun _ => ?_)
   clear hK K
   try simp only [Act.put, iT, iZ, iS]
   clear sN
   have sN := sM
   clear sM
   refine nextS 1 (by kernel_rfl) (by rfl) (fun o ho K hK => ?_)
   simp only [gT, gS, gZ, sI] at ho; subst ho
   go_simp
   (go_at_call 137; (with_reducible refine (re_10 _ _ _ _ _ _ f9).mono ?_); rintro e w10 ⟨v10, g10, h10, rfl, f10, o10, b10⟩)
   have f1_10 := f1_9.on b10
   have B_10 := B_9.on b10
   have f6_10 := f6_9.on b10
   have C_10 := C_9.on b10
   have f9_10 := f9.on b10
   have z10 := (z9).on b10
   have sM : (fun W => Blk W w6.heap.size 201 #[.int .i64 3, v6]) w10 := C_10
   refine hK.out _ _ sM (fun _ => ?_)
   clear hK K
   try simp only [Act.put, iT, iZ, iS]
   clear sN
   have sN := sM
   clear sM
   refine nextS 2 (by kernel_rfl) (by rfl) (fun o ho K hK => ?_)
   simp only [gT, gS, gZ, sI] at ho; subst ho
   go_simp
   (go_at_call 135; (with_reducible refine (am_1111 _).mono ?_); rintro e w11 ⟨v11, g11, h11, rfl, f11, o11, b11⟩)
   have f1_11 := f1_10.on b11
   have B_11 := B_10.on b11
   have f6_11 := f6_10.on b11
   have C_11 := C_10.on b11
   have f9_11 := f9_10.on b11
   have f10_11 := f10.on b11
   have z11 := (z10).on b11
   have sM : (fun W => Blk W w6.heap.size 201 #[.int .i64 3, v6]) w11 := C_11
   refine hK.out _ _ sM (fun _ => ?_)
   clear hK K
   try simp only [Act.put, iT, iZ, iS]
   clear sN
   have sN := sM
   clear sM
   refine nextS 3 (by kernel_rfl) (by rfl) (fun o ho K hK => ?_)
   simp only [gT, gS, gZ, sI] at ho; subst ho
   go_simp
   (go_at_call 137; (with_reducible refine (re_100 _ _ _ _ _ _ f11).mono ?_); rintro e w12 ⟨v12, g12, h12, rfl, f12, o12, b12⟩)
   have f1_12 := f1_11.on b12
   have B_12 := B_11.on b12
   have f6_12 := f6_11.on b12
   have C_12 := C_11.on b12
   have f9_12 := f9_11.on b12
   have f10_12 := f10_11.on b12
   have f11_12 := f11.on b12
   have z12 := (z11).on b12
   have sM : (fun W => Blk W w6.heap.size 201 #[.int .i64 3, v6]) w12 := C_12
   refine hK.out _ _ sM (fun _ => ?_)
   clear hK K
   try simp only [Act.put, iT, iZ, iS]
   clear sN
   have sN := sM
   clear sM
   refine nextS 4 (by kernel_rfl) (by rfl) (fun o ho K hK => ?_)
   simp only [gT, gS, gZ, sI] at ho; subst ho
   go_simp
   (go_at_call 136; (with_reducible refine (but_any _ _ _ _ _ _ _ _ _ _ _ _ _ _ _ _ _ f10_12 f12).mono ?_); rintro e w13 ⟨v13, g13, h13, rfl, f13, o13, b13⟩)
   have f1_13 := f1_12.on b13
   have B_13 := B_12.on b13
   have f6_13 := f6_12.on b13
   have C_13 := C_12.on b13
   have f9_13 := f9_12.on b13
   have f10_13 := f10_12.on b13
   have f11_13 := f11_12.on b13
   have f12_13 := f12.on b13
   have z13 := (z12).on b13
   have sM : (fun W => Blk W w6.heap.size 201 #[.int .i64 3, v6]) w13 := C_13
   refine hK.out _ _ sM (fun _ => ?_)
   clear hK K
   try simp only [Act.put, iT, iZ, iS]
   clear sN
   have sN := sM
   clear sM
   refine takeT 5 (some 39) (.agg #[.int .i64 1, v13]) ?_ sN ?_
   ·(intro o ho W hW; simp only [gT, gS, gZ, sI] at ho; subst ho; (try dsimp only at hW); go_simp; try rfl)
   try simp only [Act.put, iT, iZ, iS]
   refine nextS 7 (by kernel_rfl) (by rfl) (fun o ho K hK => ?_)
   simp only [gT, gS, gZ, sI] at ho; subst ho
   go_simp
   (go_at_call 138; (with_reducible refine ((all_any _)).mono ?_); rintro e _ ⟨v14, rfl, e14, o14, rfl⟩)
   have sM := sN
   refine hK.out _ _ sM (fun _ => ?_)
   clear hK K
   try simp only [Act.put, iT, iZ, iS]
   clear sN
   have sN := sM
   clear sM
   refine takeT 8 (some 42) (.agg #[.int .i64 4, v14]) ?_ sN ?_
   ·(intro o ho W hW; simp only [gT, gS, gZ, sI] at ho; subst ho; (try dsimp only at hW); go_simp; try rfl)
   try simp only [Act.put, iT, iZ, iS]
   have hl : ∀ q ∈ ([(1, v13, .bu 10 1 1 100 11 11), (3, v6, .bu 10 2 4 100 12 14), (4, v14, .al)] : List (Nat × Value × D.Ts)), FT w13 q.2.1 q.2.2 := by
    intro q hq
    simp only [List.mem_cons, List.not_mem_nil, or_false] at hq
    rcases hq with rfl | rfl | rfl
    ·exact ⟨by decide, by decide, _, _, _, _, _, _, _, _, _, _, f13⟩
    ·exact ⟨by decide, by decide, _, _, _, _, _, _, _, _, _, _, f6_13⟩
    ·exact e14.out
   have HR : RR (w13.alloc (.cells #[.int .i64 1, v13, .int .i64 3, v6, .int .i64 4, v14] 201)) (some ⟨w13.heap.size, 0, none⟩) 3 (D.rls 3) := RR.new w13 _ _ rfl [(1, v13, .bu 10 1 1 100 11 11), (3, v6, .bu 10 2 4 100 12 14), (4, v14, .al)] hl _ rfl 3 rfl
   have ZR := (z13).alloc (.cells #[.int .i64 1, v13, .int .i64 3, v6, .int .i64 4, v14] 201)
   refine nextS 9 (by kernel_rfl) (by rfl) (fun o ho K hK => ?_)
   simp only [gT, gS, gZ, sI] at ho; subst ho
   go_simp
   have sM : (fun W => Blk W w6.heap.size 201 #[.int .i64 3, v6]) (w13.alloc (.cells #[.int .i64 1, v13, .int .i64 3, v6, .int .i64 4, v14] 201)) := C_13.alloc _
   refine hK.out _ _ sM (fun _ => ?_)
   clear hK K
   try simp only [Act.put, iT, iZ, iS]
   refine takeT 10 (some 2) (.slice (some ⟨w13.heap.size, 0, none⟩) 3 3) ?_ sM ?_
   ·(intro o ho W hW; simp only [gT, gS, gZ, sI] at ho; subst ho; (try dsimp only at hW); go_simp; try rfl)
   try simp only [Act.put, iT, iZ, iS]
   refine wpAnyH_done (by kernel_rfl) ?_ _
   refine NoPanic.normal ?_
   go_wp2
   go_ret
   exact ⟨_, _, _, rfl, HR, Nat.le_refl _, ZR.below⟩
 focus
  clear t0 t1 t2 t3 t4 t5 t6 t7 t8 t9 t10 t11 t12 t13 t14 t15
  have s8 : (fun W => Blk W w1.heap.size 201 #[.int .i64 1, v1] ∧ Blk W w6.heap.size 201 #[.int .i64 3, v6]) w8.drew := ⟨⟨B_8.out⟩, ⟨C_8.out⟩⟩
  refine wp_region_noPanic ?_
  refine wp_region_held_drew (S := (fun W => Blk W w1.heap.size 201 #[.int .i64 1, v1] ∧ Blk W w6.heap.size 201 #[.int .i64 3, v6])) (by kernel_rfl) s8 (fun _ => ?_)
  obtain ⟨wd, hwd⟩ : ∃ wd, w8.drew = wd := ⟨_, rfl⟩
  rw [hwd] at s8
  rw [hwd]
  have bd : Below w8.heap.size w8 wd := by rw [<- hwd]; exact (Below.refl _ _).drew
  clear hwd
  have f1_d := f1_8.on bd
  have f6_d := f6_8.on bd
  have B_d := B_8.on bd
  have C_d := C_8.on bd
  have zd := (z8).on bd
  have sN := s8
  clear s8
  refine takeT 0 (some 46) (.agg #[.int .i64 1, v1]) ?_ sN ?_
  ·(intro o ho W hW; simp only [gT, gS, gZ, sI] at ho; subst ho; (try dsimp only at hW); have q0 := (hW.1).c 0; have q1 := (hW.1).c 1; simp only [List.getElem?_toArray, List.getElem?_cons_succ, List.getElem?_cons_zero] at q0 q1; go_simp; try rfl)
  try simp only [Act.put, iT, iZ, iS]
  refine takeT 1 (some 47) (.agg #[.int .i64 3, v6]) ?_ sN ?_
  ·(intro o ho W hW; simp only [gT, gS, gZ, sI] at ho; subst ho; (try dsimp only at hW); have q0 := (hW.2).c 0; have q1 := (hW.2).c 1; simp only [List.getElem?_toArray, List.getElem?_cons_succ, List.getElem?_cons_zero] at q0 q1; go_simp; try rfl)
  try simp only [Act.put, iT, iZ, iS]
  refine nextS 2 (by kernel_rfl) (by rfl) (fun o ho K hK => ?_)
  simp only [gT, gS, gZ, sI] at ho; subst ho
  go_simp
  (go_at_call 138; (with_reducible refine ((all_any _)).mono ?_); rintro e _ ⟨v9, rfl, e9, o9, rfl⟩)
  have sM := sN
  refine hK.out _ _ sM (fun _ => ?_)
  clear hK K
  try simp only [Act.put, iT, iZ, iS]
  clear sN
  have sN := sM
  clear sM
  refine takeT 3 (some 49) (.agg #[.int .i64 4, v9]) ?_ sN ?_
  ·(intro o ho W hW; simp only [gT, gS, gZ, sI] at ho; subst ho; (try dsimp only at hW); go_simp; try rfl)
  try simp only [Act.put, iT, iZ, iS]
  have hl : ∀ q ∈ ([(1, v1, .am 1 1), (3, v6, .bu 10 2 4 100 12 14), (4, v9, .al)] : List (Nat × Value × D.Ts)), FT wd q.2.1 q.2.2 := by
   intro q hq
   simp only [List.mem_cons, List.not_mem_nil, or_false] at hq
   rcases hq with rfl | rfl | rfl
   ·exact ⟨_, _, f1_d⟩
   ·exact ⟨by decide, by decide, _, _, _, _, _, _, _, _, _, _, f6_d⟩
   ·exact e9.out
  have HR : RR (wd.alloc (.cells #[.int .i64 1, v1, .int .i64 3, v6, .int .i64 4, v9] 201)) (some ⟨wd.heap.size, 0, none⟩) 3 (D.rls 4) := RR.new wd _ _ rfl [(1, v1, .am 1 1), (3, v6, .bu 10 2 4 100 12 14), (4, v9, .al)] hl _ rfl 3 rfl
  have ZR := (zd).alloc (.cells #[.int .i64 1, v1, .int .i64 3, v6, .int .i64 4, v9] 201)
  refine nextS 4 (by kernel_rfl) (by rfl) (fun o ho K hK => ?_)
  simp only [gT, gS, gZ, sI] at ho; subst ho
  go_simp
  have sM : (fun W => Blk W w1.heap.size 201 #[.int .i64 1, v1] ∧ Blk W w6.heap.size 201 #[.int .i64 3, v6]) (wd.alloc (.cells #[.int .i64 1, v1, .int .i64 3, v6, .int .i64 4, v9] 201)) := ⟨B_d.alloc _, C_d.alloc _⟩
  refine hK.out _ _ sM (fun _ => ?_)
  clear hK K
  try simp only [Act.put, iT, iZ, iS]
  refine takeT 5 (some 2) (.slice (some ⟨wd.heap.size, 0, none⟩) 3 3) ?_ sM ?_
  ·(intro o ho W hW; simp only [gT, gS, gZ, sI] at ho; subst ho; (try dsimp only at hW); go_simp; try rfl)
  try simp only [Act.put, iT, iZ, iS]
  refine wpAnyH_done (by kernel_rfl) ?_ _
  refine NoPanic.normal ?_
  go_wp2
  go_ret
  exact ⟨_, _, _, rfl, HR, Nat.le_refl _, ZR.below⟩
 iterate 2
  focus
   clear t0 t1 t2 t3 t4 t5 t6 t7 t8 t9 t10 t11 t12 t13 t14 t15
   have s8 : (fun W => Blk W w1.heap.size 201 #[.int .i64 1, v1]) w8.drew := ⟨B_8.out⟩
   refine wp_region_noPanic ?_
   refine wp_region_held_drew (S := (fun W => Blk W w1.heap.size 201 #[.int .i64 1, v1])) (by kernel_rfl) s8 (fun _ => ?_)
   obtain ⟨wd, hwd⟩ : ∃ wd, w8.drew = wd := ⟨_, rfl⟩
   rw [hwd] at s8
   rw [hwd]
   have bd : Below w8.heap.size w8 wd := by rw [<- hwd]; exact (Below.refl _ _).drew
   clear hwd
   have f1_d := f1_8.on bd
   have f6_d := f6_8.on bd
   have B_d := B_8.on bd
   have C_d := C_8.on bd
   have zd := (z8).on bd
   have sN := s8
   clear s8
   refine takeT 0 (some 54) (.agg #[.int .i64 1, v1]) ?_ sN ?_
   ·(intro o ho W hW; simp only [gT, gS, gZ, sI] at ho; subst ho; (try dsimp only at hW); have q0 := (hW).c 0; have q1 := (hW).c 1; simp only [List.getElem?_toArray, List.getElem?_cons_succ, List.getElem?_cons_zero] at q0 q1; go_simp; try rfl)
   try simp only [Act.put, iT, iZ, iS]
   refine nextS 1 (by kernel_rfl) (by rfl) (fun o ho K hK => ?_)
   simp only [gT, gS, gZ, sI] at ho; subst ho
   go_simp
   (go_at_call 135; (with_reducible refine (am_24 _).mono ?_); rintro e w9 ⟨v9, g9, h9, rfl, f9, o9, b9⟩)
   have f1_9 := f1_d.on b9
   have B_9 := B_d.on b9
   have f6_9 := f6_d.on b9
   have C_9 := C_d.on b9
   have z9 := (zd).on b9
   have sM : (fun W => Blk W w1.heap.size 201 #[.int .i64 1, v1]) w9 := B_9
   refine hK.out _ _ sM (fun _ => ?_)
   clear hK K
   try simp only [Act.put, iT, iZ, iS]
   clear sN
   have sN := sM
   clear sM
   refine takeT 2 (some 56) (.agg #[.int .i64 3, v9]) ?_ sN ?_
   ·(intro o ho W hW; simp only [gT, gS, gZ, sI] at ho; subst ho; (try dsimp only at hW); go_simp; try rfl)
   try simp only [Act.put, iT, iZ, iS]
   have hl : ∀ q ∈ ([(1, v1, .am 1 1), (3, v9, .am 2 4)] : List (Nat × Value × D.Ts)), FT w9 q.2.1 q.2.2 := by
    intro q hq
    simp only [List.mem_cons, List.not_mem_nil, or_false] at hq
    rcases hq with rfl | rfl
    ·exact ⟨_, _, f1_9⟩
    ·exact ⟨_, _, f9⟩
   have HR : RR (w9.alloc (.cells #[.int .i64 1, v1, .int .i64 3, v9] 201)) (some ⟨w9.heap.size, 0, none⟩) 2 (D.rls 5) := RR.new w9 _ _ rfl [(1, v1, .am 1 1), (3, v9, .am 2 4)] hl _ rfl 2 rfl
   have ZR := (z9).alloc (.cells #[.int .i64 1, v1, .int .i64 3, v9] 201)
   refine nextS 3 (by kernel_rfl) (by rfl) (fun o ho K hK => ?_)
   simp only [gT, gS, gZ, sI] at ho; subst ho
   go_simp
   have sM : (fun W => Blk W w1.heap.size 201 #[.int .i64 1, v1]) (w9.alloc (.cells #[.int .i64 1, v1, .int .i64 3, v9] 201)) := B_9.alloc _
   refine hK.out _ _ sM (fun _ => ?_)
   clear hK K
   try simp only [Act.put, iT, iZ, iS]
   refine takeT 4 (some 2) (.slice (some ⟨w9.heap.size, 0, none⟩) 2 2) ?_ sM ?_
   ·(intro o ho W hW; simp only [gT, gS, gZ, sI] at ho; subst ho; (try dsimp only at hW); go_simp; try rfl)
   try simp only [Act.put, iT, iZ, iS]
   refine wpAnyH_done (by kernel_rfl) ?_ _
   refine NoPanic.normal ?_
   go_wp2
   go_ret
   exact ⟨_, _, _, rfl, HR, Nat.le_refl _, ZR.below⟩
 focus
  clear t0 t1 t2 t3 t4 t5 t6 t7 t8 t9 t10 t11 t12 t13 t14 t15
  have s8 : (fun W => Blk W w1.heap.size 201 #[.int .i64 1, v1]) w8.drew := ⟨B_8.out⟩
  refine wp_region_noPanic ?_
  refine wp_region_held_drew (S := (fun W => Blk W w1.heap.size 201 #[.int .i64 1, v1])) (by kernel_rfl) s8 (fun _ => ?_)
  obtain ⟨wd, hwd⟩ : ∃ wd, w8.drew = wd := ⟨_, rfl⟩
  rw [hwd] at s8
  rw [hwd]
  have bd : Below w8.heap.size w8 wd := by rw [<- hwd]; exact (Below.refl _ _).drew
  clear hwd
  have f1_d := f1_8.on bd
  have f6_d := f6_8.on bd
  have B_d := B_8.on bd
  have C_d := C_8.on bd
  have zd := (z8).on bd
  have sN := s8
  clear s8
  refine takeT 2 (some 62) (.agg #[.int .i64 1, v1]) ?_ sN ?_
  ·(intro o ho W hW; simp only [gT, gS, gZ, sI] at ho; subst ho; (try dsimp only at hW); have q0 := (hW).c 0; have q1 := (hW).c 1; simp only [List.getElem?_toArray, List.getElem?_cons_succ, List.getElem?_cons_zero] at q0 q1; go_simp; try rfl)
  try simp only [Act.put, iT, iZ, iS]
  refine nextS 0 (by kernel_rfl) (by rfl) (fun o ho K hK => ?_)
  simp only [gT, gS, gZ, sI] at ho; subst ho
  go_simp
  (go_at_call 135; (with_reducible refine (am_00 _).mono ?_); rintro e w9 ⟨v9, g9, h9, rfl, f9, o9, b9⟩)
  have f1_9 := f1_d.on b9
  have B_9 := B_d.on b9
  have f6_9 := f6_d.on b9
  have C_9 := C_d.on b9
  have z9 := (zd).on b9
  have sM : (fun W => Blk W w1.heap.size 201 #[.int .i64 1, v1]) w9 := B_9
  refine hK.out _ _ sM (fun _ => ?_)
  clear hK K
  try simp only [Act.put, iT, iZ, iS]
  clear sN
  have sN := sM
  clear sM
  refine takeT 1 (some 61) (.agg #[.int .i64 0, v9]) ?_ sN ?_
  ·(intro o ho W hW; simp only [gT, gS, gZ, sI] at ho; subst ho; (try dsimp only at hW); go_simp; try rfl)
  try simp only [Act.put, iT, iZ, iS]
  refine nextS 3 (by kernel_rfl) (by rfl) (fun o ho K hK => ?_)
  simp only [gT, gS, gZ, sI] at ho; subst ho
  go_simp
  (go_at_call 135; (with_reducible refine (am_22 _).mono ?_); rintro e w10 ⟨v10, g10, h10, rfl, f10, o10, b10⟩)
  have f1_10 := f1_9.on b10
  have B_10 := B_9.on b10
  have f6_10 := f6_9.on b10
  have C_10 := C_9.on b10
  have f9_10 := f9.on b10
  have z10 := (z9).on b10
  have sM : (fun W => Blk W w1.heap.size 201 #[.int .i64 1, v1]) w10 := B_10
  refine hK.out _ _ sM (fun _ => ?_)
  clear hK K
  try simp only [Act.put, iT, iZ, iS]
  clear sN
  have sN := sM
  clear sM
  refine takeT 4 (some 64) (.agg #[.int .i64 2, v10]) ?_ sN ?_
  ·(intro o ho W hW; simp only [gT, gS, gZ, sI] at ho; subst ho; (try dsimp only at hW); go_simp; try rfl)
  try simp only [Act.put, iT, iZ, iS]
  refine nextS 5 (by kernel_rfl) (by rfl) (fun o ho K hK => ?_)
  simp only [gT, gS, gZ, sI] at ho; subst ho
  go_simp
  (go_at_call 135; (with_reducible refine (am_310 _).mono ?_); rintro e w11 ⟨v11, g11, h11, rfl, f11, o11, b11⟩)
  have f1_11 := f1_10.on b11
  have B_11 := B_10.on b11
  have f6_11 := f6_10.on b11
  have C_11 := C_10.on b11
  have f9_11 := f9_10.on b11
  have f10_11 := f10.on b11
  have z11 := (z10).on b11
  have sM : (fun W => Blk W w1.heap.size 201 #[.int .i64 1, v1]) w11 := B_11
  refine hK.out _ _ sM (fun _ => ?_)
  clear hK K
  try simp only [Act.put, iT, iZ, iS]
  clear sN
  have sN := sM
  clear sM
  refine nextS 6 (by kernel_rfl) (by rfl) (fun o ho K hK => ?_)
  simp only [gT, gS, gZ, sI] at ho; subst ho
  go_simp
  (go_at_call 137; (with_reducible refine (re_100 _ _ _ _ _ _ f11).mono ?_); rintro e w12 ⟨v12, g12, h12, rfl, f12, o12, b12⟩)
  have f1_12 := f1_11.on b12
  have B_12 := B_11.on b12
  have f6_12 := f6_11.on b12
  have C_12 := C_11.on b12
  have f9_12 := f9_11.on b12
  have f10_12 := f10_11.on b12
  have f11_12 := f11.on b12
  have z12 := (z11).on b12
  have sM : (fun W => Blk W w1.heap.size 201 #[.int .i64 1, v1]) w12 := B_12
  refine hK.out _ _ sM (fun _ => ?_)
  clear hK K
  try simp only [Act.put, iT, iZ, iS]
  clear sN
  have sN := sM
  clear sM
  refine takeT 7 (some 67) (.agg #[.int .i64 3, v12]) ?_ sN ?_
  ·(intro o ho W hW; simp only [gT, gS, gZ, sI] at ho; subst ho; (try dsimp only at hW); go_simp; try rfl)
  try simp only [Act.put, iT, iZ, iS]
  refine nextS 8 (by kernel_rfl) (by rfl) (fun o ho K hK => ?_)
  simp only [gT, gS, gZ, sI] at ho; subst ho
  go_simp
  (go_at_call 135; (with_reducible refine (am_1199 _).mono ?_); rintro e w13 ⟨v13, g13, h13, rfl, f13, o13, b13⟩)
  have f1_13 := f1_12.on b13
  have B_13 := B_12.on b13
  have f6_13 := f6_12.on b13
  have C_13 := C_12.on b13
  have f9_13 := f9_12.on b13
  have f10_13 := f10_12.on b13
  have f11_13 := f11_12.on b13
  have f12_13 := f12.on b13
  have z13 := (z12).on b13
  have sM : (fun W => Blk W w1.heap.size 201 #[.int .i64 1, v1]) w13 := B_13
  refine hK.out _ _ sM (fun _ => ?_)
  clear hK K
  try simp only [Act.put, iT, iZ, iS]
  clear sN
  have sN := sM
  clear sM
  refine nextS 9 (by kernel_rfl) (by rfl) (fun o ho K hK => ?_)
  simp only [gT, gS, gZ, sI] at ho; subst ho
  go_simp
  (go_at_call 137; (with_reducible refine (re_100 _ _ _ _ _ _ f13).mono ?_); rintro e w14 ⟨v14, g14, h14, rfl, f14, o14, b14⟩)
  have f1_14 := f1_13.on b14
  have B_14 := B_13.on b14
  have f6_14 := f6_13.on b14
  have C_14 := C_13.on b14
  have f9_14 := f9_13.on b14
  have f10_14 := f10_13.on b14
  have f11_14 := f11_13.on b14
  have f12_14 := f12_13.on b14
  have f13_14 := f13.on b14
  have z14 := (z13).on b14
  have sM : (fun W => Blk W w1.heap.size 201 #[.int .i64 1, v1]) w14 := B_14
  refine hK.out _ _ sM (fun _ => ?_)
  clear hK K
  try simp only [Act.put, iT, iZ, iS]
  clear sN
  have sN := sM
  clear sM
  refine takeT 10 (some 70) (.agg #[.int .i64 4, v14]) ?_ sN ?_
  ·(intro o ho W hW; simp only [gT, gS, gZ, sI] at ho; subst ho; (try dsimp only at hW); go_simp; try rfl)
  try simp only [Act.put, iT, iZ, iS]
  have hl : ∀ q ∈ ([(0, v9, .am 0 0), (1, v1, .am 1 1), (2, v10, .am 2 2), (3, v12, .re 100 3 10), (4, v14, .re 100 11 99)] : List (Nat × Value × D.Ts)), FT w14 q.2.1 q.2.2 := by
   intro q hq
   simp only [List.mem_cons, List.not_mem_nil, or_false] at hq
   rcases hq with rfl | rfl | rfl | rfl | rfl
   ·exact ⟨_, _, f9_14⟩
   ·exact ⟨_, _, f1_14⟩
   ·exact ⟨_, _, f10_14⟩
   ·exact ⟨by decide, _, _, _, _, f12_14⟩
   ·exact ⟨by decide, _, _, _, _, f14⟩
  have HR : RR (w14.alloc (.cells #[.int .i64 0, v9, .int .i64 1, v1, .int .i64 2, v10, .int .i64 3, v12, .int .i64 4, v14] 201)) (some ⟨w14.heap.size, 0, none⟩) 5 (D.rls 6) := RR.new w14 _ _ rfl [(0, v9, .am 0 0), (1, v1, .am 1 1), (2, v10, .am 2 2), (3, v12, .re 100 3 10), (4, v14, .re 100 11 99)] hl _ rfl 5 rfl
  have ZR := (z14).alloc (.cells #[.int .i64 0, v9, .int .i64 1, v1, .int .i64 2, v10, .int .i64 3, v12, .int .i64 4, v14] 201)
  refine nextS 11 (by kernel_rfl) (by rfl) (fun o ho K hK => ?_)
  simp only [gT, gS, gZ, sI] at ho; subst ho
  go_simp
  have sM : (fun W => Blk W w1.heap.size 201 #[.int .i64 1, v1]) (w14.alloc (.cells #[.int .i64 0, v9, .int .i64 1, v1, .int .i64 2, v10, .int .i64 3, v12, .int .i64 4, v14] 201)) := B_14.alloc _
  refine hK.out _ _ sM (fun _ => ?_)
  clear hK K
  try simp only [Act.put, iT, iZ, iS]
  refine takeT 12 (some 2) (.slice (some ⟨w14.heap.size, 0, none⟩) 5 5) ?_ sM ?_
  ·(intro o ho W hW; simp only [gT, gS, gZ, sI] at ho; subst ho; (try dsimp only at hW); go_simp; try rfl)
  try simp only [Act.put, iT, iZ, iS]
  refine wpAnyH_done (by kernel_rfl) ?_ _
  refine NoPanic.normal ?_
  go_wp2
  go_ret
  exact ⟨_, _, _, rfl, HR, Nat.le_refl _, ZR.below⟩
end Go.Proofs.YtgnjjlgmlokhmaaGreatDoor
