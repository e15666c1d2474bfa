/-
  
-/
import Derived.Test.YtjlaffgbmcpldaaGreatDoorG08
import Derived.Test.YtjlaffgbmcpldaaGreatDoorG33
import Derived.Test.YtjlaffgbmcpldaaGreatDoorG36
import Derived.Test.YtjlaffgbmcpldaaGreatDoorG34
import Derived.Test.YtjlaffgbmcpldaaGreatDoorG41
import Derived.Test.YtjlaffgbmcpldaaGreatDoorG35
import Derived.Test.YtjlaffgbmcpldaaGreatDoorG38
set_option linter.unusedVariables false
set_option linter.unusedSimpArgs false
namespace Go.Proofs.YtjlaffgbmcpldaaGreatDoor
open Go.RowKit
attribute [local go_sem ↓] Go.wp_at_zero Go.wp_at_succ

theorem drop_at {l : List Nat} {j x : Nat} (h : l[j]? = some x) : l.drop j = x :: l.drop (j + 1) := by
 obtain ⟨h1, h2⟩ := List.getElem?_eq_some_iff.1 h
 rw [List.drop_eq_getElem_cons h1, h2]
theorem dw_nil : ∀ {l : List Nat}, (∀ x ∈ l, x = 0) → List.dropWhile (fun x => x == 0) l = []
 | [], _ => rfl
 | x :: l, h => by
  rw [List.dropWhile_cons_of_pos (by have := h x (by simp); simp [this])]
  exact dw_nil fun y hy => h y (by simp [hy])
theorem front_at {l : List Nat} {k : Nat} (hk : k ≤ l.length) (hz : ∀ b ∈ l.drop k, b = 0) (hn : k = 0 ∨ ∃ b, l[k - 1]? = some b ∧ b ≠ 0) : D.front l = l.take k := by
 unfold D.front
 conv => lhs; rw [← List.take_append_drop k l]
 rw [List.reverse_append, List.dropWhile_append]
 have e : List.dropWhile (fun x => x == 0) (l.drop k).reverse = [] := by
  exact dw_nil fun x hx => hz x (List.mem_reverse.1 hx)
 rw [e]
 simp only [List.isEmpty_nil, if_true]
 have : List.dropWhile (fun x => x == 0) (l.take k).reverse = (l.take k).reverse := by
  rcases hn with rfl | ⟨b, hb, hb0⟩
  ·simp
  ·have h1 : 1 ≤ k := by
    rcases Nat.eq_zero_or_pos k with h | h
    ·subst h
     by_cases hl : l.length = 0
     ·have : l = [] := List.eq_nil_of_length_eq_zero hl
      subst this; simp at hb
     ·have := hz b (by rw [List.drop_zero]; exact List.mem_of_getElem? hb)
      exact absurd this hb0
    ·exact h
   have e : l.take k = l.take (k - 1) ++ [b] := by
    have := take_next hb
    rwa [show k - 1 + 1 = k by omega] at this
   rw [e, List.reverse_append]
   simp [hb0]
 rw [this, List.reverse_reverse]
set_option maxRecDepth 100000 in
set_option maxHeartbeats 1000000 in
theorem front_any (ad : Addr) (n c : Nat) (l : List Nat) (w : World) (hr : Row w (some ad) n (bys l)) (hl : ∀ b ∈ l, b < 256) (hc : n ≤ c) (hs : n ≤ 100) : Calls Tryz.prog 126 #[.slice (some ad) n c] w fun e w' => e = .returned (.string (D.sb (D.front l))) ∧ w = w' := by
 have hlen := hr.len
 rw [bys_len] at hlen
 go_enter Tryz.func126, Tryz.ntmps126
 go_wp2
 go_loop [3] (fun i => ∃ k : Nat, k ≤ n ∧ i = .int .i64 k ∧ Kept (∀ b ∈ l.drop k, b = 0)) (fun i => (intOf i).toNat)
 case atStart => exact ⟨n, Nat.le_refl _, rfl, ⟨by rw [List.drop_of_length_le (by omega)]; exact fun b h => by cases h⟩⟩
 case round =>
  obtain ⟨k, hk, rfl, HZ⟩ := hrel
  have HU := upto_run_b (some ad) n c k k rfl (by omega)
  obtain ⟨A1, hu, hrow⟩ := HU
  by_cases h0 : k = 0
  ·have hf := front_at (l := l) (k := k) (by omega) HZ.out (.inl h0)
   have hst := fun W => str_run W A1 k c (l.take k)
   have hst2 := hst w (by have := hrow w _ hr (by omega); rwa [bys_take] at this) (fun b hb => hl b (List.mem_of_mem_take hb))
   rw [← hf] at hst2
   have i1 : ¬ ((0 : Int) < (k : Int)) := by omega
   have i2 : (k : Int) ≤ 0 := by omega
   clear hst hf hrow HZ h0
   go_wp2
   go_ret
   exact ⟨rfl, rfl⟩
  ·obtain ⟨b, hb, hbm⟩ := at_lt (l := l) (i := k - 1) (by omega)
   obtain ⟨ad', e, cx⟩ := hr.cell (bys_at hb)
   injection e with e
   subst e
   have i1 : (0 : Int) < (k : Int) := by omega
   have i2 : ((k : Int) - 1) = ((k - 1 : Nat) : Int) := by omega
   have i3 : ((k : Int) - 1).toNat = k - 1 := by omega
   have i4 : IntKind.i64.wrap ((k : Int) - 1) = (k : Int) - 1 := IntWalk.i64_in _ (by omega)
   by_cases hb0 : b = 0
   ·subst hb0
    have HZ' : Kept (∀ b ∈ l.drop (k - 1), b = 0) := ⟨fun b' hb' => by
     have := drop_at hb
     rw [show k - 1 + 1 = k by omega] at this
     rw [this] at hb'
     rcases List.mem_cons.1 hb' with rfl | h
     ·rfl
     ·exact HZ.out b' h⟩
    have HI2 := Lib.hid i2
    clear hb hrow HZ i2 hu
    go_wp2
    go_round
    case rel => exact ⟨k - 1, by omega, by rw [← HI2.out], HZ'⟩
    case measure => simp [intOf]; omega
   ·have c1 : ((b : Int) == 0) = false := by rw [beq_eq_false_iff_ne]; omega
    have hf := front_at (l := l) (k := k) (by omega) HZ.out (.inr ⟨b, hb, hb0⟩)
    have hst2 := str_run w A1 k c (l.take k) (by have := hrow w _ hr (by omega); rwa [bys_take] at this) (fun b hb => hl b (List.mem_of_mem_take hb))
    rw [← hf] at hst2
    clear hf hrow HZ hb i2
    go_wp2
    go_ret
    exact ⟨rfl, rfl⟩
end Go.Proofs.YtjlaffgbmcpldaaGreatDoor
set_option linter.unusedVariables false
set_option linter.unusedSimpArgs false
namespace Go.Proofs.YtjlaffgbmcpldaaGreatDoor
open Go.RowKit
noncomputable def eqr (u v : Value) : Sem Value := binOp .eql 204 u v
noncomputable def ner (u v : Value) : Sem Value := binOp .neq 204 u v
theorem eq_r (u v : Value) : binOp .eql 204 u v = eqr u v := rfl
theorem ne_r (u v : Value) : binOp .neq 204 u v = ner u v := rfl
def s3 (a b c a' b' c' : ByteArray) : Bool := decide (a = a' ∧ b = b' ∧ c = c')
theorem toList_inj {a b : ByteArray} : a.toList = b.toList ↔ a = b := by
 constructor
 ·intro h
  rw [ByteArray.toList_eq, ByteArray.toList_eq] at h
  obtain ⟨⟨x⟩⟩ := a
  obtain ⟨⟨y⟩⟩ := b
  simp at h
  rw [h]
 ·intro h; rw [h]
theorem run_eqr (a b c a' b' c' : ByteArray) (w : World) : (eqr (.agg #[.string a, .string b, .string c]) (.agg #[.string a', .string b', .string c'])).run Tryz.prog w = .ok (.bool (s3 a b c a' b' c')) w := by
 unfold eqr s3
 simp [go_sem, toList_inj]
 by_cases h1 : a = a' <;> by_cases h2 : b = b' <;> by_cases h3 : c = c' <;> simp [h1, h2, h3]
theorem run_ner (a b c a' b' c' : ByteArray) (w : World) : (ner (.agg #[.string a, .string b, .string c]) (.agg #[.string a', .string b', .string c'])).run Tryz.prog w = .ok (.bool (!s3 a b c a' b' c')) w := by
 have h := run_eqr a b c a' b' c' w
 unfold eqr at h
 unfold ner
 simp only [binOp] at h ⊢
 rw [Sem.run_bind] at h ⊢
 cases hq : (Op.equal 204 (.agg #[.string a, .string b, .string c]) (.agg #[.string a', .string b', .string c'])).run Tryz.prog w with
 | ok b w' =>
  rw [hq] at h
  simp [Result.andThen, Sem.run_pure] at h ⊢
  obtain ⟨rfl, rfl⟩ := h
  simp
 | _ => rw [hq] at h; simp [Result.andThen] at h
attribute [local go_sem ↓] Go.wp_at_zero Go.wp_at_succ eq_r ne_r
attribute [local go_sem] run_eqr run_ner

theorem pl_len (x : D.Tg) : (D.pl x).length = 3 := by have := x.len; simp [D.pl]; omega
theorem ps_len (x : D.Tg) : (D.ps x).length = 4 := by have := x.len; simp [D.ps]; omega
theorem pr_len (x : D.Tg) : (D.pr x).length = 3 := by have := x.len; simp [D.pr]; omega
theorem blk3_set {w : World} {g : Nat} {t : TypeId} {a b c : Value} (h : Blk w g t #[a, b, c]) (u v z : Value) : Blk (((w.setCell ⟨g, 0, none⟩ u).setCell ⟨g, 1, none⟩ v).setCell ⟨g, 2, none⟩ z) g t #[u, v, z] :=
 ((h.put 0 u).put 1 v).put 2 z
theorem blk3_far {w : World} {g g' : Nat} {t : TypeId} {cs : Array Value} (h : Blk w g t cs) (hg : g ≠ g') (u v z : Value) : Blk (((w.setCell ⟨g', 0, none⟩ u).setCell ⟨g', 1, none⟩ v).setCell ⟨g', 2, none⟩ z) g t cs :=
 ((h.far (p := ⟨g', 0, none⟩) hg u).far (p := ⟨g', 1, none⟩) hg v).far (p := ⟨g', 2, none⟩) hg z
theorem front_le (l : List Nat) : (D.front l).length ≤ l.length := by
 unfold D.front
 rw [List.length_reverse]
 exact Nat.le_trans (List.dropWhile_suffix _).length_le (by simp)
theorem txt_lt' {p : D.Pt} (h1 : ∀ b ∈ p.l, b < 256) (h2 : ∀ b ∈ p.s, b < 256) (h3 : ∀ b ∈ p.r, b < 256) : ∀ b ∈ D.txt p, b < 256 := by
 intro b hb
 unfold D.txt at hb
 split at hb
 ·revert b; decide
 ·rcases List.mem_append.1 hb with hb | hb
  ·exact h1 b hb
  ·rcases List.mem_append.1 hb with hb | hb
   ·split at hb
    ·cases hb
    ·rcases List.mem_cons.1 hb with rfl | hb
     ·decide
     ·exact h2 b hb
   ·split at hb
    ·cases hb
    ·rcases List.mem_cons.1 hb with rfl | hb
     ·decide
     ·exact h3 b hb
theorem txt_le {p : D.Pt} (h1 : p.l.length ≤ 3) (h2 : p.s.length ≤ 4) (h3 : p.r.length ≤ 3) : (D.txt p).length ≤ 100 := by
 unfold D.txt
 split
 ·decide
 ·simp only [List.length_append]
  split <;> split <;> simp <;> omega
theorem frt_le (x : D.Tg) : (D.frt x).l.length ≤ 3 ∧ (D.frt x).s.length ≤ 4 ∧ (D.frt x).r.length ≤ 3 :=
 ⟨by have := front_le (D.pl x); rw [pl_len] at this; exact this, by have := front_le (D.ps x); rw [ps_len] at this; exact this, by have := front_le (D.pr x); rw [pr_len] at this; exact this⟩
theorem s3_iff {p q : D.Pt} (hp : (∀ b ∈ p.l, b < 256) ∧ (∀ b ∈ p.s, b < 256) ∧ (∀ b ∈ p.r, b < 256)) (hq : (∀ b ∈ q.l, b < 256) ∧ (∀ b ∈ q.s, b < 256) ∧ (∀ b ∈ q.r, b < 256)) :
  s3 (D.sb p.l) (D.sb p.s) (D.sb p.r) (D.sb q.l) (D.sb q.s) (D.sb q.r) = decide (p = q) := by
 unfold s3
 rw [decide_eq_decide]
 constructor
 ·rintro ⟨h1, h2, h3⟩
  obtain ⟨l, s, r⟩ := p
  obtain ⟨l', s', r'⟩ := q
  have e1 := D.sb_inj hp.1 hq.1 h1
  have e2 := D.sb_inj hp.2.1 hq.2.1 h2
  have e3 := D.sb_inj hp.2.2 hq.2.2 h3
  simp only at e1 e2 e3
  rw [e1, e2, e3]
 ·intro h; rw [h]; exact ⟨rfl, rfl, rfl⟩
def pickr (o : Option D.Pt) (a b c : ByteArray) (y : D.Pt) : Option D.Pt := match o with
 | none => none
 | some q => if s3 (D.sb q.l) (D.sb q.s) (D.sb q.r) a b c then some y else none
structure Ofs (x : D.Tg) (a b c u : ByteArray) (o : Option D.Pt) : Prop where
 text : ∀ w, Calls Tryz.prog 128 #[.agg #[.string a, .string b, .string c]] w fun e w' => e = .returned (.string u) ∧ Below w.heap.size w w'
 parse : ∀ w, Calls Tryz.prog 127 #[.string u] w fun e w' => e = .returned (.tuple #[av (o.getD D.rt), .bool o.isSome]) ∧ Below w.heap.size w w'
 none_ : a.toList.isEmpty = true → D.rof x = if s3 a b c ⟨#[]⟩ ⟨#[]⟩ ⟨#[]⟩ then some D.rt else none
 some_ : a.toList.isEmpty = false → D.rof x = pickr o a b c (D.frt x)
theorem ofs_any (x : D.Tg) : ∃ u o, Ofs x (D.sb (D.front (D.pl x))) (D.sb (D.front (D.ps x))) (D.sb (D.front (D.pr x))) u o := by
 have hlt := D.frt_lt x
 obtain ⟨h1, h2, h3⟩ := frt_le x
 have hs1 : (D.sb (D.frt x).l).size ≤ 100 := by rw [D.sb_len]; omega
 have hs2 : (D.sb (D.frt x).s).size ≤ 100 := by rw [D.sb_len]; omega
 have hs3 : (D.sb (D.frt x).r).size ≤ 100 := by rw [D.sb_len]; omega
 have e : (⟨D.ns (D.sb (D.frt x).l), D.ns (D.sb (D.frt x).s), D.ns (D.sb (D.frt x).r)⟩ : D.Pt) = D.frt x := by
  rw [D.ns_sb hlt.1, D.ns_sb hlt.2.1, D.ns_sb hlt.2.2]
 have htx := txt_lt' hlt.1 hlt.2.1 hlt.2.2
 refine ⟨D.sb (D.txt (D.frt x)), D.parse (D.txt (D.frt x)), ⟨fun w => ?_, fun w => ?_, fun h => ?_, fun h => ?_⟩⟩
 ·have := ref_text _ _ _ w hs1 hs2 hs3
  rw [e] at this
  exact this
 ·have := ref_parse (D.sb (D.txt (D.frt x))) w (by rw [D.sb_len]; exact txt_le h1 h2 h3)
  rw [D.ns_sb htx] at this
  exact this
 ·have hl : (D.frt x).l = [] := by
   have h' : (D.sb (D.frt x).l).toList.isEmpty = true := h
   rw [sb_empty] at h'
   simpa using h'
  have h3 := s3_iff (p := D.frt x) (q := D.rt) hlt ⟨(fun b hb => by cases hb), (fun b hb => by cases hb), (fun b hb => by cases hb)⟩
  unfold D.rof
  rw [if_pos hl]
  have h4 : s3 (D.sb (D.front (D.pl x))) (D.sb (D.front (D.ps x))) (D.sb (D.front (D.pr x))) ⟨#[]⟩ ⟨#[]⟩ ⟨#[]⟩ = decide (D.frt x = D.rt) := h3
  rw [h4]
  by_cases hz : D.frt x = D.rt <;> simp [hz]
 ·have hl : (D.frt x).l ≠ [] := by
   have h' : (D.sb (D.frt x).l).toList.isEmpty = false := h
   rw [sb_empty] at h'
   simpa using h'
  unfold D.rof pickr
  rw [if_neg hl]
  cases ho : D.parse (D.txt (D.frt x)) with
  | none => rfl
  | some q =>
   simp only []
   have h3 : s3 (D.sb q.l) (D.sb q.s) (D.sb q.r) (D.sb (D.front (D.pl x))) (D.sb (D.front (D.ps x))) (D.sb (D.front (D.pr x))) = decide (q = D.frt x) := s3_iff (can_lt (D.parse_can ho)) hlt
   rw [h3]
   by_cases hz : q = D.frt x <;> simp [hz]
set_option maxRecDepth 100000 in
set_option maxHeartbeats 8000000 in
theorem rof_any (x : D.Tg) (w : World) : Calls Tryz.prog 102 #[.agg (nc x)] w fun e w' => e = .returned (.tuple #[av ((D.rof x).getD D.rt), .bool (D.rof x).isSome]) ∧ Below w.heap.size w w' := by
 go_enter Tryz.func102, Tryz.ntmps102
 obtain ⟨w0, hw0⟩ : ∃ w0, (w.alloc (.cells (nc x) 61)).alloc (.cells emp 204) = w0 := ⟨_, rfl⟩
 unfold emp at hw0
 have hb0 : Below w.heap.size w w0 := by rw [← hw0]; exact ((Below.refl _ _).alloc (Nat.le_refl _) _).alloc (by simp) _
 have B0 := (Blk.new w 61 (nc x)).alloc (.cells emp 204)
 have B1 : Blk w0 (w.heap.size + 1) 204 emp := by
  have := Blk.new (w.alloc (.cells (nc x) 61)) 204 emp
  rw [World.size_alloc] at this
  unfold emp at this ⊢
  rw [hw0] at this
  exact this
 unfold emp at B0
 rw [hw0] at B0
 go_wp2_with fail
 try rw [hw0]
 have hz0 : w.heap.size + 2 ≤ w0.heap.size := by rw [← hw0]; simp
 clear hw0
 have cA : ∀ W, Blk W w.heap.size 61 (nc x) → Calls Tryz.prog 126 #[.slice (some ⟨w.heap.size, 0, none⟩) 3 10] W fun e w' => e = .returned (.string (D.sb (D.front (D.pl x)))) ∧ W = w' := fun W hB =>
  front_any _ 3 10 (D.pl x) W (row_part hB).1 (fun b hb => x.lt b (List.mem_of_mem_take hb)) (by decide) (by decide)
 have cB : ∀ W, Blk W w.heap.size 61 (nc x) → Calls Tryz.prog 126 #[.slice (some ⟨w.heap.size, 3, none⟩) 4 7] W fun e w' => e = .returned (.string (D.sb (D.front (D.ps x)))) ∧ W = w' := fun W hB =>
  front_any _ 4 7 (D.ps x) W (row_part hB).2.1 (fun b hb => x.lt b (List.mem_of_mem_drop (List.mem_of_mem_take hb))) (by decide) (by decide)
 have cC : ∀ W, Blk W w.heap.size 61 (nc x) → Calls Tryz.prog 126 #[.slice (some ⟨w.heap.size, 7, none⟩) 3 3] W fun e w' => e = .returned (.string (D.sb (D.front (D.pr x)))) ∧ W = w' := fun W hB =>
  front_any _ 3 3 (D.pr x) W (row_part hB).2.2 (fun b hb => x.lt b (List.mem_of_mem_drop hb)) (by decide) (by decide)
 obtain ⟨u, op, hO⟩ := ofs_any x
 obtain ⟨a, ha⟩ : ∃ a, D.sb (D.front (D.pl x)) = a := ⟨_, rfl⟩
 obtain ⟨b, hb⟩ : ∃ b, D.sb (D.front (D.ps x)) = b := ⟨_, rfl⟩
 obtain ⟨c, hc⟩ : ∃ c, D.sb (D.front (D.pr x)) = c := ⟨_, rfl⟩
 rw [ha] at cA
 rw [hb] at cB
 rw [hc] at cC
 have CA := Lib.hid cA
 have CB := Lib.hid cB
 have CC := Lib.hid cC
 have HA := Lib.hid ha
 rw [ha, hb, hc] at hO
 have hfa : ∀ q, D.frt x = q → av q = .agg #[.string a, .string b, .string c] := fun q hq => by subst hq; unfold av D.frt; rw [ha, hb, hc]
 have HF := Lib.hid hfa
 have CT := Lib.hid hO.text
 have CP := Lib.hid hO.parse
 have HN := Lib.hid hO.none_
 have HS := Lib.hid hO.some_
 clear cA cB cC ha hb hc hO hfa HA
 have s0 : (fun W => Blk W w.heap.size 61 (nc x) ∧ Blk W (w.heap.size + 1) 204 #[.string ⟨#[]⟩, .string ⟨#[]⟩, .string ⟨#[]⟩] ∧ Below w.heap.size w W ∧ w.heap.size + 2 ≤ W.heap.size) w0.drew := ⟨⟨B0.out⟩, ⟨B1.out⟩, hb0.drew, hz0⟩
 refine wp_region_noPanic ?_
 refine wp_region_held_drew (S := fun W => Blk W w.heap.size 61 (nc x) ∧ Blk W (w.heap.size + 1) 204 #[.string ⟨#[]⟩, .string ⟨#[]⟩, .string ⟨#[]⟩] ∧ Below w.heap.size w W ∧ w.heap.size + 2 ≤ W.heap.size) (by kernel_rfl) s0 (fun _ => ?_)
 obtain ⟨wd, hwd⟩ : ∃ wd, w0.drew = wd := ⟨_, rfl⟩
 rw [hwd] at s0
 rw [hwd]
 clear hwd hb0 B0 B1 hz0
 have s0z : w.heap.size + 1 < wd.heap.size := s0.2.2.2
 refine takeT 0 (some 7) ?va0 ?hya0 s0 ?resta0
 case hya0 => (intro o ho W hW; simp only [gT, gS, gZ, sI] at ho; subst ho; (try dsimp only at hW); go_simp; try rfl)
 try simp only [Act.put, iT, iZ, iS]
 refine takeT 2 (some 9) ?va2 ?hya2 s0 ?resta2
 case hya2 => (intro o ho W hW; simp only [gT, gS, gZ, sI] at ho; subst ho; (try dsimp only at hW); go_simp; try rfl)
 try simp only [Act.put, iT, iZ, iS]
 refine takeT 4 (some 11) ?va4 ?hya4 s0 ?resta4
 case hya4 => (intro o ho W hW; simp only [gT, gS, gZ, sI] at ho; subst ho; (try dsimp only at hW); go_simp; try rfl)
 try simp only [Act.put, iT, iZ, iS]
 refine forkS 1 7 (by kernel_rfl) (by rfl) (by rfl) (fun o ho K hK => ?_) (fun o ho K hK => ?_)
 ·simp only [gT, gS, gZ, sI] at ho; subst ho
  go_simp
  (go_at_call 126; (with_reducible refine (CA.out _ s0.1).mono ?_); rintro e w1 ⟨rfl, rfl⟩)
  refine hK.out _ _ s0 (fun _ => ?_)
  clear hK K
  try simp only [Act.put, iT, iZ, iS]
  refine forkS 3 7 (by kernel_rfl) (by rfl) (by rfl) (fun o ho K hK => ?_) (fun o ho K hK => ?_)
  ·simp only [gT, gS, gZ, sI] at ho; subst ho
   go_simp
   (go_at_call 126; (with_reducible refine (CB.out _ s0.1).mono ?_); rintro e w1 ⟨rfl, rfl⟩)
   refine hK.out _ _ s0 (fun _ => ?_)
   clear hK K
   try simp only [Act.put, iT, iZ, iS]
   refine forkS 5 7 (by kernel_rfl) (by rfl) (by rfl) (fun o ho K hK => ?_) (fun o ho K hK => ?_)
   ·simp only [gT, gS, gZ, sI] at ho; subst ho
    go_simp
    (go_at_call 126; (with_reducible refine (CC.out _ s0.1).mono ?_); rintro e w1 ⟨rfl, rfl⟩)
    refine hK.out _ _ s0 (fun _ => ?_)
    clear hK K
    try simp only [Act.put, iT, iZ, iS]
    refine takeT 6 (some 13) ?vb6 ?hyb6 s0 ?restb6
    case hyb6 => (intro o ho W hW; simp only [gT, gS, gZ, sI] at ho; subst ho; (try dsimp only at hW); go_simp; try rfl)
    try simp only [Act.put, iT, iZ, iS]
    refine nextS 7 (by kernel_rfl) (by rfl) (fun o ho K hK => ?_)
    simp only [gT, gS, gZ, sI] at ho; subst ho
    go_simp
    have s7 : (fun W => Blk W w.heap.size 61 (nc x) ∧ Blk W (w.heap.size + 1) 204 #[.string ⟨#[]⟩, .string ⟨#[]⟩, .string ⟨#[]⟩] ∧ Below w.heap.size w W ∧ w.heap.size + 2 ≤ W.heap.size) (wd.alloc (.cells #[.string ⟨#[]⟩, .string ⟨#[]⟩, .string ⟨#[]⟩] 204)) := ⟨s0.1.alloc _, s0.2.1.alloc _, s0.2.2.1.alloc s0.2.2.1.size _, Nat.le_trans s0.2.2.2 (below_alloc_ _ _).size⟩
    refine hK.out _ _ s7 (fun _ => ?_)
    clear hK K
    try simp only [Act.put, iT, iZ, iS]
    refine nextS 8 (by kernel_rfl) (by rfl) (fun o ho K hK => ?_)
    simp only [gT, gS, gZ, sI] at ho; subst ho
    go_simp
    have B7 := Blk.new wd 204 #[.string a, .string b, .string c]
    have s8 : (fun W => Blk W w.heap.size 61 (nc x) ∧ Blk W (w.heap.size + 1) 204 #[.string ⟨#[]⟩, .string ⟨#[]⟩, .string ⟨#[]⟩] ∧ Below w.heap.size w W ∧ w.heap.size + 2 ≤ W.heap.size) (wd.alloc (.cells #[.string a, .string b, .string c] 204)) := ⟨s0.1.alloc _, s0.2.1.alloc _, s0.2.2.1.alloc s0.2.2.1.size _, Nat.le_trans s0.2.2.2 (below_alloc_ _ _).size⟩
    refine hK.out _ _ s8 (fun _ => ?_)
    clear hK K
    try simp only [Act.put, iT, iZ, iS]
    refine wpAnyH_done (by kernel_rfl) ?_ _
    refine NoPanic.normal ?_
    obtain ⟨W, hW⟩ : ∃ W, wd.alloc (.cells #[.string a, .string b, .string c] 204) = W := ⟨_, rfl⟩
    have B5 : Blk W wd.heap.size 204 #[.string a, .string b, .string c] := by rw [← hW]; exact Blk.new _ _ _
    rw [hW] at s8
    rw [hW]
    clear hW s0 B7 CA CB CC
    obtain ⟨-, r1, r2, r3⟩ := s8
    have n1 : wd.heap.size ≠ w.heap.size + 1 := Nat.ne_of_gt s0z
    have k5 := blk3 B5
    have k0 := k5.1.1
    have k1 := k5.1.2.1
    have k2 := k5.1.2.2
    cases hae : a.toList.isEmpty with
    | true =>
     have HR := Lib.hid (HN.out hae)
     go_wp2_with fail
     clear k5 k0 k1 k2
     have sq : (fun W => Blk W wd.heap.size 204 #[.string a, .string b, .string c] ∧ Blk W (w.heap.size + 1) 204 #[.string ⟨#[]⟩, .string ⟨#[]⟩, .string ⟨#[]⟩] ∧ Below w.heap.size w W) W.drew := ⟨⟨B5.out⟩, ⟨r1.out⟩, r2.drew⟩
     obtain ⟨⟨c0, c1, c2⟩, f0, f1, f2⟩ := blk3 sq.2.1
     refine wp_region_noPanic ?_
     refine wp_region_held_drew (S := fun W => Blk W wd.heap.size 204 #[.string a, .string b, .string c] ∧ Blk W (w.heap.size + 1) 204 #[.string ⟨#[]⟩, .string ⟨#[]⟩, .string ⟨#[]⟩] ∧ Below w.heap.size w W) (by kernel_rfl) sq (fun _ => ?_)
     obtain ⟨wq, hwq⟩ : ∃ wq, W.drew = wq := ⟨_, rfl⟩
     rw [hwq] at sq c0 c1 c2 f0 f1 f2
     rw [hwq]
     clear hwq
     refine takeT 0 (some 17) ?vqb0 ?hyqb0 sq ?restqb0
     case hyqb0 => (intro o ho W hW; simp only [gT, gS, gZ, sI] at ho; subst ho; (try dsimp only at hW); go_simp; try rfl)
     try simp only [Act.put, iT, iZ, iS]
     refine takeT 2 (some 19) ?vqb2 ?hyqb2 sq ?restqb2
     case hyqb2 => (intro o ho W hW; simp only [gT, gS, gZ, sI] at ho; subst ho; (try dsimp only at hW); go_simp; try rfl)
     try simp only [Act.put, iT, iZ, iS]
     refine takeT 1 (some 18) ?vqb1 ?hyqb1 sq ?restqb1
     case hyqb1 => (intro o ho W hW; simp only [gT, gS, gZ, sI] at ho; subst ho; (try dsimp only at hW); obtain ⟨⟨g0, g1, g2⟩, -⟩ := blk3 hW.1; go_simp; try rfl)
     try simp only [Act.put, iT, iZ, iS]
     refine takeT 3 (some 20) ?vqb3 ?hyqb3 sq ?restqb3
     case hyqb3 => (intro o ho W hW; simp only [gT, gS, gZ, sI] at ho; subst ho; (try dsimp only at hW); go_simp; try rfl)
     try simp only [Act.put, iT, iZ, iS]
     refine nextS 4 (by kernel_rfl) (by rfl) (fun o ho K hK => ?_)
     simp only [gT, gS, gZ, sI] at ho; subst ho
     go_simp
     have sr : (fun W => Blk W wd.heap.size 204 #[.string a, .string b, .string c] ∧ Blk W (w.heap.size + 1) 204 #[.string ⟨#[]⟩, .string ⟨#[]⟩, .string ⟨#[]⟩] ∧ Below w.heap.size w W) (((wq.setCell ⟨w.heap.size + 1, 0, none⟩ (.string ⟨#[]⟩)).setCell ⟨w.heap.size + 1, 1, none⟩ (.string ⟨#[]⟩)).setCell ⟨w.heap.size + 1, 2, none⟩ (.string ⟨#[]⟩)) := ⟨blk3_far sq.1 n1 _ _ _, blk3_set sq.2.1 _ _ _, below_sets sq.2.2 (Nat.le_succ _) _ _ _⟩
     refine hK.out _ _ sr (fun _ => ?_)
     clear hK K
     try simp only [Act.put, iT, iZ, iS]
     refine takeT 5 (some 3) ?vqb5 ?hyqb5 sr ?restqb5
     case hyqb5 => (intro o ho W hW; simp only [gT, gS, gZ, sI] at ho; subst ho; (try dsimp only at hW); go_simp; try rfl)
     try simp only [Act.put, iT, iZ, iS]
     refine wpAnyH_done (by kernel_rfl) ?_ _
     refine NoPanic.normal ?_
     obtain ⟨W9, hW9⟩ : ∃ W9, ((wq.setCell ⟨w.heap.size + 1, 0, none⟩ (.string ⟨#[]⟩)).setCell ⟨w.heap.size + 1, 1, none⟩ (.string ⟨#[]⟩)).setCell ⟨w.heap.size + 1, 2, none⟩ (.string ⟨#[]⟩) = W9 := ⟨_, rfl⟩
     rw [hW9] at sr
     rw [hW9]
     clear hW9 sq c0 c1 c2 f0 f1 f2
     obtain ⟨⟨c0, c1, c2⟩, -⟩ := blk3 sr.2.1
     go_wp2
     exact bodyPost_ret (v := .tuple #[.agg #[.string ⟨#[]⟩, .string ⟨#[]⟩, .string ⟨#[]⟩], .bool (s3 a b c ⟨#[]⟩ ⟨#[]⟩ ⟨#[]⟩)]) (by simp [results, Tryz.results102, go_sem, *]) rfl ⟨by rw [HR.out]; cases s3 a b c ⟨#[]⟩ ⟨#[]⟩ ⟨#[]⟩ <;> rfl, sr.2.2⟩
    | false =>
     have HR := Lib.hid (HS.out hae)
     cases op with
     | none =>
      have CQ := Lib.hid (fun W => (show Calls Tryz.prog 127 #[.string u] W fun e w' => e = .returned (.tuple #[.agg #[.string ⟨#[]⟩, .string ⟨#[]⟩, .string ⟨#[]⟩], .bool false]) ∧ Below W.heap.size W w' from CP.out W))
      go_wp2_with (first
       | (go_at_call 128; (with_reducible refine (CT.out _).mono ?_); rintro e w6 ⟨rfl, b6⟩; have B6 := B5.on b6; have R6 := r1.on b6; have z6 := below_on r2 r2.size b6)
       | (go_at_call 127; (with_reducible refine (CQ.out _).mono ?_); rintro e w7 ⟨rfl, b7⟩; have B8 := (B6.on b7).alloc (.cells #[.string ⟨#[]⟩, .string ⟨#[]⟩, .string ⟨#[]⟩] 204); have R8 := (R6.on b7).alloc (.cells #[.string ⟨#[]⟩, .string ⟨#[]⟩, .string ⟨#[]⟩] 204); have z8 := (below_on z6 z6.size b7).alloc (below_on z6 z6.size b7).size (.cells #[.string ⟨#[]⟩, .string ⟨#[]⟩, .string ⟨#[]⟩] 204); obtain ⟨⟨p0, p1, p2⟩, -⟩ := blk3 B8; obtain ⟨⟨c0, c1, c2⟩, f0, f1, f2⟩ := blk3 R8))
      have R9 := blk3_set R8 (.string ⟨#[]⟩) (.string ⟨#[]⟩) (.string ⟨#[]⟩)
      have z9 := below_sets z8 (Nat.le_succ _) (.string ⟨#[]⟩) (.string ⟨#[]⟩) (.string ⟨#[]⟩)
      clear c0 c1 c2
      obtain ⟨⟨c0, c1, c2⟩, -⟩ := blk3 R9
      exact bodyPost_ret (v := .tuple #[.agg #[.string ⟨#[]⟩, .string ⟨#[]⟩, .string ⟨#[]⟩], .bool false]) (by simp [results, Tryz.results102, go_sem, *]) rfl ⟨by rw [HR.out]; rfl, z9⟩
     | some q =>
      obtain ⟨a', ha'⟩ : ∃ a', D.sb q.l = a' := ⟨_, rfl⟩
      obtain ⟨b', hb'⟩ : ∃ b', D.sb q.s = b' := ⟨_, rfl⟩
      obtain ⟨c', hc'⟩ : ∃ c', D.sb q.r = c' := ⟨_, rfl⟩
      have CQ := Lib.hid (fun W => (show Calls Tryz.prog 127 #[.string u] W fun e w' => e = .returned (.tuple #[.agg #[.string a', .string b', .string c'], .bool true]) ∧ Below W.heap.size W w' from by rw [← ha', ← hb', ← hc']; exact CP.out W))
      have hr : D.rof x = if s3 a' b' c' a b c then some (D.frt x) else none := by rw [HR.out, ← ha', ← hb', ← hc']; rfl
      cases hz : s3 a' b' c' a b c with
      | true =>
       rw [hz] at hr
       have HQ := Lib.hid hr
       clear hr
       go_wp2_with (first
        | (go_at_call 128; (with_reducible refine (CT.out _).mono ?_); rintro e w6 ⟨rfl, b6⟩; have B6 := B5.on b6; have R6 := r1.on b6; have z6 := below_on r2 r2.size b6)
        | (go_at_call 127; (with_reducible refine (CQ.out _).mono ?_); rintro e w7 ⟨rfl, b7⟩; have B8 := (B6.on b7).alloc (.cells #[.string a', .string b', .string c'] 204); have R8 := (R6.on b7).alloc (.cells #[.string a', .string b', .string c'] 204); have z8 := (below_on z6 z6.size b7).alloc (below_on z6 z6.size b7).size (.cells #[.string a', .string b', .string c'] 204); obtain ⟨⟨p0, p1, p2⟩, -⟩ := blk3 B8; obtain ⟨⟨c0, c1, c2⟩, f0, f1, f2⟩ := blk3 R8))
       have R9 := blk3_set R8 (.string a) (.string b) (.string c)
       have z9 := below_sets z8 (Nat.le_succ _) (.string a) (.string b) (.string c)
       clear c0 c1 c2
       obtain ⟨⟨c0, c1, c2⟩, -⟩ := blk3 R9
       exact bodyPost_ret (v := .tuple #[.agg #[.string a, .string b, .string c], .bool true]) (by simp [results, Tryz.results102, go_sem, *]) rfl ⟨by rw [HQ.out]; show _ = Ending.returned (.tuple #[av (D.frt x), .bool true]); rw [HF.out _ rfl], z9⟩
      | false =>
       rw [hz] at hr
       have HQ := Lib.hid hr
       clear hr
       go_wp2_with (first
        | (go_at_call 128; (with_reducible refine (CT.out _).mono ?_); rintro e w6 ⟨rfl, b6⟩; have B6 := B5.on b6; have R6 := r1.on b6; have z6 := below_on r2 r2.size b6)
        | (go_at_call 127; (with_reducible refine (CQ.out _).mono ?_); rintro e w7 ⟨rfl, b7⟩; have B8 := (B6.on b7).alloc (.cells #[.string a', .string b', .string c'] 204); have R8 := (R6.on b7).alloc (.cells #[.string a', .string b', .string c'] 204); have z8 := (below_on z6 z6.size b7).alloc (below_on z6 z6.size b7).size (.cells #[.string a', .string b', .string c'] 204); obtain ⟨⟨p0, p1, p2⟩, -⟩ := blk3 B8; obtain ⟨⟨c0, c1, c2⟩, f0, f1, f2⟩ := blk3 R8))
       have R9 := blk3_set R8 (.string ⟨#[]⟩) (.string ⟨#[]⟩) (.string ⟨#[]⟩)
       have z9 := below_sets z8 (Nat.le_succ _) (.string ⟨#[]⟩) (.string ⟨#[]⟩) (.string ⟨#[]⟩)
       clear c0 c1 c2
       obtain ⟨⟨c0, c1, c2⟩, -⟩ := blk3 R9
       exact bodyPost_ret (v := .tuple #[.agg #[.string ⟨#[]⟩, .string ⟨#[]⟩, .string ⟨#[]⟩], .bool false]) (by simp [results, Tryz.results102, go_sem, *]) rfl ⟨by rw [HQ.out]; rfl, z9⟩
   ·simp only [gT, gS, gZ, sI] at ho; subst ho
    go_simp
    have s7 : (fun W => Blk W w.heap.size 61 (nc x) ∧ Blk W (w.heap.size + 1) 204 #[.string ⟨#[]⟩, .string ⟨#[]⟩, .string ⟨#[]⟩] ∧ Below w.heap.size w W ∧ w.heap.size + 2 ≤ W.heap.size) (wd.alloc (.cells #[.string ⟨#[]⟩, .string ⟨#[]⟩, .string ⟨#[]⟩] 204)) := ⟨s0.1.alloc _, s0.2.1.alloc _, s0.2.2.1.alloc s0.2.2.1.size _, Nat.le_trans s0.2.2.2 (below_alloc_ _ _).size⟩
    refine hK.out _ _ s7 (fun _ => ?_)
    clear hK K
    try simp only [Act.put, iT, iZ, iS]
    refine nextS 5 (by kernel_rfl) (by rfl) (fun o ho K hK => ?_)
    simp only [gT, gS, gZ, sI] at ho; subst ho
    go_simp
    (go_at_call 126; (with_reducible refine (CC.out _ s7.1).mono ?_); rintro e w1 ⟨rfl, rfl⟩)
    refine hK.out _ _ s7 (fun _ => ?_)
    clear hK K
    try simp only [Act.put, iT, iZ, iS]
    refine takeT 6 (some 13) ?vc6 ?hyc6 s7 ?restc6
    case hyc6 => (intro o ho W hW; simp only [gT, gS, gZ, sI] at ho; subst ho; (try dsimp only at hW); go_simp; try rfl)
    try simp only [Act.put, iT, iZ, iS]
    refine nextS 8 (by kernel_rfl) (by rfl) (fun o ho K hK => ?_)
    simp only [gT, gS, gZ, sI] at ho; subst ho
    go_simp
    have B7 := Blk.new wd 204 #[.string a, .string b, .string c]
    have s8 : (fun W => Blk W w.heap.size 61 (nc x) ∧ Blk W (w.heap.size + 1) 204 #[.string ⟨#[]⟩, .string ⟨#[]⟩, .string ⟨#[]⟩] ∧ Below w.heap.size w W ∧ w.heap.size + 2 ≤ W.heap.size) (wd.alloc (.cells #[.string a, .string b, .string c] 204)) := ⟨s0.1.alloc _, s0.2.1.alloc _, s0.2.2.1.alloc s0.2.2.1.size _, Nat.le_trans s0.2.2.2 (below_alloc_ _ _).size⟩
    refine hK.out _ _ s8 (fun _ => ?_)
    clear hK K
    try simp only [Act.put, iT, iZ, iS]
    refine wpAnyH_done (by kernel_rfl) ?_ _
    refine NoPanic.normal ?_
    obtain ⟨W, hW⟩ : ∃ W, wd.alloc (.cells #[.string a, .string b, .string c] 204) = W := ⟨_, rfl⟩
    have B5 : Blk W wd.heap.size 204 #[.string a, .string b, .string c] := by rw [← hW]; exact Blk.new _ _ _
    rw [hW] at s8
    rw [hW]
    clear hW s0 B7 CA CB CC
    obtain ⟨-, r1, r2, r3⟩ := s8
    have n1 : wd.heap.size ≠ w.heap.size + 1 := Nat.ne_of_gt s0z
    have k5 := blk3 B5
    have k0 := k5.1.1
    have k1 := k5.1.2.1
    have k2 := k5.1.2.2
    cases hae : a.toList.isEmpty with
    | true =>
     have HR := Lib.hid (HN.out hae)
     go_wp2_with fail
     clear k5 k0 k1 k2
     have sq : (fun W => Blk W wd.heap.size 204 #[.string a, .string b, .string c] ∧ Blk W (w.heap.size + 1) 204 #[.string ⟨#[]⟩, .string ⟨#[]⟩, .string ⟨#[]⟩] ∧ Below w.heap.size w W) W.drew := ⟨⟨B5.out⟩, ⟨r1.out⟩, r2.drew⟩
     obtain ⟨⟨c0, c1, c2⟩, f0, f1, f2⟩ := blk3 sq.2.1
     refine wp_region_noPanic ?_
     refine wp_region_held_drew (S := fun W => Blk W wd.heap.size 204 #[.string a, .string b, .string c] ∧ Blk W (w.heap.size + 1) 204 #[.string ⟨#[]⟩, .string ⟨#[]⟩, .string ⟨#[]⟩] ∧ Below w.heap.size w W) (by kernel_rfl) sq (fun _ => ?_)
     obtain ⟨wq, hwq⟩ : ∃ wq, W.drew = wq := ⟨_, rfl⟩
     rw [hwq] at sq c0 c1 c2 f0 f1 f2
     rw [hwq]
     clear hwq
     refine takeT 0 (some 17) ?vqc0 ?hyqc0 sq ?restqc0
     case hyqc0 => (intro o ho W hW; simp only [gT, gS, gZ, sI] at ho; subst ho; (try dsimp only at hW); go_simp; try rfl)
     try simp only [Act.put, iT, iZ, iS]
     refine takeT 2 (some 19) ?vqc2 ?hyqc2 sq ?restqc2
     case hyqc2 => (intro o ho W hW; simp only [gT, gS, gZ, sI] at ho; subst ho; (try dsimp only at hW); go_simp; try rfl)
     try simp only [Act.put, iT, iZ, iS]
     refine takeT 1 (some 18) ?vqc1 ?hyqc1 sq ?restqc1
     case hyqc1 => (intro o ho W hW; simp only [gT, gS, gZ, sI] at ho; subst ho; (try dsimp only at hW); obtain ⟨⟨g0, g1, g2⟩, -⟩ := blk3 hW.1; go_simp; try rfl)
     try simp only [Act.put, iT, iZ, iS]
     refine takeT 3 (some 20) ?vqc3 ?hyqc3 sq ?restqc3
     case hyqc3 => (intro o ho W hW; simp only [gT, gS, gZ, sI] at ho; subst ho; (try dsimp only at hW); go_simp; try rfl)
     try simp only [Act.put, iT, iZ, iS]
     refine nextS 4 (by kernel_rfl) (by rfl) (fun o ho K hK => ?_)
     simp only [gT, gS, gZ, sI] at ho; subst ho
     go_simp
     have sr : (fun W => Blk W wd.heap.size 204 #[.string a, .string b, .string c] ∧ Blk W (w.heap.size + 1) 204 #[.string ⟨#[]⟩, .string ⟨#[]⟩, .string ⟨#[]⟩] ∧ Below w.heap.size w W) (((wq.setCell ⟨w.heap.size + 1, 0, none⟩ (.string ⟨#[]⟩)).setCell ⟨w.heap.size + 1, 1, none⟩ (.string ⟨#[]⟩)).setCell ⟨w.heap.size + 1, 2, none⟩ (.string ⟨#[]⟩)) := ⟨blk3_far sq.1 n1 _ _ _, blk3_set sq.2.1 _ _ _, below_sets sq.2.2 (Nat.le_succ _) _ _ _⟩
     refine hK.out _ _ sr (fun _ => ?_)
     clear hK K
     try simp only [Act.put, iT, iZ, iS]
     refine takeT 5 (some 3) ?vqc5 ?hyqc5 sr ?restqc5
     case hyqc5 => (intro o ho W hW; simp only [gT, gS, gZ, sI] at ho; subst ho; (try dsimp only at hW); go_simp; try rfl)
     try simp only [Act.put, iT, iZ, iS]
     refine wpAnyH_done (by kernel_rfl) ?_ _
     refine NoPanic.normal ?_
     obtain ⟨W9, hW9⟩ : ∃ W9, ((wq.setCell ⟨w.heap.size + 1, 0, none⟩ (.string ⟨#[]⟩)).setCell ⟨w.heap.size + 1, 1, none⟩ (.string ⟨#[]⟩)).setCell ⟨w.heap.size + 1, 2, none⟩ (.string ⟨#[]⟩) = W9 := ⟨_, rfl⟩
     rw [hW9] at sr
     rw [hW9]
     clear hW9 sq c0 c1 c2 f0 f1 f2
     obtain ⟨⟨c0, c1, c2⟩, -⟩ := blk3 sr.2.1
     go_wp2
     exact bodyPost_ret (v := .tuple #[.agg #[.string ⟨#[]⟩, .string ⟨#[]⟩, .string ⟨#[]⟩], .bool (s3 a b c ⟨#[]⟩ ⟨#[]⟩ ⟨#[]⟩)]) (by simp [results, Tryz.results102, go_sem, *]) rfl ⟨by rw [HR.out]; cases s3 a b c ⟨#[]⟩ ⟨#[]⟩ ⟨#[]⟩ <;> rfl, sr.2.2⟩
    | false =>
     have HR := Lib.hid (HS.out hae)
     cases op with
     | none =>
      have CQ := Lib.hid (fun W => (show Calls Tryz.prog 127 #[.string u] W fun e w' => e = .returned (.tuple #[.agg #[.string ⟨#[]⟩, .string ⟨#[]⟩, .string ⟨#[]⟩], .bool false]) ∧ Below W.heap.size W w' from CP.out W))
      go_wp2_with (first
       | (go_at_call 128; (with_reducible refine (CT.out _).mono ?_); rintro e w6 ⟨rfl, b6⟩; have B6 := B5.on b6; have R6 := r1.on b6; have z6 := below_on r2 r2.size b6)
       | (go_at_call 127; (with_reducible refine (CQ.out _).mono ?_); rintro e w7 ⟨rfl, b7⟩; have B8 := (B6.on b7).alloc (.cells #[.string ⟨#[]⟩, .string ⟨#[]⟩, .string ⟨#[]⟩] 204); have R8 := (R6.on b7).alloc (.cells #[.string ⟨#[]⟩, .string ⟨#[]⟩, .string ⟨#[]⟩] 204); have z8 := (below_on z6 z6.size b7).alloc (below_on z6 z6.size b7).size (.cells #[.string ⟨#[]⟩, .string ⟨#[]⟩, .string ⟨#[]⟩] 204); obtain ⟨⟨p0, p1, p2⟩, -⟩ := blk3 B8; obtain ⟨⟨c0, c1, c2⟩, f0, f1, f2⟩ := blk3 R8))
      have R9 := blk3_set R8 (.string ⟨#[]⟩) (.string ⟨#[]⟩) (.string ⟨#[]⟩)
      have z9 := below_sets z8 (Nat.le_succ _) (.string ⟨#[]⟩) (.string ⟨#[]⟩) (.string ⟨#[]⟩)
      clear c0 c1 c2
      obtain ⟨⟨c0, c1, c2⟩, -⟩ := blk3 R9
      exact bodyPost_ret (v := .tuple #[.agg #[.string ⟨#[]⟩, .string ⟨#[]⟩, .string ⟨#[]⟩], .bool false]) (by simp [results, Tryz.results102, go_sem, *]) rfl ⟨by rw [HR.out]; rfl, z9⟩
     | some q =>
      obtain ⟨a', ha'⟩ : ∃ a', D.sb q.l = a' := ⟨_, rfl⟩
      obtain ⟨b', hb'⟩ : ∃ b', D.sb q.s = b' := ⟨_, rfl⟩
      obtain ⟨c', hc'⟩ : ∃ c', D.sb q.r = c' := ⟨_, rfl⟩
      have CQ := Lib.hid (fun W => (show Calls Tryz.prog 127 #[.string u] W fun e w' => e = .returned (.tuple #[.agg #[.string a', .string b', .string c'], .bool true]) ∧ Below W.heap.size W w' from by rw [← ha', ← hb', ← hc']; exact CP.out W))
      have hr : D.rof x = if s3 a' b' c' a b c then some (D.frt x) else none := by rw [HR.out, ← ha', ← hb', ← hc']; rfl
      cases hz : s3 a' b' c' a b c with
      | true =>
       rw [hz] at hr
       have HQ := Lib.hid hr
       clear hr
       go_wp2_with (first
        | (go_at_call 128; (with_reducible refine (CT.out _).mono ?_); rintro e w6 ⟨rfl, b6⟩; have B6 := B5.on b6; have R6 := r1.on b6; have z6 := below_on r2 r2.size b6)
        | (go_at_call 127; (with_reducible refine (CQ.out _).mono ?_); rintro e w7 ⟨rfl, b7⟩; have B8 := (B6.on b7).alloc (.cells #[.string a', .string b', .string c'] 204); have R8 := (R6.on b7).alloc (.cells #[.string a', .string b', .string c'] 204); have z8 := (below_on z6 z6.size b7).alloc (below_on z6 z6.size b7).size (.cells #[.string a', .string b', .string c'] 204); obtain ⟨⟨p0, p1, p2⟩, -⟩ := blk3 B8; obtain ⟨⟨c0, c1, c2⟩, f0, f1, f2⟩ := blk3 R8))
       have R9 := blk3_set R8 (.string a) (.string b) (.string c)
       have z9 := below_sets z8 (Nat.le_succ _) (.string a) (.string b) (.string c)
       clear c0 c1 c2
       obtain ⟨⟨c0, c1, c2⟩, -⟩ := blk3 R9
       exact bodyPost_ret (v := .tuple #[.agg #[.string a, .string b, .string c], .bool true]) (by simp [results, Tryz.results102, go_sem, *]) rfl ⟨by rw [HQ.out]; show _ = Ending.returned (.tuple #[av (D.frt x), .bool true]); rw [HF.out _ rfl], z9⟩
      | false =>
       rw [hz] at hr
       have HQ := Lib.hid hr
       clear hr
       go_wp2_with (first
        | (go_at_call 128; (with_reducible refine (CT.out _).mono ?_); rintro e w6 ⟨rfl, b6⟩; have B6 := B5.on b6; have R6 := r1.on b6; have z6 := below_on r2 r2.size b6)
        | (go_at_call 127; (with_reducible refine (CQ.out _).mono ?_); rintro e w7 ⟨rfl, b7⟩; have B8 := (B6.on b7).alloc (.cells #[.string a', .string b', .string c'] 204); have R8 := (R6.on b7).alloc (.cells #[.string a', .string b', .string c'] 204); have z8 := (below_on z6 z6.size b7).alloc (below_on z6 z6.size b7).size (.cells #[.string a', .string b', .string c'] 204); obtain ⟨⟨p0, p1, p2⟩, -⟩ := blk3 B8; obtain ⟨⟨c0, c1, c2⟩, f0, f1, f2⟩ := blk3 R8))
       have R9 := blk3_set R8 (.string ⟨#[]⟩) (.string ⟨#[]⟩) (.string ⟨#[]⟩)
       have z9 := below_sets z8 (Nat.le_succ _) (.string ⟨#[]⟩) (.string ⟨#[]⟩) (.string ⟨#[]⟩)
       clear c0 c1 c2
       obtain ⟨⟨c0, c1, c2⟩, -⟩ := blk3 R9
       exact bodyPost_ret (v := .tuple #[.agg #[.string ⟨#[]⟩, .string ⟨#[]⟩, .string ⟨#[]⟩], .bool false]) (by simp [results, Tryz.results102, go_sem, *]) rfl ⟨by rw [HQ.out]; rfl, z9⟩
  ·simp only [gT, gS, gZ, sI] at ho; subst ho
   go_simp
   have s7 : (fun W => Blk W w.heap.size 61 (nc x) ∧ Blk W (w.heap.size + 1) 204 #[.string ⟨#[]⟩, .string ⟨#[]⟩, .string ⟨#[]⟩] ∧ Below w.heap.size w W ∧ w.heap.size + 2 ≤ W.heap.size) (wd.alloc (.cells #[.string ⟨#[]⟩, .string ⟨#[]⟩, .string ⟨#[]⟩] 204)) := ⟨s0.1.alloc _, s0.2.1.alloc _, s0.2.2.1.alloc s0.2.2.1.size _, Nat.le_trans s0.2.2.2 (below_alloc_ _ _).size⟩
   refine hK.out _ _ s7 (fun _ => ?_)
   clear hK K
   try simp only [Act.put, iT, iZ, iS]
   refine nextS 3 (by kernel_rfl) (by rfl) (fun o ho K hK => ?_)
   simp only [gT, gS, gZ, sI] at ho; subst ho
   go_simp
   (go_at_call 126; (with_reducible refine (CB.out _ s7.1).mono ?_); rintro e w1 ⟨rfl, rfl⟩)
   refine hK.out _ _ s7 (fun _ => ?_)
   clear hK K
   try simp only [Act.put, iT, iZ, iS]
   refine nextS 5 (by kernel_rfl) (by rfl) (fun o ho K hK => ?_)
   simp only [gT, gS, gZ, sI] at ho; subst ho
   go_simp
   (go_at_call 126; (with_reducible refine (CC.out _ s7.1).mono ?_); rintro e w1 ⟨rfl, rfl⟩)
   refine hK.out _ _ s7 (fun _ => ?_)
   clear hK K
   try simp only [Act.put, iT, iZ, iS]
   refine takeT 6 (some 13) ?vd6 ?hyd6 s7 ?restd6
   case hyd6 => (intro o ho W hW; simp only [gT, gS, gZ, sI] at ho; subst ho; (try dsimp only at hW); go_simp; try rfl)
   try simp only [Act.put, iT, iZ, iS]
   refine nextS 8 (by kernel_rfl) (by rfl) (fun o ho K hK => ?_)
   simp only [gT, gS, gZ, sI] at ho; subst ho
   go_simp
   have B7 := Blk.new wd 204 #[.string a, .string b, .string c]
   have s8 : (fun W => Blk W w.heap.size 61 (nc x) ∧ Blk W (w.heap.size + 1) 204 #[.string ⟨#[]⟩, .string ⟨#[]⟩, .string ⟨#[]⟩] ∧ Below w.heap.size w W ∧ w.heap.size + 2 ≤ W.heap.size) (wd.alloc (.cells #[.string a, .string b, .string c] 204)) := ⟨s0.1.alloc _, s0.2.1.alloc _, s0.2.2.1.alloc s0.2.2.1.size _, Nat.le_trans s0.2.2.2 (below_alloc_ _ _).size⟩
   refine hK.out _ _ s8 (fun _ => ?_)
   clear hK K
   try simp only [Act.put, iT, iZ, iS]
   refine wpAnyH_done (by kernel_rfl) ?_ _
   refine NoPanic.normal ?_
   obtain ⟨W, hW⟩ : ∃ W, wd.alloc (.cells #[.string a, .string b, .string c] 204) = W := ⟨_, rfl⟩
   have B5 : Blk W wd.heap.size 204 #[.string a, .string b, .string c] := by rw [← hW]; exact Blk.new _ _ _
   rw [hW] at s8
   rw [hW]
   clear hW s0 B7 CA CB CC
   obtain ⟨-, r1, r2, r3⟩ := s8
   have n1 : wd.heap.size ≠ w.heap.size + 1 := Nat.ne_of_gt s0z
   have k5 := blk3 B5
   have k0 := k5.1.1
   have k1 := k5.1.2.1
   have k2 := k5.1.2.2
   cases hae : a.toList.isEmpty with
   | true =>
    have HR := Lib.hid (HN.out hae)
    go_wp2_with fail
    clear k5 k0 k1 k2
    have sq : (fun W => Blk W wd.heap.size 204 #[.string a, .string b, .string c] ∧ Blk W (w.heap.size + 1) 204 #[.string ⟨#[]⟩, .string ⟨#[]⟩, .string ⟨#[]⟩] ∧ Below w.heap.size w W) W.drew := ⟨⟨B5.out⟩, ⟨r1.out⟩, r2.drew⟩
    obtain ⟨⟨c0, c1, c2⟩, f0, f1, f2⟩ := blk3 sq.2.1
    refine wp_region_noPanic ?_
    refine wp_region_held_drew (S := fun W => Blk W wd.heap.size 204 #[.string a, .string b, .string c] ∧ Blk W (w.heap.size + 1) 204 #[.string ⟨#[]⟩, .string ⟨#[]⟩, .string ⟨#[]⟩] ∧ Below w.heap.size w W) (by kernel_rfl) sq (fun _ => ?_)
    obtain ⟨wq, hwq⟩ : ∃ wq, W.drew = wq := ⟨_, rfl⟩
    rw [hwq] at sq c0 c1 c2 f0 f1 f2
    rw [hwq]
    clear hwq
    refine takeT 0 (some 17) ?vqd0 ?hyqd0 sq ?restqd0
    case hyqd0 => (intro o ho W hW; simp only [gT, gS, gZ, sI] at ho; subst ho; (try dsimp only at hW); go_simp; try rfl)
    try simp only [Act.put, iT, iZ, iS]
    refine takeT 2 (some 19) ?vqd2 ?hyqd2 sq ?restqd2
    case hyqd2 => (intro o ho W hW; simp only [gT, gS, gZ, sI] at ho; subst ho; (try dsimp only at hW); go_simp; try rfl)
    try simp only [Act.put, iT, iZ, iS]
    refine takeT 1 (some 18) ?vqd1 ?hyqd1 sq ?restqd1
    case hyqd1 => (intro o ho W hW; simp only [gT, gS, gZ, sI] at ho; subst ho; (try dsimp only at hW); obtain ⟨⟨g0, g1, g2⟩, -⟩ := blk3 hW.1; go_simp; try rfl)
    try simp only [Act.put, iT, iZ, iS]
    refine takeT 3 (some 20) ?vqd3 ?hyqd3 sq ?restqd3
    case hyqd3 => (intro o ho W hW; simp only [gT, gS, gZ, sI] at ho; subst ho; (try dsimp only at hW); go_simp; try rfl)
    try simp only [Act.put, iT, iZ, iS]
    refine nextS 4 (by kernel_rfl) (by rfl) (fun o ho K hK => ?_)
    simp only [gT, gS, gZ, sI] at ho; subst ho
    go_simp
    have sr : (fun W => Blk W wd.heap.size 204 #[.string a, .string b, .string c] ∧ Blk W (w.heap.size + 1) 204 #[.string ⟨#[]⟩, .string ⟨#[]⟩, .string ⟨#[]⟩] ∧ Below w.heap.size w W) (((wq.setCell ⟨w.heap.size + 1, 0, none⟩ (.string ⟨#[]⟩)).setCell ⟨w.heap.size + 1, 1, none⟩ (.string ⟨#[]⟩)).setCell ⟨w.heap.size + 1, 2, none⟩ (.string ⟨#[]⟩)) := ⟨blk3_far sq.1 n1 _ _ _, blk3_set sq.2.1 _ _ _, below_sets sq.2.2 (Nat.le_succ _) _ _ _⟩
    refine hK.out _ _ sr (fun _ => ?_)
    clear hK K
    try simp only [Act.put, iT, iZ, iS]
    refine takeT 5 (some 3) ?vqd5 ?hyqd5 sr ?restqd5
    case hyqd5 => (intro o ho W hW; simp only [gT, gS, gZ, sI] at ho; subst ho; (try dsimp only at hW); go_simp; try rfl)
    try simp only [Act.put, iT, iZ, iS]
    refine wpAnyH_done (by kernel_rfl) ?_ _
    refine NoPanic.normal ?_
    obtain ⟨W9, hW9⟩ : ∃ W9, ((wq.setCell ⟨w.heap.size + 1, 0, none⟩ (.string ⟨#[]⟩)).setCell ⟨w.heap.size + 1, 1, none⟩ (.string ⟨#[]⟩)).setCell ⟨w.heap.size + 1, 2, none⟩ (.string ⟨#[]⟩) = W9 := ⟨_, rfl⟩
    rw [hW9] at sr
    rw [hW9]
    clear hW9 sq c0 c1 c2 f0 f1 f2
    obtain ⟨⟨c0, c1, c2⟩, -⟩ := blk3 sr.2.1
    go_wp2
    exact bodyPost_ret (v := .tuple #[.agg #[.string ⟨#[]⟩, .string ⟨#[]⟩, .string ⟨#[]⟩], .bool (s3 a b c ⟨#[]⟩ ⟨#[]⟩ ⟨#[]⟩)]) (by simp [results, Tryz.results102, go_sem, *]) rfl ⟨by rw [HR.out]; cases s3 a b c ⟨#[]⟩ ⟨#[]⟩ ⟨#[]⟩ <;> rfl, sr.2.2⟩
   | false =>
    have HR := Lib.hid (HS.out hae)
    cases op with
    | none =>
     have CQ := Lib.hid (fun W => (show Calls Tryz.prog 127 #[.string u] W fun e w' => e = .returned (.tuple #[.agg #[.string ⟨#[]⟩, .string ⟨#[]⟩, .string ⟨#[]⟩], .bool false]) ∧ Below W.heap.size W w' from CP.out W))
     go_wp2_with (first
      | (go_at_call 128; (with_reducible refine (CT.out _).mono ?_); rintro e w6 ⟨rfl, b6⟩; have B6 := B5.on b6; have R6 := r1.on b6; have z6 := below_on r2 r2.size b6)
      | (go_at_call 127; (with_reducible refine (CQ.out _).mono ?_); rintro e w7 ⟨rfl, b7⟩; have B8 := (B6.on b7).alloc (.cells #[.string ⟨#[]⟩, .string ⟨#[]⟩, .string ⟨#[]⟩] 204); have R8 := (R6.on b7).alloc (.cells #[.string ⟨#[]⟩, .string ⟨#[]⟩, .string ⟨#[]⟩] 204); have z8 := (below_on z6 z6.size b7).alloc (below_on z6 z6.size b7).size (.cells #[.string ⟨#[]⟩, .string ⟨#[]⟩, .string ⟨#[]⟩] 204); obtain ⟨⟨p0, p1, p2⟩, -⟩ := blk3 B8; obtain ⟨⟨c0, c1, c2⟩, f0, f1, f2⟩ := blk3 R8))
     have R9 := blk3_set R8 (.string ⟨#[]⟩) (.string ⟨#[]⟩) (.string ⟨#[]⟩)
     have z9 := below_sets z8 (Nat.le_succ _) (.string ⟨#[]⟩) (.string ⟨#[]⟩) (.string ⟨#[]⟩)
     clear c0 c1 c2
     obtain ⟨⟨c0, c1, c2⟩, -⟩ := blk3 R9
     exact bodyPost_ret (v := .tuple #[.agg #[.string ⟨#[]⟩, .string ⟨#[]⟩, .string ⟨#[]⟩], .bool false]) (by simp [results, Tryz.results102, go_sem, *]) rfl ⟨by rw [HR.out]; rfl, z9⟩
    | some q =>
     obtain ⟨a', ha'⟩ : ∃ a', D.sb q.l = a' := ⟨_, rfl⟩
     obtain ⟨b', hb'⟩ : ∃ b', D.sb q.s = b' := ⟨_, rfl⟩
     obtain ⟨c', hc'⟩ : ∃ c', D.sb q.r = c' := ⟨_, rfl⟩
     have CQ := Lib.hid (fun W => (show Calls Tryz.prog 127 #[.string u] W fun e w' => e = .returned (.tuple #[.agg #[.string a', .string b', .string c'], .bool true]) ∧ Below W.heap.size W w' from by rw [← ha', ← hb', ← hc']; exact CP.out W))
     have hr : D.rof x = if s3 a' b' c' a b c then some (D.frt x) else none := by rw [HR.out, ← ha', ← hb', ← hc']; rfl
     cases hz : s3 a' b' c' a b c with
     | true =>
      rw [hz] at hr
      have HQ := Lib.hid hr
      clear hr
      go_wp2_with (first
       | (go_at_call 128; (with_reducible refine (CT.out _).mono ?_); rintro e w6 ⟨rfl, b6⟩; have B6 := B5.on b6; have R6 := r1.on b6; have z6 := below_on r2 r2.size b6)
       | (go_at_call 127; (with_reducible refine (CQ.out _).mono ?_); rintro e w7 ⟨rfl, b7⟩; have B8 := (B6.on b7).alloc (.cells #[.string a', .string b', .string c'] 204); have R8 := (R6.on b7).alloc (.cells #[.string a', .string b', .string c'] 204); have z8 := (below_on z6 z6.size b7).alloc (below_on z6 z6.size b7).size (.cells #[.string a', .string b', .string c'] 204); obtain ⟨⟨p0, p1, p2⟩, -⟩ := blk3 B8; obtain ⟨⟨c0, c1, c2⟩, f0, f1, f2⟩ := blk3 R8))
      have R9 := blk3_set R8 (.string a) (.string b) (.string c)
      have z9 := below_sets z8 (Nat.le_succ _) (.string a) (.string b) (.string c)
      clear c0 c1 c2
      obtain ⟨⟨c0, c1, c2⟩, -⟩ := blk3 R9
      exact bodyPost_ret (v := .tuple #[.agg #[.string a, .string b, .string c], .bool true]) (by simp [results, Tryz.results102, go_sem, *]) rfl ⟨by rw [HQ.out]; show _ = Ending.returned (.tuple #[av (D.frt x), .bool true]); rw [HF.out _ rfl], z9⟩
     | false =>
      rw [hz] at hr
      have HQ := Lib.hid hr
      clear hr
      go_wp2_with (first
       | (go_at_call 128; (with_reducible refine (CT.out _).mono ?_); rintro e w6 ⟨rfl, b6⟩; have B6 := B5.on b6; have R6 := r1.on b6; have z6 := below_on r2 r2.size b6)
       | (go_at_call 127; (with_reducible refine (CQ.out _).mono ?_); rintro e w7 ⟨rfl, b7⟩; have B8 := (B6.on b7).alloc (.cells #[.string a', .string b', .string c'] 204); have R8 := (R6.on b7).alloc (.cells #[.string a', .string b', .string c'] 204); have z8 := (below_on z6 z6.size b7).alloc (below_on z6 z6.size b7).size (.cells #[.string a', .string b', .string c'] 204); obtain ⟨⟨p0, p1, p2⟩, -⟩ := blk3 B8; obtain ⟨⟨c0, c1, c2⟩, f0, f1, f2⟩ := blk3 R8))
      have R9 := blk3_set R8 (.string ⟨#[]⟩) (.string ⟨#[]⟩) (.string ⟨#[]⟩)
      have z9 := below_sets z8 (Nat.le_succ _) (.string ⟨#[]⟩) (.string ⟨#[]⟩) (.string ⟨#[]⟩)
      clear c0 c1 c2
      obtain ⟨⟨c0, c1, c2⟩, -⟩ := blk3 R9
      exact bodyPost_ret (v := .tuple #[.agg #[.string ⟨#[]⟩, .string ⟨#[]⟩, .string ⟨#[]⟩], .bool false]) (by simp [results, Tryz.results102, go_sem, *]) rfl ⟨by rw [HQ.out]; rfl, z9⟩
 ·simp only [gT, gS, gZ, sI] at ho; subst ho
  go_simp
  have s7 : (fun W => Blk W w.heap.size 61 (nc x) ∧ Blk W (w.heap.size + 1) 204 #[.string ⟨#[]⟩, .string ⟨#[]⟩, .string ⟨#[]⟩] ∧ Below w.heap.size w W ∧ w.heap.size + 2 ≤ W.heap.size) (wd.alloc (.cells #[.string ⟨#[]⟩, .string ⟨#[]⟩, .string ⟨#[]⟩] 204)) := ⟨s0.1.alloc _, s0.2.1.alloc _, s0.2.2.1.alloc s0.2.2.1.size _, Nat.le_trans s0.2.2.2 (below_alloc_ _ _).size⟩
  refine hK.out _ _ s7 (fun _ => ?_)
  clear hK K
  try simp only [Act.put, iT, iZ, iS]
  refine nextS 1 (by kernel_rfl) (by rfl) (fun o ho K hK => ?_)
  simp only [gT, gS, gZ, sI] at ho; subst ho
  go_simp
  (go_at_call 126; (with_reducible refine (CA.out _ s7.1).mono ?_); rintro e w1 ⟨rfl, rfl⟩)
  refine hK.out _ _ s7 (fun _ => ?_)
  clear hK K
  try simp only [Act.put, iT, iZ, iS]
  refine nextS 3 (by kernel_rfl) (by rfl) (fun o ho K hK => ?_)
  simp only [gT, gS, gZ, sI] at ho; subst ho
  go_simp
  (go_at_call 126; (with_reducible refine (CB.out _ s7.1).mono ?_); rintro e w1 ⟨rfl, rfl⟩)
  refine hK.out _ _ s7 (fun _ => ?_)
  clear hK K
  try simp only [Act.put, iT, iZ, iS]
  refine nextS 5 (by kernel_rfl) (by rfl) (fun o ho K hK => ?_)
  simp only [gT, gS, gZ, sI] at ho; subst ho
  go_simp
  (go_at_call 126; (with_reducible refine (CC.out _ s7.1).mono ?_); rintro e w1 ⟨rfl, rfl⟩)
  refine hK.out _ _ s7 (fun _ => ?_)
  clear hK K
  try simp only [Act.put, iT, iZ, iS]
  refine takeT 6 (some 13) ?ve6 ?hye6 s7 ?reste6
  case hye6 => (intro o ho W hW; simp only [gT, gS, gZ, sI] at ho; subst ho; (try dsimp only at hW); go_simp; try rfl)
  try simp only [Act.put, iT, iZ, iS]
  refine nextS 8 (by kernel_rfl) (by rfl) (fun o ho K hK => ?_)
  simp only [gT, gS, gZ, sI] at ho; subst ho
  go_simp
  have B7 := Blk.new wd 204 #[.string a, .string b, .string c]
  have s8 : (fun W => Blk W w.heap.size 61 (nc x) ∧ Blk W (w.heap.size + 1) 204 #[.string ⟨#[]⟩, .string ⟨#[]⟩, .string ⟨#[]⟩] ∧ Below w.heap.size w W ∧ w.heap.size + 2 ≤ W.heap.size) (wd.alloc (.cells #[.string a, .string b, .string c] 204)) := ⟨s0.1.alloc _, s0.2.1.alloc _, s0.2.2.1.alloc s0.2.2.1.size _, Nat.le_trans s0.2.2.2 (below_alloc_ _ _).size⟩
  refine hK.out _ _ s8 (fun _ => ?_)
  clear hK K
  try simp only [Act.put, iT, iZ, iS]
  refine wpAnyH_done (by kernel_rfl) ?_ _
  refine NoPanic.normal ?_
  obtain ⟨W, hW⟩ : ∃ W, wd.alloc (.cells #[.string a, .string b, .string c] 204) = W := ⟨_, rfl⟩
  have B5 : Blk W wd.heap.size 204 #[.string a, .string b, .string c] := by rw [← hW]; exact Blk.new _ _ _
  rw [hW] at s8
  rw [hW]
  clear hW s0 B7 CA CB CC
  obtain ⟨-, r1, r2, r3⟩ := s8
  have n1 : wd.heap.size ≠ w.heap.size + 1 := Nat.ne_of_gt s0z
  have k5 := blk3 B5
  have k0 := k5.1.1
  have k1 := k5.1.2.1
  have k2 := k5.1.2.2
  cases hae : a.toList.isEmpty with
  | true =>
   have HR := Lib.hid (HN.out hae)
   go_wp2_with fail
   clear k5 k0 k1 k2
   have sq : (fun W => Blk W wd.heap.size 204 #[.string a, .string b, .string c] ∧ Blk W (w.heap.size + 1) 204 #[.string ⟨#[]⟩, .string ⟨#[]⟩, .string ⟨#[]⟩] ∧ Below w.heap.size w W) W.drew := ⟨⟨B5.out⟩, ⟨r1.out⟩, r2.drew⟩
   obtain ⟨⟨c0, c1, c2⟩, f0, f1, f2⟩ := blk3 sq.2.1
   refine wp_region_noPanic ?_
   refine wp_region_held_drew (S := fun W => Blk W wd.heap.size 204 #[.string a, .string b, .string c] ∧ Blk W (w.heap.size + 1) 204 #[.string ⟨#[]⟩, .string ⟨#[]⟩, .string ⟨#[]⟩] ∧ Below w.heap.size w W) (by kernel_rfl) sq (fun _ => ?_)
   obtain ⟨wq, hwq⟩ : ∃ wq, W.drew = wq := ⟨_, rfl⟩
   rw [hwq] at sq c0 c1 c2 f0 f1 f2
   rw [hwq]
   clear hwq
   refine takeT 0 (some 17) ?vqe0 ?hyqe0 sq ?restqe0
   case hyqe0 => (intro o ho W hW; simp only [gT, gS, gZ, sI] at ho; subst ho; (try dsimp only at hW); go_simp; try rfl)
   try simp only [Act.put, iT, iZ, iS]
   refine takeT 2 (some 19) ?vqe2 ?hyqe2 sq ?restqe2
   case hyqe2 => (intro o ho W hW; simp only [gT, gS, gZ, sI] at ho; subst ho; (try dsimp only at hW); go_simp; try rfl)
   try simp only [Act.put, iT, iZ, iS]
   refine takeT 1 (some 18) ?vqe1 ?hyqe1 sq ?restqe1
   case hyqe1 => (intro o ho W hW; simp only [gT, gS, gZ, sI] at ho; subst ho; (try dsimp only at hW); obtain ⟨⟨g0, g1, g2⟩, -⟩ := blk3 hW.1; go_simp; try rfl)
   try simp only [Act.put, iT, iZ, iS]
   refine takeT 3 (some 20) ?vqe3 ?hyqe3 sq ?restqe3
   case hyqe3 => (intro o ho W hW; simp only [gT, gS, gZ, sI] at ho; subst ho; (try dsimp only at hW); go_simp; try rfl)
   try simp only [Act.put, iT, iZ, iS]
   refine nextS 4 (by kernel_rfl) (by rfl) (fun o ho K hK => ?_)
   simp only [gT, gS, gZ, sI] at ho; subst ho
   go_simp
   have sr : (fun W => Blk W wd.heap.size 204 #[.string a, .string b, .string c] ∧ Blk W (w.heap.size + 1) 204 #[.string ⟨#[]⟩, .string ⟨#[]⟩, .string ⟨#[]⟩] ∧ Below w.heap.size w W) (((wq.setCell ⟨w.heap.size + 1, 0, none⟩ (.string ⟨#[]⟩)).setCell ⟨w.heap.size + 1, 1, none⟩ (.string ⟨#[]⟩)).setCell ⟨w.heap.size + 1, 2, none⟩ (.string ⟨#[]⟩)) := ⟨blk3_far sq.1 n1 _ _ _, blk3_set sq.2.1 _ _ _, below_sets sq.2.2 (Nat.le_succ _) _ _ _⟩
   refine hK.out _ _ sr (fun _ => ?_)
   clear hK K
   try simp only [Act.put, iT, iZ, iS]
   refine takeT 5 (some 3) ?vqe5 ?hyqe5 sr ?restqe5
   case hyqe5 => (intro o ho W hW; simp only [gT, gS, gZ, sI] at ho; subst ho; (try dsimp only at hW); go_simp; try rfl)
   try simp only [Act.put, iT, iZ, iS]
   refine wpAnyH_done (by kernel_rfl) ?_ _
   refine NoPanic.normal ?_
   obtain ⟨W9, hW9⟩ : ∃ W9, ((wq.setCell ⟨w.heap.size + 1, 0, none⟩ (.string ⟨#[]⟩)).setCell ⟨w.heap.size + 1, 1, none⟩ (.string ⟨#[]⟩)).setCell ⟨w.heap.size + 1, 2, none⟩ (.string ⟨#[]⟩) = W9 := ⟨_, rfl⟩
   rw [hW9] at sr
   rw [hW9]
   clear hW9 sq c0 c1 c2 f0 f1 f2
   obtain ⟨⟨c0, c1, c2⟩, -⟩ := blk3 sr.2.1
   go_wp2
   exact bodyPost_ret (v := .tuple #[.agg #[.string ⟨#[]⟩, .string ⟨#[]⟩, .string ⟨#[]⟩], .bool (s3 a b c ⟨#[]⟩ ⟨#[]⟩ ⟨#[]⟩)]) (by simp [results, Tryz.results102, go_sem, *]) rfl ⟨by rw [HR.out]; cases s3 a b c ⟨#[]⟩ ⟨#[]⟩ ⟨#[]⟩ <;> rfl, sr.2.2⟩
  | false =>
   have HR := Lib.hid (HS.out hae)
   cases op with
   | none =>
    have CQ := Lib.hid (fun W => (show Calls Tryz.prog 127 #[.string u] W fun e w' => e = .returned (.tuple #[.agg #[.string ⟨#[]⟩, .string ⟨#[]⟩, .string ⟨#[]⟩], .bool false]) ∧ Below W.heap.size W w' from CP.out W))
    go_wp2_with (first
     | (go_at_call 128; (with_reducible refine (CT.out _).mono ?_); rintro e w6 ⟨rfl, b6⟩; have B6 := B5.on b6; have R6 := r1.on b6; have z6 := below_on r2 r2.size b6)
     | (go_at_call 127; (with_reducible refine (CQ.out _).mono ?_); rintro e w7 ⟨rfl, b7⟩; have B8 := (B6.on b7).alloc (.cells #[.string ⟨#[]⟩, .string ⟨#[]⟩, .string ⟨#[]⟩] 204); have R8 := (R6.on b7).alloc (.cells #[.string ⟨#[]⟩, .string ⟨#[]⟩, .string ⟨#[]⟩] 204); have z8 := (below_on z6 z6.size b7).alloc (below_on z6 z6.size b7).size (.cells #[.string ⟨#[]⟩, .string ⟨#[]⟩, .string ⟨#[]⟩] 204); obtain ⟨⟨p0, p1, p2⟩, -⟩ := blk3 B8; obtain ⟨⟨c0, c1, c2⟩, f0, f1, f2⟩ := blk3 R8))
    have R9 := blk3_set R8 (.string ⟨#[]⟩) (.string ⟨#[]⟩) (.string ⟨#[]⟩)
    have z9 := below_sets z8 (Nat.le_succ _) (.string ⟨#[]⟩) (.string ⟨#[]⟩) (.string ⟨#[]⟩)
    clear c0 c1 c2
    obtain ⟨⟨c0, c1, c2⟩, -⟩ := blk3 R9
    exact bodyPost_ret (v := .tuple #[.agg #[.string ⟨#[]⟩, .string ⟨#[]⟩, .string ⟨#[]⟩], .bool false]) (by simp [results, Tryz.results102, go_sem, *]) rfl ⟨by rw [HR.out]; rfl, z9⟩
   | some q =>
    obtain ⟨a', ha'⟩ : ∃ a', D.sb q.l = a' := ⟨_, rfl⟩
    obtain ⟨b', hb'⟩ : ∃ b', D.sb q.s = b' := ⟨_, rfl⟩
    obtain ⟨c', hc'⟩ : ∃ c', D.sb q.r = c' := ⟨_, rfl⟩
    have CQ := Lib.hid (fun W => (show Calls Tryz.prog 127 #[.string u] W fun e w' => e = .returned (.tuple #[.agg #[.string a', .string b', .string c'], .bool true]) ∧ Below W.heap.size W w' from by rw [← ha', ← hb', ← hc']; exact CP.out W))
    have hr : D.rof x = if s3 a' b' c' a b c then some (D.frt x) else none := by rw [HR.out, ← ha', ← hb', ← hc']; rfl
    cases hz : s3 a' b' c' a b c with
    | true =>
     rw [hz] at hr
     have HQ := Lib.hid hr
     clear hr
     go_wp2_with (first
      | (go_at_call 128; (with_reducible refine (CT.out _).mono ?_); rintro e w6 ⟨rfl, b6⟩; have B6 := B5.on b6; have R6 := r1.on b6; have z6 := below_on r2 r2.size b6)
      | (go_at_call 127; (with_reducible refine (CQ.out _).mono ?_); rintro e w7 ⟨rfl, b7⟩; have B8 := (B6.on b7).alloc (.cells #[.string a', .string b', .string c'] 204); have R8 := (R6.on b7).alloc (.cells #[.string a', .string b', .string c'] 204); have z8 := (below_on z6 z6.size b7).alloc (below_on z6 z6.size b7).size (.cells #[.string a', .string b', .string c'] 204); obtain ⟨⟨p0, p1, p2⟩, -⟩ := blk3 B8; obtain ⟨⟨c0, c1, c2⟩, f0, f1, f2⟩ := blk3 R8))
     have R9 := blk3_set R8 (.string a) (.string b) (.string c)
     have z9 := below_sets z8 (Nat.le_succ _) (.string a) (.string b) (.string c)
     clear c0 c1 c2
     obtain ⟨⟨c0, c1, c2⟩, -⟩ := blk3 R9
     exact bodyPost_ret (v := .tuple #[.agg #[.string a, .string b, .string c], .bool true]) (by simp [results, Tryz.results102, go_sem, *]) rfl ⟨by rw [HQ.out]; show _ = Ending.returned (.tuple #[av (D.frt x), .bool true]); rw [HF.out _ rfl], z9⟩
    | false =>
     rw [hz] at hr
     have HQ := Lib.hid hr
     clear hr
     go_wp2_with (first
      | (go_at_call 128; (with_reducible refine (CT.out _).mono ?_); rintro e w6 ⟨rfl, b6⟩; have B6 := B5.on b6; have R6 := r1.on b6; have z6 := below_on r2 r2.size b6)
      | (go_at_call 127; (with_reducible refine (CQ.out _).mono ?_); rintro e w7 ⟨rfl, b7⟩; have B8 := (B6.on b7).alloc (.cells #[.string a', .string b', .string c'] 204); have R8 := (R6.on b7).alloc (.cells #[.string a', .string b', .string c'] 204); have z8 := (below_on z6 z6.size b7).alloc (below_on z6 z6.size b7).size (.cells #[.string a', .string b', .string c'] 204); obtain ⟨⟨p0, p1, p2⟩, -⟩ := blk3 B8; obtain ⟨⟨c0, c1, c2⟩, f0, f1, f2⟩ := blk3 R8))
     have R9 := blk3_set R8 (.string ⟨#[]⟩) (.string ⟨#[]⟩) (.string ⟨#[]⟩)
     have z9 := below_sets z8 (Nat.le_succ _) (.string ⟨#[]⟩) (.string ⟨#[]⟩) (.string ⟨#[]⟩)
     clear c0 c1 c2
     obtain ⟨⟨c0, c1, c2⟩, -⟩ := blk3 R9
     exact bodyPost_ret (v := .tuple #[.agg #[.string ⟨#[]⟩, .string ⟨#[]⟩, .string ⟨#[]⟩], .bool false]) (by simp [results, Tryz.results102, go_sem, *]) rfl ⟨by rw [HQ.out]; rfl, z9⟩
end Go.Proofs.YtjlaffgbmcpldaaGreatDoor
set_option linter.unusedVariables false
set_option linter.unusedSimpArgs false
set_option maxRecDepth 100000
namespace Go.Proofs.YtjlaffgbmcpldaaGreatDoor
open Go.RowKit
attribute [local go_sem ↓] Go.wp_at_zero Go.wp_at_succ ld_k lv_k st_k eq_k ne_k bd_k ld_b lv_b st_b eq_b ne_b bd_25 ld_r lv_r st_rk eq_rk ne_rk bd_r ld_p lv_p st_px bd_p Nm.ld_a Nm.ld_n Nm.st_a Nm.st_n Nm.eq_a Nm.eq_n Nm.ne_a Nm.ne_n Nm.lv_a Nm.lv_n ld_a ld_n st_a st_n eq_a eq_n ne_a ne_n lv_a lv_n
attribute [local go_sem] run_ldk run_lvk run_stk run_eqk run_nek run_bdk_z run_ldb run_lvb run_stb run_eqb run_neb run_ldr run_lvr run_strk run_eqrk run_nerk run_bdr_z run_ldp run_lvp run_stpx Nm.run_ld_a Nm.run_ld_n Nm.run_st_n Nm.run_eq_a Nm.run_eq_n Nm.run_ne_a Nm.run_ne_n Nm.run_lv_a Nm.run_lv_n Nm.rd_new Nm.rd_old Nm.rd_drew Nm.rd_drewN run_ld_a run_ld_n run_sw_a run_sw_n run_eq_a run_eq_n run_ne_a run_ne_n run_lv_a run_lv_n st_z ne_z eq_z rd_new rd_old rd_drew rd_drewN Shp.rd_new Shp.rd_old Shp.rd_drew Shp.rd_drewN Shp.rd_set Shp.tn_new Shp.tn_old Shp.tn_drew Shp.tn_drewN tn_new tn_old tn_drew tn_drewN rd_set setRow_alloc run_stn3 run_stt15

structure TT (t : D.Tg) (a b c : ByteArray) (h : Bool) : Prop where
 call : ∀ w, Calls Tryz.prog 102 #[.agg (nc t)] w fun e w' => e = .returned (.tuple #[.agg #[.string a, .string b, .string c], .bool h]) ∧ Below w.heap.size w w'
 is : h = D.right t
 lang : a.toList.isEmpty = true ↔ (t = D.zero ∨ D.right t = false)
theorem D.pt_zero : D.pt D.zero = some D.rt := by decide +kernel
theorem D.pt_root {t : D.Tg} {p : D.Pt} (h : D.pt t = some p) : p.l = [] ↔ t = D.zero := by
 obtain ⟨hc, e⟩ := D.pt_some h
 constructor
 ·intro hl
  rcases hc with rfl | ⟨hl', _⟩
  ·rw [← e]; rfl
  ·rw [hl] at hl'
   exact absurd hl'.1 (by decide)
 ·rintro rfl
  rw [D.pt_zero] at h
  injection h with h
  rw [← h]; rfl
theorem tt_any (t : D.Tg) : ∃ a b c h, TT t a b c h := by
 have cR := fun w => rof_any t w
 rw [D.rof_eq] at cR
 refine ⟨D.sb ((D.pt t).getD D.rt).l, D.sb ((D.pt t).getD D.rt).s, D.sb ((D.pt t).getD D.rt).r, (D.pt t).isSome, ⟨cR, ?_, ?_⟩⟩
 ·unfold D.right
  cases D.pt t <;> rfl
 ·rw [sb_empty, List.isEmpty_iff]
  cases h : D.pt t with
  | none =>
   have hr : D.right t = false := by unfold D.right; rw [h]; rfl
   exact ⟨fun _ => .inr hr, fun _ => rfl⟩
  | some p =>
   have hr : D.right t = true := by unfold D.right; rw [h]; rfl
   rw [hr]
   show p.l = [] ↔ _
   rw [D.pt_root h]
   simp
theorem ts_empty {n : Nm.D.Nm} (h : Nm.D.right n = false) : (Nm.ts n).toList.isEmpty = true := by
 unfold Nm.ts
 rw [sb_empty, Nm.D.txt_no h]; rfl
theorem ts_some {n : Nm.D.Nm} (h : Nm.D.right n = true) : (Nm.ts n).toList.isEmpty = false := by
 unfold Nm.ts
 rw [sb_empty]
 have := (Nm.D.isB_iff.1 (Nm.D.txt_is h)).1
 cases hq : Nm.D.txt n with
 | nil => rw [hq] at this; simp at this
 | cons a l => rfl
def D.Rk.noA (x : D.Rk) : D.Rk := ⟨x.k, x.p, 0, x.n, x.t, x.hk, x.hp, by decide⟩
def D.Rk.noN (x : D.Rk) : D.Rk := ⟨x.k, x.p, x.a, Nm.D.zero, x.t, x.hk, x.hp, x.ha⟩
def D.Rk.noT (x : D.Rk) : D.Rk := ⟨x.k, x.p, x.a, x.n, D.zero, x.hk, x.hp, x.ha⟩
theorem rk_a {w : World} {g : Nat} {t : TypeId} {x : D.Rk} (h : Blk w g t (rS.v x)) : Blk (w.setCell ⟨g, 2, none⟩ (.int .i64 0)) g t (rS.v x.noA) := by
 have := h.put 2 (.int .i64 0)
 have e : (rS.v x).setIfInBounds 2 (.int .i64 0) = rS.v x.noA := by
  show Array.setIfInBounds (rcells x).toArray 2 _ = (rcells x.noA).toArray
  simp [rcells, D.Rk.noA]
 rwa [e] at this
abbrev z12_ : Array Value := #[.int .u8 0, .int .u8 0, .int .u8 0, .int .u8 0, .int .u8 0, .int .u8 0, .int .u8 0, .int .u8 0, .int .u8 0, .int .u8 0, .int .u8 0, .int .u8 0]
theorem blk_set' {w : World} {g : Nat} {t : TypeId} {cs cs' : Array Value} (h : Blk w g t cs) : Blk (w.setRow g cs') g t cs' := ⟨by have := h.out; simp [World.setRow, Array.getElem?_modify, this]⟩
theorem rk_n {w : World} {g : Nat} {ty : TypeId} {x : D.Rk} (h : Blk w g ty (rS.v x)) : (Nm.st 32 (.pointer (some ⟨g, 3, none⟩)) (.agg z12_)).run Tryz.prog w = .ok () (w.setRow g (rS.v x.noN)) ∧ Blk (w.setRow g (rS.v x.noN)) g ty (rS.v x.noN) := by
 have hs := run_storeCells_at (P := Tryz.prog) g 3 ty (bys Nm.D.zero.l) 0 (rS.v x) w h.out (by rw [rS.v_size, bys_len, Nm.D.zero.len]; decide) (bys_one _)
 have e : ((rS.v x).toList.take (3 + 0) ++ bys Nm.D.zero.l ++ (rS.v x).toList.drop (3 + 0 + (bys Nm.D.zero.l).length)).toArray = rS.v x.noN := by
  rw [bys_len, Nm.D.zero.len]
  show ((rcells x).take 3 ++ bys Nm.D.zero.l ++ (rcells x).drop 15).toArray = (rcells x.noN).toArray
  have h1 : (rcells x).drop 15 = bys x.t.l := by
   show (bys x.n.l ++ bys x.t.l).drop 12 = _
   rw [show 12 = (bys x.n.l).length by rw [bys_len, x.n.len], List.drop_left]
  rw [h1]
  rfl
 rw [e] at hs
 refine ⟨?_, blk_set' h⟩
 simp only [Nm.st, Instr.storeAt, Instr.sureAddr, Sem.run_bind, Sem.run_pure, Result.andThen_ok]
 have hi : (Tryz.prog.info? 32).map (·.size) = some 12 := by kernel_rfl
 cases hq : Tryz.prog.info? 32 with
 | none => simp [hq] at hi
 | some i =>
  have hsz : i.size = 12 := by simpa [hq] using hi
  simp [storeVar, sizeOf, typeInfo, hq, Value.cells, hsz]
  exact hs
theorem rk_t {w : World} {g : Nat} {ty : TypeId} {x : D.Rk} (h : Blk w g ty (rS.v x)) : (st 61 (.pointer (some ⟨g, 15, none⟩)) (.agg z10)).run Tryz.prog w = .ok () (w.setRow g (rS.v x.noT)) ∧ Blk (w.setRow g (rS.v x.noT)) g ty (rS.v x.noT) := by
 have hs := run_storeCells_at (P := Tryz.prog) g 15 ty (bys D.zero.l) 0 (rS.v x) w h.out (by rw [rS.v_size, bys_len, D.zero.len]; decide) (bys_one _)
 have e : ((rS.v x).toList.take (15 + 0) ++ bys D.zero.l ++ (rS.v x).toList.drop (15 + 0 + (bys D.zero.l).length)).toArray = rS.v x.noT := by
  rw [bys_len, D.zero.len]
  show ((rcells x).take 15 ++ bys D.zero.l ++ (rcells x).drop 25).toArray = (rcells x.noT).toArray
  have hl : (rcells x).length = 25 := rS.len x
  have h1 : (rcells x).take 15 = .int .i64 x.k :: .int .i64 x.p :: .int .i64 x.a :: bys x.n.l := by
   show Value.int .i64 x.k :: Value.int .i64 x.p :: Value.int .i64 x.a :: (bys x.n.l ++ bys x.t.l).take 12 = _
   rw [show 12 = (bys x.n.l).length by rw [bys_len, x.n.len], List.take_left]
  rw [h1, List.drop_of_length_le (by omega), List.append_nil]
  rfl
 rw [e] at hs
 refine ⟨?_, blk_set' h⟩
 simp only [st, Instr.storeAt, Instr.sureAddr, Sem.run_bind, Sem.run_pure, Result.andThen_ok]
 have hi : (Tryz.prog.info? 61).map (·.size) = some 10 := by kernel_rfl
 cases hq : Tryz.prog.info? 61 with
 | none => simp [hq] at hi
 | some i =>
  have hsz : i.size = 10 := by simpa [hq] using hi
  simp [storeVar, sizeOf, typeInfo, hq, Value.cells, hsz]
  exact hs

end Go.Proofs.YtjlaffgbmcpldaaGreatDoor
