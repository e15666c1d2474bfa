/-
  Trees by bits: what is told of them in order: those of a prefix, the one behind a key, the bits at which a key leaves others; lists in order. No program is spoken of.
-/
import Derived.Test.YtnggojnfppehpaaCrm
set_option linter.unusedVariables false
set_option linter.unusedSimpArgs false
set_option linter.unusedSectionVars false
namespace Go.Proofs.Ytnggojnfppehpaa
namespace Cr
variable {α : Type} [Bits α] [DecidableEq α]
namespace Tr
/-- Those that begin as a key does stand where its bits lead. -/
theorem sub_has {k : α} {d : Nat} (hd : d ≤ 200) : ∀ {t : Tr α}, t.wf → (t.ls.filter (fun e => decide (d ≤ par e.1 k))) = (t.sub k d).ls.filter (fun e => decide (d ≤ par e.1 k))
  | lf _ _ _, _ => rfl
  | br a b l r, h => by
    obtain ⟨hb, hl, hr, hag, wl, wr⟩ := h
    simp only [sub]
    split
    · rename_i hbd
      split
      · rename_i hk
        rw [ls, List.filter_append, sub_has hd wr]
        have : l.ls.filter (fun e => decide (d ≤ par e.1 k)) = [] := by
          rw [List.filter_eq_nil_iff]
          intro e he
          have : par e.1 k ≤ b := par_up (by rw [hl e he, hk]; decide)
          simp only [decide_eq_true_eq]; omega
        rw [this, List.nil_append]
      · rename_i hk
        rw [ls, List.filter_append, sub_has hd wl]
        have : r.ls.filter (fun e => decide (d ≤ par e.1 k)) = [] := by
          rw [List.filter_eq_nil_iff]
          intro e he
          have : par e.1 k ≤ b := par_up (by rw [hr e he]; intro c; exact hk c.symm)
          simp only [decide_eq_true_eq]; omega
        rw [this, List.append_nil]
    · rfl
theorem sub_all {k : α} {d : Nat} (hd : d ≤ 200) {t : Tr α} (h : t.wf) (hh : d ≤ par (t.sub k d).hd.1 k) : ∀ e ∈ (t.sub k d).ls, d ≤ par e.1 k := by
  intro e he
  have hw := sub_wf k d h
  have hb := sub_bit (k := k) hd t
  refine par_ge hd fun i hi => ?_
  rw [agree hw e he _ (hd_mem _) i (by omega)]
  exact par_eq (by omega)
/-- Where the first one there begins so: all of them; else none. -/
theorem pre_yes {k : α} {d : Nat} (hd : d ≤ 200) {t : Tr α} (h : t.wf) (hh : d ≤ par (t.sub k d).hd.1 k) : t.ls.filter (fun e => decide (d ≤ par e.1 k)) = (t.sub k d).ls := by
  rw [sub_has hd h, List.filter_eq_self]
  intro e he
  exact decide_eq_true (sub_all hd h hh e he)
theorem pre_no {k : α} {d : Nat} (hd : d ≤ 200) {t : Tr α} (h : t.wf) (hh : ¬ d ≤ par (t.sub k d).hd.1 k) : t.ls.filter (fun e => decide (d ≤ par e.1 k)) = [] := by
  rw [sub_has hd h, List.filter_eq_nil_iff]
  intro e he
  simp only [decide_eq_true_eq]
  intro c
  refine hh (par_ge hd fun i hi => ?_)
  have hw := sub_wf k d h
  have hb := sub_bit (k := k) hd t
  rw [agree hw _ (hd_mem _) e he i (by omega)]
  exact par_eq (by omega)
/-- The tree behind a key: the right side of the last node ahead of a bit past which the key goes left. -/
def beh (k : α) (d : Nat) : Tr α → Option (Tr α) → Option (Tr α)
  | lf _ _ _, o => o
  | br _ b l r, o => if b < d then (if Bits.bt k b then r.beh k d o else l.beh k d (some r)) else o
def hdo : Option (Tr α) → Option (α × Int)
  | none => none
  | some t => some t.hd
theorem find_none {p : α × Int → Bool} {l : List (α × Int)} (h : ∀ e ∈ l, p e = false) : l.find? p = none := by
  rw [List.find?_eq_none]; intro e he; rw [h e he]; decide
theorem find_hd {p : α × Int → Bool} {t : Tr α} (h : p t.hd = true) : t.ls.find? p = some t.hd := by
  have := t.hd_ls
  cases ht : t.ls with
  | nil => exact absurd ht t.ls_ne
  | cons e l => rw [ht] at this; injection this with this; rw [List.find?_cons, this, h]
theorem beh_find {k : α} {d : Nat} : ∀ {t : Tr α} {o : Option (Tr α)}, t.wf → par (t.near k).hd.1 k = d → (d = 200 ∨ d < 200 ∧ Bits.bt k d = true) → (t.ls.find? (fun e => lt k e.1)).or (hdo o) = hdo (t.beh k d o)
  | lf a x v, o, h, hd, hk => by
    have : lt k x = false := by
      have hd : par x k = d := hd
      rcases hk with hk | ⟨h1, h2⟩
      · rw [hk] at hd; obtain rfl := par_all hd; exact lt_irr x
      · exact not_lt_of h1 (fun i hi => (par_eq (by omega)).symm) h2 (by
          have := par_ne (x := x) (y := k) (by omega)
          rw [hd, h2] at this
          cases hb : Bits.bt x d
          · rfl
          · exact absurd hb this)
    simp [ls, this, beh]
  | br a b l r, o, h, hd, hk => by
    have hh := h
    have hn := near_mem k (br a b l r)
    obtain ⟨hb, hl, hr, hag, wl, wr⟩ := h
    simp only [beh]
    split
    · rename_i hbd
      have hkn : ∀ e ∈ l.ls ++ r.ls, ∀ i, i < b → Bits.bt k i = Bits.bt e.1 i := fun e he i hi => by
        rw [hag e he _ hn i hi]; exact (par_eq (by omega)).symm
      split
      · rename_i hkb
        have hd' : par (r.near k).hd.1 k = d := by simpa only [near, hkb, if_true] using hd
        rw [← beh_find wr hd' hk, ls, List.find?_append, find_none (l := l.ls), Option.none_or]
        intro e he
        exact not_lt_of hb (hkn e (List.mem_append_left _ he)) hkb (hl e he)
      · rename_i hkb
        have hd' : par (l.near k).hd.1 k = d := by simpa only [near, hkb, Bool.false_eq_true, if_false] using hd
        have hr1 : lt k r.hd.1 = true := lt_of hb (hkn _ (List.mem_append_right _ r.hd_mem)) (by simpa using hkb) (hr _ r.hd_mem)
        rw [← beh_find wl hd' hk, ls, List.find?_append, find_hd (t := r) hr1, Option.or_assoc]
        rfl
    · rename_i hbd
      have hl2 : d < 200 := by omega
      have hp := sub_par hh hd hl2
      simp only [sub, if_neg hbd] at hp
      have hk' : Bits.bt k d = true := by rcases hk with c | c; omega; exact c.2
      rw [find_none, Option.none_or]
      intro e he
      have he2 := hp e he
      refine not_lt_of hl2 (fun i hi => (par_eq (by omega)).symm) hk' ?_
      have := par_ne (x := e.1) (y := k) (by omega)
      rw [he2, hk'] at this
      cases c : Bits.bt e.1 d
      · rfl
      · exact absurd c this
/-- Where a key parts to the left: all that part there are behind it, and what stands ahead of them is ahead of it. -/
theorem sub_find {k : α} {d : Nat} (hl : d < 200) (hk : Bits.bt k d = false) : ∀ {t : Tr α}, t.wf → par (t.near k).hd.1 k = d → t.ls.find? (fun e => lt k e.1) = some (t.sub k d).hd
  | lf a x v, h, hd => by
    have hd : par x k = d := hd
    have : lt k x = true := lt_of hl (fun i hi => (par_eq (by omega)).symm) hk (by
      have := par_ne (x := x) (y := k) (by omega)
      rw [hd, hk] at this
      cases hb : Bits.bt x d
      · exact absurd hb this
      · rfl)
    simp [ls, this, sub, Tr.hd]
  | br a b l r, h, hd => by
    have hh := h
    have hn := near_mem k (br a b l r)
    obtain ⟨hb, hl', hr, hag, wl, wr⟩ := h
    by_cases hbd : b < d
    · have hkn : ∀ e ∈ l.ls ++ r.ls, ∀ i, i < b → Bits.bt k i = Bits.bt e.1 i := fun e he i hi => by
        rw [hag e he _ hn i hi]; exact (par_eq (by omega)).symm
      simp only [sub, if_pos hbd]
      split
      · rename_i hkb
        have hd' : par (r.near k).hd.1 k = d := by simpa only [near, hkb, if_true] using hd
        rw [ls, List.find?_append, find_none (l := l.ls), Option.none_or, sub_find hl hk wr hd']
        intro e he
        exact not_lt_of hb (hkn e (List.mem_append_left _ he)) hkb (hl' e he)
      · rename_i hkb
        have hd' : par (l.near k).hd.1 k = d := by simpa only [near, hkb, Bool.false_eq_true, if_false] using hd
        rw [ls, List.find?_append, sub_find hl hk wl hd']
        rfl
    · have hp := sub_par hh hd hl
      simp only [sub, if_neg hbd] at hp ⊢
      refine find_hd ?_
      have he2 := hp _ (hd_mem _)
      refine lt_of hl (fun i hi => (par_eq (by omega)).symm) hk ?_
      have := par_ne (x := (br a b l r).hd.1) (y := k) (by omega)
      rw [he2, hk] at this
      cases c : Bits.bt (br a b l r).hd.1 d
      · exact absurd c this
      · rfl
/-- The nodes past which a key's bits ahead of one lead. -/
def path (k : α) (d : Nat) : Tr α → List (Tr α)
  | lf _ _ _ => []
  | br a b l r => if b < d then br a b l r :: (if Bits.bt k b then r.path k d else l.path k d) else []
def bits (k : α) (d : Nat) (t : Tr α) : List Nat := (t.path k d).map Tr.bit
theorem bits_br {k : α} {d a b : Nat} {l r : Tr α} : (br a b l r).bits k d = if b < d then b :: (if Bits.bt k b then r.bits k d else l.bits k d) else [] := by
  unfold bits
  simp only [path]
  split
  · split <;> simp [bit]
  · rfl
theorem bits_ge {k : α} {d : Nat} : ∀ {t : Tr α}, t.wf → ∀ b ∈ t.bits k d, t.bit ≤ b
  | lf _ _ _, _, b, hb => by simp [bits, path] at hb
  | br a c l r, h, b, hb => by
    have hk := kids h
    rw [bits_br] at hb
    split at hb
    · rcases List.mem_cons.1 hb with rfl | hb
      · exact Nat.le_refl _
      · split at hb
        · have := bits_ge h.2.2.2.2.2 b hb; simp only [bit]; omega
        · have := bits_ge h.2.2.2.2.1 b hb; simp only [bit]; omega
    · simp at hb
theorem bits_up {k : α} {d : Nat} : ∀ {t : Tr α}, t.wf → (t.bits k d).Pairwise (· < ·)
  | lf _ _ _, _ => by simp [bits, path]
  | br a c l r, h => by
    have hk := kids h
    rw [bits_br]
    split
    · rw [List.pairwise_cons]
      refine ⟨fun b hb => ?_, ?_⟩
      · split at hb
        · have := bits_ge h.2.2.2.2.2 b hb; omega
        · have := bits_ge h.2.2.2.2.1 b hb; omega
      · split
        · exact bits_up h.2.2.2.2.2
        · exact bits_up h.2.2.2.2.1
    · exact List.Pairwise.nil
theorem bits_mem {k : α} {b : Nat} (hb : b < 200) : ∀ {t : Tr α}, t.wf → (t.near k).hd.1 = k → (b ∈ t.bits k 200 ↔ ∃ e ∈ t.ls, par e.1 k = b)
  | lf a x v, _, hn => by
    have : x = k := hn
    subst this
    simp only [bits, path, List.map_nil, List.not_mem_nil, ls, List.mem_singleton, false_iff]
    rintro ⟨e, rfl, he⟩
    rw [par_self] at he; omega
  | br a c l r, h, hn => by
    have hm := near_mem k (br a c l r)
    obtain ⟨hc, hl, hr, hag, wl, wr⟩ := h
    have hk : ∀ e ∈ l.ls ++ r.ls, ∀ i, i < c → Bits.bt e.1 i = Bits.bt k i := fun e he i hi => by rw [hag e he _ hm i hi, hn]
    rw [bits_br, if_pos hc, List.mem_cons]
    split
    · rename_i hkc
      simp only [near, hkc, if_true] at hn
      have e1 : ∀ e ∈ l.ls, par e.1 k = c := fun e he => par_of hc (hk e (List.mem_append_left _ he)) (by rw [hl e he, hkc]; decide)
      rw [bits_mem hb wr hn]
      constructor
      · rintro (rfl | ⟨e, he, hp⟩)
        · exact ⟨l.hd, List.mem_append_left _ l.hd_mem, e1 _ l.hd_mem⟩
        · exact ⟨e, List.mem_append_right _ he, hp⟩
      · rintro ⟨e, he, hp⟩
        rcases List.mem_append.1 he with he | he
        · exact .inl (by rw [← hp, e1 e he])
        · exact .inr ⟨e, he, hp⟩
    · rename_i hkc
      have hkc : Bits.bt k c = false := by simpa using hkc
      simp only [near, hkc, Bool.false_eq_true, if_false] at hn
      have e1 : ∀ e ∈ r.ls, par e.1 k = c := fun e he => par_of hc (hk e (List.mem_append_right _ he)) (by rw [hr e he, hkc]; decide)
      rw [bits_mem hb wl hn]
      constructor
      · rintro (rfl | ⟨e, he, hp⟩)
        · exact ⟨r.hd, List.mem_append_right _ r.hd_mem, e1 _ r.hd_mem⟩
        · exact ⟨e, List.mem_append_left _ he, hp⟩
      · rintro ⟨e, he, hp⟩
        rcases List.mem_append.1 he with he | he
        · exact .inr ⟨e, he, hp⟩
        · exact .inl (by rw [← hp, e1 e he])
theorem bits_lt {k : α} {d : Nat} : ∀ {t : Tr α}, t.wf → ∀ b ∈ t.bits k d, b < 200
  | lf _ _ _, _, b, hb => by simp [bits, path] at hb
  | br a c l r, h, b, hb => by
    rw [bits_br] at hb
    split at hb
    · rcases List.mem_cons.1 hb with rfl | hb
      · exact h.1
      · split at hb
        · exact bits_lt h.2.2.2.2.2 b hb
        · exact bits_lt h.2.2.2.2.1 b hb
    · simp at hb
end Tr

/-- Two rising rows with the same members are the same. -/
theorem up_eq {β : Type} {R : β → β → Prop} (irr : ∀ x, ¬ R x x) (asy : ∀ {x y}, R x y → ¬ R y x) : ∀ {l m : List β}, l.Pairwise R → m.Pairwise R → (∀ x, x ∈ l ↔ x ∈ m) → l = m
  | [], [], _, _, _ => rfl
  | [], y :: m, _, _, h => absurd ((h y).2 (List.mem_cons_self ..)) (by simp)
  | x :: l, [], _, _, h => absurd ((h x).1 (List.mem_cons_self ..)) (by simp)
  | x :: l, y :: m, h1, h2, h => by
    rw [List.pairwise_cons] at h1 h2
    have e : x = y := by
      rcases List.mem_cons.1 ((h x).1 (List.mem_cons_self ..)) with c | c
      · exact c
      · rcases List.mem_cons.1 ((h y).2 (List.mem_cons_self ..)) with c' | c'
        · exact c'.symm
        · exact absurd (h1.1 y c') (asy (h2.1 x c))
    subst e
    rw [up_eq irr asy h1.2 h2.2 fun z => ?_]
    have := h z
    simp only [List.mem_cons] at this
    constructor
    · intro hz
      rcases this.1 (.inr hz) with rfl | c
      · exact absurd (h1.1 z hz) (irr z)
      · exact c
    · intro hz
      rcases this.2 (.inr hz) with rfl | c
      · exact absurd (h2.1 z hz) (irr z)
      · exact c
/-- Lists in the order of keys. -/
def Up (l : List (α × Int)) : Prop := l.Pairwise (fun e f => lt e.1 f.1 = true)
theorem Up.eq {l m : List (α × Int)} (h : Up l) (k : Up m) (e : ∀ x, x ∈ l ↔ x ∈ m) : l = m :=
  up_eq (fun x c => by rw [lt_irr] at c; cases c) (fun c c' => by rw [lt_asym c] at c'; cases c') h k e
theorem Up.one {l : List (α × Int)} (h : Up l) {k : α} {u v : Int} (hu : (k, u) ∈ l) (hv : (k, v) ∈ l) : u = v := by
  induction l with
  | nil => cases hu
  | cons e l ih =>
    have h2 := List.pairwise_cons.1 h
    rcases List.mem_cons.1 hu with eu | hu
    · rcases List.mem_cons.1 hv with ev | hv
      · have := eu.trans ev.symm; injection this
      · have := h2.1 _ hv; rw [← eu, lt_irr] at this; cases this
    · rcases List.mem_cons.1 hv with ev | hv
      · have := h2.1 _ hu; rw [← ev, lt_irr] at this; cases this
      · exact ih h2.2 hu hv
/-- Is a key there? -/
def has (k : α) (l : List (α × Int)) : Bool := l.any (fun e => decide (e.1 = k))
theorem has_iff {k : α} {l : List (α × Int)} : has k l = true ↔ ∃ v, (k, v) ∈ l := by
  simp only [has, List.any_eq_true, decide_eq_true_eq]
  constructor
  · rintro ⟨⟨x, v⟩, he, rfl⟩; exact ⟨v, he⟩
  · rintro ⟨v, hv⟩; exact ⟨_, hv, rfl⟩
/-- The number by a key. -/
def get (k : α) (l : List (α × Int)) : Option Int := (l.find? (fun e => decide (e.1 = k))).map (·.2)
theorem get_some {k : α} {l : List (α × Int)} (h : Up l) {v : Int} (hv : (k, v) ∈ l) : get k l = some v := by
  unfold get
  cases hf : l.find? (fun e => decide (e.1 = k)) with
  | none =>
    rw [List.find?_eq_none] at hf
    exact absurd (decide_eq_true rfl) (hf _ hv)
  | some e =>
    have h1 := List.mem_of_find?_eq_some hf
    have h2 := List.find?_some hf
    obtain ⟨x, u⟩ := e
    simp only [decide_eq_true_eq] at h2
    subst h2
    rw [Option.map_some, h.one h1 hv]
theorem get_none {k : α} {l : List (α × Int)} (h : has k l = false) : get k l = none := by
  unfold get
  rw [List.find?_eq_none.2]
  · rfl
  · intro e he
    simp only [decide_eq_true_eq]
    intro c
    have : has k l = true := has_iff.2 ⟨e.2, by rw [← c]; exact he⟩
    rw [h] at this; cases this
theorem get_has {k : α} {l : List (α × Int)} : (get k l).isSome = has k l := by
  unfold get has
  rw [Option.isSome_map, Bool.eq_iff_iff, List.find?_isSome, List.any_eq_true]
/-- A number put in by a key. -/
def put (k : α) (v : Int) : List (α × Int) → List (α × Int)
  | [] => [(k, v)]
  | e :: l => if lt e.1 k then e :: put k v l else if e.1 = k then (k, v) :: l else (k, v) :: e :: l
theorem put_mem {k : α} {v : Int} : ∀ {l : List (α × Int)}, Up l → ∀ x, x ∈ put k v l ↔ x = (k, v) ∨ (x ∈ l ∧ x.1 ≠ k)
  | [], _, x => by simp [put]
  | e :: l, h, x => by
    have h2 := List.pairwise_cons.1 h
    unfold put
    split
    · rename_i hl
      rw [List.mem_cons, put_mem h2.2, List.mem_cons]
      constructor
      · rintro (rfl | rfl | ⟨c, c'⟩)
        · exact .inr ⟨.inl rfl, lt_ne hl⟩
        · exact .inl rfl
        · exact .inr ⟨.inr c, c'⟩
      · rintro (rfl | ⟨rfl | c, c'⟩)
        · exact .inr (.inl rfl)
        · exact .inl rfl
        · exact .inr (.inr ⟨c, c'⟩)
    · rename_i hl
      have hfar : ∀ y ∈ l, e.1 = k ∨ lt k e.1 = true → y.1 ≠ k := by
        intro y hy c c'
        have := h2.1 y hy
        rw [c'] at this
        rcases c with c | c
        · rw [c, lt_irr] at this; cases this
        · rw [lt_asym c] at this; cases this
      split
      · rename_i he
        rw [List.mem_cons, List.mem_cons]
        constructor
        · rintro (rfl | c)
          · exact .inl rfl
          · exact .inr ⟨.inr c, hfar x c (.inl he)⟩
        · rintro (rfl | ⟨rfl | c, c'⟩)
          · exact .inl rfl
          · exact absurd he c'
          · exact .inr c
      · rename_i he
        have hk : lt k e.1 = true := lt_tot he (by simpa using hl)
        rw [List.mem_cons, List.mem_cons]
        constructor
        · rintro (rfl | rfl | c)
          · exact .inl rfl
          · exact .inr ⟨.inl rfl, he⟩
          · exact .inr ⟨.inr c, hfar x c (.inr hk)⟩
        · rintro (rfl | ⟨rfl | c, c'⟩)
          · exact .inl rfl
          · exact .inr (.inl rfl)
          · exact .inr (.inr c)
theorem put_up {k : α} {v : Int} : ∀ {l : List (α × Int)}, Up l → Up (put k v l)
  | [], _ => by simp [put, Up]
  | e :: l, h => by
    have h2 := List.pairwise_cons.1 h
    unfold put
    split
    · rename_i hl
      refine List.pairwise_cons.2 ⟨fun x hx => ?_, put_up h2.2⟩
      rcases (put_mem h2.2 x).1 hx with rfl | ⟨c, _⟩
      · exact hl
      · exact h2.1 x c
    · rename_i hl
      split
      · rename_i he
        refine List.pairwise_cons.2 ⟨fun x hx => ?_, h2.2⟩
        have := h2.1 x hx
        rwa [he] at this
      · rename_i he
        have hk : lt k e.1 = true := lt_tot he (by simpa using hl)
        refine List.pairwise_cons.2 ⟨fun x hx => ?_, h⟩
        rcases List.mem_cons.1 hx with rfl | hx
        · exact hk
        · exact lt_trans hk (h2.1 x hx)
/-- Without a key. -/
def del (k : α) (l : List (α × Int)) : List (α × Int) := l.filter (fun e => decide (e.1 ≠ k))
theorem del_up {k : α} {l : List (α × Int)} (h : Up l) : Up (del k l) := List.Pairwise.filter _ h
theorem del_mem {k : α} {l : List (α × Int)} (x : α × Int) : x ∈ del k l ↔ x ∈ l ∧ x.1 ≠ k := by simp [del]
theorem del_not {k : α} {l : List (α × Int)} (h : has k l = false) : del k l = l := by
  rw [del, List.filter_eq_self]
  intro e he
  simp only [decide_eq_true_eq]
  intro c
  have : has k l = true := has_iff.2 ⟨e.2, by rw [← c]; exact he⟩
  rw [h] at this; cases this
theorem has_del (k : α) (l : List (α × Int)) : has k (del k l) = false := by
  cases h : has k (del k l)
  · rfl
  · obtain ⟨v, hv⟩ := has_iff.1 h
    exact absurd rfl ((del_mem _).1 hv).2
/-- How many there are behind a put. -/
theorem put_new {k : α} {v : Int} : ∀ {l : List (α × Int)}, Up l → has k l = false → (put k v l).length = l.length + 1
  | [], _, _ => rfl
  | e :: l, h, hn => by
    have h2 := List.pairwise_cons.1 h
    simp only [has, List.any_cons, Bool.or_eq_false_iff, decide_eq_false_iff_not] at hn
    unfold put
    split
    · simp only [List.length_cons, put_new h2.2 hn.2]
    · rw [if_neg hn.1]; rfl
theorem put_old {k : α} {v : Int} : ∀ {l : List (α × Int)}, Up l → has k l = true → put k v l = l.map (fun e => if e.1 = k then (e.1, v) else e)
  | [], _, h => by simp [has] at h
  | e :: l, h, hn => by
    have h2 := List.pairwise_cons.1 h
    unfold put
    split
    · rename_i hl
      have hne := lt_ne hl
      simp only [has, List.any_cons, Bool.or_eq_true, decide_eq_true_eq] at hn
      rw [List.map_cons, if_neg hne, put_old h2.2 (hn.resolve_left hne)]
    · rename_i hl
      have hk : lt k e.1 = true → False := fun hk => by
        obtain ⟨v, hv⟩ := has_iff.1 hn
        rcases List.mem_cons.1 hv with rfl | hv
        · rw [lt_irr] at hk; cases hk
        · have := lt_asym (h2.1 _ hv); simp only [hk] at this; cases this
      have he : e.1 = k := Classical.byContradiction fun he => hk (lt_tot he (by simpa using hl))
      rw [if_pos he, List.map_cons, if_pos he, he]
      congr 1
      conv => lhs; rw [← List.map_id l]
      refine List.map_congr_left fun x hx => ?_
      rw [if_neg]; rfl
      intro c
      have := h2.1 x hx
      rw [he, c, lt_irr] at this; cases this
theorem del_len {k : α} : ∀ {l : List (α × Int)}, Up l → has k l = true → (del k l).length + 1 = l.length
  | [], _, h => by simp [has] at h
  | e :: l, h, hn => by
    have h2 := List.pairwise_cons.1 h
    by_cases he : e.1 = k
    · have : del k l = l := del_not (by
        cases c : has k l
        · rfl
        · obtain ⟨v, hv⟩ := has_iff.1 c
          have := h2.1 _ hv; rw [he, lt_irr] at this; cases this)
      have e2 : del k (e :: l) = del k l := by simp [del, he]
      rw [e2, this]; rfl
    · simp only [has, List.any_cons, Bool.or_eq_true, decide_eq_true_eq] at hn
      have e2 : del k (e :: l) = e :: del k l := by simp [del, he]
      rw [e2, List.length_cons, List.length_cons, del_len h2.2 (hn.resolve_left he)]
/-- The first one behind a key; the bits at which a key leaves others. -/
def nxt (k : α) (l : List (α × Int)) : Option α := (l.find? (fun e => lt k e.1)).map (·.1)
def brs (k : α) (l : List (α × Int)) : List Nat := if has k l then (List.range 200).filter (fun b => l.any (fun e => decide (par e.1 k = b))) else []
theorem brs_bits {k : α} {t : Tr α} (h : t.wf) (hk : (t.near k).hd.1 = k) : t.bits k 200 = brs k t.ls := by
  unfold brs
  rw [if_pos (has_iff.2 ((Tr.near_is h).1 hk))]
  refine up_eq (R := (· < ·)) (fun x c => Nat.lt_irrefl x c) (fun c c' => by omega) (Tr.bits_up h) ?_ fun b => ?_
  · exact List.Pairwise.filter _ List.pairwise_lt_range
  · rw [List.mem_filter, List.mem_range]
    constructor
    · intro hb
      have hlt := Tr.bits_lt h b hb
      obtain ⟨e, he, hp⟩ := (Tr.bits_mem hlt h hk).1 hb
      exact ⟨hlt, List.any_eq_true.2 ⟨e, he, decide_eq_true hp⟩⟩
    · rintro ⟨hlt, hb⟩
      obtain ⟨e, he, hp⟩ := List.any_eq_true.1 hb
      exact (Tr.bits_mem hlt h hk).2 ⟨e, he, of_decide_eq_true hp⟩
end Cr
end Go.Proofs.Ytnggojnfppehpaa
