/-
  Add, Del, Has and Len of a set.
-/
import Derived.Test.YtgfpdfafkimkcaaSet
import Derived.StillTailTactics
set_option linter.unusedVariables false
set_option linter.unusedSimpArgs false
namespace Go.Proofs.Ytgfpdfafkimkcaa
open Go.RowKit Go.Sort
open Go.Maps (Keyed)
attribute [local go_sem ↓] Go.wp_at_zero Go.wp_at_succ ld_a ld_n st_a st_n eq_a eq_n ne_a ne_n bsl_a bsl_n lv_a lv_n
attribute [local go_sem] run_ld_a run_ld_n run_st_n run_eq_a run_eq_n run_ne_a run_ne_n run_bsl1_a run_bsl1_n run_bsl2 run_lv_a run_lv_n st_z ne_z rd_new rd_old rd_drew rd_drewN rd_ext

/-- Of what was there only the blocks S have turned. -/
structure Only (S : Nat → Prop) (w w' : World) : Prop where
  os : w'.os = w.os
  tape : w'.tape = w.tape
  output : w'.output = w.output
  size : w.heap.size ≤ w'.heap.size
  block : ∀ i, i < w.heap.size → ¬ S i → w'.heap[i]? = w.heap[i]?
section
variable {S T : Nat → Prop} {a b c w w' : World}
theorem Only.self (S : Nat → Prop) (w : World) : Only S w w := ⟨rfl, rfl, rfl, Nat.le_refl _, fun _ _ _ => rfl⟩
theorem Only.trans (h : Only S a b) (k : Only T b c) (hT : ∀ i, T i → S i ∨ a.heap.size ≤ i) : Only S a c :=
  ⟨k.os.trans h.os, k.tape.trans h.tape, k.output.trans h.output, Nat.le_trans h.size k.size, fun i hi hS =>
    (k.block i (Nat.lt_of_lt_of_le hi h.size) (fun t => (hT i t).elim hS (fun h => absurd hi (Nat.not_lt.2 h)))).trans (h.block i hi hS)⟩
theorem Only.more (h : Only S a b) (hT : ∀ i, S i → T i) : Only T a b := ⟨h.os, h.tape, h.output, h.size, fun i hi hS => h.block i hi fun s => hS (hT i s)⟩
theorem only_below (h : Below w.heap.size w w') : Only S w w' := ⟨h.os, h.tape, h.output, h.size, fun i hi _ => h.block i hi⟩
theorem Only.on (h : Only S a b) (k : Below b.heap.size b c) : Only S a c := h.trans (T := fun _ => False) (only_below k) fun _ hf => hf.elim
theorem Only.off (h : Below a.heap.size a b) (k : Only S b c) : Only S a c := (only_below (S := S) h).trans k fun _ hs => .inl hs
theorem Only.below {B : Nat} (h : Only S w w') (hB : B ≤ w.heap.size) (hS : ∀ i, S i → B ≤ i) : Below B w w' :=
  ⟨h.os, h.tape, h.output, h.size, fun i hi => h.block i (Nat.lt_of_lt_of_le hi hB) fun s => absurd hi (Nat.not_lt.2 (hS i s))⟩
theorem Only.set {p : Addr} (h : Only S a b) (hp : S p.block ∨ a.heap.size ≤ p.block) (u : Value) : Only S a (b.setCell p u) :=
  ⟨h.os, h.tape, h.output, by simpa [World.setCell] using h.size, fun i hi hS => (Below.heap_setCell b p u i (by
    rintro rfl
    rcases hp with hp | hp
    · exact hS hp
    · omega)).trans (h.block i hi hS)⟩
theorem Only.grown {row : Option Nat} (h : Only S a b) (hg : b.grownBy c row) (hr : ∀ k, row = some k → S k ∨ a.heap.size ≤ k) : Only S a c :=
  h.trans (T := fun i => row = some i) ⟨hg.os, hg.tape, hg.output, hg.size, fun i hi hn => hg.block i hi (fun e => hn e.symm)⟩ fun i hi => hr i hi
theorem Only.alloc (h : Only S a b) (o : Obj) : Only S a (b.alloc o) := h.on ((Below.refl _ _).alloc (Nat.le_refl _) o)
theorem Only.drewN (h : Only S a b) (n : Nat) : Only S a (b.drewN n) := ⟨h.os, h.tape, h.output, h.size, h.block⟩
theorem Blk.only {g : Nat} {t : TypeId} {cs : Array Value} (h : Blk w g t cs) (k : Only S w w') (hg : ¬ S g) : Blk w' g t cs := ⟨(k.block g h.lt hg).trans h.out⟩
theorem Row.only {A : Option Addr} {n : Nat} {xs : List Value} (h : Row w A n xs) (k : Only S w w') (hA : ∀ ad, A = some ad → ¬ S ad.block) : Row w' A n xs := ⟨h.len, fun hn => by
  obtain ⟨ad, e, hl, hc⟩ := h.to hn
  refine ⟨ad, e, Nat.lt_of_lt_of_le hl k.size, fun j u hu => ?_⟩
  have : (ad.add j).block = ad.block := block_of_add ad j
  rw [← hc j u hu]
  exact World.cell?_of_block (w := w) (by rw [this]; exact k.block _ hl (hA ad e))⟩
end


theorem NRow.only {S : Nat → Prop} {w w' : World} {A : Option Addr} {n : Nat} {l : List D.Nm} (h : NRow w A n l) (k : Only S w w') (hA : ∀ ad, A = some ad → ¬ S ad.block) : NRow w' A n l := ⟨h.len, fun hn => by
  obtain ⟨ad, e, hl, hc⟩ := h.to hn
  exact ⟨ad, e, Nat.lt_of_lt_of_le hl k.size, fun i x hx => (hc i x hx).to (by rw [block_of_add]; exact k.block _ hl (hA ad e))⟩⟩

/-- A set's variable, and the map behind it. -/
structure SetP (base : Nat) (w : World) (p : Nat) (M : Option Nat) (L : List D.Nm) : Prop where
  blk : Blk w p 48 #[.map M]
  le : base ≤ p
  at_ : ∀ b, M = some b → MapAt w b L ∧ base ≤ b
  no : M = none → L = []
def Sf (p : Nat) (M : Option Nat) (i : Nat) : Prop := i = p ∨ M = some i
section
variable {base p : Nat} {w w' : World} {M : Option Nat} {L : List D.Nm}
theorem SetP.on (h : SetP base w p M L) (hb : Below w.heap.size w w') : SetP base w' p M L := ⟨h.blk.on hb, h.le, fun b e => ⟨(h.at_ b e).1.on hb, (h.at_ b e).2⟩, h.no⟩
theorem SetP.alloc (h : SetP base w p M L) (o : Obj) : SetP base (w.alloc o) p M L := h.on (below_alloc_ _ _)
theorem SetP.drewN (h : SetP base w p M L) (n : Nat) : SetP base (w.drewN n) p M L := h.on (below_drewN (Below.refl _ _) n)
theorem SetP.lt (h : SetP base w p M L) : ∀ i, Sf p M i → i < w.heap.size
  | _, .inl e => e ▸ h.blk.lt
  | i, .inr e => (h.at_ i e).1.lt
theorem SetP.ge (h : SetP base w p M L) : ∀ i, Sf p M i → base ≤ i
  | _, .inl e => e ▸ h.le
  | i, .inr e => (h.at_ i e).2
theorem SetP.off (h : SetP base w p M L) {g : Nat} {t : TypeId} {cs : Array Value} (hg : Blk w g t cs) (ht : t ≠ 48) : ¬ Sf p M g := by
  rintro (e | e)
  · exact hg.ne_ h.blk ht e
  · exact (h.at_ g e).1.no_cells hg rfl
theorem set_new (w : World) (base : Nat) (hb : base ≤ w.heap.size) : SetP base (w.alloc (.cells #[.map none] 48)) w.heap.size none [] :=
  ⟨Blk.new w _ _, hb, fun b e => (by cases e), fun _ => rfl⟩
end
/-- Where the map lies behind a call: where it lay, or in new memory. -/
def Nxt (H : Nat) (M M' : Option Nat) : Prop := M' = M ∨ ∃ b, M' = some b ∧ H ≤ b
theorem Sf.next {p H : Nat} {M M' : Option Nat} (h : Nxt H M M') : ∀ i, Sf p M' i → Sf p M i ∨ H ≤ i
  | _, .inl e => .inl (.inl e)
  | i, .inr e => by
    rcases h with rfl | ⟨b, rfl, hb⟩
    · exact .inl (.inr e)
    · injection e with e
      subst e
      exact .inr hb
theorem Nxt.trans {H H' : Nat} {M M' N : Option Nat} (h : Nxt H M M') (k : Nxt H' M' N) (hH : H ≤ H') : Nxt H M N := by
  rcases k with rfl | ⟨b, rfl, hb⟩
  · exact h
  · exact .inr ⟨b, rfl, Nat.le_trans hH hb⟩

/-- One name more. -/
def add1 (L : List D.Nm) (x : D.Nm) : List D.Nm := if D.right x = true ∧ x ∉ L ∧ L.length < 64 then D.ins L x else L
def adds (L : List D.Nm) (l : List D.Nm) : List D.Nm := l.foldl add1 L
def dels (L : List D.Nm) (l : List D.Nm) : List D.Nm := l.foldl D.wo L
theorem adds_next {L l : List D.Nm} {i : Nat} {x : D.Nm} (h : l[i]? = some x) : adds L (l.take (i + 1)) = add1 (adds L (l.take i)) x := by
  obtain ⟨h1, h2⟩ := List.getElem?_eq_some_iff.1 h
  rw [List.take_succ_eq_append_getElem h1, h2]
  simp [adds, List.foldl_append]
theorem dels_next {L l : List D.Nm} {i : Nat} {x : D.Nm} (h : l[i]? = some x) : dels L (l.take (i + 1)) = D.wo (dels L (l.take i)) x := by
  obtain ⟨h1, h2⟩ := List.getElem?_eq_some_iff.1 h
  rw [List.take_succ_eq_append_getElem h1, h2]
  simp [dels, List.foldl_append]
/-- Fit to be held: no name twice, at most 64. -/
structure Held (L : List D.Nm) : Prop where
  nodup : L.Nodup
  le : L.length ≤ 64
theorem held_nil : Held [] := ⟨List.nodup_nil, by simp⟩
theorem Held.add1 {L : List D.Nm} (h : Held L) (x : D.Nm) : Held (add1 L x) := by
  unfold Proofs.Ytgfpdfafkimkcaa.add1
  split
  · rename_i hx
    exact ⟨D.ins_nodup h.nodup hx.2.1, by rw [D.ins_len]; omega⟩
  · exact h
theorem Held.adds {L : List D.Nm} (l : List D.Nm) (h : Held L) : Held (adds L l) := by
  induction l generalizing L with
  | nil => exact h
  | cons x l ih => exact ih (h.add1 x)
theorem Held.wo {L : List D.Nm} (h : Held L) (x : D.Nm) : Held (D.wo L x) := ⟨D.wo_nodup h.nodup x, Nat.le_trans (List.length_filter_le _ _) h.le⟩
theorem Held.dels {L : List D.Nm} (l : List D.Nm) (h : Held L) : Held (dels L l) := by
  induction l generalizing L with
  | nil => exact h
  | cons x l ih => exact ih (h.wo x)
theorem add1_le (L : List D.Nm) (x : D.Nm) : L.length ≤ (add1 L x).length := by
  unfold add1
  split
  · rw [D.ins_len]; omega
  · exact Nat.le_refl _
theorem adds_le (L l : List D.Nm) : L.length ≤ (adds L l).length := by
  induction l generalizing L with
  | nil => exact Nat.le_refl _
  | cons x l ih => exact Nat.le_trans (add1_le L x) (ih _)
theorem dels_le (L l : List D.Nm) : (dels L l).length ≤ L.length := by
  induction l generalizing L with
  | nil => exact Nat.le_refl _
  | cons x l ih => exact Nat.le_trans (ih _) (List.length_filter_le _ _)
/-- The map behind a store. -/
theorem put_add {w : World} {b : Nat} {L : List D.Nm} (h : MapAt w b L) (hL : Held L) (x : D.Nm) (hr : D.right x = true) (h64 : L.length < 64) :
    ∃ w', (Instr.mapUpdate 46 (.map (some b)) (.agg (nc x)) (.agg #[])).run Try.prog w = .ok () w' ∧ MapAt w' b (add1 L x) ∧ w.grownBy w' (some b) := by
  refine h.put (by omega) x (add1 L x) (fun y => ?_) ?_
  · unfold add1
    by_cases hx : x ∈ L
    · rw [if_neg (fun h => h.2.1 hx)]
      exact ⟨.inr, fun h => h.elim (fun e => e ▸ hx) id⟩
    · rw [if_pos ⟨hr, hx, h64⟩]
      exact D.mem_ins
  · unfold add1
    by_cases hx : x ∈ L
    · rw [if_neg (fun h => h.2.1 hx), if_pos hx]
    · rw [if_pos ⟨hr, hx, h64⟩, if_neg hx, D.ins_len]

/-- What Add tells. -/
def Added (base p : Nat) (M : Option Nat) (L L' : List D.Nm) (w : World) (e : Ending) (w' : World) : Prop :=
  e = .returned (.int .i64 ((L'.length : Int) - (L.length : Int))) ∧ ∃ M', SetP base w' p M' L' ∧ Only (Sf p M) w w' ∧ Nxt w.heap.size M M'
set_option maxRecDepth 100000 in
set_option maxHeartbeats 1000000 in
theorem add_some (base p b : Nat) (A : Option Addr) (n c : Nat) (L l : List D.Nm) (w : World) (hs : SetP base w p (some b) L) (hL : Held L) (hl : NRow w A n l) (hA : ∀ ad, A = some ad → ¬ Sf p (some b) ad.block) (hn : n ≤ 1000) :
    Calls Try.prog 24 #[.pointer (some ⟨p, 0, none⟩), .slice A n c] w (Added base p (some b) L (adds L l) w) := by
  have he : ∀ W : World, (binOp .eql 46 (.map (some b)) (.map none)).run Try.prog W = .ok (.bool false) W := fun _ => rfl
  have c0 := hs.blk.cell
  have hm := (hs.at_ b rfl).1
  have hlen := hm.len
  have hpb : p ≠ b := hm.no_cells hs.blk
  have hbase := (hs.at_ b rfl).2
  have hple := hs.le
  have B0 := hs.blk
  clear hs
  go_enter Try.func24, Try.ntmps24
  go_wp2
  clear hlen he
  go_loopw [26] (fun i wr => ∃ k : Nat, k ≤ n ∧ i = .int .i64 k ∧ Blk wr p 48 #[.map (some b)] ∧ MapAt wr b (adds L (l.take k)) ∧ Only (Sf p (some b)) w wr) (fun i _ => n - (intOf i).toNat)
  case atStart => exact ⟨0, Nat.zero_le _, rfl, B0, hm, Only.self _ _⟩
  case round =>
    obtain ⟨k, hk, rfl, hb, hm', ho⟩ := hrel
    by_cases hlt : k < n
    · obtain ⟨x, hx⟩ := nat_lt (l := l) (i := k) (by rw [hl.len]; exact hlt)
      obtain ⟨ad, rfl, hadl, hr⟩ := (hl.only ho hA).rd hx
      have HN := adds_next (L := L) hx
      have HK := hL.adds (l.take k)
      obtain ⟨K, hK⟩ : ∃ K, adds L (l.take k) = K := ⟨_, rfl⟩
      rw [hK] at hm' HN HK
      have i1 : (k : Int) < (n : Int) := by omega
      have i0 : (0 : Int) ≤ (k : Int) := by omega
      have c1 := (hb.alloc (.cells (nc x) 23)).cell
      have len1 := (hm'.alloc (.cells (nc x) 23)).len
      have f1 := rd_new wr _ 23 x rfl
      have hr2 : rd wr (ad.add (k * 12)) = some x := hr
      have HR := right_any x
      clear hK hx
      by_cases h64 : K.length < 64
      · have j64 : (K.length : Int) < 64 := by omega
        cases hrt : D.right x
        · rw [hrt] at HR
          have CR := Lib.hid HR
          have HK2 : Kept (add1 K x = K) := ⟨by unfold add1; rw [if_neg (by simp [hrt])]⟩
          have HN2 := Lib.hid HN
          clear HR hrt HN
          go_wp2_with (go_at_call 13; (with_reducible refine (CR.out _).mono ?_); rintro e w2 ⟨rfl, b2⟩)
          go_roundw
          case rel => exact ⟨k + 1, by omega, by go_num, (hb.alloc _).on b2, by rw [HN2.out, HK2.out]; exact (hm'.alloc _).on b2, (ho.alloc _).on b2⟩
          case measure => simp [intOf]; omega
        · rw [hrt] at HR
          have CR := Lib.hid HR
          have HN2 := Lib.hid HN
          have HP := Lib.hid (fun W hm => put_add (w := W) (b := b) (L := K) hm HK x hrt h64)
          clear HR HN hrt
          go_wp2_with (go_at_call 13; (with_reducible refine (CR.out _).mono ?_); rintro e w2 ⟨rfl, b2⟩; have c2 := ((hb.alloc _).on b2).cell; have f2 := rd_on f1 b2)
          go_still_tail 6, (by kernel_rfl)
          change wpList _ _ _ _ _ w2.drew
          obtain ⟨w3, hput, hm3, hg3⟩ := HP.out w2.drew ((hm'.alloc (.cells (nc x) 23)).on b2).drew
          go_wp2
          go_roundw
          case rel => exact ⟨k + 1, by omega, by go_num, ((hb.alloc _).on b2).drew.grown hg3 (by intro e; injection e with e; exact hpb e), by rw [HN2.out]; exact hm3, (((ho.alloc _).on b2).on ((Below.refl _ _).drew)).grown hg3 (fun j hj => .inl (.inr hj))⟩
          case measure => simp [intOf]; omega
      · have j64 : (64 : Int) ≤ (K.length : Int) := by omega
        have HK2 : Kept (add1 K x = K) := ⟨by unfold add1; rw [if_neg (fun h => h64 h.2.2)]⟩
        have HN2 := Lib.hid HN
        clear HR HN
        go_wp2
        go_roundw
        case rel => exact ⟨k + 1, by omega, by go_num, hb.alloc _, by rw [HN2.out, HK2.out]; exact hm'.alloc _, ho.alloc _⟩
        case measure => simp [intOf]; omega
    · have e : l.take k = l := List.take_of_length_le (by rw [hl.len]; omega)
      rw [e] at hm'
      have hge := adds_le L l
      have H64 := (hL.adds l).le
      have c1 := hb.cell
      have len1 := hm'.len
      obtain ⟨K, hK⟩ : ∃ K, adds L l = K := ⟨_, rfl⟩
      have HKL : Kept (adds L l = K) := ⟨hK⟩
      rw [hK] at hm' hge len1 H64
      have h64 := hL.le
      have i1 : (n : Int) ≤ (k : Int) := by omega
      clear e hK
      go_wp2
      go_ret
      exact ⟨by rw [HKL.out]; rfl, some b, ⟨hb, hple, fun b' e => by injection e with e; subst e; rw [HKL.out]; exact ⟨hm', hbase⟩, fun e => by cases e⟩, ho, .inl rfl⟩

set_option maxRecDepth 100000 in
set_option maxHeartbeats 1000000 in
theorem add_none (base p : Nat) (A : Option Addr) (n c : Nat) (l : List D.Nm) (w : World) (hs : SetP base w p none []) (hl : NRow w A n l) (hA : ∀ ad, A = some ad → ¬ Sf p none ad.block) (hn : n ≤ 1000) :
    Calls Try.prog 24 #[.pointer (some ⟨p, 0, none⟩), .slice A n c] w (Added base p none [] (adds [] l) w) := by
  have he : ∀ W : World, (binOp .eql 46 (.map none) (.map none)).run Try.prog W = .ok (.bool true) W := fun _ => rfl
  have hmm := @run_makeMap Try.prog
  have c0 := hs.blk.cell
  have hple := hs.le
  have hpl := hs.blk.lt
  have hm : MapAt ((w.setCell ⟨p, 0, none⟩ (.map (some w.heap.size))).alloc (.map #[] 0)) w.heap.size [] := by
    have := map_new (w.setCell ⟨p, 0, none⟩ (.map (some w.heap.size)))
    rwa [World.size_setCell] at this
  have B0 := (hs.blk.set_ (.map (some w.heap.size))).alloc (.map #[] 0)
  have hpf := (hs.blk.alloc (.map #[] 0)).free
  have hpc := (hs.blk.alloc (.map #[] 0)).cell
  have c1 := B0.cell
  have len0 := hm.len
  have hO : Only (Sf p none) w ((w.setCell ⟨p, 0, none⟩ (.map (some w.heap.size))).alloc (.map #[] 0)) := ((Only.self (Sf p none) w).set (.inl (.inl rfl)) _).alloc _
  have hbase : base ≤ w.heap.size := Nat.le_trans hple (Nat.le_of_lt hpl)
  have hpb : p ≠ w.heap.size := Nat.ne_of_lt hpl
  clear hs
  go_enter Try.func24, Try.ntmps24
  go_wp2
  clear len0 he hmm hpf hpc c0 c1
  go_loopw [26] (fun i wr => ∃ k : Nat, k ≤ n ∧ i = .int .i64 k ∧ Blk wr p 48 #[.map (some w.heap.size)] ∧ MapAt wr w.heap.size (adds [] (l.take k)) ∧ Only (Sf p none) w wr) (fun i _ => n - (intOf i).toNat)
  case atStart => exact ⟨0, Nat.zero_le _, rfl, B0, hm, hO⟩
  case round =>
    obtain ⟨k, hk, rfl, hb, hm', ho⟩ := hrel
    by_cases hlt : k < n
    · obtain ⟨x, hx⟩ := nat_lt (l := l) (i := k) (by rw [hl.len]; exact hlt)
      obtain ⟨ad, rfl, hadl, hr⟩ := (hl.only ho hA).rd hx
      have HN := adds_next (L := []) hx
      have HK := held_nil.adds (l.take k)
      obtain ⟨K, hK⟩ : ∃ K, adds [] (l.take k) = K := ⟨_, rfl⟩
      rw [hK] at hm' HN HK
      have i1 : (k : Int) < (n : Int) := by omega
      have i0 : (0 : Int) ≤ (k : Int) := by omega
      have c1 := (hb.alloc (.cells (nc x) 23)).cell
      have len1 := (hm'.alloc (.cells (nc x) 23)).len
      have f1 := rd_new wr _ 23 x rfl
      have hr2 : rd wr (ad.add (k * 12)) = some x := hr
      have HR := right_any x
      clear hK hx
      by_cases h64 : K.length < 64
      · have j64 : (K.length : Int) < 64 := by omega
        cases hrt : D.right x
        · rw [hrt] at HR
          have CR := Lib.hid HR
          have HK2 : Kept (add1 K x = K) := ⟨by unfold add1; rw [if_neg (by simp [hrt])]⟩
          have HN2 := Lib.hid HN
          clear HR hrt HN
          go_wp2_with (go_at_call 13; (with_reducible refine (CR.out _).mono ?_); rintro e w2 ⟨rfl, b2⟩)
          go_roundw
          case rel => exact ⟨k + 1, by omega, by go_num, (hb.alloc _).on b2, by rw [HN2.out, HK2.out]; exact (hm'.alloc _).on b2, (ho.alloc _).on b2⟩
          case measure => simp [intOf]; omega
        · rw [hrt] at HR
          have CR := Lib.hid HR
          have HN2 := Lib.hid HN
          have HP := Lib.hid (fun W hm => put_add (w := W) (b := w.heap.size) (L := K) hm HK x hrt h64)
          clear HR HN hrt
          go_wp2_with (go_at_call 13; (with_reducible refine (CR.out _).mono ?_); rintro e w2 ⟨rfl, b2⟩; have c2 := ((hb.alloc _).on b2).cell; have f2 := rd_on f1 b2)
          go_still_tail 6, (by kernel_rfl)
          change wpList _ _ _ _ _ w2.drew
          obtain ⟨w3, hput, hm3, hg3⟩ := HP.out w2.drew ((hm'.alloc (.cells (nc x) 23)).on b2).drew
          go_wp2
          go_roundw
          case rel => exact ⟨k + 1, by omega, by go_num, ((hb.alloc _).on b2).drew.grown hg3 (by intro e; injection e with e; exact hpb e), by rw [HN2.out]; exact hm3, (((ho.alloc _).on b2).on ((Below.refl _ _).drew)).grown hg3 (fun j hj => .inr (by injection hj with hj; omega))⟩
          case measure => simp [intOf]; omega
      · have j64 : (64 : Int) ≤ (K.length : Int) := by omega
        have HK2 : Kept (add1 K x = K) := ⟨by unfold add1; rw [if_neg (fun h => h64 h.2.2)]⟩
        have HN2 := Lib.hid HN
        clear HR HN
        go_wp2
        go_roundw
        case rel => exact ⟨k + 1, by omega, by go_num, hb.alloc _, by rw [HN2.out, HK2.out]; exact hm'.alloc _, ho.alloc _⟩
        case measure => simp [intOf]; omega
    · have e : l.take k = l := List.take_of_length_le (by rw [hl.len]; omega)
      rw [e] at hm'
      have hge := adds_le [] l
      have H64 := (held_nil.adds l).le
      have c1 := hb.cell
      have len1 := hm'.len
      obtain ⟨K, hK⟩ : ∃ K, adds [] l = K := ⟨_, rfl⟩
      have HKL : Kept (adds [] l = K) := ⟨hK⟩
      rw [hK] at hm' hge len1 H64
      have h64 := held_nil.le
      have i1 : (n : Int) ≤ (k : Int) := by omega
      clear e hK
      go_wp2
      go_ret
      exact ⟨by rw [HKL.out]; rfl, some w.heap.size, ⟨hb, hple, fun b' e => by injection e with e; subst e; rw [HKL.out]; exact ⟨hm', hbase⟩, fun e => by cases e⟩, ho, .inr ⟨_, rfl, Nat.le_refl _⟩⟩


theorem add_any (base p : Nat) (M : Option Nat) (B : Option Addr) (n c : Nat) (L l : List D.Nm) (w : World) (hs : SetP base w p M L) (hL : Held L) (hl : NRow w B n l) (hB : ∀ ad, B = some ad → ¬ Sf p M ad.block) (hn : n ≤ 1000) :
    Calls Try.prog 24 #[.pointer (some ⟨p, 0, none⟩), .slice B n c] w (Added base p M L (adds L l) w) := by
  cases M with
  | none =>
    obtain rfl := hs.no rfl
    exact add_none base p B n c l w hs hl hB hn
  | some b => exact add_some base p b B n c L l w hs hL hl hB hn
end Go.Proofs.Ytgfpdfafkimkcaa
