/-
  A choice that is being read: its part in memory, its rows of words and of cases.
-/
import Derived.Test.YtlheaabmpcnchaaGreatDoorG21
set_option linter.unusedVariables false
set_option linter.unusedSimpArgs false
set_option maxRecDepth 100000
namespace Go.Proofs.YtlheaabmpcnchaaGreatDoor
open Go.RowKit

theorem str_under : Tryz.prog.underlying 41 = some (.slice 9) := by kernel_rfl
theorem str_inf8 : (Tryz.prog.info? 9).map (fun i => (i.zero, i.size, i.bytes)) = some (some (.string ⟨#[]⟩), 1, 16) := by kernel_rfl
theorem cas_under : Tryz.prog.underlying 82 = some (.slice 26) := by kernel_rfl
theorem cas_info : (Tryz.prog.info? 26).map (fun i => (i.zero, i.size, i.bytes)) = some (some (.slice none 0 0), 1, 24) := by kernel_rfl
theorem Keeps.trans {F : Nat → Prop} {w w1 w2 : World} (h : Keeps F w w1) (k : Keeps F w1 w2) : Keeps F w w2 :=
  ⟨Nat.le_trans h.size k.size, fun b hb hlt => (k.same b hb (Nat.lt_of_lt_of_le hlt h.size)).trans (h.same b hb hlt)⟩
theorem Ow.ne_ {T T' : TypeId} {sz sz' base base' : Nat} {w : World} {A B : Option Addr} {n c m e : Nat} {xs ys : List Value} (h : Ow T sz base w A n c xs) (h' : Ow T' sz' base' w B m e ys) (hne : T ≠ T') : ∀ q, (Value.slice A n c).ownBlock = some q → (Value.slice B m e).ownBlock ≠ some q := by
  intro q h1 h2
  rcases h.row.2 with ⟨e1, _⟩ | ⟨g, cap, cur, e1, _, hh, _⟩
  · rw [e1] at h1; simp [Value.ownBlock] at h1
  · rcases h'.row.2 with ⟨e2, _⟩ | ⟨g', cap', cur', e2, _, hh', _⟩
    · rw [e2] at h2; simp [Value.ownBlock] at h2
    · rw [e1] at h1
      rw [e2] at h2
      have a1 : g = q := by simpa [Value.ownBlock] using h1
      have a2 : g' = q := by simpa [Value.ownBlock] using h2
      subst a1
      subst a2
      rw [hh] at hh'
      injection hh' with hh'
      injection hh' with _ ht
      exact hne ht
theorem Ow.set {T : TypeId} {sz base : Nat} {w : World} {A : Option Addr} {n c : Nat} {xs : List Value} (h : Ow T sz base w A n c xs) (p : Addr) (u : Value) (hp : p.block < base) : Ow T sz base (w.setCell p u) A n c xs :=
  h.kept (by simp) fun g hg => Below.heap_setCell w p u g (by have := (h.lt g hg).1; omega)
theorem Ms.up {F : Nat → Prop} {w : World} : ∀ (r : Nat) {v : Value} {l : List D.Nd}, Ms F w r v l → Ms F w (r + 1) v l
  | 0, v, l, h => by
    obtain ⟨A, n, c, vs, e, hc, hr, hl, hb⟩ := h
    exact ⟨A, n, c, vs, e, hc, hr, hl, fun i x a b hx => ⟨(hb i x a b hx).1, (hb i x a b hx).2.1, (hb i x a b hx).2.2.to (fun _ _ _ _ h => h) (fun _ _ h => h.elim)⟩⟩
  | r + 1, v, l, h => by
    obtain ⟨A, n, c, vs, e, hc, hr, hl, hb⟩ := h
    exact ⟨A, n, c, vs, e, hc, hr, hl, fun i x a b hx => ⟨(hb i x a b hx).1, (hb i x a b hx).2.1, (hb i x a b hx).2.2.to (fun _ _ _ _ h => h) (fun _ _ h => Ms.up r h)⟩⟩
theorem D.cas_eq {l : List Nat} {k : Nat} {nm : List Nat} {m : Nat → D.Ot} {f i K : Nat} {ws : List (List Nat)} {ks : List (List D.Nd)} (hK : D.far D.wdB l i = K) : D.cas l k nm m (f + 1) i ws ks =
    (if K = i then (if l[i]? ≠ some 125 then D.er_ i 3 else if D.othT ∉ ws then D.er_ i 13 else (⟨[.mk k [] nm ws ks], i + 1, 0⟩ : D.Ot))
    else if D.lgl k (D.sub l i K) ws ≠ 0 then D.er_ i (D.lgl k (D.sub l i K) ws)
    else if l[K]? ≠ some 123 then D.er_ K 3
    else if (m (K + 1)).e ≠ 0 then m (K + 1)
    else if l[(m (K + 1)).a]? ≠ some 125 then D.er_ (m (K + 1)).a 3
    else D.cas l k nm m f (D.far (· == 32) l ((m (K + 1)).a + 1)) (ws ++ [D.sub l i K]) (ks ++ [(m (K + 1)).l])) := by
  subst hK
  rw [D.cas]
/-- The blocks of the call's own but those of two rows. -/
def Fz (base : Nat) (a b : Option Nat) (q : Nat) : Prop := base ≤ q ∧ a ≠ some q ∧ b ≠ some q
theorem rw_one (w : World) (g : Nat) (hg : g = w.heap.size) (T : TypeId) (u : Value) : Rw 1 (w.alloc (.cells #[u] T)) (some ⟨g, 0, none⟩) 1 [u] := by
  subst hg
  exact rw_new w 1 T 1 #[u] rfl
/-- The cases' messages. -/
def Kz (r : Nat) (F : Nat → Prop) (w : World) (us : List Value) (ks : List (List D.Nd)) : Prop :=
  us.length = ks.length ∧ (∀ u ∈ us, u.oneCell' = true) ∧ ∀ (j : Nat) (u : Value) (q : List D.Nd), us[j]? = some u → ks[j]? = some q → Ms F w r u q
theorem Kz.move {r : Nat} {F F' : Nat → Prop} {w w' : World} {us : List Value} {ks : List (List D.Nd)} (h : Kz r F w us ks) (h1 : ∀ q, q < w.heap.size → F q → F' q) (k : Keeps (fun q => F q ∧ F' q) w w') : Kz r F' w' us ks :=
  ⟨h.1, h.2.1, fun j u q hu hq => (((h.2.2 j u q hu hq).weaken (F' := fun q => F q ∧ F' q) fun b hb hF => ⟨hF, h1 b hb hF⟩).keep k).weaken fun _ _ hF => hF.2⟩
theorem Kz.snoc {r : Nat} {F : Nat → Prop} {w : World} {us : List Value} {ks : List (List D.Nd)} {v : Value} {x : List D.Nd} (h : Kz r F w us ks) (h1 : v.oneCell' = true) (hv : Ms F w r v x) : Kz r F w (us ++ [v]) (ks ++ [x]) := by
  refine ⟨by simp [h.1], ?_, ?_⟩
  · intro u hu
    rcases List.mem_append.1 hu with hu | hu
    · exact h.2.1 u hu
    · simp at hu; rw [hu]; exact h1
  · intro j u q hu hq
    by_cases hj : j < us.length
    · rw [List.getElem?_append_left hj] at hu
      rw [List.getElem?_append_left (by rw [← h.1]; exact hj)] at hq
      exact h.2.2 j u q hu hq
    · have hj' := (List.getElem?_eq_some_iff.1 hu).1
      simp at hj'
      obtain rfl : j = us.length := by omega
      rw [List.getElem?_append_right (Nat.le_refl _)] at hu
      rw [List.getElem?_append_right (by rw [h.1]; exact Nat.le_refl _), h.1] at hq
      simp at hu hq
      subst hu hq
      exact hv
/-- A choice that is being read. -/
structure Cz (r base g : Nat) (w : World) (k : Nat) (nm : List Nat) (A : Option Addr) (n c : Nat) (B : Option Addr) (m e : Nat) (ws : List (List Nat)) (ks : List (List D.Nd)) : Prop where
  blk : Blk w g 84 #[.int .i64 (k : Nat), .string ⟨#[]⟩, .string (D.sb nm), .slice A n c, .slice B m e]
  low : g < base
  wds : Ow 9 1 base w A n c (strs ws)
  kds : ∃ us, Ow 26 1 base w B m e us ∧ Kz r (Fz base (Value.slice A n c).ownBlock (Value.slice B m e).ownBlock) w us ks
  b8 : D.B8 ws
section
variable {r base g k n c m e : Nat} {w w' : World} {nm : List Nat} {A B : Option Addr} {ws : List (List Nat)} {ks : List (List D.Nd)}
theorem Cz.lens (h : Cz r base g w k nm A n c B m e ws ks) : ws.length = n ∧ ks.length = m := by
  obtain ⟨us, ho, hk⟩ := h.kds
  have h1 := h.wds.len
  rw [strs_len] at h1
  have h2 := ho.len
  have h3 := hk.1
  omega
theorem Cz.on (h : Cz r base g w k nm A n c B m e ws ks) (hb : Below w.heap.size w w') : Cz r base g w' k nm A n c B m e ws ks := by
  obtain ⟨us, ho, hk⟩ := h.kds
  exact ⟨h.blk.on hb, h.low, h.wds.on hb, ⟨us, ho.on hb, hk.move (fun _ _ h => h) (keeps_below hb)⟩, h.b8⟩
/-- One word more. -/
theorem Cz.word {A' : Option Addr} {c' : Nat} {t : List Nat} (h : Cz r base g w k nm A n c B m e ws ks) (hg : w.grownBy w' (Value.slice A n c).ownBlock)
    (hor : (Value.slice A' (n + 1) c').ownBlock = (Value.slice A n c).ownBlock ∨ (Value.slice A' (n + 1) c').ownBlock = some w.heap.size)
    (ho : Ow 9 1 base w' A' (n + 1) c' (strs ws ++ strs [t])) (ht : ∀ b ∈ t, b < 256) : Cz r base g (w'.setCell ⟨g, 3, none⟩ (.slice A' (n + 1) c')) k nm A' (n + 1) c' B m e (ws ++ [t]) ks := by
  obtain ⟨us, hu, hk⟩ := h.kds
  have hne : (Value.slice A n c).ownBlock ≠ some g := fun e => by have := (h.wds.lt g e).1; have := h.low; omega
  refine ⟨?_, h.low, ?_, ⟨us, ?_, ?_⟩, ?_⟩
  · exact ((h.blk.grown hg (Ne.symm hne)).put 3 (.slice A' (n + 1) c'))
  · rw [strs_app]
    exact ho.set _ _ h.low
  · exact (hu.kept hg.size fun q hq => hg.block q (hu.lt q hq).2 (fun e => h.wds.ne_ hu (by decide) q e.symm hq)).set _ _ h.low
  · refine hk.move (fun q hq hF => ⟨hF.1, ?_, hF.2.2⟩) ?_
    · rcases hor with e | e
      · rw [e]; exact hF.2.1
      · rw [e]; intro h; injection h with h; omega
    · exact Keeps.trans (keeps_grown hg fun q hq => hq.1.2.1) (keeps_setCell _ _ _ fun q hq => by have := hq.1.1; have := h.low; simp; omega)
  · intro x hx
    rcases List.mem_append.1 hx with hx | hx
    · exact h.b8 x hx
    · simp at hx; rw [hx]; exact ht
/-- One case's message more. -/
theorem Cz.case_ {B' : Option Addr} {e' : Nat} {v : Value} {x : List D.Nd} {us : List Value} (h : Cz r base g w k nm A n c B m e ws ks) (hk : Kz r (Fz base (Value.slice A n c).ownBlock (Value.slice B m e).ownBlock) w us ks) (hg : w.grownBy w' (Value.slice B m e).ownBlock)
    (hor : (Value.slice B' (m + 1) e').ownBlock = (Value.slice B m e).ownBlock ∨ (Value.slice B' (m + 1) e').ownBlock = some w.heap.size)
    (ho : Ow 26 1 base w' B' (m + 1) e' (us ++ [v])) (h1 : v.oneCell' = true) (hv : Ms (Fz base (Value.slice A n c).ownBlock (Value.slice B m e).ownBlock) w r v x) :
    Cz r base g (w'.setCell ⟨g, 4, none⟩ (.slice B' (m + 1) e')) k nm A n c B' (m + 1) e' ws (ks ++ [x]) := by
  obtain ⟨us0, hu, _⟩ := h.kds
  have hne : (Value.slice B m e).ownBlock ≠ some g := fun e => by have := (hu.lt g e).1; have := h.low; omega
  refine ⟨?_, h.low, ?_, ⟨_, ho.set _ _ h.low, ?_⟩, h.b8⟩
  · exact ((h.blk.grown hg (Ne.symm hne)).put 4 (.slice B' (m + 1) e'))
  · exact (h.wds.kept hg.size fun q hq => hg.block q (h.wds.lt q hq).2 (fun e => h.wds.ne_ hu (by decide) q hq e.symm)).set _ _ h.low
  · refine (hk.snoc h1 hv).move (fun q hq hF => ⟨hF.1, hF.2.1, ?_⟩) ?_
    · rcases hor with e | e
      · rw [e]; exact hF.2.2
      · rw [e]; intro h; injection h with h; omega
    · exact Keeps.trans (keeps_grown hg fun q hq => hq.1.2.2) (keeps_setCell _ _ _ fun q hq => by have := hq.1.1; have := h.low; simp; omega)
/-- A case's message, brought to where it is appended. -/
theorem Cz.kid {w1 w2 W w3 W5 : World} {A5 : Option Addr} {n5 c5 : Nat} {u v : Value} {x : List D.Nd} (h : Cz r base g w1 k nm A n c B m e ws ks) (hv : Ms (fun b => w1.heap.size ≤ b) w2 r v x) (b : Below w2.heap.size w2 W)
    (hg : W.grownBy w3 (Value.slice A n c).ownBlock) (hor : (Value.slice A5 n5 c5).ownBlock = (Value.slice A n c).ownBlock ∨ (Value.slice A5 n5 c5).ownBlock = some W.heap.size) (b' : Below w3.heap.size (w3.setCell ⟨g, 3, none⟩ u) W5) :
    Ms (Fz base (Value.slice A5 n5 c5).ownBlock (Value.slice B m e).ownBlock) W5 r v x := by
  obtain ⟨us, hu, _⟩ := h.kds
  have hbase := h.wds.base
  have h1 := hv.weaken (F' := fun q => Fz base (Value.slice A5 n5 c5).ownBlock (Value.slice B m e).ownBlock q ∧ (Value.slice A n c).ownBlock ≠ some q) fun q hq hF => by
    have e1 : (Value.slice A n c).ownBlock ≠ some q := fun e => by have := (h.wds.lt q e).2; omega
    have e2 : (Value.slice B m e).ownBlock ≠ some q := fun e => by have := (hu.lt q e).2; omega
    refine ⟨⟨by omega, ?_, e2⟩, e1⟩
    rcases hor with e | e
    · rw [e]; exact e1
    · rw [e]; intro h; injection h with h; have := b.size; omega
  have k1 := h1.keep (keeps_below b)
  have k2 := k1.keep (keeps_grown hg fun q hq => hq.2)
  have k3 := k2.keep (keeps_setCell w3 ⟨g, 3, none⟩ u fun q hq => by have := hq.1.1; have := h.low; simp; omega)
  have k4 := k3.keep (w' := W5) ⟨by have := b'.size; simpa using this, fun q _ hq => b'.block q (by simpa using hq)⟩
  exact k4.weaken fun _ _ h => h.1
/-- What hangs below a choice that was read. -/
theorem Cz.bel {F : Nat → Prop} (h : Cz r base g w k nm A n c B m e ws ks) (hn : ∀ b ∈ nm, b < 256) (hF : ∀ q, base ≤ q → F q) : Bel (Kd F w (r + 1)) F w (.mk k [] nm ws ks) (.slice A n c) (.slice B m e) := by
  obtain ⟨us, ho, hk⟩ := h.kds
  refine ⟨⟨fun _ hh => absurd hh (by simp [D.Nd.t]), hn, h.b8⟩, ⟨A, n, c, rfl, h.wds.cap.1, ⟨h.wds.to_row, fun _ ad e => hF _ (h.wds.block_le _ (by rw [e]; rfl))⟩⟩, B, m, e, us, rfl, ho.cap.1, ⟨ho.to_row, fun _ ad e => hF _ (ho.block_le _ (by rw [e]; rfl))⟩, hk.1, hk.2.1, fun j u q hu hq => (hk.2.2 j u q hu hq).weaken fun b _ hb => hF b hb.1⟩
end
end Go.Proofs.YtlheaabmpcnchaaGreatDoor
