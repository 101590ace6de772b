/- Mathematics of Tarjan's search with an explicit path: what holds at each step, and that the leaders are those of the components. -/
import Derived.Test.YtfpocoaddmgakaaRows
namespace Go.Proofs.Ytfpocoaddmgakaa
set_option linter.unusedVariables false
set_option linter.unusedSimpArgs false

def upd {α : Type} (f : Nat → α) (i : Nat) (x : α) : Nat → α := fun j => if j = i then x else f j
theorem upd_same {α : Type} (f : Nat → α) (i : Nat) (x : α) : upd f i x i = x := by simp [upd]
theorem upd_ne {α : Type} (f : Nat → α) {i j : Nat} (x : α) (h : j ≠ i) : upd f i x j = f j := by simp [upd, h]

/-- From a to b by edges. -/
inductive RT (E : Nat → Nat → Prop) : Nat → Nat → Prop
  | refl (a : Nat) : RT E a a
  | step {a b c : Nat} : E a b → RT E b c → RT E a c
theorem RT.trans {E : Nat → Nat → Prop} {a b c : Nat} (h : RT E a b) (k : RT E b c) : RT E a c := by
  induction h with
  | refl => exact k
  | step e _ ih => exact .step e (ih k)
theorem RT.one {E : Nat → Nat → Prop} {a b : Nat} (h : E a b) : RT E a b := .step h (.refl _)
theorem RT.keeps {E : Nat → Nat → Prop} {P : Nat → Prop} (hP : ∀ a b, P a → E a b → P b) {a b : Nat} (h : RT E a b) (ha : P a) : P b := by
  induction h with
  | refl => exact ha
  | step e _ ih => exact ih (hP _ _ ha e)

/-- The edges between nodes. -/
def Edge (n : Nat) (E : Nat → List Int) (a b : Nat) : Prop := a < n ∧ b < n ∧ (b : Int) ∈ E a

structure TS where
  found : Nat
  turn : Nat → Nat
  low : Nat → Nat
  next : Nat → Nat
  lead : Nat → Int
  path : List Nat
  opn : List Nat

/-- An edge that was followed. -/
def Fol (n : Nat) (E : Nat → List Int) (nx : Nat → Nat) (a b : Nat) : Prop := b < n ∧ ∃ k, k < nx a ∧ (E a)[k]? = some (b : Int)
theorem Fol.edge {n : Nat} {E : Nat → List Int} {nx : Nat → Nat} {a b : Nat} (h : Fol n E nx a b) (ha : a < n) : Edge n E a b := by
  obtain ⟨hb, k, _, e⟩ := h
  exact ⟨ha, hb, List.mem_of_getElem? e⟩
theorem Fol.all {n : Nat} {E : Nat → List Int} {nx : Nat → Nat} {a b : Nat} (h : Edge n E a b) (hn : nx a = (E a).length) : Fol n E nx a b := by
  obtain ⟨ha, hb, hm⟩ := h
  obtain ⟨k, hk, e⟩ := List.mem_iff_getElem.1 hm
  exact ⟨hb, k, by omega, by rw [List.getElem?_eq_getElem hk, e]⟩
theorem Fol.bump {n : Nat} {E : Nat → List Int} {nx : Nat → Nat} {v a b : Nat} (h : Fol n E (upd nx v (nx v + 1)) a b) : Fol n E nx a b ∨ (a = v ∧ (E v)[nx v]? = some (b : Int)) := by
  obtain ⟨hb, k, hk, e⟩ := h
  by_cases hav : a = v
  · subst hav
    rw [upd_same] at hk
    by_cases h1 : k = nx a
    · subst h1; exact .inr ⟨rfl, e⟩
    · exact .inl ⟨hb, k, by omega, e⟩
  · rw [upd_ne _ _ hav] at hk
    exact .inl ⟨hb, k, hk, e⟩

structure Inv (n : Nat) (E : Nat → List Int) (s : TS) : Prop where
  lt : ∀ v ∈ s.opn, v < n
  desc : s.opn.Pairwise (fun a b => s.turn b < s.turn a)
  pdesc : s.path.Pairwise (fun a b => s.turn b < s.turn a)
  sub : ∀ v ∈ s.path, v ∈ s.opn
  mem : ∀ v, v < n → (v ∈ s.opn ↔ s.turn v ≠ 0 ∧ s.lead v < 0)
  le : ∀ v, v < n → s.turn v ≤ s.found
  new : ∀ v, v < n → s.turn v = 0 → s.lead v < 0 ∧ s.next v = 0
  nle : ∀ v, v < n → s.next v ≤ (E v).length
  fin : ∀ v ∈ s.opn, v ∉ s.path → s.next v = (E v).length
  clo : ∀ v, v < n → 0 ≤ s.lead v → ∀ b, Edge n E v b → 0 ≤ s.lead b
  ldn : ∀ v, v < n → 0 ≤ s.lead v → ∃ u : Nat, s.lead v = (u : Int) ∧ u < n ∧ 0 ≤ s.lead u
  cls : ∀ a b, a < n → b < n → 0 ≤ s.lead a → 0 ≤ s.lead b → (s.lead a = s.lead b ↔ RT (Edge n E) a b ∧ RT (Edge n E) b a)
  vis : ∀ a ∈ s.opn, ∀ b, Fol n E s.next a b → s.turn b ≠ 0
  p1 : ∀ p ∈ s.path, ∀ v ∈ s.opn, s.turn p ≤ s.turn v → RT (Edge n E) p v
  p2 : ∀ v ∈ s.opn, ∃ p ∈ s.path, s.turn p ≤ s.turn v ∧ RT (Edge n E) v p
  ls : ∀ p ∈ s.path, s.low p ≤ s.turn p ∧ ∃ u ∈ s.opn, s.turn u = s.low p ∧ RT (Edge n E) p u
  lc : ∀ w ∈ s.opn, ∀ x ∈ s.opn, Fol n E s.next w x → ∀ p ∈ s.path, s.turn p ≤ s.turn w → ∃ q ∈ s.path, s.turn p ≤ s.turn q ∧ s.low q ≤ s.turn x

theorem pw_inj {t : Nat → Nat} {l : List Nat} (h : l.Pairwise (fun a b => t b < t a)) {a b : Nat} (ha : a ∈ l) (hb : b ∈ l) (e : t a = t b) : a = b := by
  induction l with
  | nil => cases ha
  | cons x l ih =>
    rw [List.pairwise_cons] at h
    rcases List.mem_cons.1 ha with ha' | ha' <;> rcases List.mem_cons.1 hb with hb' | hb'
    · rw [ha', hb']
    · have := h.1 _ hb'; rw [ha'] at e; omega
    · have := h.1 _ ha'; rw [hb'] at e; omega
    · exact ih h.2 ha' hb'
theorem Inv.inj {n : Nat} {E : Nat → List Int} {s : TS} (I : Inv n E s) {a b : Nat} (ha : a ∈ s.opn) (hb : b ∈ s.opn) (e : s.turn a = s.turn b) : a = b := pw_inj I.desc ha hb e
theorem Inv.top {n : Nat} {E : Nat → List Int} {s : TS} (I : Inv n E s) {v : Nat} {p : List Nat} (hp : s.path = v :: p) : ∀ q ∈ s.path, s.turn q ≤ s.turn v := by
  intro q hq
  have h := I.pdesc
  rw [hp] at h hq
  rw [List.pairwise_cons] at h
  rcases List.mem_cons.1 hq with rfl | hq
  · exact Nat.le_refl _
  · exact Nat.le_of_lt (h.1 _ hq)
theorem Inv.empty {n : Nat} {E : Nat → List Int} {s : TS} (I : Inv n E s) (h : s.path = []) : s.opn = [] := by
  apply List.eq_nil_iff_forall_not_mem.2
  intro v hv
  obtain ⟨p, hp, _⟩ := I.p2 v hv
  rw [h] at hp; cases hp

/-- A new node. -/
def TS.enter (s : TS) (v : Nat) : TS := { s with found := s.found + 1, turn := upd s.turn v (s.found + 1), low := upd s.low v (s.found + 1), path := v :: s.path, opn := v :: s.opn }
def TS.bump (s : TS) (v : Nat) : TS := { s with next := upd s.next v (s.next v + 1) }
def TS.lower (s : TS) (v x : Nat) : TS := { s with low := upd s.low v (min (s.low v) x) }

theorem Inv.enter {n : Nat} {E : Nat → List Int} {s : TS} (I : Inv n E s) {v : Nat} (hv : v < n) (h0 : s.turn v = 0) (nx : Nat → Nat) (hF : ∀ a b, Fol n E nx a b → Fol n E s.next a b ∨ (a ∈ s.path ∧ b = v))
    (hn : ∀ a, a ∉ s.path → nx a = s.next a) (hle : ∀ a, a < n → nx a ≤ (E a).length) (hp : ∀ p ∈ s.path, RT (Edge n E) p v) : Inv n E { s.enter v with next := nx } := by
  have hvo : v ∉ s.opn := fun h => ((I.mem v hv).1 h).1 h0
  have hvp : v ∉ s.path := fun h => hvo (I.sub v h)
  have to : ∀ a ∈ s.opn, upd s.turn v (s.found + 1) a = s.turn a := fun a ha => upd_ne _ _ (fun e => hvo (e ▸ ha))
  have tp : ∀ a ∈ s.path, upd s.turn v (s.found + 1) a = s.turn a := fun a ha => to a (I.sub a ha)
  have lp : ∀ a ∈ s.path, upd s.low v (s.found + 1) a = s.low a := fun a ha => upd_ne _ _ (fun e => hvp (e ▸ ha))
  have tl : ∀ a ∈ s.opn, s.turn a < s.found + 1 := fun a ha => by have := I.le a (I.lt a ha); omega
  have hnv : nx v = 0 := by rw [hn v hvp]; exact (I.new v hv h0).2
  constructor
  · intro u hu
    rcases List.mem_cons.1 hu with rfl | hu
    · exact hv
    · exact I.lt u hu
  · refine List.pairwise_cons.2 ⟨fun b hb => ?_, I.desc.imp_of_mem (fun {a b} ha hb h => ?_)⟩
    · show upd s.turn v (s.found + 1) b < upd s.turn v (s.found + 1) v
      rw [to b hb, upd_same]; exact tl b hb
    · show upd s.turn v (s.found + 1) b < upd s.turn v (s.found + 1) a
      rw [to b hb, to a ha]; exact h
  · refine List.pairwise_cons.2 ⟨fun b hb => ?_, I.pdesc.imp_of_mem (fun {a b} ha hb h => ?_)⟩
    · show upd s.turn v (s.found + 1) b < upd s.turn v (s.found + 1) v
      rw [tp b hb, upd_same]; exact tl b (I.sub b hb)
    · show upd s.turn v (s.found + 1) b < upd s.turn v (s.found + 1) a
      rw [tp b hb, tp a ha]; exact h
  · intro u hu
    rcases List.mem_cons.1 hu with rfl | hu
    · exact List.mem_cons_self
    · exact List.mem_cons_of_mem _ (I.sub u hu)
  · intro u hu
    show u ∈ v :: s.opn ↔ upd s.turn v (s.found + 1) u ≠ 0 ∧ s.lead u < 0
    by_cases e : u = v
    · subst e; rw [upd_same]; simp; exact (I.new u hu h0).1
    · rw [upd_ne _ _ e, List.mem_cons, ← I.mem u hu]; simp [e]
  · intro u hu
    show upd s.turn v (s.found + 1) u ≤ s.found + 1
    by_cases e : u = v
    · subst e; rw [upd_same]; exact Nat.le_refl _
    · rw [upd_ne _ _ e]; have := I.le u hu; omega
  · intro u hu h
    have h : upd s.turn v (s.found + 1) u = 0 := h
    by_cases e : u = v
    · subst e; rw [upd_same] at h; omega
    · rw [upd_ne _ _ e] at h
      refine ⟨(I.new u hu h).1, ?_⟩
      show nx u = 0
      rw [hn u (fun hp => ?_)]
      · exact (I.new u hu h).2
      · exact ((I.mem u hu).1 (I.sub u hp)).1 h
  · exact hle
  · intro u hu hup
    rcases List.mem_cons.1 hu with rfl | hu
    · exact absurd List.mem_cons_self hup
    · show nx u = _
      have : u ∉ s.path := fun h => hup (List.mem_cons_of_mem _ h)
      rw [hn u this]; exact I.fin u hu this
  · exact I.clo
  · exact I.ldn
  · exact I.cls
  · intro a ha b hb
    show upd s.turn v (s.found + 1) b ≠ 0
    by_cases e : b = v
    · subst e; rw [upd_same]; omega
    · rw [upd_ne _ _ e]
      rcases List.mem_cons.1 ha with rfl | ha
      · obtain ⟨_, k, hk, _⟩ := hb
        have hk : k < nx a := hk
        omega
      · rcases hF a b hb with h | h
        · exact I.vis a ha b h
        · exact absurd h.2 e
  · intro p hpp u hu h
    have h : upd s.turn v (s.found + 1) p ≤ upd s.turn v (s.found + 1) u := h
    rcases List.mem_cons.1 hpp with e | hpp'
    · rcases List.mem_cons.1 hu with e2 | hu'
      · rw [e, e2]; exact .refl _
      · rw [e, upd_same, to u hu'] at h; have := tl u hu'; omega
    · rcases List.mem_cons.1 hu with e2 | hu'
      · rw [e2]; exact hp p hpp'
      · rw [tp p hpp', to u hu'] at h; exact I.p1 p hpp' u hu' h
  · intro u hu
    rcases List.mem_cons.1 hu with rfl | hu
    · exact ⟨u, List.mem_cons_self, Nat.le_refl _, .refl _⟩
    · obtain ⟨p, h1, h2, h3⟩ := I.p2 u hu
      refine ⟨p, List.mem_cons_of_mem _ h1, ?_, h3⟩
      show upd s.turn v (s.found + 1) p ≤ upd s.turn v (s.found + 1) u
      rw [tp p h1, to u hu]; exact h2
  · intro p hpp
    show upd s.low v (s.found + 1) p ≤ upd s.turn v (s.found + 1) p ∧ ∃ u ∈ v :: s.opn, upd s.turn v (s.found + 1) u = upd s.low v (s.found + 1) p ∧ RT (Edge n E) p u
    rcases List.mem_cons.1 hpp with rfl | hpp
    · rw [upd_same, upd_same]; exact ⟨Nat.le_refl _, p, List.mem_cons_self, upd_same _ _ _, .refl _⟩
    · rw [lp p hpp, tp p hpp]
      obtain ⟨h1, u, h2, h3, h4⟩ := I.ls p hpp
      exact ⟨h1, u, List.mem_cons_of_mem _ h2, by rw [to u h2]; exact h3, h4⟩
  · intro w hw x hx hf p hpp hle'
    have hle' : upd s.turn v (s.found + 1) p ≤ upd s.turn v (s.found + 1) w := hle'
    show ∃ q ∈ v :: s.path, upd s.turn v (s.found + 1) p ≤ upd s.turn v (s.found + 1) q ∧ upd s.low v (s.found + 1) q ≤ upd s.turn v (s.found + 1) x
    rcases List.mem_cons.1 hw with e | hw'
    · obtain ⟨_, k, hk, _⟩ := hf
      have hk : k < nx w := hk
      rw [e] at hk; omega
    · rcases List.mem_cons.1 hpp with e | hp'
      · rw [e, upd_same, to w hw'] at hle'; have := tl w hw'; omega
      · rcases List.mem_cons.1 hx with e | hx'
        · refine ⟨p, List.mem_cons_of_mem _ hp', Nat.le_refl _, ?_⟩
          rw [e, upd_same, lp p hp']
          have := (I.ls p hp').1; have := tl p (I.sub p hp'); omega
        · rw [tp p hp', to w hw'] at hle'
          rcases hF w x hf with h | ⟨_, e⟩
          · obtain ⟨q, h1, h2, h3⟩ := I.lc w hw' x hx' h p hp' hle'
            exact ⟨q, List.mem_cons_of_mem _ h1, by rw [tp p hp', tp q h1]; exact h2, by rw [lp q h1, to x hx']; exact h3⟩
          · exact absurd hx' (e ▸ hvo)

theorem Inv.first {n : Nat} {E : Nat → List Int} {s : TS} (I : Inv n E s) {v : Nat} (hv : v < n) (h0 : s.turn v = 0) (hp : s.path = []) : Inv n E (s.enter v) :=
  I.enter hv h0 s.next (fun a b h => .inl h) (fun _ _ => rfl) I.nle (fun p h => by rw [hp] at h; cases h)

/-- An edge to no node, or to a node whose component is known. -/
theorem Inv.skip {n : Nat} {E : Nat → List Int} {s : TS} (I : Inv n E s) {v : Nat} {p : List Nat} (hp : s.path = v :: p) {t : Int} (ht : (E v)[s.next v]? = some t) (hs : ∀ b : Nat, b < n → t = (b : Int) → 0 ≤ s.lead b ∧ s.turn b ≠ 0) : Inv n E (s.bump v) := by
  have hvp : v ∈ s.path := by rw [hp]; exact List.mem_cons_self
  have hvo := I.sub v hvp
  have hvn := I.lt v hvo
  have hl : s.next v < (E v).length := (List.getElem?_eq_some_iff.1 ht).1
  have hF : ∀ a b, Fol n E (s.bump v).next a b → Fol n E s.next a b ∨ (0 ≤ s.lead b ∧ s.turn b ≠ 0 ∧ b < n) := by
    intro a b h
    rcases Fol.bump h with h1 | ⟨rfl, h1⟩
    · exact .inl h1
    · have := hs b h.1 (by rw [ht] at h1; exact Option.some.inj h1)
      exact .inr ⟨this.1, this.2, h.1⟩
  have nb : ∀ a, a ≠ v → (s.bump v).next a = s.next a := fun a ha => upd_ne _ _ ha
  refine ⟨I.lt, I.desc, I.pdesc, I.sub, I.mem, I.le, ?_, ?_, ?_, I.clo, I.ldn, I.cls, ?_, I.p1, I.p2, I.ls, ?_⟩
  · intro u hu h
    refine ⟨(I.new u hu h).1, ?_⟩
    rw [nb u (fun e => by subst e; exact ((I.mem u hu).1 hvo).1 h)]
    exact (I.new u hu h).2
  · intro u hu
    by_cases e : u = v
    · subst e; show upd _ _ _ _ ≤ _; rw [upd_same]; omega
    · rw [nb u e]; exact I.nle u hu
  · intro u hu hup
    rw [nb u (fun e => hup (e ▸ hvp))]
    exact I.fin u hu hup
  · intro a ha b h
    rcases hF a b h with h1 | h1
    · exact I.vis a ha b h1
    · exact h1.2.1
  · intro w hw x hx h
    rcases hF w x h with h1 | h1
    · exact I.lc w hw x hx h1
    · exact absurd ((I.mem x h1.2.2).1 hx).2 (by have := h1.1; omega)

/-- An edge to an open node. -/
theorem Inv.back {n : Nat} {E : Nat → List Int} {s : TS} (I : Inv n E s) {v : Nat} {p : List Nat} (hp : s.path = v :: p) {b : Nat} (ht : (E v)[s.next v]? = some (b : Int)) (hb : b ∈ s.opn) : Inv n E ((s.bump v).lower v (s.turn b)) := by
  have hvp : v ∈ s.path := by rw [hp]; exact List.mem_cons_self
  have hvo := I.sub v hvp
  have hvn := I.lt v hvo
  have hl : s.next v < (E v).length := (List.getElem?_eq_some_iff.1 ht).1
  have hF : ∀ a x, Fol n E (s.bump v).next a x → Fol n E s.next a x ∨ (a = v ∧ x = b) := by
    intro a x h
    rcases Fol.bump h with h1 | ⟨rfl, h1⟩
    · exact .inl h1
    · rw [ht] at h1; exact .inr ⟨rfl, by have := Option.some.inj h1; omega⟩
  have nb : ∀ a, a ≠ v → (s.bump v).next a = s.next a := fun a ha => upd_ne _ _ ha
  have lw : ∀ q, ((s.bump v).lower v (s.turn b)).low q ≤ s.low q := fun q => by
    show upd _ _ _ _ ≤ _
    by_cases e : q = v
    · subst e; rw [upd_same]; exact Nat.min_le_left _ _
    · rw [upd_ne _ _ e]; exact Nat.le_refl _
  refine ⟨I.lt, I.desc, I.pdesc, I.sub, I.mem, I.le, ?_, ?_, ?_, I.clo, I.ldn, I.cls, ?_, I.p1, I.p2, ?_, ?_⟩
  · intro u hu h
    refine ⟨(I.new u hu h).1, ?_⟩
    show (s.bump v).next u = 0
    rw [nb u (fun e => by subst e; exact ((I.mem u hu).1 hvo).1 h)]
    exact (I.new u hu h).2
  · intro u hu
    show (s.bump v).next u ≤ _
    by_cases e : u = v
    · subst e; show upd _ _ _ _ ≤ _; rw [upd_same]; omega
    · rw [nb u e]; exact I.nle u hu
  · intro u hu hup
    show (s.bump v).next u = _
    rw [nb u (fun e => hup (e ▸ hvp))]
    exact I.fin u hu hup
  · intro a ha x h
    rcases hF a x h with h1 | ⟨_, rfl⟩
    · exact I.vis a ha x h1
    · exact ((I.mem x (I.lt x hb)).1 hb).1
  · intro q hq
    obtain ⟨h1, u, h2, h3, h4⟩ := I.ls q hq
    refine ⟨Nat.le_trans (lw q) h1, ?_⟩
    show ∃ u ∈ s.opn, s.turn u = upd s.low v (min (s.low v) (s.turn b)) q ∧ _
    by_cases e : q = v
    · subst e
      rw [upd_same]
      by_cases hm : s.low q ≤ s.turn b
      · rw [Nat.min_eq_left hm]; exact ⟨u, h2, h3, h4⟩
      · rw [Nat.min_eq_right (by omega)]
        exact ⟨b, hb, rfl, RT.one ⟨hvn, I.lt b hb, List.mem_of_getElem? ht⟩⟩
    · rw [upd_ne _ _ e]; exact ⟨u, h2, h3, h4⟩
  · intro w hw x hx h q hq hle
    rcases hF w x h with h1 | ⟨rfl, rfl⟩
    · obtain ⟨r, g1, g2, g3⟩ := I.lc w hw x hx h1 q hq hle
      exact ⟨r, g1, g2, Nat.le_trans (lw r) g3⟩
    · refine ⟨w, hvp, hle, ?_⟩
      show upd _ _ _ _ ≤ _
      rw [upd_same]; exact Nat.min_le_right _ _

/-- An edge to a new node. -/
theorem Inv.down {n : Nat} {E : Nat → List Int} {s : TS} (I : Inv n E s) {v : Nat} {p : List Nat} (hp : s.path = v :: p) {b : Nat} (hb : b < n) (ht : (E v)[s.next v]? = some (b : Int)) (h0 : s.turn b = 0) : Inv n E ((s.bump v).enter b) := by
  have hvp : v ∈ s.path := by rw [hp]; exact List.mem_cons_self
  have hvo := I.sub v hvp
  have hvn := I.lt v hvo
  have hl : s.next v < (E v).length := (List.getElem?_eq_some_iff.1 ht).1
  refine I.enter hb h0 (s.bump v).next (fun a x h => ?_) (fun a ha => upd_ne _ _ (fun e => ha (e ▸ hvp))) (fun a ha => ?_) (fun q hq => ?_)
  · rcases Fol.bump h with h1 | ⟨rfl, h1⟩
    · exact .inl h1
    · rw [ht] at h1; exact .inr ⟨hvp, by have := Option.some.inj h1; omega⟩
  · show upd _ _ _ _ ≤ _
    by_cases e : a = v
    · subst e; rw [upd_same]; omega
    · rw [upd_ne _ _ e]; exact I.nle a ha
  · exact (I.p1 q hq v hvo (I.top hp q hq)).trans (RT.one ⟨hvn, hb, List.mem_of_getElem? ht⟩)

/-- The last node is left, its component goes further down. -/
theorem Inv.up {n : Nat} {E : Nat → List Int} {s : TS} (I : Inv n E s) {v b : Nat} {p : List Nat} (hp : s.path = v :: b :: p) (hd : s.next v = (E v).length) (hlow : s.low v < s.turn v) : Inv n E ({ s with path := b :: p, low := upd s.low b (min (s.low b) (s.low v)) }) := by
  have hvp : v ∈ s.path := by rw [hp]; exact List.mem_cons_self
  have hvo := I.sub v hvp
  have hvn := I.lt v hvo
  have hbp : b ∈ s.path := by rw [hp]; simp
  have hpd := I.pdesc
  rw [hp, List.pairwise_cons] at hpd
  have hsub : ∀ q ∈ b :: p, q ∈ s.path := fun q hq => by rw [hp]; exact List.mem_cons_of_mem _ hq
  have hof : ∀ q ∈ s.path, q ≠ v → q ∈ b :: p := fun q hq hne => by
    rw [hp] at hq
    rcases List.mem_cons.1 hq with h | h
    · exact absurd h hne
    · exact h
  have hvnp : v ∉ b :: p := fun h => by have := hpd.1 v h; omega
  obtain ⟨_, u, hu, hul, hur⟩ := I.ls v hvp
  have lw : ∀ q, upd s.low b (min (s.low b) (s.low v)) q ≤ s.low q := fun q => by
    by_cases e : q = b
    · subst e; rw [upd_same]; exact Nat.min_le_left _ _
    · rw [upd_ne _ _ e]; exact Nat.le_refl _
  refine ⟨I.lt, I.desc, hpd.2, fun q hq => I.sub q (hsub q hq), I.mem, I.le, I.new, I.nle, ?_, I.clo, I.ldn, I.cls, I.vis, fun q hq => I.p1 q (hsub q hq), ?_, ?_, ?_⟩
  · intro x hx hxp
    by_cases e : x = v
    · subst e; exact hd
    · exact I.fin x hx (fun h => hxp (hof x h e))
  · intro x hx
    obtain ⟨q, h1, h2, h3⟩ := I.p2 x hx
    by_cases e : q = v
    · subst e
      obtain ⟨r, g1, g2, g3⟩ := I.p2 u hu
      refine ⟨r, hof r g1 (fun e => by subst e; omega), ?_, (h3.trans hur).trans g3⟩
      show s.turn r ≤ s.turn x
      omega
    · exact ⟨q, hof q h1 e, h2, h3⟩
  · intro q hq
    obtain ⟨h1, x, h2, h3, h4⟩ := I.ls q (hsub q hq)
    refine ⟨Nat.le_trans (lw q) h1, ?_⟩
    show ∃ u ∈ s.opn, s.turn u = upd s.low b (min (s.low b) (s.low v)) q ∧ _
    by_cases e : q = b
    · subst e
      rw [upd_same]
      by_cases hm : s.low q ≤ s.low v
      · rw [Nat.min_eq_left hm]; exact ⟨x, h2, h3, h4⟩
      · rw [Nat.min_eq_right (by omega)]
        exact ⟨u, hu, hul, (I.p1 q hbp v hvo (I.top hp q hbp)).trans hur⟩
    · rw [upd_ne _ _ e]; exact ⟨x, h2, h3, h4⟩
  · intro w hw x hx h q hq hle
    obtain ⟨r, g1, g2, g3⟩ := I.lc w hw x hx h q (hsub q hq) hle
    by_cases e : r = v
    · subst e
      refine ⟨b, List.mem_cons_self, ?_, ?_⟩
      · rcases List.mem_cons.1 hq with rfl | hq
        · exact Nat.le_refl _
        · exact Nat.le_of_lt ((List.pairwise_cons.1 hpd.2).1 q hq)
      · show upd _ _ _ _ ≤ _
        rw [upd_same]; exact Nat.le_trans (Nat.min_le_right _ _) g3
    · exact ⟨r, hof r g1 e, g2, Nat.le_trans (lw r) g3⟩

/-- There is a node below it. -/
theorem Inv.below {n : Nat} {E : Nat → List Int} {s : TS} (I : Inv n E s) {v : Nat} {p : List Nat} (hp : s.path = v :: p) (hlow : s.low v < s.turn v) : ∃ b p', p = b :: p' := by
  obtain ⟨_, u, hu, hul, hur⟩ := I.ls v (by rw [hp]; exact List.mem_cons_self)
  obtain ⟨r, g1, g2, g3⟩ := I.p2 u hu
  cases p with
  | cons b p => exact ⟨b, p, rfl⟩
  | nil =>
    rw [hp] at g1
    obtain rfl := List.mem_singleton.1 g1
    omega

def setAll (f : Nat → Int) (l : List Nat) (v : Nat) : Nat → Int := fun u => if u ∈ l then (v : Int) else f u
theorem setAll_in {f : Nat → Int} {l : List Nat} {v u : Nat} (h : u ∈ l) : setAll f l v u = v := by simp [setAll, h]
theorem setAll_out {f : Nat → Int} {l : List Nat} {v u : Nat} (h : u ∉ l) : setAll f l v u = f u := by simp [setAll, h]
theorem setAll_nil (f : Nat → Int) (v : Nat) : setAll f [] v = f := by funext u; simp [setAll]
theorem setAll_push (f : Nat → Int) (l : List Nat) (v x : Nat) : upd (setAll f l v) x (v : Int) = setAll f (l ++ [x]) v := by
  funext u
  by_cases e : u = x
  · subst e; rw [upd_same, setAll_in (by simp)]
  · rw [upd_ne _ _ e]; simp [setAll, e]

/-- The last node is left, and with it its component. -/
theorem Inv.close {n : Nat} {E : Nat → List Int} {s : TS} (I : Inv n E s) {v : Nat} {p pre rest : List Nat} (hp : s.path = v :: p) (hd : s.next v = (E v).length) (hlow : ¬ s.low v < s.turn v) (ho : s.opn = pre ++ v :: rest) : Inv n E ({ s with path := p, opn := rest, lead := setAll s.lead (pre ++ [v]) v }) := by
  have hvp : v ∈ s.path := by rw [hp]; exact List.mem_cons_self
  have hvo := I.sub v hvp
  have hvn := I.lt v hvo
  have hpd := I.pdesc
  rw [hp, List.pairwise_cons] at hpd
  have hsub : ∀ q ∈ p, q ∈ s.path := fun q hq => by rw [hp]; exact List.mem_cons_of_mem _ hq
  have hof : ∀ q ∈ s.path, q ≠ v → q ∈ p := fun q hq hne => by
    rw [hp] at hq
    rcases List.mem_cons.1 hq with h | h
    · exact absurd h hne
    · exact h
  have hod := I.desc
  rw [ho, List.pairwise_append, List.pairwise_cons] at hod
  obtain ⟨hd1, ⟨hd2, hd3⟩, hd4⟩ := hod
  have ltv : s.low v = s.turn v := by have := (I.ls v hvp).1; omega
  -- what is open: of the component, or below it
  have hS : ∀ x ∈ s.opn, (x ∈ pre ++ [v] ↔ s.turn v ≤ s.turn x) ∧ (x ∈ rest ↔ s.turn x < s.turn v) := by
    intro x hx
    have h1 : ∀ y ∈ pre ++ [v], s.turn v ≤ s.turn y := fun y hy => by
      rcases List.mem_append.1 hy with h | h
      · exact Nat.le_of_lt (hd4 y h v List.mem_cons_self)
      · obtain rfl := List.mem_singleton.1 h; exact Nat.le_refl _
    have h2 : ∀ y ∈ rest, s.turn y < s.turn v := fun y hy => hd2 y hy
    have h3 : x ∈ pre ++ [v] ∨ x ∈ rest := by
      rw [ho] at hx
      rcases List.mem_append.1 hx with h | h
      · exact .inl (List.mem_append.2 (.inl h))
      · rcases List.mem_cons.1 h with rfl | h
        · exact .inl (List.mem_append.2 (.inr (List.mem_singleton.2 rfl)))
        · exact .inr h
    refine ⟨⟨h1 x, fun h => ?_⟩, ⟨h2 x, fun h => ?_⟩⟩
    · rcases h3 with h3 | h3
      · exact h3
      · have := h2 x h3; omega
    · rcases h3 with h3 | h3
      · have := h1 x h3; omega
      · exact h3
  have hro : ∀ x ∈ rest, x ∈ s.opn := fun x hx => by rw [ho]; exact List.mem_append.2 (.inr (List.mem_cons_of_mem _ hx))
  have hSo : ∀ x ∈ pre ++ [v], x ∈ s.opn := fun x hx => by
    rw [ho]
    rcases List.mem_append.1 hx with h | h
    · exact List.mem_append.2 (.inl h)
    · obtain rfl := List.mem_singleton.1 h; exact List.mem_append.2 (.inr List.mem_cons_self)
  have hdis : ∀ x ∈ rest, x ∉ pre ++ [v] := fun x hx h => by
    have a := ((hS x (hro x hx)).2.1 hx); have b := ((hS x (hro x hx)).1.1 h); omega
  -- the component is strongly connected
  have hto : ∀ x ∈ pre ++ [v], RT (Edge n E) v x := fun x hx => I.p1 v hvp x (hSo x hx) ((hS x (hSo x hx)).1.1 hx)
  have hfrom : ∀ x ∈ pre ++ [v], RT (Edge n E) x v := fun x hx => by
    obtain ⟨q, g1, g2, g3⟩ := I.p2 x (hSo x hx)
    exact g3.trans (I.p1 q g1 v hvo (I.top hp q g1))
  have hopen : ∀ x ∈ pre ++ [v], s.lead x < 0 := fun x hx => ((I.mem x (I.lt x (hSo x hx))).1 (hSo x hx)).2
  -- and nothing else that is open is reached by an edge
  have hedge : ∀ x ∈ pre ++ [v], ∀ b, Edge n E x b → b ∈ pre ++ [v] ∨ 0 ≤ s.lead b := by
    intro x hx b hb
    have hxo := hSo x hx
    have hnx : s.next x = (E x).length := by
      by_cases e : x = v
      · subst e; exact hd
      · refine I.fin x hxo (fun h => ?_)
        have h1 := I.top hp x h
        have h2 := (hS x hxo).1.1 hx
        exact e (I.inj hxo hvo (by omega))
    have hf := Fol.all hb hnx
    have hv0 := I.vis x hxo b hf
    by_cases hc : 0 ≤ s.lead b
    · exact .inr hc
    · have hbo : b ∈ s.opn := (I.mem b hb.2.1).2 ⟨hv0, by omega⟩
      obtain ⟨q, g1, g2, g3⟩ := I.lc x hxo b hbo hf v hvp ((hS x hxo).1.1 hx)
      have := I.top hp q g1
      have e : q = v := I.inj (I.sub q g1) hvo (by omega)
      subst e
      exact .inl ((hS b hbo).1.2 (by omega))
  have hcl0 : ∀ a b, (a < n ∧ 0 ≤ s.lead a) → Edge n E a b → (b < n ∧ 0 ≤ s.lead b) := fun a b h e => ⟨e.2.1, I.clo a h.1 h.2 b e⟩
  have hvl : setAll s.lead (pre ++ [v]) v v = v := setAll_in (by simp)
  refine ⟨fun x hx => I.lt x (hro x hx), hd3, hpd.2, ?_, ?_, I.le, ?_, I.nle, ?_, ?_, ?_, ?_, ?_, ?_, ?_, ?_, ?_⟩
  · intro q hq
    exact (hS q (I.sub q (hsub q hq))).2.2 (hpd.1 q hq)
  · intro x hx
    show x ∈ rest ↔ s.turn x ≠ 0 ∧ setAll s.lead (pre ++ [v]) v x < 0
    by_cases hin : x ∈ pre ++ [v]
    · rw [setAll_in hin]
      exact ⟨fun h => absurd hin (hdis x h), fun h => by omega⟩
    · rw [setAll_out hin, ← I.mem x hx]
      refine ⟨hro x, fun h => ?_⟩
      have := (hS x h).1; have h2 := (hS x h).2
      exact h2.2 (by have := mt this.2 hin; omega)
  · intro x hx h
    show setAll s.lead (pre ++ [v]) v x < 0 ∧ _
    rw [setAll_out (fun hin => ((I.mem x hx).1 (hSo x hin)).1 h)]
    exact I.new x hx h
  · intro x hx hxp
    refine I.fin x (hro x hx) (fun h => hxp (hof x h (fun e => ?_)))
    subst e; exact hdis x hx (by simp)
  · intro x hx hc b hb
    show 0 ≤ setAll s.lead (pre ++ [v]) v b
    have hc : 0 ≤ setAll s.lead (pre ++ [v]) v x := hc
    by_cases hbi : b ∈ pre ++ [v]
    · rw [setAll_in hbi]; omega
    · rw [setAll_out hbi]
      by_cases hin : x ∈ pre ++ [v]
      · rcases hedge x hin b hb with h | h
        · exact absurd h hbi
        · exact h
      · rw [setAll_out hin] at hc; exact I.clo x hx hc b hb
  · intro x hx hc
    show ∃ u : Nat, setAll s.lead (pre ++ [v]) v x = u ∧ u < n ∧ 0 ≤ setAll s.lead (pre ++ [v]) v u
    have hc : 0 ≤ setAll s.lead (pre ++ [v]) v x := hc
    by_cases hin : x ∈ pre ++ [v]
    · exact ⟨v, setAll_in hin, hvn, by rw [hvl]; omega⟩
    · rw [setAll_out hin] at hc ⊢
      obtain ⟨u, h1, h2, h3⟩ := I.ldn x hx hc
      refine ⟨u, h1, h2, ?_⟩
      rw [setAll_out (fun h => by have := hopen u h; omega)]; exact h3
  · intro a b ha hb hca hcb
    show setAll s.lead (pre ++ [v]) v a = setAll s.lead (pre ++ [v]) v b ↔ _
    have hca : 0 ≤ setAll s.lead (pre ++ [v]) v a := hca
    have hcb : 0 ≤ setAll s.lead (pre ++ [v]) v b := hcb
    have key : ∀ x y, x < n → x ∈ pre ++ [v] → y < n → y ∉ pre ++ [v] → 0 ≤ s.lead y → ¬ (s.lead y = (v : Int)) ∧ ¬ RT (Edge n E) y x := by
      intro x y hx hxi hy hyi hyc
      refine ⟨fun e => ?_, fun h => ?_⟩
      · obtain ⟨u, h1, h2, h3⟩ := I.ldn y hy hyc
        rw [e] at h1
        have : v = u := by omega
        subst this
        have := hopen v (by simp); omega
      · have := (h.keeps hcl0 ⟨hy, hyc⟩).2
        have := hopen x hxi; omega
    by_cases hia : a ∈ pre ++ [v] <;> by_cases hib : b ∈ pre ++ [v]
    · rw [setAll_in hia, setAll_in hib]
      exact ⟨fun _ => ⟨(hfrom a hia).trans (hto b hib), (hfrom b hib).trans (hto a hia)⟩, fun _ => rfl⟩
    · rw [setAll_out hib] at hcb ⊢
      rw [setAll_in hia]
      have k := key a b ha hia hb hib hcb
      exact ⟨fun h => absurd h.symm k.1, fun h => absurd h.2 k.2⟩
    · rw [setAll_out hia] at hca ⊢
      rw [setAll_in hib]
      have k := key b a hb hib ha hia hca
      exact ⟨fun h => absurd h k.1, fun h => absurd h.1 k.2⟩
    · rw [setAll_out hia] at hca ⊢
      rw [setAll_out hib] at hcb ⊢
      exact I.cls a b ha hb hca hcb
  · intro a ha b h
    exact I.vis a (hro a ha) b h
  · intro q hq x hx h
    exact I.p1 q (hsub q hq) x (hro x hx) h
  · intro x hx
    obtain ⟨q, h1, h2, h3⟩ := I.p2 x (hro x hx)
    refine ⟨q, hof q h1 (fun e => ?_), h2, h3⟩
    subst e
    have := (hS x (hro x hx)).2.1 hx; omega
  · intro q hq
    obtain ⟨h1, u, h2, h3, h4⟩ := I.ls q (hsub q hq)
    refine ⟨h1, u, (hS u h2).2.2 ?_, h3, h4⟩
    have := hpd.1 q hq; omega
  · intro w hw x hx h q hq hle
    obtain ⟨r, g1, g2, g3⟩ := I.lc w (hro w hw) x (hro x hx) h q (hsub q hq) hle
    refine ⟨r, hof r g1 (fun e => ?_), g2, g3⟩
    subst e
    have := (hS x (hro x hx)).2.1 hx; omega

theorem Inv.split {n : Nat} {E : Nat → List Int} {s : TS} (I : Inv n E s) {v : Nat} (hv : v ∈ s.opn) : ∃ pre rest, s.opn = pre ++ v :: rest ∧ v ∉ pre := by
  obtain ⟨pre, rest, h⟩ := List.append_of_mem hv
  refine ⟨pre, rest, h, fun hp => ?_⟩
  have := I.desc
  rw [h, List.pairwise_append] at this
  exact Nat.lt_irrefl _ (this.2.2 v hp v List.mem_cons_self)

/-- The sum of f at the numbers below n. -/
def tot : Nat → (Nat → Nat) → Nat
  | 0, _ => 0
  | n + 1, f => tot n f + f n
theorem tot_congr {n : Nat} {f g : Nat → Nat} (h : ∀ i, i < n → f i = g i) : tot n f = tot n g := by
  induction n with
  | zero => rfl
  | succ n ih => simp only [tot]; rw [ih (fun i hi => h i (by omega)), h n (by omega)]
theorem tot_upd {n i : Nat} {f : Nat → Nat} (x : Nat) (h : i < n) : tot n (upd f i x) + f i = tot n f + x := by
  induction n with
  | zero => omega
  | succ n ih =>
    simp only [tot]
    by_cases e : i = n
    · subst e
      rw [upd_same, tot_congr (g := f) (fun j hj => upd_ne _ _ (by omega))]; omega
    · have := ih (by omega)
      rw [upd_ne _ _ (fun h => e h.symm)]; omega
theorem tot_le {n : Nat} {f g : Nat → Nat} (h : ∀ i, i < n → f i ≤ g i) : tot n f ≤ tot n g := by
  induction n with
  | zero => exact Nat.le_refl _
  | succ n ih => simp only [tot]; have := ih (fun i hi => h i (by omega)); have := h n (by omega); omega
theorem tot_zero (n : Nat) : tot n (fun _ => 0) = 0 := by induction n with | zero => rfl | succ n ih => simp [tot, ih]
theorem tot_one (n : Nat) : tot n (fun _ => 1) = n := by induction n with | zero => rfl | succ n ih => simp [tot, ih]

/-- How many nodes were not found. -/
def isNew (t : Nat → Nat) : Nat → Nat := fun v => if t v = 0 then 1 else 0
/-- All that holds between two steps. -/
structure Step (n : Nat) (E : Nat → List Int) (s : TS) : Prop where
  inv : Inv n E s
  cnt : s.found + tot n (isNew s.turn) = n
  pl : s.path.length ≤ s.found
  ol : s.opn.length ≤ s.found
  lw : ∀ u, u < n → s.low u ≤ s.found
/-- What is left to do. -/
def TS.work (n : Nat) (E : Nat → List Int) (s : TS) : Nat := 2 * (tot n (fun v => (E v).length) - tot n s.next) + s.path.length
theorem isNew_upd {t : Nat → Nat} {v x : Nat} (hx : x ≠ 0) : isNew (upd t v x) = upd (isNew t) v 0 := by
  funext u
  by_cases e : u = v
  · subst e; simp [isNew, upd_same, hx]
  · simp [isNew, upd_ne _ _ e]
theorem Step.cntEnter {n : Nat} {E : Nat → List Int} {s : TS} (h : s.found + tot n (isNew s.turn) = n) {v : Nat} (hv : v < n) (h0 : s.turn v = 0) : s.found + 1 + tot n (isNew (upd s.turn v (s.found + 1))) = n := by
  rw [isNew_upd (by omega)]
  have := tot_upd (f := isNew s.turn) 0 hv
  simp [isNew, h0] at this
  unfold isNew at *
  omega
theorem Step.lwEnter {n : Nat} {E : Nat → List Int} {s : TS} (I : Step n E s) (v : Nat) : ∀ u, u < n → upd s.low v (s.found + 1) u ≤ s.found + 1 := fun u hu => by
    show upd s.low v (s.found + 1) u ≤ s.found + 1
    by_cases e : u = v
    · subst e; rw [upd_same]; exact Nat.le_refl _
    · rw [upd_ne _ _ e]; have := I.lw u hu; omega
theorem Step.lwSet {n : Nat} {E : Nat → List Int} {s : TS} (I : Step n E s) {v x : Nat} (hx : x ≤ s.low v ∨ x ≤ s.found) (hv : v < n) : ∀ u, u < n → upd s.low v x u ≤ s.found := fun u hu => by
    by_cases e : u = v
    · subst e; rw [upd_same]; have := I.lw u hu; omega
    · rw [upd_ne _ _ e]; exact I.lw u hu
theorem Step.first {n : Nat} {E : Nat → List Int} {s : TS} (I : Step n E s) {v : Nat} (hv : v < n) (h0 : s.turn v = 0) (hp : s.path = []) : Step n E (s.enter v) :=
  ⟨I.inv.first hv h0 hp, Step.cntEnter (E := E) I.cnt hv h0, by have := I.pl; simp [TS.enter]; omega, by have := I.ol; simp [TS.enter]; omega, I.lwEnter v⟩
theorem Step.le {n : Nat} {E : Nat → List Int} {s : TS} (I : Step n E s) : s.found ≤ n := by have := I.cnt; omega

/-- One edge is followed. -/
def TS.follow (n : Nat) (s : TS) (v : Nat) (t : Int) : TS :=
  if 0 ≤ t ∧ t < (n : Int) then (if s.turn t.toNat = 0 then s.enter t.toNat else if s.lead t.toNat < 0 then s.lower v (s.turn t.toNat) else s) else s
theorem Step.edge {n : Nat} {E : Nat → List Int} {s : TS} (I : Step n E s) {v : Nat} {p : List Nat} (hp : s.path = v :: p) {t : Int} (ht : (E v)[s.next v]? = some t) : Step n E ((s.bump v).follow n v t) ∧ ((s.bump v).follow n v t).work n E < s.work n E := by
  have hvn := I.inv.lt v (I.inv.sub v (by rw [hp]; exact List.mem_cons_self))
  have hl : s.next v < (E v).length := (List.getElem?_eq_some_iff.1 ht).1
  have hb := tot_upd (f := s.next) (s.next v + 1) hvn
  have hw : tot n (upd s.next v (s.next v + 1)) ≤ tot n (fun v => (E v).length) := tot_le (fun i hi => by
    by_cases e : i = v
    · subst e; rw [upd_same]; omega
    · rw [upd_ne _ _ e]; exact I.inv.nle i hi)
  unfold TS.follow
  by_cases h : 0 ≤ t ∧ t < (n : Int)
  · rw [if_pos h]
    obtain ⟨b, rfl⟩ : ∃ b : Nat, t = b := ⟨t.toNat, by omega⟩
    rw [Int.toNat_natCast]
    have hbn : b < n := by omega
    by_cases h0 : s.turn b = 0
    · rw [if_pos (show (s.bump v).turn b = 0 from h0)]
      refine ⟨⟨I.inv.down hp hbn ht h0, Step.cntEnter (E := E) I.cnt hbn h0, by have := I.pl; simp [TS.enter, TS.bump]; omega, by have := I.ol; simp [TS.enter, TS.bump]; omega, I.lwEnter b⟩, ?_⟩
      show 2 * (_ - tot n (upd s.next v (s.next v + 1))) + (b :: s.path).length < 2 * (_ - tot n s.next) + s.path.length
      simp only [List.length_cons]; omega
    · rw [if_neg (show ¬ (s.bump v).turn b = 0 from h0)]
      by_cases hc : s.lead b < 0
      · rw [if_pos (show (s.bump v).lead b < 0 from hc)]
        refine ⟨⟨I.inv.back hp ht ((I.inv.mem b hbn).2 ⟨h0, hc⟩), I.cnt, I.pl, I.ol, I.lwSet (.inl (Nat.min_le_left _ _)) hvn⟩, ?_⟩
        show 2 * (_ - tot n (upd s.next v (s.next v + 1))) + s.path.length < 2 * (_ - tot n s.next) + s.path.length
        omega
      · rw [if_neg (show ¬ (s.bump v).lead b < 0 from hc)]
        refine ⟨⟨I.inv.skip hp ht (fun x hx e => by have : b = x := by omega
                                                    subst this; exact ⟨by omega, h0⟩), I.cnt, I.pl, I.ol, I.lw⟩, ?_⟩
        show 2 * (_ - tot n (upd s.next v (s.next v + 1))) + s.path.length < 2 * (_ - tot n s.next) + s.path.length
        omega
  · rw [if_neg h]
    refine ⟨⟨I.inv.skip hp ht (fun x hx e => by omega), I.cnt, I.pl, I.ol, I.lw⟩, ?_⟩
    show 2 * (_ - tot n (upd s.next v (s.next v + 1))) + s.path.length < 2 * (_ - tot n s.next) + s.path.length
    omega

theorem Step.up {n : Nat} {E : Nat → List Int} {s : TS} (I : Step n E s) {v b : Nat} {p : List Nat} (hp : s.path = v :: b :: p) (hd : s.next v = (E v).length) (hlow : s.low v < s.turn v) : Step n E ({ s with path := b :: p, low := upd s.low b (min (s.low b) (s.low v)) }) ∧ ({ s with path := b :: p, low := upd s.low b (min (s.low b) (s.low v)) } : TS).work n E < s.work n E := by
  have := I.pl
  rw [hp] at this
  refine ⟨⟨I.inv.up hp hd hlow, I.cnt, by simp at *; omega, I.ol, I.lwSet (.inl (Nat.min_le_left _ _)) (I.inv.lt b (I.inv.sub b (by rw [hp]; simp)))⟩, ?_⟩
  show 2 * (_ - tot n s.next) + (b :: p).length < 2 * (_ - tot n s.next) + s.path.length
  rw [hp]; simp
theorem Step.close {n : Nat} {E : Nat → List Int} {s : TS} (I : Step n E s) {v : Nat} {p pre rest : List Nat} (hp : s.path = v :: p) (hd : s.next v = (E v).length) (hlow : ¬ s.low v < s.turn v) (ho : s.opn = pre ++ v :: rest) : Step n E ({ s with path := p, opn := rest, lead := setAll s.lead (pre ++ [v]) v }) ∧ ({ s with path := p, opn := rest, lead := setAll s.lead (pre ++ [v]) v } : TS).work n E < s.work n E := by
  have h1 := I.pl
  have h2 := I.ol
  rw [hp] at h1
  rw [ho] at h2
  refine ⟨⟨I.inv.close hp hd hlow ho, I.cnt, by simp at *; omega, by simp at *; omega, I.lw⟩, ?_⟩
  show 2 * (_ - tot n s.next) + p.length < 2 * (_ - tot n s.next) + s.path.length
  rw [hp]; simp

/-- Before the search. -/
def TS.zero : TS := ⟨0, fun _ => 0, fun _ => 0, fun _ => 0, fun _ => -1, [], []⟩
theorem Step.zero (n : Nat) (E : Nat → List Int) : Step n E TS.zero := by
  refine ⟨?_, ?_, Nat.le_refl _, Nat.le_refl _, fun _ _ => Nat.le_refl _⟩
  · constructor <;> simp [TS.zero, Fol]
  · show 0 + tot n (isNew fun _ => 0) = n
    rw [show (isNew fun _ => 0) = fun _ => 1 from by funext u; simp [isNew], tot_one]; omega

theorem Step.small {n : Nat} {E : Nat → List Int} {s : TS} (I : Step n E s) (hn : n ≤ 100000) : s.found ≤ 100000 ∧ s.path.length ≤ 100000 ∧ s.opn.length ≤ 100000 ∧ ∀ u, u < n → s.turn u ≤ 100000 ∧ s.low u ≤ 100000 := by
  have h1 := I.le
  have h2 := I.pl
  have h3 := I.ol
  exact ⟨by omega, by omega, by omega, fun u hu => ⟨by have := I.inv.le u hu; omega, by have := I.lw u hu; omega⟩⟩
/-- Nodes that were found stay so. -/
theorem follow_turn {n : Nat} {s : TS} {v : Nat} {t : Int} {u : Nat} (h : s.turn u ≠ 0) : ((s.bump v).follow n v t).turn u ≠ 0 := by
  unfold TS.follow
  split
  · split
    · show upd s.turn t.toNat (s.found + 1) u ≠ 0
      by_cases e : u = t.toNat
      · subst e; rw [upd_same]; omega
      · rw [upd_ne _ _ e]; exact h
    · split <;> exact h
  · exact h
theorem enter_turn {s : TS} {v u : Nat} (h : s.turn u ≠ 0 ∨ u = v) : (s.enter v).turn u ≠ 0 := by
  show upd s.turn v (s.found + 1) u ≠ 0
  by_cases e : u = v
  · subst e; rw [upd_same]; omega
  · rw [upd_ne _ _ e]; exact h.resolve_right e

theorem least_is {P : Nat → Prop} (h : ∃ k, P k) : ∃ k, P k ∧ ∀ j, P j → k ≤ j := by
  obtain ⟨k, hk⟩ := h
  induction k using Nat.strongRecOn with
  | _ k ih =>
    by_cases h : ∃ j, j < k ∧ P j
    · obtain ⟨j, hj, hp⟩ := h; exact ih j hj hp
    · exact ⟨k, hk, fun j hj => Nat.le_of_not_lt (fun hl => h ⟨j, hl, hj⟩)⟩
open Classical in
/-- The least number with a property. -/
noncomputable def lst (P : Nat → Prop) : Nat := if h : ∃ k, P k then Classical.choose (least_is h) else 0
theorem lst_is {P : Nat → Prop} (h : ∃ k, P k) : P (lst P) := by
  unfold lst; rw [dif_pos h]; exact (Classical.choose_spec (least_is h)).1
theorem lst_le {P : Nat → Prop} {j : Nat} (h : P j) : lst P ≤ j := by
  unfold lst; rw [dif_pos ⟨j, h⟩]; exact (Classical.choose_spec (least_is ⟨j, h⟩)).2 j h

/-- The leaders name the components. -/
def LeadsOf (n : Nat) (E : Nat → List Int) (L : Nat → Int) : Prop :=
  (∀ v, v < n → ∃ u : Nat, L v = (u : Int) ∧ u < n) ∧ ∀ a b, a < n → b < n → (L a = L b ↔ RT (Edge n E) a b ∧ RT (Edge n E) b a)
theorem Step.leads {n : Nat} {E : Nat → List Int} {s : TS} (I : Step n E s) (hp : s.path = []) (ha : ∀ v, v < n → s.turn v ≠ 0) : LeadsOf n E s.lead := by
  have he := I.inv.empty hp
  have hc : ∀ v, v < n → 0 ≤ s.lead v := fun v hv => by
    have := I.inv.mem v hv
    rw [he] at this
    have h2 := ha v hv
    have h3 : ¬ (s.turn v ≠ 0 ∧ s.lead v < 0) := fun h => by cases this.2 h
    have : ¬ s.lead v < 0 := fun h => h3 ⟨h2, h⟩
    omega
  refine ⟨fun v hv => ?_, fun a b h1 h2 => I.inv.cls a b h1 h2 (hc a h1) (hc b h2)⟩
  obtain ⟨u, h1, h2, _⟩ := I.inv.ldn v hv (hc v hv)
  exact ⟨u, h1, h2⟩
end Go.Proofs.Ytfpocoaddmgakaa
