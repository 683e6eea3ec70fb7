import PyProof.Rows.All
import Wide.All
import OpenK.AllK
import Wide.FinOn
import HandS.ForMost
import HandS.Deep
import HandS.TupAny
import HandS.IsInst
import HandS.Flow
import HandS.Zip
import HandS.Wide
import HandS.Walk
import HandS.TupMul
import KE.SortData
import KE.DataCmp
import KE.GoesMore
import HandS.Style
import PySem.Challenge.RW_everychange_k30_lyndon_words_among_all
set_option Elab.async false
set_option linter.all false
set_option maxRecDepth 100000
set_option maxHeartbeats 4000000
namespace Vi
open PySem PySem.Spec PyProof.Rows L2

abbrev D := PyData
abbrev Mset := Addr → Prop
abbrev St := L2.St

/-- a tuple that stays -/
def TupAt (K : PySem.W.Frag) (H : Hp) (M : Mset) (a : Addr) (xs : List V) : Prop :=
  (Rd H a (.tup xs) ∧ ¬ M a) ∨
    ∃ (o : Obj) (its : Array Value) (n : Nat), K.lookup a = some o ∧ o.cls = .type "tuple" ∧ o.data = .seq its n ∧ its.size ≤ sizeLine ∧ Vals xs its.toList
theorem TupAt.sq {K : PySem.W.Frag} {H : Hp} {M : Mset} {a : Addr} {xs : List V} (h : TupAt K H M a xs) : SqT K H a xs := by
  rcases h with ⟨h, _⟩ | h
  · exact .inl h
  · exact .inr h

/-- a list that stays, of the module's own too (the script) -/
def LstAt (K : PySem.W.Frag) (H : Hp) (M : Mset) (a : Addr) (xs : List V) : Prop :=
  (Rd H a (.lst xs) ∧ ¬ M a) ∨
    ∃ (o : Obj) (its : Array Value) (n : Nat), K.lookup a = some o ∧ o.cls = .type "list" ∧ o.dict = none ∧ o.data = .seq its n ∧ its.size ≤ sizeLine ∧ Vals xs its.toList
theorem LstAt.sq {K : PySem.W.Frag} {H : Hp} {M : Mset} {a : Addr} {xs : List V} (h : LstAt K H M a xs) : SqL K H a xs := by
  rcases h with ⟨h, _⟩ | h
  · exact .inl h
  · exact .inr h

mutual
inductive Rep (K : PySem.W.Frag) (H : Hp) (M : Mset) : V → D → Prop
  | non : Rep K H M .non .none
  | bl (b : Bool) : Rep K H M (.bl b) (.bool b)
  | int (i : Int) : Rep K H M (.int i) (.int i)
  | str (x : Str) : Rep K H M (.str x) (.str x)
  | lst {a : Addr} {xs : List V} {ds : List D} : Rd H a (.lst xs) → ¬ M a → Reps K H M xs ds → Rep K H M (.ref a) (.list ds)
  | tup {a : Addr} {xs : List V} {ds : List D} : TupAt K H M a xs → Reps K H M xs ds → Rep K H M (.ref a) (.tuple ds)
  | scr {a : Addr} {xs : List V} {kvs : List (D × D)} : LstAt K H M a xs → Reps K H M xs (kvs.map Prod.fst) → Rep K H M (.ref a) (.dict kvs)
inductive Reps (K : PySem.W.Frag) (H : Hp) (M : Mset) : List V → List D → Prop
  | nil : Reps K H M [] []
  | cons {v : V} {vs : List V} {d : D} {ds : List D} : Rep K H M v d → Reps K H M vs ds → Reps K H M (v :: vs) (d :: ds)
end

section
variable {K : PySem.W.Frag} {H H' : Hp} {M M' : Mset}
mutual
theorem Rep.tr (t : ∀ a u, Rd H a u → ¬ M a → Rd H' a u ∧ ¬ M' a) : ∀ {v : V} {d : D}, Rep K H M v d → Rep K H' M' v d
  | _, _, .non => .non
  | _, _, .bl b => .bl b
  | _, _, .int i => .int i
  | _, _, .str x => .str x
  | _, _, .lst h n r => .lst (t _ _ h n).1 (t _ _ h n).2 (Reps.tr t r)
  | _, _, .tup h r => .tup (by
      rcases h with ⟨h, n⟩ | h
      · exact .inl (t _ _ h n)
      · exact .inr h) (Reps.tr t r)
  | _, _, .scr h r => .scr (by
      rcases h with ⟨h, n⟩ | h
      · exact .inl (t _ _ h n)
      · exact .inr h) (Reps.tr t r)
theorem Reps.tr (t : ∀ a u, Rd H a u → ¬ M a → Rd H' a u ∧ ¬ M' a) : ∀ {vs : List V} {ds : List D}, Reps K H M vs ds → Reps K H' M' vs ds
  | _, _, .nil => .nil
  | _, _, .cons h r => .cons (Rep.tr t h) (Reps.tr t r)
end
mutual
theorem Rep.dp : ∀ {v : V} {d : D}, Rep K H M v d → d.canLay0 = true → Dp K H v d
  | _, _, .non, _ => .non
  | _, _, .bl b, _ => .bl b
  | _, _, .int i, _ => .int i
  | _, _, .str x, _ => .str x
  | _, _, .lst h n r, c => .lst (.inl h) (Reps.dp r (by simpa [PyData.canLay0] using c))
  | _, _, .tup h r, c => .tup h.sq (Reps.dp r (by simpa [PyData.canLay0] using c))
  | _, _, .scr h r, c => by simp [PyData.canLay0] at c
theorem Reps.dp : ∀ {vs : List V} {ds : List D}, Reps K H M vs ds → PyData.canLayAll0 ds = true → DpAll K H vs ds
  | _, _, .nil, _ => .nil
  | _, _, .cons h r, c => .cons (Rep.dp h (by simp [PyData.canLayAll0] at c; exact c.1)) (Reps.dp r (by simp [PyData.canLayAll0] at c; exact c.2))
end
theorem Rep.smaller (h : ∀ a, M' a → M a) {v : V} {d : D} (r : Rep K H M v d) : Rep K H M' v d := r.tr fun a u q n => ⟨q, fun z => n (h a z)⟩
theorem Reps.smaller (h : ∀ a, M' a → M a) {v : List V} {d : List D} (r : Reps K H M v d) : Reps K H M' v d := r.tr fun a u q n => ⟨q, fun z => n (h a z)⟩
theorem Reps.length : ∀ {vs : List V} {ds : List D}, Reps K H M vs ds → vs.length = ds.length
  | _, _, .nil => rfl
  | _, _, .cons _ r => by rw [List.length_cons, List.length_cons, Reps.length r]
theorem Reps.append : ∀ {vs ws : List V} {ds es : List D}, Reps K H M vs ds → Reps K H M ws es → Reps K H M (vs ++ ws) (ds ++ es)
  | _, _, _, _, .nil, s => s
  | _, _, _, _, .cons h r, s => .cons h (Reps.append r s)
theorem Reps.get : ∀ {vs : List V} {ds : List D} {i : Nat} {d : D}, Reps K H M vs ds → ds[i]? = some d → ∃ v, vs[i]? = some v ∧ Rep K H M v d
  | _, _, _, _, .nil, e => by simp at e
  | _, _, 0, _, .cons h r, e => by simp at e; subst e; exact ⟨_, rfl, h⟩
  | _, _, i + 1, d, .cons h r, e => by
    obtain ⟨v, h1, h2⟩ := Reps.get (i := i) (d := d) r (by simpa using e)
    exact ⟨v, by simpa using h1, h2⟩
theorem Reps.getV : ∀ {vs : List V} {ds : List D} {i : Nat} {v : V}, Reps K H M vs ds → vs[i]? = some v → ∃ d, ds[i]? = some d ∧ Rep K H M v d
  | _, _, _, _, .nil, e => by simp at e
  | _, _, 0, _, .cons h r, e => by simp at e; subst e; exact ⟨_, rfl, h⟩
  | _, _, i + 1, v, .cons h r, e => by
    obtain ⟨d, h1, h2⟩ := Reps.getV (i := i) (v := v) r (by simpa using e)
    exact ⟨d, by simpa using h1, h2⟩
theorem Reps.take : ∀ {vs : List V} {ds : List D} (n : Nat), Reps K H M vs ds → Reps K H M (vs.take n) (ds.take n)
  | _, _, 0, _ => by simp; exact .nil
  | _, _, _ + 1, .nil => .nil
  | _, _, n + 1, .cons h r => .cons h (Reps.take n r)
theorem Reps.drop : ∀ {vs : List V} {ds : List D} (n : Nat), Reps K H M vs ds → Reps K H M (vs.drop n) (ds.drop n)
  | _, _, 0, r => r
  | _, _, _ + 1, .nil => .nil
  | _, _, n + 1, .cons h r => Reps.drop n r
theorem Reps.set : ∀ {vs : List V} {ds : List D} (i : Nat) {v : V} {d : D}, Reps K H M vs ds → Rep K H M v d → Reps K H M (vs.set i v) (ds.set i d)
  | _, _, _, _, _, .nil, _ => .nil
  | _, _, 0, _, _, .cons _ r, q => .cons q r
  | _, _, i + 1, _, _, .cons h r, q => .cons h (Reps.set i r q)
theorem Reps.erase : ∀ {vs : List V} {ds : List D} (i : Nat), Reps K H M vs ds → Reps K H M (vs.eraseIdx i) (ds.eraseIdx i)
  | _, _, _, .nil => .nil
  | _, _, 0, .cons _ r => r
  | _, _, i + 1, .cons h r => .cons h (Reps.erase i r)
theorem Reps.rep {vs : List V} {ds : List D} (h : Reps K H M vs ds) : ∀ k : Nat, Reps K H M (List.replicate k vs).flatten (List.replicate k ds).flatten
  | 0 => .nil
  | k + 1 => by
    rw [List.replicate_succ, List.replicate_succ, List.flatten_cons, List.flatten_cons]
    exact Reps.append h (Reps.rep h k)
end

/-! ### what a def's names hold -/
inductive Sv where
  | imm (d : D)
  | own (pin : Bool) (ds : List D)
abbrev Fm := List (Option Sv)

/-- from one world to a later one: what is fixed stays -/
structure Ext (O : Mset) (H : Hp) (M : Mset) (H' : Hp) (M' : Mset) : Prop where
  keep : ∀ a o, H a = some o → (O a ∨ ¬ M a) → H' a = some o
  sub : ∀ a, O a → M' a
  new : ∀ a, M' a → M a ∨ H a = none
theorem Ext.trans {O : Mset} {H H1 H2 : Hp} {M M1 M2 : Mset} (a : Ext O H M H1 M1) (b : Ext O H1 M1 H2 M2) : Ext O H M H2 M2 := by
  refine ⟨fun x o e h => ?_, b.sub, fun x h => ?_⟩
  · have e1 := a.keep x o e h
    refine b.keep x o e1 ?_
    rcases h with h | h
    · exact .inl h
    · refine .inr fun z => ?_
      rcases a.new x z with q | q
      · exact h q
      · rw [e] at q; cases q
  · rcases b.new x h with q | q
    · exact a.new x q
    · cases e : H x with
      | none => exact .inr rfl
      | some o =>
        refine .inl (Classical.byContradiction fun n => ?_)
        have := a.keep x o e (.inr n)
        rw [this] at q; cases q
theorem Ext.less {O O' : Mset} {H H1 : Hp} {M M1 : Mset} (a : Ext O H M H1 M1) (h : ∀ x, O' x → O x) : Ext O' H M H1 M1 :=
  ⟨fun x o e q => a.keep x o e (q.imp (h x) id), fun x q => a.sub x (h x q), a.new⟩
theorem Ext.tr {O : Mset} {H H' : Hp} {M M' : Mset} (x : Ext O H M H' M') : ∀ a u, Rd H a u → ¬ M a → Rd H' a u ∧ ¬ M' a := fun a u h n => by
  refine ⟨?_, fun z => ?_⟩
  · rcases h with h | ⟨o, h⟩
    · exact .inl (x.keep a _ h (.inr n))
    · exact .inr ⟨o, x.keep a _ h (.inr n)⟩
  · rcases x.new a z with q | q
    · exact n q
    · rcases h with h | ⟨o, h⟩ <;> (rw [h] at q; cases q)

structure SR (K : PySem.W.Frag) (H : Hp) (M O : Mset) (π : Nat → Option Addr) (ρ : Fm) (σ : St) : Prop where
  len : ρ.length = σ.length
  sub : ∀ a, O a → M a
  live : ∀ a, M a → H a ≠ none
  imm : ∀ (i : Nat) (d : D), ρ[i]? = some (some (.imm d)) → ∃ v, σ[i]? = some (some v) ∧ Rep K H M v d
  own : ∀ (i : Nat) (b : Bool) (ds : List D), ρ[i]? = some (some (.own b ds)) → ∃ a vs, σ[i]? = some (some (.ref a)) ∧ H a = some (.lst vs) ∧ M a ∧ ¬ O a ∧ Reps K H M vs ds ∧ (b = true → π i = some a)
  uniq : ∀ (i j : Nat) (b c : Bool) (ds es : List D) (a : Addr), i ≠ j → ρ[i]? = some (some (.own b ds)) → ρ[j]? = some (some (.own c es)) → σ[i]? = some (some (.ref a)) → σ[j]? ≠ some (some (.ref a))

theorem Ext.refl {K : PySem.W.Frag} {H : Hp} {M O : Mset} {π : Nat → Option Addr} {ρ : Fm} {σ : St} (h : SR K H M O π ρ σ) : Ext O H M H M := ⟨fun _ _ e _ => e, h.sub, fun _ q => .inl q⟩

section
variable {K : PySem.W.Frag} {H H' : Hp} {M M' O : Mset} {π : Nat → Option Addr} {ρ ρ' : Fm} {σ : St}
/-- a new object, not owned by a name -/
theorem SR.alloc (h : SR K H M O π ρ σ) {p : Addr} {o : HO} (hp : H p = none) : SR K (upd H p o) M O π ρ σ := by
  have ne : ∀ a, M a → a ≠ p := fun a q z => h.live a q (by rw [z]; exact hp)
  have ne2 : ∀ {a : Addr} {u : HO}, H a = some u → a ≠ p := fun e z => by rw [z, hp] at e; cases e
  have t : ∀ a u, Rd H a u → ¬ M a → Rd (upd H p o) a u ∧ ¬ M a := fun a u q n => by
    refine ⟨?_, n⟩
    rcases q with q | ⟨o', q⟩
    · exact .inl (by rw [upd_ne (ne2 q)]; exact q)
    · exact .inr ⟨o', by rw [upd_ne (ne2 q)]; exact q⟩
  refine ⟨h.len, h.sub, fun a q => by rw [upd_ne (ne a q)]; exact h.live a q, fun i d e => ?_, fun i b ds e => ?_, h.uniq⟩
  · obtain ⟨v, e1, r⟩ := h.imm i d e
    exact ⟨v, e1, r.tr t⟩
  · obtain ⟨a, vs, e1, e2, e3, e4, r, e5⟩ := h.own i b ds e
    exact ⟨a, vs, e1, by rw [upd_ne (ne2 e2)]; exact e2, e3, e4, r.tr t, e5⟩
theorem Ext.alloc (h : SR K H M O π ρ σ) {p : Addr} {o : HO} (hp : H p = none) : Ext O H M (upd H p o) M :=
  ⟨fun a u e _ => by rw [upd_ne (fun z => by rw [z, hp] at e; cases e)]; exact e, h.sub, fun _ q => .inl q⟩
/-- M with p -/
def wth (M : Mset) (p : Addr) : Mset := fun a => M a ∨ a = p
/-- M without p -/
def wo (M : Mset) (p : Addr) : Mset := fun a => M a ∧ a ≠ p
theorem SR.allocOwn (h : SR K H M O π ρ σ) {p : Addr} {o : HO} (hp : H p = none) : SR K (upd H p o) (wth M p) O π ρ σ := by
  have ne2 : ∀ {a : Addr} {u : HO}, H a = some u → a ≠ p := fun e z => by rw [z, hp] at e; cases e
  have t : ∀ a u, Rd H a u → ¬ M a → Rd (upd H p o) a u ∧ ¬ wth M p a := fun a u q n => by
    rcases q with q | ⟨o', q⟩
    · exact ⟨.inl (by rw [upd_ne (ne2 q)]; exact q), fun z => z.elim n (ne2 q)⟩
    · exact ⟨.inr ⟨o', by rw [upd_ne (ne2 q)]; exact q⟩, fun z => z.elim n (ne2 q)⟩
  refine ⟨h.len, fun a q => .inl (h.sub a q), fun a q => ?_, fun i d e => ?_, fun i b ds e => ?_, h.uniq⟩
  · rcases q with q | rfl
    · rw [upd_ne (fun z => h.live a q (by rw [z]; exact hp))]; exact h.live a q
    · rw [upd_same]; intro z; cases z
  · obtain ⟨v, e1, r⟩ := h.imm i d e
    exact ⟨v, e1, r.tr t⟩
  · obtain ⟨a, vs, e1, e2, e3, e4, r, e5⟩ := h.own i b ds e
    exact ⟨a, vs, e1, by rw [upd_ne (ne2 e2)]; exact e2, .inl e3, e4, r.tr t, e5⟩
theorem Ext.allocOwn (h : SR K H M O π ρ σ) {p : Addr} {o : HO} (hp : H p = none) : Ext O H M (upd H p o) (wth M p) :=
  ⟨fun a u e _ => by rw [upd_ne (fun z => by rw [z, hp] at e; cases e)]; exact e, fun a q => .inl (h.sub a q), fun a q => q.imp id (fun z => by rw [z]; exact hp)⟩
theorem SR.less (h : SR K H M O π ρ σ) {O' : Mset} (q : ∀ a, O' a → O a) : SR K H M O' π ρ σ :=
  ⟨h.len, fun a z => h.sub a (q a z), h.live, h.imm, fun i b ds e => let ⟨a, vs, e1, e2, e3, e4, r⟩ := h.own i b ds e; ⟨a, vs, e1, e2, e3, fun z => e4 (q a z), r⟩, h.uniq⟩
/-- one more that is held -/
theorem SR.more (h : SR K H M O π ρ σ) {O' : Mset} (q : ∀ a, O' a → M a) (n : ∀ (i : Nat) (b : Bool) (ds : List D) (a : Addr), ρ[i]? = some (some (.own b ds)) → σ[i]? = some (some (.ref a)) → ¬ O' a) : SR K H M O' π ρ σ :=
  ⟨h.len, q, h.live, h.imm, fun i b ds e => let ⟨a, vs, e1, e2, e3, e4, r⟩ := h.own i b ds e; ⟨a, vs, e1, e2, e3, n i b ds a e e1, r⟩, h.uniq⟩
end

/-! ### what an expression hands on -/
inductive PR where
  | val (s : Sv)
  | slot (i : Nat)
def Apart (ρ : Fm) (σ : St) (p : Addr) : Prop := ∀ (i : Nat) (b : Bool) (ds : List D), ρ[i]? = some (some (.own b ds)) → σ[i]? ≠ some (some (.ref p))
def RP (K : PySem.W.Frag) (H : Hp) (M O : Mset) (ρ : Fm) (σ : St) : PR → V → Prop
  | .val (.imm d), v => Rep K H M v d
  | .val (.own _ ds), v => ∃ p vs, v = .ref p ∧ H p = some (.lst vs) ∧ M p ∧ ¬ O p ∧ Reps K H M vs ds ∧ Apart ρ σ p
  | .slot i, v => σ[i]? = some (some v)
/-- what is held of it while something else is reckoned -/
def hold (O : Mset) : PR → V → Mset
  | .val (.own _ _), .ref p => wth O p
  | _, _ => O
theorem hold_le (O : Mset) (pr : PR) (v : V) : ∀ a, O a → hold O pr v a := fun a q => by
  unfold hold
  split
  · exact .inl q
  · exact q
section
variable {K : PySem.W.Frag} {H H' : Hp} {M M' O O' : Mset} {π : Nat → Option Addr} {ρ ρ' : Fm} {σ : St} {pr : PR} {v : V}
theorem SR.hold (h : SR K H M O π ρ σ) (r : RP K H M O ρ σ pr v) : SR K H M (hold O pr v) π ρ σ := by
  unfold Vi.hold
  split
  · obtain ⟨p, vs, e, e1, e2, e3, e4, e5⟩ := r
    cases e
    refine h.more (fun a q => ?_) fun i b ds a e6 e7 z => ?_
    · rcases q with q | rfl
      · exact h.sub a q
      · exact e2
    · rcases z with z | rfl
      · obtain ⟨a', _, f1, _, _, f2, _⟩ := h.own i b ds e6
        rw [e7] at f1; cases f1; exact f2 z
      · exact e5 i b ds e6 e7
  · exact h
theorem RP.held (r : RP K H M O ρ σ pr v) (x : Ext (hold O pr v) H M H' M') (h : SR K H' M' (hold O pr v) π ρ' σ) : RP K H' M' O ρ' σ pr v := by
  match pr, v, r with
  | .val (.imm d), v, r => exact Rep.tr x.tr r
  | .slot i, v, r => exact r
  | .val (.own b ds), v, ⟨p, vs, e, e1, e2, e3, e4, e5⟩ =>
    subst e
    refine ⟨p, vs, rfl, x.keep p _ e1 (.inl (.inr rfl)), x.sub p (.inr rfl), e3, Reps.tr x.tr e4, fun i b ds e6 e7 => ?_⟩
    obtain ⟨a, _, f1, _, _, f2, _⟩ := h.own i b ds e6
    rw [e7] at f1; cases f1
    exact f2 (.inr rfl)
theorem RP.less (r : RP K H M O ρ σ pr v) (q : ∀ a, O' a → O a) : RP K H M O' ρ σ pr v := by
  match pr, v, r with
  | .val (.imm d), v, r => exact r
  | .slot i, v, r => exact r
  | .val (.own b ds), v, ⟨p, vs, e, e1, e2, e3, e4, e5⟩ => exact ⟨p, vs, e, e1, e2, fun z => e3 (q p z), e4, e5⟩
end

/-- how a value is looked at -/
def VW (K : PySem.W.Frag) (H : Hp) (M : Mset) (v : V) (d : D) : Prop :=
  match d with
  | .list ds => ∃ a vs, v = .ref a ∧ Rd H a (.lst vs) ∧ Reps K H M vs ds
  | d => Rep K H M v d
def Sv.toD : Sv → D
  | .imm d => d
  | .own _ ds => .list ds
def peek (ρ : Fm) : PR → Option D
  | .val s => some s.toD
  | .slot i => match ρ[i]? with
    | some (some s) => some s.toD
    | _ => none
def frz (ρ : Fm) : PR → Option (D × Fm)
  | .val s => some (s.toD, ρ)
  | .slot i => match ρ[i]? with
    | some (some (.imm d)) => some (d, ρ)
    | some (some (.own false ds)) => some (.list ds, ρ.set i (some (.imm (.list ds))))
    | _ => none
section
variable {K : PySem.W.Frag} {H H' : Hp} {M M' O O' : Mset} {π : Nat → Option Addr} {ρ ρ' : Fm} {σ : St} {pr : PR} {v : V} {d : D}
theorem VW.of (r : Rep K H M v d) : VW K H M v d := by
  cases r with
  | lst h n r => exact ⟨_, _, rfl, h, r⟩
  | non => exact .non
  | bl b => exact .bl b
  | int i => exact .int i
  | str x => exact .str x
  | tup h r => exact .tup h r
  | scr h r => exact .scr h r
theorem VW.dp (r : VW K H M v d) (c : d.canLay0 = true) : Dp K H v d := by
  unfold VW at r
  split at r
  · obtain ⟨a, vs, rfl, h, r⟩ := r
    exact .lst (.inl h) (r.dp (by simpa [PyData.canLay0] using c))
  · exact r.dp c
theorem VW.lst {a : Addr} {vs : List V} {ds : List D} (h : H a = some (.lst vs)) (r : Reps K H M vs ds) : VW K H M (.ref a) (.list ds) := ⟨a, vs, rfl, .inl h, r⟩
theorem peek_vw (h : SR K H M O π ρ σ) (r : RP K H M O ρ σ pr v) (e : peek ρ pr = some d) : VW K H M v d := by
  match pr, v, r, e with
  | .val (.imm d'), v, r, e => cases e; exact .of r
  | .val (.own b ds), v, ⟨p, vs, e1, e2, _, _, e4, _⟩, e =>
    cases e; subst e1; exact .lst e2 e4
  | .slot i, v, r, e =>
    have r' : σ[i]? = some (some v) := r
    unfold peek at e
    simp only at e
    split at e
    · rename_i s hs
      cases e
      cases s with
      | imm d' =>
        obtain ⟨w, f1, f2⟩ := h.imm i d' hs
        rw [r'] at f1; cases f1; exact .of f2
      | own b ds =>
        obtain ⟨a, vs, f1, f2, f3, f4, f5, f6⟩ := h.own i b ds hs
        rw [r'] at f1; cases f1; exact .lst f2 f5
    · cases e
/-- M loses p, nobody's own -/
theorem SR.forget (h : SR K H M O π ρ σ) {p : Addr} (hp : ¬ O p) (ha : Apart ρ σ p) : SR K H (wo M p) O π ρ σ := by
  have sm : ∀ a, wo M p a → M a := fun a q => q.1
  refine ⟨h.len, fun a q => ⟨h.sub a q, fun z => hp (z ▸ q)⟩, fun a q => h.live a q.1, fun i d e => ?_, fun i b ds e => ?_, h.uniq⟩
  · obtain ⟨v, e1, r⟩ := h.imm i d e
    exact ⟨v, e1, r.smaller sm⟩
  · obtain ⟨a, vs, e1, e2, e3, e4, r, e5⟩ := h.own i b ds e
    exact ⟨a, vs, e1, e2, ⟨e3, fun z => ha i b ds e (z ▸ e1)⟩, e4, r.smaller sm, e5⟩
theorem Ext.forget (h : SR K H M O π ρ σ) {p : Addr} (hp : ¬ O p) : Ext O H M H (wo M p) :=
  ⟨fun _ _ e _ => e, fun a q => ⟨h.sub a q, fun z => hp (z ▸ q)⟩, fun _ q => .inl q.1⟩
theorem get_set {α : Type} {l : List α} {i j : Nat} {x y : α} (h : (l.set i x)[j]? = some y) : (j = i ∧ y = x) ∨ (j ≠ i ∧ l[j]? = some y) := by
  by_cases e : j = i
  · subst e
    rw [List.getElem?_set] at h
    split at h
    · split at h
      · cases h; exact .inl ⟨rfl, rfl⟩
      · cases h
    · exact absurd rfl (by assumption)
  · exact .inr ⟨e, by rw [List.getElem?_set_ne (Ne.symm e)] at h; exact h⟩
/-- a name's own list becomes fixed -/
theorem SR.freeze (h : SR K H M O π ρ σ) {i : Nat} {ds : List D} {a : Addr} {vs : List V} (e : ρ[i]? = some (some (.own false ds))) (e1 : σ[i]? = some (some (.ref a))) (e2 : H a = some (.lst vs)) (r : Reps K H M vs ds) (hO : ¬ O a) :
    SR K H (wo M a) O π (ρ.set i (some (.imm (.list ds)))) σ := by
  have sm : ∀ b, wo M a b → M b := fun b q => q.1
  refine ⟨by rw [List.length_set]; exact h.len, fun b q => ⟨h.sub b q, fun z => hO (z ▸ q)⟩, fun b q => h.live b q.1, fun j d f => ?_, fun j b es f => ?_, fun j k b c es fs x hjk f g => ?_⟩
  · rcases get_set f with ⟨hj, g⟩ | ⟨_, f⟩
    · subst hj
      cases g
      exact ⟨.ref a, e1, .lst (.inl e2) (fun z => z.2 rfl) (r.smaller sm)⟩
    · obtain ⟨v, g1, g2⟩ := h.imm j d f
      exact ⟨v, g1, g2.smaller sm⟩
  · rcases get_set f with ⟨_, g⟩ | ⟨hj, f⟩
    · cases g
    · obtain ⟨x, ws, g1, g2, g3, g4, g5, g6⟩ := h.own j b es f
      refine ⟨x, ws, g1, g2, ⟨g3, fun z => ?_⟩, g4, g5.smaller sm, g6⟩
      subst z
      exact h.uniq i j _ _ _ _ x (Ne.symm hj) e f e1 g1
  · rcases get_set f with ⟨_, z⟩ | ⟨_, f⟩
    · cases z
    · rcases get_set g with ⟨_, z⟩ | ⟨_, g⟩
      · cases z
      · exact h.uniq j k b c es fs x hjk f g
theorem frz_ok (h : SR K H M O π ρ σ) (r : RP K H M O ρ σ pr v) (e : frz ρ pr = some (d, ρ')) : ∃ M', Ext O H M H M' ∧ SR K H M' O π ρ' σ ∧ Rep K H M' v d := by
  match pr, v, r, e with
  | .val (.imm d'), v, r, e =>
    unfold frz at e; simp only [Option.some.injEq, Prod.mk.injEq] at e
    obtain ⟨rfl, rfl⟩ := e
    exact ⟨M, .refl h, h, r⟩
  | .val (.own b ds), v, ⟨p, vs, e1, e2, e3, e4, e5, e6⟩, e =>
    unfold frz at e; simp only [Option.some.injEq, Prod.mk.injEq] at e
    obtain ⟨rfl, rfl⟩ := e
    subst e1
    exact ⟨_, .forget h e4, h.forget e4 e6, .lst (.inl e2) (fun z => z.2 rfl) (e5.smaller fun a q => q.1)⟩
  | .slot i, v, r, e =>
    have r' : σ[i]? = some (some v) := r
    unfold frz at e
    simp only at e
    split at e
    · rename_i d' hs
      simp only [Option.some.injEq, Prod.mk.injEq] at e
      obtain ⟨rfl, rfl⟩ := e
      obtain ⟨w, f1, f2⟩ := h.imm i _ hs
      rw [r'] at f1; cases f1; exact ⟨M, .refl h, h, f2⟩
    · rename_i ds hs
      simp only [Option.some.injEq, Prod.mk.injEq] at e
      obtain ⟨rfl, rfl⟩ := e
      obtain ⟨a, vs, f1, f2, f3, f4, f5, f6⟩ := h.own i _ ds hs
      rw [r'] at f1; cases f1
      exact ⟨_, .forget h f4, h.freeze hs r' f2 f5 f4, .lst (.inl f2) (fun z => z.2 rfl) (f5.smaller fun a q => q.1)⟩
    · cases e
end

/-! ### expressions -/
abbrev ME := Fm → Option (PR × Fm)
def tE (K : PySem.W.Frag) (m : ME) : TE := fun σ H Q => ∃ ρ M O π pr ρ', SR K H M O π ρ σ ∧ m ρ = some (pr, ρ') ∧ ∀ v H' M', Ext O H M H' M' → SR K H' M' O π ρ' σ → RP K H' M' O ρ' σ pr v → Q v H'
def DE (X : Cx) (e : Expr) (m : ME) : Prop := PE X e (tE X.K m)
theorem _root_.L2.PE.imp {X : Cx} {e : Expr} {t t' : TE} (h : PE X e t) (i : ∀ σ H Q, t' σ H Q → t σ H Q) : PE X e t' := ⟨fun pins s σ H Q I q => h.run pins s σ H Q I (i σ H Q q)⟩
theorem _root_.L2.PT.imp {X : Cx} {e : Expr} {t t' : TT} (h : PT X e t) (i : ∀ σ H Q, t' σ H Q → t σ H Q) : PT X e t' := ⟨fun pins s σ H Q I q => h.run pins s σ H Q I (i σ H Q q)⟩
theorem _root_.L2.PA.imp {X : Cx} {e : List Expr} {t t' : TA} (h : PA X e t) (i : ∀ σ H Q, t' σ H Q → t σ H Q) : PA X e t' := ⟨fun pos pins s σ H Q I q => h.run pos pins s σ H Q I (i σ H Q q)⟩
theorem _root_.L2.PS.imp {X : Cx} {e : Stmt} {t t' : TS} (h : PS X e t) (i : ∀ D σ H, t' D σ H → t D σ H) : PS X e t' := ⟨fun pins s σ H D I q => h.run pins s σ H D I (i D σ H q)⟩
theorem _root_.L2.PSs.imp {X : Cx} {e : List Stmt} {t t' : TS} (h : PSs X e t) (i : ∀ D σ H, t' D σ H → t D σ H) : PSs X e t' := ⟨fun pins s σ H D I q => h.run pins s σ H D I (i D σ H q)⟩

section
variable {X : Cx} {a b : Expr} {ma mb : ME} {pos : Pos}
/-- a name -/
def mVar (i : Nat) : ME := fun ρ => match ρ[i]? with
  | some (some _) => some (.slot i, ρ)
  | _ => none
theorem SR.at {K : PySem.W.Frag} {H : Hp} {M O : Mset} {π : Nat → Option Addr} {ρ : Fm} {σ : St} (h : SR K H M O π ρ σ) {i : Nat} {s : Sv} (e : ρ[i]? = some (some s)) : ∃ v, σ[i]? = some (some v) := by
  cases s with
  | imm d => obtain ⟨v, e1, _⟩ := h.imm i d e; exact ⟨v, e1⟩
  | own b ds => obtain ⟨a, vs, e1, _⟩ := h.own i b ds e; exact ⟨_, e1⟩
theorem de_var {i : Nat} {x : Str} (h : PE X (.Name x pos) (tVar i)) : DE X (.Name x pos) (mVar i) := by
  refine PE.imp h fun σ H Q ⟨ρ, M, O, π, pr, ρ', hs, e, q⟩ => ?_
  unfold mVar at e
  split at e
  · rename_i s hs'
    simp only [Option.some.injEq, Prod.mk.injEq] at e
    obtain ⟨rfl, rfl⟩ := e
    obtain ⟨v, e1⟩ := hs.at hs'
    exact ⟨v, e1, q v H M (.refl hs) hs e1⟩
  · cases e
def mC (d : D) : ME := fun ρ => some (.val (.imm d), ρ)
/-- what is always the same value -/
theorem de_c {v : V} {d : D} {e : Expr} (h : PE X e (tC v)) (r : ∀ H M, Rep X.K H M v d) : DE X e (mC d) := by
  refine PE.imp h fun σ H Q ⟨ρ, M, O, π, pr, ρ', hs, e, q⟩ => ?_
  cases e
  exact q v H M (.refl hs) hs (r H M)
theorem de_int {i : Int} {j} : DE X (.Constant (.int i) j pos) (mC (.int i)) := de_c pe_int fun _ _ => .int i
theorem de_bl {i : Bool} {j} : DE X (.Constant (.bool i) j pos) (mC (.bool i)) := de_c pe_bl fun _ _ => .bl i
theorem de_non {j} : DE X (.Constant .none j pos) (mC .none) := de_c pe_non fun _ _ => .non
theorem de_str {x : Str} {j} : DE X (.Constant (.str x) j pos) (mC (.str x)) := de_c pe_str fun _ _ => .str x

/-! ### two-place and one-place operations -/
def bin (f : D → D → Option Sv) (ma mb : ME) : ME := fun ρ =>
  match ma ρ with
  | some (a, ρ1) => match mb ρ1 with
    | some (b, ρ2) => match peek ρ2 a, peek ρ2 b with
      | some x, some y => match f x y with
        | some r => some (.val r, ρ2)
        | none => none
      | _, _ => none
    | none => none
  | none => none
/-- the operation's rule answers to f -/
def OpS (X : Cx) (r : R2) (f : D → D → Option Sv) : Prop := ∀ {H : Hp} {M O : Mset} {π : Nat → Option Addr} {ρ : Fm} {σ : St} {v1 v2 : V} {d1 d2 : D} {res : Sv} {Q : VK}, SR X.K H M O π ρ σ → VW X.K H M v1 d1 → VW X.K H M v2 d2 → f d1 d2 = some res →
  (∀ v H' M', Ext O H M H' M' → SR X.K H' M' O π ρ σ → RP X.K H' M' O ρ σ (.val res) v → Q v H') → r v1 v2 H Q
theorem tE_bin {K : PySem.W.Frag} {f : D → D → Option Sv} {r : R2} (hs : ∀ {H : Hp} {M O : Mset} {π : Nat → Option Addr} {ρ : Fm} {σ : St} {v1 v2 : V} {d1 d2 : D} {res : Sv} {Q : VK}, SR K H M O π ρ σ → VW K H M v1 d1 → VW K H M v2 d2 → f d1 d2 = some res →
  (∀ v H' M', Ext O H M H' M' → SR K H' M' O π ρ σ → RP K H' M' O ρ σ (.val res) v → Q v H') → r v1 v2 H Q) {σ : St} {H : Hp} {Q : VK} (h : tE K (bin f ma mb) σ H Q) : tOp r (tE K ma) (tE K mb) σ H Q := by
  obtain ⟨ρ, M, O, π, pr, ρ', h0, e, q⟩ := h
  unfold bin at e
  split at e
  · rename_i a ρ1 ea
    split at e
    · rename_i b ρ2 eb
      split at e
      · rename_i x y ex ey
        split at e
        · rename_i res er
          simp only [Option.some.injEq, Prod.mk.injEq] at e
          obtain ⟨rfl, rfl⟩ := e
          refine ⟨ρ, M, O, π, a, ρ1, h0, ea, fun v1 H1 M1 x1 s1 r1 => ?_⟩
          refine ⟨ρ1, M1, Vi.hold O a v1, π, b, ρ2, s1.hold r1, eb, fun v2 H2 M2 x2 s2 r2 => ?_⟩
          have s2' := s2.less (hold_le O a v1)
          exact hs s2' (peek_vw s2' (r1.held x2 s2) ex) (peek_vw s2' (r2.less (hold_le O a v1)) ey) er fun v H' M' x3 s3 r3 => q v H' M' ((x1.trans (x2.less (hold_le O a v1))).trans x3) s3 r3
        · cases e
      · cases e
    · cases e
  · cases e
theorem de_op {op : Operator} {r : R2} {f : D → D → Option Sv} (ho : OpR X (binaryOp op) r) (hs : OpS X r f) (ha : DE X a ma) (hb : DE X b mb) : DE X (.BinOp a op b pos) (bin f ma mb) :=
  PE.imp (pe_op ho ha hb) fun σ H Q h => tE_bin hs h
theorem de_cmp {op : CmpOp} {r : R2} {f : D → D → Option Sv} (ho : OpR X (compareOp op) r) (hs : OpS X r f) (ha : DE X a ma) (hb : DE X b mb) (hm : behindInMarks op b = false) : DE X (.Compare a [op] [b] pos) (bin f ma mb) :=
  PE.imp (pe_cmpR ho ha hb hm) fun σ H Q h => tE_bin hs h
theorem de_ix {r : R2} {f : D → D → Option Sv} (ho : IxR X r) (hs : OpS X r f) (ha : DE X a ma) (hb : DE X b mb) (hp : PlainIx b) : DE X (.Subscript a b pos) (bin f ma mb) :=
  PE.imp (pe_ix ho ha hb hp) fun σ H Q h => tE_bin hs h
def un (f : D → Option Sv) (ma : ME) : ME := fun ρ =>
  match ma ρ with
  | some (a, ρ1) => match peek ρ1 a with
    | some x => match f x with
      | some r => some (.val r, ρ1)
      | none => none
    | none => none
  | none => none
def UnS (X : Cx) (r : V → Hp → VK → Prop) (f : D → Option Sv) : Prop := ∀ {H : Hp} {M O : Mset} {π : Nat → Option Addr} {ρ : Fm} {σ : St} {v1 : V} {d1 : D} {res : Sv} {Q : VK}, SR X.K H M O π ρ σ → VW X.K H M v1 d1 → f d1 = some res →
  (∀ v H' M', Ext O H M H' M' → SR X.K H' M' O π ρ σ → RP X.K H' M' O ρ σ (.val res) v → Q v H') → r v1 H Q
theorem tE_un {f : D → Option Sv} {r : V → Hp → VK → Prop} (hs : UnS X r f) {σ : St} {H : Hp} {Q : VK} (h : tE X.K (un f ma) σ H Q) : tE X.K ma σ H fun v H1 => r v H1 Q := by
  obtain ⟨ρ, M, O, π, pr, ρ', h0, e, q⟩ := h
  unfold un at e
  split at e
  · rename_i a ρ1 ea
    split at e
    · rename_i x ex
      split at e
      · rename_i res er
        simp only [Option.some.injEq, Prod.mk.injEq] at e
        obtain ⟨rfl, rfl⟩ := e
        exact ⟨ρ, M, O, π, a, ρ1, h0, ea, fun v1 H1 M1 x1 s1 r1 => hs s1 (peek_vw s1 r1 ex) er fun v H' M' x3 s3 r3 => q v H' M' (x1.trans x3) s3 r3⟩
      · cases e
    · cases e
  · cases e
theorem de_un {op : UnaryOp} {r : V → Hp → VK → Prop} {f : D → Option Sv} (ho : UnR X (unaryOp op) r) (hs : UnS X r f) (ha : DE X a ma) : DE X (.UnaryOp op a pos) (un f ma) :=
  PE.imp (pe_un ho ha) fun σ H Q h => tE_un hs h
/-- a built-in of one argument, by its name -/
theorem de_call1 {id : String} {x : Str} {p : Pos} {r : List V → Hp → VK → Prop} {f : D → Option Sv} (hc : CallR X (.builtin id) r) (hs : UnS X (fun v H Q => r [v] H Q) f) (hg : Gl X x) (hm : X.mg x = none) (hv : bootBuiltins x = some (.builtin id)) (ha : DE X a ma)
    (hn : x ≠ "__name__" := by decide) (hd : (x == ("__debug__" : Str)) = false := by decide) (he : starEach (a :: []) X.env = (false, eval a X.env) :: starEach [] X.env := by rfl) (hpl : (backTo pos (starEach [] X.env)).any (·.1) = false := by rfl) : DE X (.Call (.Name x p) [a] [] pos) (un f ma) :=
  PE.imp (pe_callB hc hg hm hv (pa_cons ha pa_nil he) hn hd he hpl) fun σ H Q h => tE_un hs h
theorem de_callT1 {T : String} {x : Str} {p : Pos} {r : List V → Hp → VK → Prop} {f : D → Option Sv} (hc : CallR X (.type T) r) (hs : UnS X (fun v H Q => r [v] H Q) f) (hg : Gl X x) (hm : X.mg x = none) (hv : bootBuiltins x = some (.type T)) (ha : DE X a ma)
    (hn : x ≠ "__name__" := by decide) (hd : (x == ("__debug__" : Str)) = false := by decide) (he : starEach (a :: []) X.env = (false, eval a X.env) :: starEach [] X.env := by rfl) (hpl : (backTo pos (starEach [] X.env)).any (·.1) = false := by rfl) : DE X (.Call (.Name x p) [a] [] pos) (un f ma) :=
  PE.imp (pe_callTy hc hg hm hv (pa_cons ha pa_nil he) hn hd he hpl) fun σ H Q h => tE_un hs h
end
end Vi

namespace Vi
open PySem PySem.Spec PyProof.Rows L2

/-! ### what stands behind an operation -/
section
variable {K : PySem.W.Frag} {H : Hp} {M O : Mset} {π : Nat → Option Addr} {ρ : Fm} {σ : St} {v : V} {Q : VK}
theorem alloc_tr (h : SR K H M O π ρ σ) {p : Addr} {o : HO} (hp : H p = none) : ∀ a u, Rd H a u → ¬ M a → Rd (upd H p o) a u ∧ ¬ M a := fun a u q n => by
  have ne2 : ∀ {a : Addr} {u : HO}, H a = some u → a ≠ p := fun e z => by rw [z, hp] at e; cases e
  refine ⟨?_, n⟩
  rcases q with q | ⟨o', q⟩
  · exact .inl (by rw [upd_ne (ne2 q)]; exact q)
  · exact .inr ⟨o', by rw [upd_ne (ne2 q)]; exact q⟩
theorem alloc_tr_own (h : SR K H M O π ρ σ) {p : Addr} {o : HO} (hp : H p = none) : ∀ a u, Rd H a u → ¬ M a → Rd (upd H p o) a u ∧ ¬ wth M p a := fun a u q n => by
  refine ⟨(alloc_tr h hp a u q n).1, fun z => z.elim n fun e => ?_⟩
  rcases q with q | ⟨o', q⟩ <;> (rw [e, hp] at q; cases q)
abbrev Post (K : PySem.W.Frag) (H : Hp) (M O : Mset) (π : Nat → Option Addr) (ρ : Fm) (σ : St) (res : Sv) (Q : VK) : Prop :=
  ∀ v H' M', Ext O H M H' M' → SR K H' M' O π ρ σ → RP K H' M' O ρ σ (.val res) v → Q v H'
theorem Post.now {d : D} (q : Post K H M O π ρ σ (.imm d) Q) (h : SR K H M O π ρ σ) (r : Rep K H M v d) : Q v H := q v H M (.refl h) h r
theorem Post.tup {ds : List D} {vs : List V} (q : Post K H M O π ρ σ (.imm (.tuple ds)) Q) (h : SR K H M O π ρ σ) (r : Reps K H M vs ds) {p : Addr} (hp : H p = none) : Q (.ref p) (upd H p (.tup vs)) :=
  q _ _ M (.alloc h hp) (h.alloc hp) (.tup (.inl ⟨.inl upd_same, fun z => h.live p z hp⟩) (r.tr (alloc_tr h hp)))
theorem Post.lst {ds : List D} {vs : List V} {b : Bool} (q : Post K H M O π ρ σ (.own b ds) Q) (h : SR K H M O π ρ σ) (r : Reps K H M vs ds) {p : Addr} (hp : H p = none) : Q (.ref p) (upd H p (.lst vs)) := by
  refine q _ _ (wth M p) (.allocOwn h hp) (h.allocOwn hp) ⟨p, vs, rfl, upd_same, .inr rfl, fun z => h.live p (h.sub p z) hp, r.tr (alloc_tr_own h hp), fun i b ds e e1 => ?_⟩
  obtain ⟨a, ws, f1, f2, _⟩ := h.own i b ds e
  rw [e1] at f1; cases f1
  rw [hp] at f2; cases f2
theorem VW.inI {i : Int} (r : VW K H M v (.int i)) : v = .int i := by cases (show Rep K H M v (.int i) from r); rfl
theorem VW.inB {i : Bool} (r : VW K H M v (.bool i)) : v = .bl i := by cases (show Rep K H M v (.bool i) from r); rfl
theorem VW.inS {i : Str} (r : VW K H M v (.str i)) : v = .str i := by cases (show Rep K H M v (.str i) from r); rfl
theorem VW.inN (r : VW K H M v .none) : v = .non := by cases (show Rep K H M v .none from r); rfl
theorem VW.inT {ds : List D} (r : VW K H M v (.tuple ds)) : ∃ a vs, v = .ref a ∧ TupAt K H M a vs ∧ Reps K H M vs ds := by
  cases (show Rep K H M v (.tuple ds) from r) with
  | tup h r => exact ⟨_, _, rfl, h, r⟩
theorem VW.inScr {kvs : List (D × D)} (r : VW K H M v (.dict kvs)) : ∃ a vs, v = .ref a ∧ LstAt K H M a vs ∧ Reps K H M vs (kvs.map Prod.fst) := by
  cases (show Rep K H M v (.dict kvs) from r) with
  | scr h r => exact ⟨_, _, rfl, h, r⟩
theorem VW.inL {ds : List D} (r : VW K H M v (.list ds)) : ∃ a vs, v = .ref a ∧ Rd H a (.lst vs) ∧ Reps K H M vs ds := r
/-- a list or a tuple -/
theorem VW.seq {d : D} {ds : List D} (r : VW K H M v d) (e : d = .list ds ∨ d = .tuple ds) : ∃ a vs, v = .ref a ∧ (SqL K H a vs ∨ SqT K H a vs) ∧ Reps K H M vs ds := by
  rcases e with rfl | rfl
  · obtain ⟨a, vs, e, h, r⟩ := r.inL
    exact ⟨a, vs, e, .inl (.inl h), r⟩
  · obtain ⟨a, vs, e, h, r⟩ := r.inT
    exact ⟨a, vs, e, .inr h.sq, r⟩
theorem rep_rep {v : V} {d : D} (r : VW K H M v d) (n : ∀ ds, d ≠ .list ds) : Rep K H M v d := by
  cases d with
  | list ds => exact absurd rfl (n ds)
  | _ => exact r
end

section
variable {X : Cx}
/-! ### + - * // % ** -/
def rCatR : R2 := fun x y H Q => ∃ l b xs zs, x = .ref l ∧ y = .ref b ∧ Rd H l (.lst xs) ∧ Rd H b (.lst zs) ∧ xs.length + zs.length ≤ sizeLine ∧ ∀ p, H p = none → Q (.ref p) (upd H p (.lst (xs ++ zs)))
theorem op_catR : OpR X (binaryOp .Add) rCatR := by
  intro pins s σ H x y v u Q I rx ry h
  obtain ⟨l, b, xs, zs, rfl, rfl, hH, hB, hz, q⟩ := h
  cases rx
  cases ry
  obtain ⟨z, its, n, r, e⟩ := hH.ok I.hok
  obtain ⟨z2, its2, n2, r2, e2⟩ := hB.ok I.hok
  have hl := r.length
  have hl2 := r2.length
  refine PySem.P.add_list e e2 ?_ (by rw [List.size_toArray, List.size_toArray]; omega)
  have ea : its.toArray ++ its2.toArray = (its ++ its2).toArray := by simp
  rw [ea]
  exact ⟨.ref _, _, I.lnew (t' := s.toks) (r.append r2) (by rw [List.length_append]; omega), rfl, q _ I.fresh⟩
def fits (n : Nat) : Bool := decide (n ≤ sizeLine)
theorem fits_le {n : Nat} (h : fits n = true) : n ≤ sizeLine := of_decide_eq_true h
def dAdd : D → D → Option Sv
  | .int i, .int j => some (.imm (.int (i + j)))
  | .tuple xs, .tuple ys => if fits (xs.length + ys.length) = true then some (.imm (.tuple (xs ++ ys))) else none
  | .list xs, .list ys => if fits (xs.length + ys.length) = true then some (.own false (xs ++ ys)) else none
  | .str x, .str y => if fits (x.length + y.length) = true then some (.imm (.str (x ++ y))) else none
  | _, _ => none
abbrev rAdd (X : Cx) : R2 := fun x y H Q => rI0 (fun i j => .int (i + j)) x y H Q ∨ rCatA X.K x y H Q ∨ rCatR x y H Q ∨ ∃ i j, x = .str i ∧ y = .str j ∧ i.length + j.length ≤ sizeLine ∧ Q (.str (i ++ j)) H
theorem op_addA : OpR X (binaryOp .Add) (rAdd X) := op_add.or (op_catA.or (op_catR.or op_add_str))
theorem os_add : OpS X (rAdd X) dAdd := by
  intro H M O π ρ σ v1 v2 d1 d2 res Q h r1 r2 e q
  unfold dAdd at e
  split at e
  · cases e
    cases r1.inI; cases r2.inI
    exact .inl ⟨_, _, rfl, rfl, Post.now q h (.int _)⟩
  · split at e
    · rename_i hz
      cases e
      obtain ⟨a, xs, rfl, ta, ra⟩ := r1.inT
      obtain ⟨b, ys, rfl, tb, rb⟩ := r2.inT
      refine .inr (.inl ⟨a, b, xs, ys, rfl, rfl, ta.sq, tb.sq, by rw [ra.length, rb.length]; exact fits_le hz, fun ex => ?_, fun _ ey => ?_, fun _ _ p hp => ?_⟩)
      · subst ex; cases ra; exact Post.now q h r2
      · subst ey; cases rb; exact Post.now q h (by rw [List.append_nil]; exact r1)
      · exact Post.tup q h (ra.append rb) hp
    · cases e
  · split at e
    · rename_i hz
      cases e
      obtain ⟨a, xs, rfl, ta, ra⟩ := r1.inL
      obtain ⟨b, ys, rfl, tb, rb⟩ := r2.inL
      exact .inr (.inr (.inl ⟨a, b, xs, ys, rfl, rfl, ta, tb, by rw [ra.length, rb.length]; exact fits_le hz, fun p hp => Post.lst q h (ra.append rb) hp⟩))
    · cases e
  · split at e
    · rename_i hz
      cases e
      cases r1.inS; cases r2.inS
      exact .inr (.inr (.inr ⟨_, _, rfl, rfl, fits_le hz, Post.now q h (.str _)⟩))
    · cases e
  · cases e
def dSub : D → D → Option Sv
  | .int i, .int j => some (.imm (.int (i - j)))
  | _, _ => none
theorem os_sub : OpS X (rI0 fun i j => .int (i - j)) dSub := by
  intro H M O π ρ σ v1 v2 d1 d2 res Q h r1 r2 e q
  unfold dSub at e
  split at e
  · cases e
    cases r1.inI; cases r2.inI
    exact ⟨_, _, rfl, rfl, Post.now q h (.int _)⟩
  · cases e
/-- how far products go -/
def mulOk (i j : Int) : Bool := decide (-(2 ^ 64) < i ∧ i < 2 ^ 64) || decide (-(2 ^ 64) < j ∧ j < 2 ^ 64) || decide (i.natAbs.log2 + j.natAbs.log2 < 1000000)
def rRepR : R2 := fun x y H Q => ∃ l k xs, x = .ref l ∧ y = .int k ∧ H l = some (.lst xs) ∧ -(2 ^ 63) ≤ k ∧ k < 2 ^ 63 ∧ xs.length * k.toNat ≤ sizeLine ∧
  ∀ p, H p = none → Q (.ref p) (upd H p (.lst (List.replicate k.toNat xs).flatten))
def dMul : D → D → Option Sv
  | .int i, .int j => if mulOk i j = true then some (.imm (.int (i * j))) else none
  | _, _ => none
abbrev rMul : R2 := fun x y H Q => rI CMul (fun i j => .int (i * j)) x y H Q ∨ rI CMulW (fun i j => .int (i * j)) x y H Q
theorem op_mulA : OpR X (binaryOp .Mult) rMul := op_mul.or op_mulW
theorem os_mul : OpS X rMul dMul := by
  intro H M O π ρ σ v1 v2 d1 d2 res Q h r1 r2 e q
  unfold dMul at e
  split at e
  · split at e
    · rename_i hz
      cases e
      cases r1.inI; cases r2.inI
      unfold mulOk at hz
      rw [Bool.or_eq_true, Bool.or_eq_true] at hz
      rcases hz with (hz | hz) | hz
      · exact .inl ⟨_, _, rfl, rfl, .inl (of_decide_eq_true hz), Post.now q h (.int _)⟩
      · exact .inl ⟨_, _, rfl, rfl, .inr (of_decide_eq_true hz), Post.now q h (.int _)⟩
      · exact .inr ⟨_, _, rfl, rfl, (of_decide_eq_true hz : _ < 1000000), Post.now q h (.int _)⟩
    · cases e
  · cases e
def divOk (j : Int) : Bool := decide (0 < j ∧ j.natAbs.log2 < 9000)
def dDiv : D → D → Option Sv
  | .int i, .int j => if divOk j = true then some (.imm (.int (i / j))) else none
  | _, _ => none
theorem os_div : OpS X (rI CDivW fun i j => .int (i / j)) dDiv := by
  intro H M O π ρ σ v1 v2 d1 d2 res Q h r1 r2 e q
  unfold dDiv at e
  split at e
  · split at e
    · rename_i hz
      cases e
      cases r1.inI; cases r2.inI
      unfold divOk at hz
      have hz' := of_decide_eq_true hz
      exact ⟨_, _, rfl, rfl, hz', Post.now q h (.int _)⟩
    · cases e
  · cases e
def dMod : D → D → Option Sv
  | .int i, .int j => if decide (0 < j) = true then some (.imm (.int (i % j))) else none
  | _, _ => none
theorem os_mod : OpS X (rI (fun _ j => 0 < j) fun i j => .int (i % j)) dMod := by
  intro H M O π ρ σ v1 v2 d1 d2 res Q h r1 r2 e q
  unfold dMod at e
  split at e
  · split at e
    · rename_i hz
      cases e
      cases r1.inI; cases r2.inI
      exact ⟨_, _, rfl, rfl, of_decide_eq_true hz, Post.now q h (.int _)⟩
    · cases e
  · cases e
def powOk (i j : Int) : Bool := decide (0 ≤ j ∧ j ≤ 1000000 ∧ i.natAbs < 2 ^ 64)
def dPow : D → D → Option Sv
  | .int i, .int j => if powOk i j = true then some (.imm (.int (i ^ j.toNat))) else none
  | _, _ => none
theorem os_pow : OpS X (rI CPow fun i j => .int (i ^ j.toNat)) dPow := by
  intro H M O π ρ σ v1 v2 d1 d2 res Q h r1 r2 e q
  unfold dPow at e
  split at e
  · split at e
    · rename_i hz
      cases e
      cases r1.inI; cases r2.inI
      unfold powOk at hz
      have hz' := of_decide_eq_true hz
      exact ⟨_, _, rfl, rfl, hz', Post.now q h (.int _)⟩
    · cases e
  · cases e
def dNeg : D → Option Sv
  | .int i => some (.imm (.int (-i)))
  | _ => none
theorem us_neg : UnS X (rU fun i => .int (-i)) dNeg := by
  intro H M O π ρ σ v1 d1 res Q h r1 e q
  unfold dNeg at e
  split at e
  · cases e
    cases r1.inI
    exact ⟨_, rfl, Post.now q h (.int _)⟩
  · cases e

/-! ### comparisons -/
def okD (d : D) : Bool := SeqAt.shaped d
def dEq (a b : D) : Option Sv := if (okD a && okD b) = true then some (.imm (.bool (PyData.eqv a b))) else none
def dNe (a b : D) : Option Sv := if (okD a && okD b) = true then some (.imm (.bool (!PyData.eqv a b))) else none
theorem os_eq : OpS X (rEqD X.K) dEq := by
  intro H M O π ρ σ v1 v2 d1 d2 res Q h r1 r2 e q
  unfold dEq at e
  split at e
  · rename_i hz
    cases e
    rw [Bool.and_eq_true] at hz
    exact ⟨d1, d2, r1.dp (SeqAt.canLay_of_shaped hz.1), r2.dp (SeqAt.canLay_of_shaped hz.2), hz.1, hz.2, Post.now q h (.bl _)⟩
  · cases e
theorem os_ne : OpS X (rNeD X.K) dNe := by
  intro H M O π ρ σ v1 v2 d1 d2 res Q h r1 r2 e q
  unfold dNe at e
  split at e
  · rename_i hz
    cases e
    rw [Bool.and_eq_true] at hz
    exact ⟨d1, d2, r1.dp (SeqAt.canLay_of_shaped hz.1), r2.dp (SeqAt.canLay_of_shaped hz.2), hz.1, hz.2, Post.now q h (.bl _)⟩
  · cases e
def dCmpI (f : Int → Int → Bool) : D → D → Option Sv
  | .int i, .int j => some (.imm (.bool (f i j)))
  | _, _ => none
theorem os_cmpI {f : Int → Int → Bool} : OpS X (rI0 fun i j => .bl (f i j)) (dCmpI f) := by
  intro H M O π ρ σ v1 v2 d1 d2 res Q h r1 r2 e q
  unfold dCmpI at e
  split at e
  · cases e
    cases r1.inI; cases r2.inI
    exact ⟨_, _, rfl, rfl, Post.now q h (.bl _)⟩
  · cases e
abbrev dLt := dCmpI fun i j => decide (i < j)
abbrev dLe := dCmpI fun i j => decide (i ≤ j)
abbrev dGt := dCmpI fun i j => decide (j < i)
abbrev dGe := dCmpI fun i j => decide (j ≤ i)
def isNon : D → Bool
  | .none => true
  | _ => false
theorem VW.non_iff {K : PySem.W.Frag} {H : Hp} {M : Mset} {v : V} {d : D} (r : VW K H M v d) : decide (v = .non) = isNon d := by
  cases d with
  | none => cases r.inN; rfl
  | bool b => cases r.inB; rfl
  | int b => cases r.inI; rfl
  | str b => cases r.inS; rfl
  | list b => obtain ⟨a, vs, rfl, _⟩ := r.inL; rfl
  | tuple b => obtain ⟨a, vs, rfl, _⟩ := r.inT; rfl
  | dict b => cases (show Rep K H M v (.dict b) from r); rfl
def dIs : D → D → Option Sv
  | a, .none => some (.imm (.bool (isNon a)))
  | _, _ => none
def dIsNot : D → D → Option Sv
  | a, .none => some (.imm (.bool (!isNon a)))
  | _, _ => none
theorem os_is : OpS X (fun x y H Q => y = .non ∧ Q (.bl (decide (x = .non))) H) dIs := by
  intro H M O π ρ σ v1 v2 d1 d2 res Q h r1 r2 e q
  unfold dIs at e
  split at e
  · cases e
    cases r2.inN
    refine ⟨rfl, ?_⟩
    rw [r1.non_iff]
    exact Post.now q h (.bl _)
  · cases e
theorem os_isnot : OpS X (fun x y H Q => y = .non ∧ Q (.bl (!decide (x = .non))) H) dIsNot := by
  intro H M O π ρ σ v1 v2 d1 d2 res Q h r1 r2 e q
  unfold dIsNot at e
  split at e
  · cases e
    cases r2.inN
    refine ⟨rfl, ?_⟩
    rw [r1.non_iff]
    exact Post.now q h (.bl _)
  · cases e
def flatD : D → Bool
  | .none | .bool _ | .int _ | .str _ => true
  | _ => false
theorem rep_flat {K : PySem.W.Frag} {H : Hp} {M : Mset} {v : V} {d : D} (r : Rep K H M v d) : flatV v = flatD d := by cases r <;> rfl
theorem rep_eqV {K : PySem.W.Frag} {H : Hp} {M : Mset} {v w : V} {d e : D} (r : Rep K H M v d) (s : Rep K H M w e) (f : flatD d = true) (g : flatD e = true) : eqV v w = PyData.eqv d e := by
  cases r <;> first | (exact absurd (show false = true from f) Bool.false_ne_true) | (cases s <;> first | (exact absurd (show false = true from g) Bool.false_ne_true) | rfl | (simp [eqV, PyData.eqv]))
theorem reps_flat {K : PySem.W.Frag} {H : Hp} {M : Mset} : ∀ {vs : List V} {ds : List D}, Reps K H M vs ds → vs.all flatV = ds.all flatD
  | _, _, .nil => rfl
  | _, _, .cons h r => by rw [List.all_cons, List.all_cons, rep_flat h, reps_flat r]
theorem reps_inV {K : PySem.W.Frag} {H : Hp} {M : Mset} {v : V} {d : D} (s : Rep K H M v d) (g : flatD d = true) : ∀ {vs : List V} {ds : List D}, Reps K H M vs ds → ds.all flatD = true → inV v vs = ds.any fun z => PyData.eqv z d
  | _, _, .nil, _ => rfl
  | _, _, .cons h r, f => by
    rw [List.all_cons, Bool.and_eq_true] at f
    have ih := reps_inV s g r f.2
    unfold inV at ih ⊢
    rw [List.any_cons, List.any_cons, ih, rep_eqV h s f.1 g]
/-- x in ds -/
def hasD (x : D) (ds : List D) : Bool := ds.any fun z => PyData.eqv z x
def dIn (neg : Bool) (x : D) : D → Option Sv
  | .list ds => if (flatD x && ds.all flatD) = true then some (.imm (.bool (if neg then !hasD x ds else hasD x ds))) else if (!neg && okD x && okD (.list ds)) = true then some (.imm (.bool (hasD x ds))) else if (neg && okD x && okD (.list ds)) = true then some (.imm (.bool (!hasD x ds))) else none
  | .tuple ds => if (flatD x && ds.all flatD) = true then some (.imm (.bool (if neg then !hasD x ds else hasD x ds))) else none
  | _ => none
abbrev rInA (X : Cx) (neg : Bool) : R2 := fun x y H Q => rIn X.K neg x y H Q ∨ (if neg then rNotInD X.K x y H Q else rInD X.K x y H Q)
theorem op_inA (hu : X.A.units + 65 < cLine) : OpR X (compareOp .In) (rInA X false) := op_in_seq.or (op_inD hu)
theorem op_notInA (hu : X.A.units + 65 < cLine) : OpR X (compareOp .NotIn) (rInA X true) := op_notIn_seq.or (op_notInD hu)
theorem flat_not {d : D} (f : flatD d = true) (ds : List D) : d ≠ .list ds := fun e => by rw [e] at f; cases f
theorem os_in (neg : Bool) : OpS X (rInA X neg) (dIn neg) := by
  intro H M O π ρ σ v1 v2 d1 d2 res Q h r1 r2 e q
  unfold dIn at e
  split at e
  · rename_i ds
    split at e
    · rename_i hz
      cases e
      rw [Bool.and_eq_true] at hz
      obtain ⟨a, vs, rfl, rd, rs⟩ := r2.inL
      have rp := rep_rep r1 (flat_not hz.1)
      refine .inl ⟨a, vs, rfl, .inl (.inl rd), by rw [rep_flat rp]; exact hz.1, by rw [reps_flat rs]; exact hz.2, ?_⟩
      rw [reps_inV rp hz.1 rs hz.2]
      exact Post.now q h (.bl _)
    · split at e
      · rename_i hz
        cases e
        rw [Bool.and_eq_true, Bool.and_eq_true] at hz
        have hn : neg = false := by simpa using hz.1.1
        subst hn
        exact .inr (show rInD X.K v1 v2 H Q from ⟨d1, ds, r1.dp (SeqAt.canLay_of_shaped hz.1.2), r2.dp (SeqAt.canLay_of_shaped hz.2), hz.1.2, hz.2, Post.now q h (.bl _)⟩)
      · split at e
        · rename_i hz
          cases e
          rw [Bool.and_eq_true, Bool.and_eq_true] at hz
          have hn : neg = true := hz.1.1
          subst hn
          exact .inr (show rNotInD X.K v1 v2 H Q from ⟨d1, ds, r1.dp (SeqAt.canLay_of_shaped hz.1.2), r2.dp (SeqAt.canLay_of_shaped hz.2), hz.1.2, hz.2, Post.now q h (.bl _)⟩)
        · cases e
  · rename_i ds
    split at e
    · rename_i hz
      cases e
      rw [Bool.and_eq_true] at hz
      obtain ⟨a, vs, rfl, rd, rs⟩ := r2.inT
      have rp := rep_rep r1 (flat_not hz.1)
      refine .inl ⟨a, vs, rfl, .inr rd.sq, by rw [rep_flat rp]; exact hz.1, by rw [reps_flat rs]; exact hz.2, ?_⟩
      rw [reps_inV rp hz.1 rs hz.2]
      exact Post.now q h (.bl _)
    · cases e
  · cases e

/-! ### places -/
def dIx : D → D → Option Sv
  | .list ds, .int i => (atI ds i).map .imm
  | .tuple ds, .int i => (atI ds i).map .imm
  | .dict kvs, .int i => (atI (kvs.map Prod.fst) i).map .imm
  | _, _ => none
abbrev rIxA (X : Cx) : R2 := fun x y H Q => rIxL X.K x y H Q ∨ rIxT X.K x y H Q
theorem ix_A : IxR X (rIxA X) := ix_list.or ix_tup
theorem atI_rep {K : PySem.W.Frag} {H : Hp} {M : Mset} {vs : List V} {ds : List D} {i : Int} {d : D} (r : Reps K H M vs ds) (e : atI ds i = some d) : ∃ v, atI vs i = some v ∧ Rep K H M v d := by
  unfold atI at e ⊢
  rw [r.length]
  cases ei : ixN ds.length i with
  | none => rw [ei] at e; cases e
  | some j =>
    rw [ei] at e
    exact r.get e
theorem os_ix : OpS X (rIxA X) dIx := by
  intro H M O π ρ σ v1 v2 d1 d2 res Q h r1 r2 e q
  unfold dIx at e
  split at e
  · obtain ⟨d, ed, er⟩ := Option.map_eq_some_iff.mp e
    subst er
    cases r2.inI
    obtain ⟨a, vs, rfl, rd, rs⟩ := r1.inL
    obtain ⟨v, ev, rv⟩ := atI_rep rs ed
    exact .inl ⟨a, vs, _, v, rfl, rfl, .inl rd, ev, Post.now q h rv⟩
  · obtain ⟨d, ed, er⟩ := Option.map_eq_some_iff.mp e
    subst er
    cases r2.inI
    obtain ⟨a, vs, rfl, rd, rs⟩ := r1.inT
    obtain ⟨v, ev, rv⟩ := atI_rep rs ed
    exact .inr ⟨a, vs, _, v, rfl, rfl, rd.sq, ev, Post.now q h rv⟩
  · obtain ⟨d, ed, er⟩ := Option.map_eq_some_iff.mp e
    subst er
    cases r2.inI
    obtain ⟨a, vs, rfl, rd, rs⟩ := r1.inScr
    obtain ⟨v, ev, rv⟩ := atI_rep rs ed
    exact .inl ⟨a, vs, _, v, rfl, rfl, rd.sq, ev, Post.now q h rv⟩
  · cases e

/-! ### built-ins of one argument -/
def dLen : D → Option Sv
  | .list ds => some (.imm (.int ds.length))
  | .tuple ds => some (.imm (.int ds.length))
  | .dict kvs => some (.imm (.int kvs.length))
  | _ => none
theorem us_len : UnS X (fun v H Q => (fun xs H Q => ∃ p ys, xs = [V.ref p] ∧ (SqL X.K H p ys ∨ SqT X.K H p ys) ∧ Q (.int ys.length) H) [v] H Q) dLen := by
  intro H M O π ρ σ v1 d1 res Q h r1 e q
  unfold dLen at e
  split at e
  · cases e
    obtain ⟨a, vs, rfl, rd, rs⟩ := r1.inL
    refine ⟨a, vs, rfl, .inl (.inl rd), ?_⟩
    rw [rs.length]
    exact Post.now q h (.int _)
  · cases e
    obtain ⟨a, vs, rfl, rd, rs⟩ := r1.inT
    refine ⟨a, vs, rfl, .inr rd.sq, ?_⟩
    rw [rs.length]
    exact Post.now q h (.int _)
  · cases e
    obtain ⟨a, vs, rfl, rd, rs⟩ := r1.inScr
    refine ⟨a, vs, rfl, .inl rd.sq, ?_⟩
    rw [rs.length, List.length_map]
    exact Post.now q h (.int _)
  · cases e
def dList : D → Option Sv
  | .list ds => some (.own false ds)
  | .tuple ds => some (.own false ds)
  | _ => none
theorem us_list : UnS X (fun v H Q => (fun xs H Q => ∃ p ys, xs = [V.ref p] ∧ (SqL X.K H p ys ∨ SqT X.K H p ys) ∧ ∀ l, H l = none → Q (.ref l) (upd H l (.lst ys))) [v] H Q) dList := by
  intro H M O π ρ σ v1 d1 res Q h r1 e q
  unfold dList at e
  split at e
  · cases e
    obtain ⟨a, vs, rfl, rd, rs⟩ := r1.inL
    exact ⟨a, vs, rfl, .inl (.inl rd), fun p hp => Post.lst q h rs hp⟩
  · cases e
    obtain ⟨a, vs, rfl, rd, rs⟩ := r1.inT
    exact ⟨a, vs, rfl, .inr rd.sq, fun p hp => Post.lst q h rs hp⟩
  · cases e
def dTuple : D → Option Sv
  | .list ds => some (.imm (.tuple ds))
  | .tuple ds => some (.imm (.tuple ds))
  | _ => none
theorem us_tuple : UnS X (fun v H Q => (fun xs H Q => ∃ p ys, xs = [V.ref p] ∧ ((SqL X.K H p ys ∧ ∀ l, H l = none → Q (.ref l) (upd H l (.tup ys))) ∨ (SqT X.K H p ys ∧ Q (.ref p) H))) [v] H Q) dTuple := by
  intro H M O π ρ σ v1 d1 res Q h r1 e q
  unfold dTuple at e
  split at e
  · cases e
    obtain ⟨a, vs, rfl, rd, rs⟩ := r1.inL
    exact ⟨a, vs, rfl, .inl ⟨.inl rd, fun p hp => Post.tup q h rs hp⟩⟩
  · cases e
    have rr := r1
    obtain ⟨a, vs, rfl, rd, rs⟩ := r1.inT
    exact ⟨a, vs, rfl, .inr ⟨rd.sq, Post.now q h rr⟩⟩
  · cases e
def dInt : D → Option Sv
  | .int i => some (.imm (.int i))
  | .bool b => some (.imm (.int (if b then 1 else 0)))
  | _ => none
theorem us_int : UnS X (fun v H Q => (fun xs H Q => (∃ i, xs = [V.int i] ∧ Q (.int i) H) ∨ ∃ k, xs = [V.bl k] ∧ Q (.int (if k then 1 else 0)) H) [v] H Q) dInt := by
  intro H M O π ρ σ v1 d1 res Q h r1 e q
  unfold dInt at e
  split at e
  · cases e
    cases r1.inI
    exact .inl ⟨_, rfl, Post.now q h (.int _)⟩
  · cases e
    cases r1.inB
    exact .inr ⟨_, rfl, Post.now q h (.int _)⟩
  · cases e
def dAbs : D → Option Sv
  | .int i => some (.imm (.int (if i < 0 then -i else i)))
  | _ => none
theorem us_abs : UnS X (fun v H Q => (fun xs H Q => ∃ i, xs = [V.int i] ∧ Q (.int (if i < 0 then -i else i)) H) [v] H Q) dAbs := by
  intro H M O π ρ σ v1 d1 res Q h r1 e q
  unfold dAbs at e
  split at e
  · cases e
    cases r1.inI
    exact ⟨_, rfl, Post.now q h (.int _)⟩
  · cases e
def boolsOf : List D → Option (List Bool)
  | [] => some []
  | .bool b :: r => (boolsOf r).map (b :: ·)
  | _ :: _ => none
theorem bools_reps {K : PySem.W.Frag} {H : Hp} {M : Mset} : ∀ {vs : List V} {ds : List D} {bs : List Bool}, Reps K H M vs ds → boolsOf ds = some bs → vs = bs.map V.bl
  | _, _, _, .nil, e => by cases e; rfl
  | _, _, bs, .cons h r, e => by
    cases h with
    | bl b =>
      obtain ⟨cs, e1, rfl⟩ := Option.map_eq_some_iff.mp (show (boolsOf _).map (b :: ·) = some bs from e)
      rw [bools_reps r e1]; rfl
    | _ => cases e
def dAll : D → Option Sv
  | .list ds => (boolsOf ds).map fun bs => .imm (.bool (bs.all id))
  | _ => none
def dAny : D → Option Sv
  | .list ds => (boolsOf ds).map fun bs => .imm (.bool (bs.any id))
  | _ => none
theorem us_all : UnS X (fun v H Q => rAll X.K [v] H Q) dAll := by
  intro H M O π ρ σ v1 d1 res Q h r1 e q
  unfold dAll at e
  split at e
  · obtain ⟨bs, e1, rfl⟩ := Option.map_eq_some_iff.mp e
    obtain ⟨a, vs, rfl, rd, rs⟩ := r1.inL
    exact ⟨a, bs, rfl, .inl (by rw [← bools_reps rs e1]; exact rd), Post.now q h (.bl _)⟩
  · cases e
theorem us_any : UnS X (fun v H Q => rAny X.K [v] H Q) dAny := by
  intro H M O π ρ σ v1 d1 res Q h r1 e q
  unfold dAny at e
  split at e
  · obtain ⟨bs, e1, rfl⟩ := Option.map_eq_some_iff.mp e
    obtain ⟨a, vs, rfl, rd, rs⟩ := r1.inL
    exact ⟨a, bs, rfl, .inl (by rw [← bools_reps rs e1]; exact rd), Post.now q h (.bl _)⟩
  · cases e
end
end Vi

namespace Vi
open PySem PySem.Spec PyProof.Rows L2

/-! ### lists of expressions, each fixed as it comes -/
abbrev MA := Fm → Option (List D × Fm)
def tA (K : PySem.W.Frag) (m : MA) : TA := fun σ H Q => ∃ ρ M O π ds ρ', SR K H M O π ρ σ ∧ m ρ = some (ds, ρ') ∧ ∀ vs H' M', Ext O H M H' M' → SR K H' M' O π ρ' σ → Reps K H' M' vs ds → Q vs H'
def DA (X : Cx) (es : List Expr) (m : MA) : Prop := PA X es (tA X.K m)
def mNil : MA := fun ρ => some ([], ρ)
def mCons (me : ME) (ma : MA) : MA := fun ρ => match me ρ with
  | some (pr, ρ1) => match frz ρ1 pr with
    | some (d, ρ2) => match ma ρ2 with
      | some (ds, ρ3) => some (d :: ds, ρ3)
      | none => none
    | none => none
  | none => none
section
variable {X : Cx} {a b c e : Expr} {es rest : List Expr} {ma mb me : ME} {mes : MA} {pos : Pos}
theorem da_nil : DA X [] mNil := PA.imp pa_nil fun σ H Q ⟨ρ, M, O, π, ds, ρ', h, e, q⟩ => by
  cases e
  exact q [] H M (.refl h) h .nil
theorem da_cons (he : DE X e me) (hes : DA X es mes) (hs : starEach (e :: es) X.env = (false, eval e X.env) :: starEach es X.env := by rfl) : DA X (e :: es) (mCons me mes) :=
  PA.imp (pa_cons he hes hs) fun σ H Q ⟨ρ, M, O, π, ds, ρ', h, e, q⟩ => by
    unfold mCons at e
    split at e
    · rename_i pr ρ1 e1
      split at e
      · rename_i d ρ2 e2
        split at e
        · rename_i ds' ρ3 e3
          simp only [Option.some.injEq, Prod.mk.injEq] at e
          obtain ⟨rfl, rfl⟩ := e
          refine ⟨ρ, M, O, π, pr, ρ1, h, e1, fun v H1 M1 x1 s1 r1 => ?_⟩
          obtain ⟨M2, x2, s2, r2⟩ := frz_ok s1 r1 e2
          exact ⟨ρ2, M2, O, π, ds', ρ3, s2, e3, fun vs H3 M3 x3 s3 r3 => q (v :: vs) H3 M3 ((x1.trans x2).trans x3) s3 (.cons (r2.tr x3.tr) r3)⟩
        · cases e
      · cases e
    · cases e
def mTup (m : MA) : ME := fun ρ => match m ρ with
  | some (ds, ρ1) => if fits ds.length = true then some (.val (.imm (.tuple ds)), ρ1) else none
  | none => none
def mLst (m : MA) : ME := fun ρ => match m ρ with
  | some (ds, ρ1) => if fits ds.length = true then some (.val (.own false ds), ρ1) else none
  | none => none
theorem de_tup {k : Nat} (hes : DA X es mes) : DE X (.Tuple es k pos) (mTup mes) := PE.imp (pe_tup hes) fun σ H Q ⟨ρ, M, O, π, pr, ρ', h, e, q⟩ => by
  unfold mTup at e
  split at e
  · rename_i ds ρ1 e1
    split at e
    · rename_i hz
      simp only [Option.some.injEq, Prod.mk.injEq] at e
      obtain ⟨rfl, rfl⟩ := e
      exact ⟨ρ, M, O, π, ds, ρ1, h, e1, fun vs H1 M1 x1 s1 r1 => ⟨by rw [r1.length]; exact fits_le hz, fun p hp => Post.tup (Q := Q) (fun v H' M' x2 => q v H' M' (x1.trans x2)) s1 r1 hp⟩⟩
    · cases e
  · cases e
theorem de_lst (hes : DA X es mes) : DE X (.List es pos) (mLst mes) := PE.imp (pe_lst hes) fun σ H Q ⟨ρ, M, O, π, pr, ρ', h, e, q⟩ => by
  unfold mLst at e
  split at e
  · rename_i ds ρ1 e1
    split at e
    · rename_i hz
      simp only [Option.some.injEq, Prod.mk.injEq] at e
      obtain ⟨rfl, rfl⟩ := e
      exact ⟨ρ, M, O, π, ds, ρ1, h, e1, fun vs H1 M1 x1 s1 r1 => ⟨by rw [r1.length]; exact fits_le hz, fun p hp => Post.lst (Q := Q) (fun v H' M' x2 => q v H' M' (x1.trans x2)) s1 r1 hp⟩⟩
    · cases e
  · cases e

/-! ### truth, tests -/
def dTru : D → Option Bool
  | .none => some false
  | .bool b => some b
  | .int i => some (i != 0)
  | .str x => if fits x.length = true then some ((x.length : Int) != 0) else none
  | .list ds => some (!ds.isEmpty)
  | .tuple ds => some (!ds.isEmpty)
  | _ => none
theorem reps_empty {K : PySem.W.Frag} {H : Hp} {M : Mset} {vs : List V} {ds : List D} (r : Reps K H M vs ds) : vs.isEmpty = ds.isEmpty := by cases r <;> rfl
theorem tru_vw {K : PySem.W.Frag} {H : Hp} {M : Mset} {v : V} {d : D} {k : Bool} (r : VW K H M v d) (e : dTru d = some k) : TruV K v H k := by
  cases d with
  | none => cases e; cases r.inN; rfl
  | bool b => cases e; cases r.inB; rfl
  | int b => cases e; cases r.inI; rfl
  | str b =>
    unfold dTru at e
    simp only at e
    split at e
    · rename_i hz
      cases e; cases r.inS; exact ⟨fits_le hz, rfl⟩
    · cases e
  | list b =>
    cases e
    obtain ⟨a, vs, rfl, h, rs⟩ := r.inL
    exact .inl ⟨vs, .inl h, by rw [reps_empty rs]⟩
  | tuple b =>
    cases e
    obtain ⟨a, vs, rfl, h, rs⟩ := r.inT
    exact .inr (.inl ⟨vs, h.sq, by rw [reps_empty rs]⟩)
  | dict b => cases e
abbrev MT := Fm → Option (Bool × Fm)
def tT (K : PySem.W.Frag) (m : MT) : TT := fun σ H Q => ∃ ρ M O π b ρ', SR K H M O π ρ σ ∧ m ρ = some (b, ρ') ∧ ∀ H' M', Ext O H M H' M' → SR K H' M' O π ρ' σ → Q b H'
def DT (X : Cx) (e : Expr) (m : MT) : Prop := PT X e (tT X.K m)
def mTru (ma : ME) : MT := fun ρ => match ma ρ with
  | some (pr, ρ1) => match peek ρ1 pr with
    | some d => match dTru d with
      | some b => some (b, ρ1)
      | none => none
    | none => none
  | none => none
/-- a value of any kind as a test -/
theorem dt_tru (ha : DE X a ma) (he : ∀ whole, isTrue a X.env whole = (do let v ← whole; standAt a.pos; holding [v] (truthy v)) := by intro _; rfl) : DT X a (mTru ma) :=
  PT.imp (pt_truth ha he) fun σ H Q ⟨ρ, M, O, π, b, ρ', h, e, q⟩ => by
    unfold mTru at e
    split at e
    · rename_i pr ρ1 e1
      split at e
      · rename_i d e2
        split at e
        · rename_i k e3
          simp only [Option.some.injEq, Prod.mk.injEq] at e
          obtain ⟨rfl, rfl⟩ := e
          exact ⟨ρ, M, O, π, pr, ρ1, h, e1, fun v H1 M1 x1 s1 r1 => ⟨k, tru_vw (peek_vw s1 r1 e2) e3, q H1 M1 x1 s1⟩⟩
        · cases e
      · cases e
    · cases e
def mB (m : ME) : MT := fun ρ => match m ρ with
  | some (.val (.imm (.bool b)), ρ1) => some (b, ρ1)
  | _ => none
theorem tT_B {K : PySem.W.Frag} {m : ME} {σ : St} {H : Hp} {Q : Bool → Hp → Prop} (h : tT K (mB m) σ H Q) : tE K m σ H fun x H' => ∃ k, x = .bl k ∧ Q k H' := by
  obtain ⟨ρ, M, O, π, b, ρ', h, e, q⟩ := h
  unfold mB at e
  split at e
  · rename_i k ρ1 e1
    simp only [Option.some.injEq, Prod.mk.injEq] at e
    obtain ⟨rfl, rfl⟩ := e
    refine ⟨ρ, M, O, π, _, ρ1, h, e1, fun v H1 M1 x1 s1 r1 => ⟨k, ?_, q H1 M1 x1 s1⟩⟩
    cases (show Rep K H1 M1 v (.bool k) from r1)
    rfl
  · cases e
theorem dt_cmp {op : CmpOp} {r : R2} {f : D → D → Option Sv} (ho : OpR X (compareOp op) r) (hs : OpS X r f) (ha : DE X a ma) (hb : DE X b mb) (hm : behindInMarks op b = false) : DT X (.Compare a [op] [b] pos) (mB (bin f ma mb)) :=
  PT.imp (pt_cmpR ho ha hb hm) fun σ H Q h => tE_bin hs (tT_B h)
def mNotT (m : MT) : MT := fun ρ => match m ρ with
  | some (b, ρ1) => some (!b, ρ1)
  | none => none
variable {mt mu : MT}
theorem dt_not (ha : DT X a mt) : DT X (.UnaryOp .Not a pos) (mNotT mt) := PT.imp (pt_not ha) fun σ H Q ⟨ρ, M, O, π, b, ρ', h, e, q⟩ => by
  unfold mNotT at e
  split at e
  · rename_i k ρ1 e1
    simp only [Option.some.injEq, Prod.mk.injEq] at e
    obtain ⟨rfl, rfl⟩ := e
    exact ⟨ρ, M, O, π, k, ρ1, h, e1, q⟩
  · cases e
def DW (X : Cx) (e : Expr) (m : MT) : Prop := PW X e (tT X.K m)
theorem dt_w (h : DW X e mt) : DT X e mt := PW.pt h
theorem dw_and1 (h : DT X a mt) : DW X (.BoolOp .And [a] pos) mt := pw_and1 h
theorem dw_or1 (h : DT X a mt) : DW X (.BoolOp .Or [a] pos) mt := pw_or1 h
def mAndT (m n : MT) : MT := fun ρ => match m ρ with
  | some (true, ρ1) => n ρ1
  | some (false, ρ1) => some (false, ρ1)
  | none => none
def mOrT (m n : MT) : MT := fun ρ => match m ρ with
  | some (false, ρ1) => n ρ1
  | some (true, ρ1) => some (true, ρ1)
  | none => none
theorem _root_.L2.PW.imp {X : Cx} {e : Expr} {t t' : TT} (h : PW X e t) (i : ∀ σ H Q, t' σ H Q → t σ H Q) : PW X e t' := ⟨fun w pins s σ H Q I q => h.run w pins s σ H Q I (i σ H Q q)⟩
theorem dw_and (ha : DT X a mt) (hb : DW X (.BoolOp .And (b :: rest) pos) mu) : DW X (.BoolOp .And (a :: b :: rest) pos) (mAndT mt mu) := PW.imp (pw_and ha hb) fun σ H Q ⟨ρ, M, O, π, r, ρ', h, e, q⟩ => by
  unfold mAndT at e
  split at e
  · rename_i ρ1 e1
    exact ⟨ρ, M, O, π, true, ρ1, h, e1, fun H1 M1 x1 s1 => ⟨ρ1, M1, O, π, r, ρ', s1, e, fun H2 M2 x2 s2 => q H2 M2 (x1.trans x2) s2⟩⟩
  · rename_i ρ1 e1
    simp only [Option.some.injEq, Prod.mk.injEq] at e
    obtain ⟨rfl, rfl⟩ := e
    exact ⟨ρ, M, O, π, false, ρ1, h, e1, fun H1 M1 x1 s1 => q H1 M1 x1 s1⟩
  · cases e
theorem dw_or (ha : DT X a mt) (hb : DW X (.BoolOp .Or (b :: rest) pos) mu) : DW X (.BoolOp .Or (a :: b :: rest) pos) (mOrT mt mu) := PW.imp (pw_or ha hb) fun σ H Q ⟨ρ, M, O, π, r, ρ', h, e, q⟩ => by
  unfold mOrT at e
  split at e
  · rename_i ρ1 e1
    exact ⟨ρ, M, O, π, false, ρ1, h, e1, fun H1 M1 x1 s1 => ⟨ρ1, M1, O, π, r, ρ', s1, e, fun H2 M2 x2 s2 => q H2 M2 (x1.trans x2) s2⟩⟩
  · rename_i ρ1 e1
    simp only [Option.some.injEq, Prod.mk.injEq] at e
    obtain ⟨rfl, rfl⟩ := e
    exact ⟨ρ, M, O, π, true, ρ1, h, e1, fun H1 M1 x1 s1 => q H1 M1 x1 s1⟩
  · cases e

/-! ### a if c else b; and, or, not as values -/
def mIf (c : MT) (ma mb : ME) : ME := fun ρ => match c ρ with
  | some (true, ρ1) => ma ρ1
  | some (false, ρ1) => mb ρ1
  | none => none
theorem de_if (hc : DT X c mt) (ha : DE X a ma) (hb : DE X b mb) : DE X (.IfExp c a b pos) (mIf mt ma mb) := PE.imp (pe_ifExp hc ha hb) fun σ H Q ⟨ρ, M, O, π, r, ρ', h, e, q⟩ => by
  unfold mIf at e
  split at e
  · rename_i ρ1 e1
    exact ⟨ρ, M, O, π, true, ρ1, h, e1, fun H1 M1 x1 s1 => ⟨ρ1, M1, O, π, r, ρ', s1, e, fun v H2 M2 x2 s2 r2 => q v H2 M2 (x1.trans x2) s2 r2⟩⟩
  · rename_i ρ1 e1
    exact ⟨ρ, M, O, π, false, ρ1, h, e1, fun H1 M1 x1 s1 => ⟨ρ1, M1, O, π, r, ρ', s1, e, fun v H2 M2 x2 s2 r2 => q v H2 M2 (x1.trans x2) s2 r2⟩⟩
  · cases e
def mOr (ma mb : ME) : ME := fun ρ => match ma ρ with
  | some (pr, ρ1) => match peek ρ1 pr with
    | some d => match dTru d with
      | some true => some (pr, ρ1)
      | some false => mb ρ1
      | none => none
    | none => none
  | none => none
def mAnd (ma mb : ME) : ME := fun ρ => match ma ρ with
  | some (pr, ρ1) => match peek ρ1 pr with
    | some d => match dTru d with
      | some false => some (pr, ρ1)
      | some true => mb ρ1
      | none => none
    | none => none
  | none => none
theorem de_one {op} (h : DE X a ma) : DE X (.BoolOp op [a] pos) ma := pe_one h
theorem de_or (ha : DE X a ma) (hb : DE X (.BoolOp .Or (b :: rest) pos) mb) : DE X (.BoolOp .Or (a :: b :: rest) pos) (mOr ma mb) := PE.imp (pe_orT ha hb) fun σ H Q ⟨ρ, M, O, π, r, ρ', h, e, q⟩ => by
  unfold mOr at e
  split at e
  · rename_i pr ρ1 e1
    split at e
    · rename_i d e2
      split at e
      · rename_i e3
        simp only [Option.some.injEq, Prod.mk.injEq] at e
        obtain ⟨rfl, rfl⟩ := e
        exact ⟨ρ, M, O, π, pr, ρ1, h, e1, fun v H1 M1 x1 s1 r1 => ⟨true, tru_vw (peek_vw s1 r1 e2) e3, iteT (q v H1 M1 x1 s1 r1)⟩⟩
      · rename_i e3
        exact ⟨ρ, M, O, π, pr, ρ1, h, e1, fun v H1 M1 x1 s1 r1 => ⟨false, tru_vw (peek_vw s1 r1 e2) e3, iteF ⟨ρ1, M1, O, π, r, ρ', s1, e, fun v H2 M2 x2 s2 r2 => q v H2 M2 (x1.trans x2) s2 r2⟩⟩⟩
      · cases e
    · cases e
  · cases e
theorem de_and (ha : DE X a ma) (hb : DE X (.BoolOp .And (b :: rest) pos) mb) : DE X (.BoolOp .And (a :: b :: rest) pos) (mAnd ma mb) := PE.imp (pe_andT ha hb) fun σ H Q ⟨ρ, M, O, π, r, ρ', h, e, q⟩ => by
  unfold mAnd at e
  split at e
  · rename_i pr ρ1 e1
    split at e
    · rename_i d e2
      split at e
      · rename_i e3
        simp only [Option.some.injEq, Prod.mk.injEq] at e
        obtain ⟨rfl, rfl⟩ := e
        exact ⟨ρ, M, O, π, pr, ρ1, h, e1, fun v H1 M1 x1 s1 r1 => ⟨false, tru_vw (peek_vw s1 r1 e2) e3, iteF (q v H1 M1 x1 s1 r1)⟩⟩
      · rename_i e3
        exact ⟨ρ, M, O, π, pr, ρ1, h, e1, fun v H1 M1 x1 s1 r1 => ⟨true, tru_vw (peek_vw s1 r1 e2) e3, iteT ⟨ρ1, M1, O, π, r, ρ', s1, e, fun v H2 M2 x2 s2 r2 => q v H2 M2 (x1.trans x2) s2 r2⟩⟩⟩
      · cases e
    · cases e
  · cases e
def dNot (d : D) : Option Sv := (dTru d).map fun b => .imm (.bool (!b))
theorem de_not (ha : DE X a ma) : DE X (.UnaryOp .Not a pos) (un dNot ma) := PE.imp (pe_notT ha) fun σ H Q h =>
  tE_un (r := fun x H1 Q => ∃ k, TruV X.K x H1 k ∧ Q (.bl (!k)) H1) (by
    intro H M O π ρ σ v1 d1 res Q h r1 e q
    obtain ⟨b, e1, rfl⟩ := Option.map_eq_some_iff.mp e
    exact ⟨b, tru_vw r1 e1, Post.now q h (.bl _)⟩) h

/-! ### slices -/
abbrev MO := Fm → Option (Option Int × Fm)
def tO (K : PySem.W.Frag) (m : MO) : TO := fun σ H Q => ∃ ρ M O π i ρ', SR K H M O π ρ σ ∧ m ρ = some (i, ρ') ∧ ∀ H' M', Ext O H M H' M' → SR K H' M' O π ρ' σ → Q i H'
def DO (X : Cx) (e : Option Expr) (m : MO) : Prop := PO X e (tO X.K m)
theorem _root_.L2.PO.imp {X : Cx} {e : Option Expr} {t t' : TO} (h : PO X e t) (i : ∀ σ H Q, t' σ H Q → t σ H Q) : PO X e t' := ⟨fun pins s σ H Q I q => h.run pins s σ H Q I (i σ H Q q)⟩
def mNoPart : MO := fun ρ => some (none, ρ)
def mPart (ma : ME) : MO := fun ρ => match ma ρ with
  | some (pr, ρ1) => match peek ρ1 pr with
    | some (.int i) => some (some i, ρ1)
    | _ => none
  | none => none
theorem do_none : DO X none mNoPart := PO.imp po_none fun σ H Q ⟨ρ, M, O, π, i, ρ', h, e, q⟩ => by
  cases e
  exact q H M (.refl h) h
theorem do_some (ha : DE X a ma) : DO X (some a) (mPart ma) := PO.imp (po_some ha) fun σ H Q ⟨ρ, M, O, π, r, ρ', h, e, q⟩ => by
  unfold mPart at e
  split at e
  · rename_i pr ρ1 e1
    split at e
    · rename_i i e2
      simp only [Option.some.injEq, Prod.mk.injEq] at e
      obtain ⟨rfl, rfl⟩ := e
      exact ⟨ρ, M, O, π, pr, ρ1, h, e1, fun v H1 M1 x1 s1 r1 => ⟨i, (peek_vw s1 r1 e2).inI, q H1 M1 x1 s1⟩⟩
    · cases e
  · cases e
def cutD (ds : List D) (lo hi : Option Int) : List D := (ds.drop (HT.sIx ds.length 0 lo)).take (HT.sIx ds.length ds.length hi - HT.sIx ds.length 0 lo)
theorem cut_rep {K : PySem.W.Frag} {H : Hp} {M : Mset} {vs : List V} {ds : List D} (r : Reps K H M vs ds) (lo hi : Option Int) : Reps K H M (cutV vs lo hi) (cutD ds lo hi) := by
  unfold cutV cutD
  rw [r.length]
  exact (r.drop _).take _
theorem cutD_whole {ds : List D} {lo hi : Option Int} (h : HT.sIx ds.length 0 lo = 0 ∧ HT.sIx ds.length ds.length hi = ds.length) : cutD ds lo hi = ds := by
  unfold cutD
  rw [h.1, h.2]
  simp
def dCut (lo hi : Option Int) : D → Option Sv
  | .list ds => some (.own false (cutD ds lo hi))
  | .tuple ds => some (.imm (.tuple (cutD ds lo hi)))
  | .dict kvs => some (.own false (cutD (kvs.map Prod.fst) lo hi))
  | _ => none
def mSl (me : ME) (ml mh : MO) : ME := fun ρ => match me ρ with
  | some (pr, ρ1) => match ml ρ1 with
    | some (lo, ρ2) => match mh ρ2 with
      | some (hi, ρ3) => match peek ρ3 pr with
        | some d => match dCut lo hi d with
          | some s => some (.val s, ρ3)
          | none => none
        | none => none
      | none => none
    | none => none
  | none => none
theorem de_sl {lo hi : Option Expr} {ml mh : MO} {p2 : Pos} (he : DE X e me) (hl : DO X lo ml) (hh : DO X hi mh) : DE X (.Subscript e (.Slice lo hi none p2) pos) (mSl me ml mh) :=
  PE.imp (pe_slice (sl_list.or sl_tupA) he hl hh) fun σ H Q ⟨ρ, M, O, π, r, ρ', h, e, q⟩ => by
    unfold mSl at e
    split at e
    · rename_i pr ρ1 e1
      split at e
      · rename_i lo ρ2 e2
        split at e
        · rename_i hi ρ3 e3
          split at e
          · rename_i d e4
            split at e
            · rename_i s e5
              simp only [Option.some.injEq, Prod.mk.injEq] at e
              obtain ⟨rfl, rfl⟩ := e
              refine ⟨ρ, M, O, π, pr, ρ1, h, e1, fun v H1 M1 x1 s1 r1 => ⟨ρ1, M1, hold O pr v, π, lo, ρ2, s1.hold r1, e2, fun H2 M2 x2 s2 => ⟨ρ2, M2, hold O pr v, π, hi, ρ3, s2, e3, fun H3 M3 x3 s3 => ?_⟩⟩⟩
              have s3' := s3.less (hold_le O pr v)
              have xx := x2.trans x3
              have vw := peek_vw s3' (r1.held xx s3) e4
              have q' : Post X.K H3 M3 O π ρ3 σ s Q := fun w H' M' x4 => q w H' M' ((x1.trans (xx.less (hold_le O pr v))).trans x4)
              unfold dCut at e5
              split at e5
              · cases e5
                obtain ⟨a, vs, rfl, rd, rs⟩ := vw.inL
                exact .inl ⟨a, vs, rfl, .inl rd, fun p hp => q'.lst s3' (cut_rep rs lo hi) hp⟩
              · cases e5
                have vw' := vw
                obtain ⟨a, vs, rfl, rd, rs⟩ := vw.inT
                refine .inr ⟨a, vs, rfl, rd.sq, fun hw => ?_, fun _ p hp => q'.tup s3' (cut_rep rs lo hi) hp⟩
                rw [rs.length] at hw
                rw [cutD_whole hw] at q'
                exact q'.now s3' vw'
              · cases e5
                obtain ⟨a, vs, rfl, rd, rs⟩ := vw.inScr
                exact .inl ⟨a, vs, rfl, rd.sq, fun p hp => q'.lst s3' (cut_rep rs lo hi) hp⟩
              · cases e5
            · cases e
          · cases e
        · cases e
      · cases e
    · cases e
end
end Vi

namespace Vi
open PySem PySem.Spec PyProof.Rows L2

/-! ### sorted -/
section
variable {prog : Program} {w : World} {A : Around} {E : Value → Shared → Prop} {s : Shared} {β : Type} {vs : List Value} {bs : List β} {enc : β → PyData} {R : Value → β → Prop}
theorem sorted_seq {l : Addr} {T : String} {o : Obj} {n : Nat} {Q : Value → Shared → Prop} (hT : T = "list" ∨ T = "tuple") (ho : s.heap.get? l = some o) (hc : o.cls = .type T) (hd : o.data = .seq vs.toArray n) (e : W.EachIs R vs bs)
    (er : W.EachIs (fun v b => ∃ as, Reads s.heap v (enc b) as) vs bs) (hal : W.AllAlike (bs.map enc)) (hk : W.Sortable (bs.map enc)) (hL : bs.length ≤ sizeLine) (hu : ∀ b, b ∈ bs → A.units + 2 + (enc b).depth < cLine)
    (h : ∀ (h' : Heap) (out : List Value), out.length = bs.length → (∀ b o', s.heap.get? b = some o' → h'.get? b = some o') → W.EachIs R out (bs.mergeSort (W.dataLe false enc)) → Q (.ref h'.objs.size) { s with heap := sortedHeap (h'.push (seqObj "list" vs.toArray 0)) h'.objs.size vs out.toArray }) :
    wpAny (model prog w) A (call (.builtin "sorted") [.ref l]) Q E s := by
  have hlen := e.length
  refine call_function_entry_kw kind_sorted plain_sorted entry_sorted (args_sorted1 _) ?_
  unfold Builtin.«sorted»
  refine wpAny_bind (m := checkCount "sorted" 1 1 _) (wpAny_pure ?_)
  refine wpAny_bind (wpAny_collect_seq l hT ho hc hd (fun h' kp => ?_) (by simp only [List.size_toArray]; omega))
  refine wpAny_bind (wpAny_newList ?_ (by show vs.length ≤ _; omega))
  have at_ : (h'.push (seqObj "list" vs.toArray 0)).get? h'.objs.size = some (seqObj "list" vs.toArray 0) := Heap.get?_push_size _ rfl
  have kp2 : ∀ b o', s.heap.get? b = some o' → (h'.push (seqObj "list" vs.toArray 0)).get? b = some o' := fun b o' q => Heap.get?_push_of_some _ (kp b o' q)
  have ne : ∀ b o', h'.get? b = some o' → b ≠ h'.objs.size := fun b o' q => Nat.ne_of_lt (Heap.lt_size q)
  have er' : W.EachIs (fun v b => ∃ as, Reads (W.sortingHeap (h'.push (seqObj "list" vs.toArray 0)) h'.objs.size vs) v (enc b) as) vs bs :=
    er.mono fun _ _ ⟨as, r⟩ => ⟨as, PyProof.Rows.Reads.keeps (fun b o' q => W.sortingHeap_old (ne b o' (kp b o' q)) (kp2 b o' q)) r⟩
  refine wpAny_bind (wpAny_holding (wpAny_call_entry_kw slot_list_sort ⟨_, at_, rfl⟩ entry_list_sort ?body (args_list_sort _)))
  case body =>
    show wpAny (model prog w) A.in1.in1 (Builtin.«list.sort» ⟨[.ref h'.objs.size], []⟩) _ _ { s with heap := h'.push (seqObj "list" vs.toArray 0) }
    refine wpAny_mono (W.list_sort_vals (κ := W.dataKind (W.sortingHeap (h'.push (seqObj "list" vs.toArray 0)) h'.objs.size vs) (bs.map enc)) (P := fun f s' => f = .done (.ret .none) ∧ Q (.ref h'.objs.size) s') at_ (W.SortsAt.data (s := { s with heap := W.sortingHeap (h'.push (seqObj "list" vs.toArray 0)) h'.objs.size vs }) (W.each_map (R := fun v d => ∃ as, Reads (W.sortingHeap (h'.push (seqObj "list" vs.toArray 0)) h'.objs.size vs) v d as) enc er') hal hk (W.bound_map hu)) (by omega) ⟨rfl, ?_⟩) (fun f s' hf => ?_) fun _ _ e => e
    · exact h h' _ (by rw [W.sortVals_length false rfl]; exact hlen) kp (W.sortVals_data false e er' hal)
    · obtain ⟨rfl, hq⟩ := hf
      exact ⟨_, rfl, wpAny_pure ⟨_, rfl, hq⟩⟩
end

/-- by insertion -/
def ins {β : Type} (le : β → β → Bool) (x : β) : List β → List β
  | [] => [x]
  | y :: ys => if le x y = true then x :: y :: ys else y :: ins le x ys
def isort {β : Type} (le : β → β → Bool) : List β → List β
  | [] => []
  | x :: xs => ins le x (isort le xs)
theorem ins_split {β : Type} {le : β → β → Bool} {x : β} : ∀ {l r : List β}, (∀ b ∈ l, le x b = false) → (∀ b, r.head? = some b → le x b = true) → ins le x (l ++ r) = l ++ x :: r
  | [], [], _, _ => rfl
  | [], y :: r, _, h => by
    show (if le x y = true then x :: y :: r else y :: ins le x r) = x :: y :: r
    rw [if_pos (h y rfl)]
  | b :: l, r, hl, hr => by
    show (if le x b = true then x :: b :: (l ++ r) else b :: ins le x (l ++ r)) = b :: (l ++ x :: r)
    rw [if_neg (by rw [hl b (List.mem_cons_self ..)]; decide), ins_split (fun c hc => hl c (List.mem_cons_of_mem _ hc)) hr]
theorem isort_eq {β : Type} {le : β → β → Bool} (T : W.TotalLe le) : ∀ l : List β, l.mergeSort le = isort le l
  | [] => by rw [List.mergeSort_nil]; rfl
  | x :: l => by
    have tr : ∀ a b c : β, le a b = true → le b c = true → le a c = true := T.trans
    have tt : ∀ a b : β, (le a b || le b a) = true := fun a b => Bool.or_eq_true_iff.mpr (T.total a b)
    obtain ⟨l1, l2, e1, e2, e3⟩ := List.mergeSort_cons (le := le) tr tt x l
    have hs := List.pairwise_mergeSort (le := le) tr tt (x :: l)
    rw [e1] at hs
    rw [e1]
    show l1 ++ x :: l2 = ins le x (isort le l)
    rw [← isort_eq T l, e2]
    refine (ins_split (fun b hb => by simpa using e3 b hb) fun b hb => ?_).symm
    have h2 := (List.pairwise_append.mp hs).2.1
    refine (List.pairwise_cons.mp h2).1 b ?_
    cases l2 with
    | nil => cases hb
    | cons y r => cases hb; exact List.mem_cons_self ..
theorem ins_map {β γ : Type} {le : γ → γ → Bool} (f : β → γ) (x : β) : ∀ l : List β, (ins (fun a b => le (f a) (f b)) x l).map f = ins le (f x) (l.map f)
  | [] => rfl
  | y :: l => by
    show (if le (f x) (f y) = true then x :: y :: l else y :: ins (fun a b => le (f a) (f b)) x l).map f = if le (f x) (f y) = true then f x :: f y :: l.map f else f y :: ins le (f x) (l.map f)
    split
    · rfl
    · rw [List.map_cons, ins_map f x l]
theorem isort_map {β γ : Type} {le : γ → γ → Bool} (f : β → γ) : ∀ l : List β, (isort (fun a b => le (f a) (f b)) l).map f = isort le (l.map f)
  | [] => rfl
  | x :: l => by
    show (ins (fun a b => le (f a) (f b)) x (isort (fun a b => le (f a) (f b)) l)).map f = ins le (f x) (isort le (l.map f))
    rw [ins_map, isort_map f l]
theorem ins_perm {β : Type} {le : β → β → Bool} {x : β} : ∀ l : List β, (ins le x l).Perm (x :: l)
  | [] => .refl _
  | y :: l => by
    show (if le x y = true then x :: y :: l else y :: ins le x l).Perm (x :: y :: l)
    split
    · exact .refl _
    · exact ((ins_perm l).cons y).trans (List.Perm.swap ..)
theorem isort_perm {β : Type} {le : β → β → Bool} : ∀ l : List β, (isort le l).Perm l
  | [] => .refl _
  | x :: l => (ins_perm _).trans ((isort_perm l).cons x)

/-- the order of data -/
def leD : D → D → Bool := W.dataLe false id
def sortD (ds : List D) : List D := isort leD ds
/-- what may be sorted -/
def alikeAllB (ds : List D) : Bool := ds.all fun d => ds.all fun e => W.alike d e
def headB : D → Bool
  | .tuple (_ :: _) => true
  | _ => false
def plainB : D → Bool
  | .none => false
  | .tuple _ => false
  | _ => true
def sortOk (ds : List D) : Bool := alikeAllB ds && (ds.all headB || ds.all plainB) && ds.all okD && fits ds.length
theorem sortOk_al {ds : List D} (h : sortOk ds = true) : W.AllAlike ds := fun d hd e he => by
  unfold sortOk alikeAllB at h
  rw [Bool.and_eq_true, Bool.and_eq_true, Bool.and_eq_true] at h
  exact List.all_eq_true.mp (List.all_eq_true.mp h.1.1.1 d hd) e he
theorem sortOk_so {ds : List D} (h : sortOk ds = true) : W.Sortable ds := by
  unfold sortOk at h
  rw [Bool.and_eq_true, Bool.and_eq_true, Bool.and_eq_true, Bool.or_eq_true] at h
  rcases h.1.1.2 with h | h
  · refine .inl fun d hd => ?_
    have q := List.all_eq_true.mp h d hd
    unfold headB at q
    split at q
    · exact ⟨_, _, rfl⟩
    · cases q
  · refine .inr fun d hd => ?_
    have q := List.all_eq_true.mp h d hd
    unfold plainB at q
    split at q
    · cases q
    · cases q
    · rename_i h1 h2
      exact ⟨fun e => h1 e, fun xs e => h2 xs e⟩
theorem sortOk_dp {ds : List D} (h : sortOk ds = true) : ∀ d ∈ ds, d.depth ≤ 64 := fun d hd => by
  unfold sortOk at h
  rw [Bool.and_eq_true, Bool.and_eq_true, Bool.and_eq_true] at h
  exact SeqAt.depth_of_shaped (List.all_eq_true.mp h.1.2 d hd)
theorem lay_all : ∀ {ds : List D}, (∀ d ∈ ds, d.canLay0 = true) → PyData.canLayAll0 ds = true
  | [], _ => by simp [PyData.canLayAll0]
  | d :: ds, h => by
    rw [PyData.canLayAll0, h d (List.mem_cons_self ..), lay_all fun e he => h e (List.mem_cons_of_mem _ he)]; rfl
theorem sortOk_lay {ds : List D} (h : sortOk ds = true) : PyData.canLayAll0 ds = true := lay_all fun d hd => by
  unfold sortOk at h
  rw [Bool.and_eq_true, Bool.and_eq_true, Bool.and_eq_true] at h
  exact SeqAt.canLay_of_shaped (List.all_eq_true.mp h.1.2 d hd)
theorem sortOk_len {ds : List D} (h : sortOk ds = true) : ds.length ≤ sizeLine := by
  unfold sortOk at h
  rw [Bool.and_eq_true] at h
  exact fits_le h.2
section
variable {X : Cx}
theorem each_zip {R : Value → V × D → Prop} : ∀ {us : List Value} {xs : List V} {ds : List D}, Vals xs us → xs.length = ds.length → (∀ (i : Nat) u x d, us[i]? = some u → xs[i]? = some x → ds[i]? = some d → RelV x u → R u (x, d)) → W.EachIs R us (xs.zip ds)
  | _, _, [], .nil, _, _ => .nil
  | _, _, d :: ds, .cons r t, hl, h => .cons (h 0 _ _ _ rfl rfl rfl r) (each_zip t (by simpa using hl) fun i u x d h1 h2 h3 => h (i + 1) u x d (by simpa using h1) (by simpa using h2) (by simpa using h3))
theorem each_vals : ∀ {us : List Value} {ps : List (V × D)}, W.EachIs (fun u (b : V × D) => RelV b.1 u) us ps → Vals (ps.map Prod.fst) us
  | _, _, .nil => .nil
  | _, _, .cons r t => .cons r (each_vals t)
theorem zip_snd : ∀ {xs : List V} {ds : List D}, xs.length = ds.length → (xs.zip ds).map Prod.snd = ds
  | [], [], _ => rfl
  | x :: xs, d :: ds, h => by rw [List.zip_cons_cons, List.map_cons, zip_snd (by simpa using h)]
theorem readsAll_get {h : Heap} : ∀ {ds : List D} {us : List Value} {as : List Addr} {i : Nat} {u : Value} {d : D}, ReadsAll h us ds as → us[i]? = some u → ds[i]? = some d → ∃ bs, Reads h u d bs
  | [], _, _, i, _, _, r, _, e => by simp at e
  | d :: ds, _, _, 0, _, _, .cons r1 r2, e1, e2 => by
    simp at e1 e2; subst e1; subst e2; exact ⟨_, r1⟩
  | d :: ds, _, _, i + 1, _, _, .cons r1 r2, e1, e2 => readsAll_get r2 (by simpa using e1) (by simpa using e2)
/-- sorted(x) of data: ps, the items with their data, in order -/
def rSortD (K : PySem.W.Frag) : List V → Hp → VK → Prop := fun vs H Q => ∃ (a : Addr) (xs : List V) (ds : List D), vs = [.ref a] ∧ (SqL K H a xs ∨ SqT K H a xs) ∧ xs.length = ds.length ∧ DpAll K H xs ds ∧ sortOk ds = true ∧
  ∀ p, H p = none → Q (.ref p) (upd H p (.lst ((isort (fun a b : V × D => leD a.2 b.2) (xs.zip ds)).map Prod.fst)))
theorem cr_sortD (hu : X.A.units + 70 < cLine) : CallR X (.builtin "sorted") (rSortD X.K) := by
  intro pins s σ H vs us Q I r h
  obtain ⟨a, xs, ds, rfl, hsq, hlen, hdp, hok, q⟩ := h
  rw [Vals.ref1 r]
  have core : ∀ {T : String} {o : Obj} {its : List Value} {n : Nat}, (T = "list" ∨ T = "tuple") → s.heap.get? a = some o → o.cls = .type T → o.data = .seq its.toArray n → Vals xs its → wpAny (model X.prog X.w) X.A (call (.builtin "sorted") [.ref a]) (EP X pins σ Q) X.xe s := by
    intro T o its n hT ho hc hd rv
    obtain ⟨as, hr⟩ := Dp.readsAll I ds xs its hdp rv
    have hzl : (xs.zip ds).length = ds.length := by rw [List.length_zip, hlen, Nat.min_self]
    have e : W.EachIs (fun u (b : V × D) => RelV b.1 u) its (xs.zip ds) := each_zip rv hlen fun i u x d _ _ _ r => r
    have er : W.EachIs (fun u (b : V × D) => ∃ as, Reads s.heap u (id (Prod.snd b)) as) its (xs.zip ds) := each_zip rv hlen fun i u x d h1 _ h3 _ => readsAll_get hr h1 h3
    have em : (xs.zip ds).map (fun b => id (Prod.snd b)) = ds := zip_snd hlen
    refine sorted_seq (enc := fun b : V × D => id b.2) (R := fun u (b : V × D) => RelV b.1 u) hT ho hc hd e er (by rw [em]; exact sortOk_al hok) (by rw [em]; exact sortOk_so hok) (by rw [hzl]; exact sortOk_len hok) (fun b hb => ?_) fun h' out hol kp ho2 => ?_
    · have hm : b.2 ∈ ds := by rw [← em]; exact List.mem_map.mpr ⟨b, hb, rfl⟩
      have := sortOk_dp hok _ hm
      show X.A.units + 2 + b.2.depth < cLine
      omega
    · rw [isort_eq (le := W.dataLe false fun b : V × D => id b.2) (W.sortLe_total _ _ _)] at ho2
      have I1 : Inv X pins σ H { s with heap := h' } := I.kept (t' := s.toks) kp
      have hz : ((isort (fun a b : V × D => leD a.2 b.2) (xs.zip ds)).map Prod.fst).length ≤ sizeLine := by
        rw [List.length_map, (isort_perm _).length_eq, hzl]; exact sortOk_len hok
      have hpush : (h'.push (seqObj "list" its.toArray 0)).get? h'.objs.size = some (seqObj "list" its.toArray 0) := Heap.get?_push_size _ rfl
      obtain ⟨e1, hat⟩ := sortedHeap_at (out := out.toArray) hpush
      refine ⟨.ref h'.objs.size, _, I1.laid (t' := s.toks) (o := .lst ((isort (fun a b : V × D => leD a.2 b.2) (xs.zip ds)).map Prod.fst)) (fun b u eb => ?_) (Nat.le_refl _) ⟨hz, out, e1, each_vals ho2, hat⟩, rfl, q _ I1.fresh⟩
      have hb : b < h'.objs.size := Heap.lt_size eb
      rw [sortedHeap_old (Nat.ne_of_lt hb) (by rw [size_push']; exact Nat.lt_succ_of_lt hb)]
      exact Heap.get?_push_of_some _ eb
  rcases hsq with hsq | hsq
  · obtain ⟨its, rv, ⟨o, n, ho, hc, _, hd⟩, _⟩ := I.list hsq
    exact core (.inl rfl) ho hc hd rv
  · obtain ⟨its, rv, ⟨o, ho, hc, n, hd⟩, _⟩ := I.tuple hsq
    exact core (.inr rfl) ho hc hd rv
def dSort : D → Option Sv
  | .list ds => if sortOk ds = true then some (.own false (sortD ds)) else none
  | .tuple ds => if sortOk ds = true then some (.own false (sortD ds)) else none
  | _ => none
theorem reps_sort {K : PySem.W.Frag} {H : Hp} {M : Mset} : ∀ {ps : List (V × D)}, (∀ b ∈ ps, Rep K H M b.1 b.2) → Reps K H M (ps.map Prod.fst) (ps.map Prod.snd)
  | [], _ => .nil
  | b :: ps, h => .cons (h b (List.mem_cons_self ..)) (reps_sort fun c hc => h c (List.mem_cons_of_mem _ hc))
theorem reps_zip {K : PySem.W.Frag} {H : Hp} {M : Mset} : ∀ {vs : List V} {ds : List D}, Reps K H M vs ds → ∀ b ∈ vs.zip ds, Rep K H M b.1 b.2
  | _, _, .nil, b, hb => by cases hb
  | _, _, .cons h r, b, hb => by
    rw [List.zip_cons_cons] at hb
    rcases List.mem_cons.mp hb with rfl | hb
    · exact h
    · exact reps_zip r b hb
theorem us_sort : UnS X (fun v H Q => rSortD X.K [v] H Q) dSort := by
  intro H M O π ρ σ v1 d1 res Q h r1 e q
  have fin : ∀ {vs : List V} {ds : List D} {p : Addr}, Reps X.K H M vs ds → Post X.K H M O π ρ σ (.own false (sortD ds)) Q → H p = none → Q (.ref p) (upd H p (.lst ((isort (fun a b : V × D => leD a.2 b.2) (vs.zip ds)).map Prod.fst))) := fun {vs ds p} rs q hp => by
    have e2 : sortD ds = (isort (fun a b : V × D => leD a.2 b.2) (vs.zip ds)).map Prod.snd := by
      rw [isort_map (le := leD) Prod.snd, zip_snd rs.length]; rfl
    rw [e2] at q
    exact q.lst h (reps_sort fun b hb => reps_zip rs b ((isort_perm _).mem_iff.mp hb)) hp
  unfold dSort at e
  split at e
  · split at e
    · rename_i hz
      cases e
      obtain ⟨a, vs, rfl, rd, rs⟩ := r1.inL
      exact ⟨a, vs, _, rfl, .inl (.inl rd), rs.length, rs.dp (sortOk_lay hz), hz, fun p hp => fin rs q hp⟩
    · cases e
  · split at e
    · rename_i hz
      cases e
      obtain ⟨a, vs, rfl, rd, rs⟩ := r1.inT
      exact ⟨a, vs, _, rfl, .inr rd.sq, rs.length, rs.dp (sortOk_lay hz), hz, fun p hp => fin rs q hp⟩
    · cases e
  · cases e

/-! ### isinstance -/
inductive Ty where
  | int | bool | str | list | tuple
def Ty.nm : Ty → String
  | .int => "int" | .bool => "bool" | .str => "str" | .list => "list" | .tuple => "tuple"
def tyN : D → Option String
  | .none => some "NoneType" | .bool _ => some "bool" | .int _ => some "int" | .str _ => some "str" | .list _ => some "list" | .tuple _ => some "tuple" | _ => none
def isT : Ty → D → Bool
  | .int, .int _ => true
  | .int, .bool _ => true
  | .bool, .bool _ => true
  | .str, .str _ => true
  | .list, .list _ => true
  | .tuple, .tuple _ => true
  | _, _ => false
theorem kit_is {K : PySem.W.Frag} {d : D} {n : String} (t : Ty) (e : tyN d = some n) : PySem.W.kitOne K (.type n) (.type t.nm) = some (isT t d) := by
  cases d <;> first | cases e | skip
  all_goals (cases t <;> first | exact kit_ty (r := true) (by decide +kernel) | exact kit_ty (r := false) (by decide +kernel))
theorem kit_is2 {K : PySem.W.Frag} {d : D} {n : String} (t u : Ty) (e : tyN d = some n) : PySem.W.kitAny K (.type n) [.type t.nm, .type u.nm] = some (isT t d || isT u d) := by
  cases h : isT t d with
  | true => exact kitAny_cons (kit_is t e) (fun z => by rw [h] at z; cases z) fun _ => rfl
  | false =>
    refine kitAny_cons (kit_is t e) (fun _ => ?_) fun z => by rw [h] at z; cases z
    cases h2 : isT u d with
    | true => exact kitAny_cons (kit_is u e) (fun z => by rw [h2] at z; cases z) fun _ => rfl
    | false => exact kitAny_cons (kit_is u e) (fun _ => kitAny_nil) fun z => by rw [h2] at z; cases z
theorem tyx_of {K : PySem.W.Frag} {H : Hp} {M : Mset} {v : V} {d : D} {n : String} (r : VW K H M v d) (e : tyN d = some n) : TyX K H v (.type n) := by
  cases d with
  | none => cases e; cases r.inN; exact .base .non
  | bool b => cases e; cases r.inB; exact .base (.bl b)
  | int b => cases e; cases r.inI; exact .base (.int b)
  | str b => cases e; cases r.inS; exact .base (.str b)
  | list b =>
    cases e
    obtain ⟨a, vs, rfl, h, rs⟩ := r.inL
    rcases h with h | ⟨o, h⟩
    · exact .base (.lst h)
    · exact .base (.frz h)
  | tuple b =>
    cases e
    obtain ⟨a, vs, rfl, h, rs⟩ := r.inT
    rcases h with ⟨h | ⟨o, h⟩, _⟩ | ⟨o, its, n, h1, h2, _⟩
    · exact .base (.tup h)
    · exact .fTuple h
    · exact .kTuple h1 h2
  | dict b => cases e
def dIsi (t : Ty) (d : D) : Option Sv := (tyN d).map fun _ => .imm (.bool (isT t d))
def dIsi2 (t u : Ty) (d : D) : Option Sv := (tyN d).map fun _ => .imm (.bool (isT t d || isT u d))
variable {a b : Expr} {ma : ME} {pos : Pos}
theorem tC_two {ta : TE} {v : V} {σ : St} {H : Hp} {Q : List V → Hp → Prop} (h : ta σ H fun x H1 => Q [x, v] H1) : tCons ta (tCons (tC v) tNil) σ H Q := h
theorem de_isi {t : Ty} {x : Str} {p : Pos} (hg : Gl X x) (hm : X.mg x = none) (hv : bootBuiltins x = some (.builtin "isinstance")) (ha : DE X a ma) (ht : PE X b (tC (.ty t.nm)))
    (hn : x ≠ "__name__" := by decide) (hd : (x == ("__debug__" : Str)) = false := by decide) (he : starEach [a, b] X.env = (false, eval a X.env) :: starEach [b] X.env := by rfl) (he2 : starEach [b] X.env = (false, eval b X.env) :: starEach [] X.env := by rfl) (hpl : (backTo pos (starEach [b] X.env)).any (·.1) = false := by rfl) :
    DE X (.Call (.Name x p) [a, b] [] pos) (un (dIsi t) ma) :=
  PE.imp (pe_callB call_isi hg hm hv (pa_cons ha (pa_cons ht pa_nil he2) he) hn hd he hpl) fun σ H Q h => tC_two (tE_un (r := fun v H Q => rIsi X.K [v, .ty t.nm] H Q) (by
    intro H M O π ρ σ v1 d1 res Q h r1 e q
    obtain ⟨n, e1, rfl⟩ := Option.map_eq_some_iff.mp e
    exact ⟨_, _, _, _, _, rfl, .ty _, tyx_of r1 e1, kit_is t e1, Post.now q h (.bl _)⟩) h)
/-- isinstance(x, (t, u)): the tuple is laid behind x -/
theorem de_isi2 {t u : Ty} {x : Str} {p p2 : Pos} {b1 b2 : Expr} {k : Nat} (hg : Gl X x) (hm : X.mg x = none) (hv : bootBuiltins x = some (.builtin "isinstance")) (ha : DE X a ma) (h1 : PE X b1 (tC (.ty t.nm))) (h2 : PE X b2 (tC (.ty u.nm)))
    (hn : x ≠ "__name__" := by decide) (hd : (x == ("__debug__" : Str)) = false := by decide) (he : starEach [a, .Tuple [b1, b2] k p2] X.env = (false, eval a X.env) :: starEach [.Tuple [b1, b2] k p2] X.env := by rfl)
    (he2 : starEach [.Tuple [b1, b2] k p2] X.env = (false, eval (.Tuple [b1, b2] k p2) X.env) :: starEach [] X.env := by rfl) (he3 : starEach [b1, b2] X.env = (false, eval b1 X.env) :: starEach [b2] X.env := by rfl) (he4 : starEach [b2] X.env = (false, eval b2 X.env) :: starEach [] X.env := by rfl)
    (hpl : (backTo pos (starEach [.Tuple [b1, b2] k p2] X.env)).any (·.1) = false := by rfl) :
    DE X (.Call (.Name x p) [a, .Tuple [b1, b2] k p2] [] pos) (un (dIsi2 t u) ma) :=
  PE.imp (pe_callB call_isiT hg hm hv (pa_cons ha (pa_cons (pe_tup (pa_cons h1 (pa_cons h2 pa_nil he4) he3)) pa_nil he2) he) hn hd he hpl) fun σ H Q h =>
    tE_un (r := fun v H Q => 2 ≤ sizeLine ∧ ∀ p, H p = none → rIsiT X.K [v, .ref p] (upd H p (.tup [.ty t.nm, .ty u.nm])) Q) (by
      intro H M O π ρ σ v1 d1 res Q h r1 e q
      obtain ⟨n, e1, rfl⟩ := Option.map_eq_some_iff.mp e
      refine ⟨by decide, fun p hp => ?_⟩
      have r1' : VW X.K (upd H p (.tup [.ty t.nm, .ty u.nm])) M v1 d1 := by
        cases d1 with
        | list ds =>
          obtain ⟨a, vs, e, hr, rs⟩ := r1.inL
          refine ⟨a, vs, e, ?_, rs.tr (alloc_tr h hp)⟩
          rcases hr with hr | ⟨o, hr⟩
          · exact .inl (by rw [upd_ne (fun z => by rw [z, hp] at hr; cases hr)]; exact hr)
          · exact .inr ⟨o, by rw [upd_ne (fun z => by rw [z, hp] at hr; cases hr)]; exact hr⟩
        | _ => exact Rep.tr (alloc_tr h hp) r1
      exact ⟨v1, p, _, _, _, _, rfl, upd_same, .cons (.ty _) (.cons (.ty _) .nil), tyx_of r1' e1, kit_is2 t u e1, q _ _ M (.alloc h hp) (h.alloc hp) (.bl _)⟩) h
end
end Vi

namespace Vi
open PySem PySem.Spec PyProof.Rows L2

inductive Fl where
  | next | brk | cont
  | ret (r : Sv)
abbrev MS := Fm → Option (Fl × Fm)
/-- what a def hands back -/
def RV (K : PySem.W.Frag) (H : Hp) (M O : Mset) (ρ : Fm) (σ : St) : Sv → V → Prop
  | .imm d, v => Rep K H M v d
  | .own _ ds, v => ∃ p vs, v = .ref p ∧ H p = some (.lst vs) ∧ M p ∧ ¬ O p ∧ Reps K H M vs ds ∧ ∀ (i : Nat) (es : List D), ρ[i]? = some (some (.own true es)) → σ[i]? ≠ some (some (.ref p))
def SPost (K : PySem.W.Frag) (H : Hp) (M O : Mset) (π : Nat → Option Addr) (D : Ends) (ρ' : Fm) : Fl → Prop
  | .next => ∀ σ' H' M', Ext O H M H' M' → SR K H' M' O π ρ' σ' → D.nx σ' H'
  | .brk => ∀ σ' H' M', Ext O H M H' M' → SR K H' M' O π ρ' σ' → D.bk σ' H'
  | .cont => ∀ σ' H' M', Ext O H M H' M' → SR K H' M' O π ρ' σ' → D.ct σ' H'
  | .ret r => ∀ v σ' H' M', Ext O H M H' M' → SR K H' M' O π ρ' σ' → RV K H' M' O ρ' σ' r v → D.rt v H'
def tS (K : PySem.W.Frag) (m : MS) : TS := fun D σ H => ∃ ρ M O π fl ρ', SR K H M O π ρ σ ∧ m ρ = some (fl, ρ') ∧ SPost K H M O π D ρ' fl
def DS (X : Cx) (s : Stmt) (m : MS) : Prop := PS X s (tS X.K m)
def DSs (X : Cx) (s : List Stmt) (m : MS) : Prop := PSs X s (tS X.K m)
theorem SPost.later {K : PySem.W.Frag} {H H1 : Hp} {M M1 O O1 : Mset} {π : Nat → Option Addr} {D : Ends} {ρ' : Fm} {fl : Fl} (q : SPost K H M O π D ρ' fl) (x : Ext O H M H1 M1) : SPost K H1 M1 O π D ρ' fl := by
  cases fl with
  | next => exact fun σ' H' M' x' => q σ' H' M' (x.trans x')
  | brk => exact fun σ' H' M' x' => q σ' H' M' (x.trans x')
  | cont => exact fun σ' H' M' x' => q σ' H' M' (x.trans x')
  | ret r => exact fun v σ' H' M' x' => q v σ' H' M' (x.trans x')

/-! ### states behind a store -/
section
variable {K : PySem.W.Frag} {H H' : Hp} {M M' O O' : Mset} {π : Nat → Option Addr} {ρ ρ' : Fm} {σ : St} {pr : PR} {v : V} {d : D} {i : Nat}
theorem SR.setImm (h : SR K H M O π ρ σ) (r : Rep K H M v d) : SR K H M O π (ρ.set i (some (.imm d))) (σ.set i (some v)) := by
  refine ⟨by rw [List.length_set, List.length_set]; exact h.len, h.sub, h.live, fun j e f => ?_, fun j b es f => ?_, fun j k b c es fs x hjk f g => ?_⟩
  · rcases get_set f with ⟨hj, g⟩ | ⟨hj, f⟩
    · subst hj
      have hl : j < ρ.length := by
        have := (List.getElem?_eq_some_iff.mp f).1
        rwa [List.length_set] at this
      cases g
      exact ⟨v, by rw [List.getElem?_set_self (by rw [← h.len]; exact hl)], r⟩
    · rw [List.getElem?_set_ne (Ne.symm hj)]; exact h.imm j e f
  · rcases get_set f with ⟨_, g⟩ | ⟨hj, f⟩
    · cases g
    · rw [List.getElem?_set_ne (Ne.symm hj)]; exact h.own j b es f
  · rcases get_set f with ⟨_, z⟩ | ⟨hj, f⟩
    · cases z
    · rcases get_set g with ⟨_, z⟩ | ⟨hk, g⟩
      · cases z
      · rw [List.getElem?_set_ne (Ne.symm hj), List.getElem?_set_ne (Ne.symm hk)]; exact h.uniq j k b c es fs x hjk f g
theorem SR.setOwn {p : Addr} {vs : List V} {ds : List D} (h : SR K H M O π ρ σ) (e1 : H p = some (.lst vs)) (e2 : M p) (e3 : ¬ O p) (r : Reps K H M vs ds) (ha : Apart ρ σ p) : SR K H M O π (ρ.set i (some (.own false ds))) (σ.set i (some (.ref p))) := by
  refine ⟨by rw [List.length_set, List.length_set]; exact h.len, h.sub, h.live, fun j e f => ?_, fun j b es f => ?_, fun j k b c es fs x hjk f g => ?_⟩
  · rcases get_set f with ⟨_, g⟩ | ⟨hj, f⟩
    · cases g
    · rw [List.getElem?_set_ne (Ne.symm hj)]; exact h.imm j e f
  · rcases get_set f with ⟨hj, g⟩ | ⟨hj, f⟩
    · subst hj
      have hl : j < ρ.length := by
        have := (List.getElem?_eq_some_iff.mp f).1
        rwa [List.length_set] at this
      cases g
      exact ⟨p, vs, by rw [List.getElem?_set_self (by rw [← h.len]; exact hl)], e1, e2, e3, r, fun z => by cases z⟩
    · rw [List.getElem?_set_ne (Ne.symm hj)]; exact h.own j b es f
  · rcases get_set f with ⟨hj, z⟩ | ⟨hj, f'⟩
    · cases z
      rcases get_set g with ⟨hk, z⟩ | ⟨hk, g'⟩
      · exact absurd (hj.trans hk.symm) hjk
      · subst hj
        intro q q2
        have hl : j < ρ.length := by
          have := (List.getElem?_eq_some_iff.mp f).1
          rwa [List.length_set] at this
        rw [List.getElem?_set_self (by rw [← h.len]; exact hl)] at q
        cases q
        rw [List.getElem?_set_ne (Ne.symm hk)] at q2
        exact ha k c fs g' q2
    · rcases get_set g with ⟨hk, z⟩ | ⟨hk, g'⟩
      · cases z
        subst hk
        rw [List.getElem?_set_ne (Ne.symm hj)]
        intro q q2
        have hl : k < ρ.length := by
          have := (List.getElem?_eq_some_iff.mp g).1
          rwa [List.length_set] at this
        rw [List.getElem?_set_self (by rw [← h.len]; exact hl)] at q2
        cases q2
        exact ha j b es f' q
      · rw [List.getElem?_set_ne (Ne.symm hj), List.getElem?_set_ne (Ne.symm hk)]; exact h.uniq j k b c es fs x hjk f' g'
theorem get_set_same {α : Type} {l : List α} {i : Nat} {x y : α} (h : l[i]? = some y) : (l.set i x)[i]? = some x := by
  rw [List.getElem?_set_self (List.getElem?_eq_some_iff.mp h).1]
/-- the list that a name owns is written -/
theorem SR.write {a : Addr} {b : Bool} {ws : List V} {ds es : List D} (h : SR K H M O π ρ σ) (e : ρ[i]? = some (some (.own b ds))) (e1 : σ[i]? = some (some (.ref a))) (r : Reps K H M ws es) :
    SR K (upd H a (.lst ws)) M O π (ρ.set i (some (.own b es))) σ ∧ Ext O H M (upd H a (.lst ws)) M ∧ ∀ x u, Rd H x u → ¬ M x → Rd (upd H a (.lst ws)) x u ∧ ¬ M x := by
  obtain ⟨a', vs', f1, f2, f3, f4, f5, f6⟩ := h.own i b ds e
  rw [e1] at f1; cases f1
  have t : ∀ x u, Rd H x u → ¬ M x → Rd (upd H a (.lst ws)) x u ∧ ¬ M x := fun x u q n => by
    have ne : x ≠ a := fun z => n (z ▸ f3)
    refine ⟨?_, n⟩
    rcases q with q | ⟨o, q⟩
    · exact .inl (by rw [upd_ne ne]; exact q)
    · exact .inr ⟨o, by rw [upd_ne ne]; exact q⟩
  refine ⟨⟨by rw [List.length_set]; exact h.len, h.sub, fun x q => ?_, fun j d f => ?_, fun j c fs f => ?_, fun j k b' c fs gs x hjk f g => ?_⟩, ⟨fun x o q z => ?_, h.sub, fun x q => .inl q⟩, t⟩
  · by_cases hx : x = a
    · subst hx; rw [upd_same]; intro z; cases z
    · rw [upd_ne hx]; exact h.live x q
  · rcases get_set f with ⟨_, z⟩ | ⟨hj, f⟩
    · cases z
    · obtain ⟨w, g1, g2⟩ := h.imm j d f
      exact ⟨w, g1, g2.tr t⟩
  · rcases get_set f with ⟨hj, z⟩ | ⟨hj, f⟩
    · cases z
      subst hj
      exact ⟨a, ws, e1, upd_same, f3, f4, r.tr t, f6⟩
    · obtain ⟨x, us, g1, g2, g3, g4, g5, g6⟩ := h.own j c fs f
      have ne : x ≠ a := fun z => by
        subst z
        exact h.uniq i j _ _ _ _ x (Ne.symm hj) e f e1 g1
      exact ⟨x, us, g1, by rw [upd_ne ne]; exact g2, g3, g4, g5.tr t, g6⟩
  · rcases get_set f with ⟨hj, z⟩ | ⟨hj, f'⟩
    · cases z
      rcases get_set g with ⟨hk, z⟩ | ⟨hk, g'⟩
      · exact absurd (hj.trans hk.symm) hjk
      · subst hj; exact h.uniq j k _ _ _ _ x hjk e g'
    · rcases get_set g with ⟨hk, z⟩ | ⟨hk, g'⟩
      · cases z; subst hk; exact h.uniq j k _ _ _ _ x hjk f' e
      · exact h.uniq j k _ _ _ _ x hjk f' g'
  · refine (upd_ne (fun hx => ?_)).trans q
    subst hx
    exact z.elim f4 fun n => n f3
/-- a value that a name is to hold -/
def take (ρ : Fm) : PR → Option (Sv × Fm)
  | .val (.imm d) => some (.imm d, ρ)
  | .val (.own _ ds) => some (.own false ds, ρ)
  | .slot j => match frz ρ (.slot j) with
    | some (d, ρ1) => some (.imm d, ρ1)
    | none => none
def put (i : Nat) (pr : PR) (ρ : Fm) : Option Fm := match take ρ pr with
  | some (sv, ρ1) => some (ρ1.set i (some sv))
  | none => none
theorem put_ok (h : SR K H M O π ρ σ) (r : RP K H M O ρ σ pr v) (e : put i pr ρ = some ρ') : ∃ M', Ext O H M H M' ∧ SR K H M' O π ρ' (σ.set i (some v)) := by
  unfold put at e
  match pr, v, r with
  | .val (.imm d), v, r =>
    cases e
    exact ⟨M, .refl h, h.setImm r⟩
  | .val (.own b ds), v, ⟨p, vs, e1, e2, e3, e4, e5, e6⟩ =>
    cases e
    subst e1
    exact ⟨M, .refl h, h.setOwn e2 e3 e4 e5 e6⟩
  | .slot j, v, r =>
    unfold take at e
    simp only at e
    cases ef : frz ρ (.slot j) with
    | none => rw [ef] at e; cases e
    | some dρ =>
      obtain ⟨d, ρ1⟩ := dρ
      rw [ef] at e
      cases e
      obtain ⟨M', x, s, rr⟩ := frz_ok h r ef
      exact ⟨M', x, s.setImm rr⟩
def give (ρ : Fm) : PR → Option Sv
  | .val s => some s
  | .slot i => match ρ[i]? with
    | some (some (.imm d)) => some (.imm d)
    | some (some (.own false ds)) => some (.own false ds)
    | _ => none
theorem give_ok {r : Sv} (h : SR K H M O π ρ σ) (q : RP K H M O ρ σ pr v) (e : give ρ pr = some r) : RV K H M O ρ σ r v := by
  match pr, v, q with
  | .val (.imm d), v, q => cases e; exact q
  | .val (.own b ds), v, ⟨p, vs, e1, e2, e3, e4, e5, e6⟩ => cases e; exact ⟨p, vs, e1, e2, e3, e4, e5, fun i es f => e6 i true es f⟩
  | .slot i, v, q =>
    have q' : σ[i]? = some (some v) := q
    unfold give at e
    simp only at e
    split at e
    · rename_i d hs
      cases e
      obtain ⟨w, f1, f2⟩ := h.imm i _ hs
      rw [q'] at f1; cases f1; exact f2
    · rename_i ds hs
      cases e
      obtain ⟨a, vs, f1, f2, f3, f4, f5, f6⟩ := h.own i _ ds hs
      rw [q'] at f1; cases f1
      exact ⟨a, vs, rfl, f2, f3, f4, f5, fun j es f g => by
        by_cases hij : i = j
        · subst hij; rw [hs] at f; cases f
        · exact h.uniq i j _ _ _ _ a hij hs f q' g⟩
    · cases e
end

section
variable {X : Cx} {st : Stmt} {rest sa sb : List Stmt} {e : Expr} {me : ME} {m n : MS} {mt : MT} {pos : Pos}
/-! ### blocks -/
def mNext : MS := fun ρ => some (.next, ρ)
def mSeq (m n : MS) : MS := fun ρ => match m ρ with
  | some (.next, ρ1) => n ρ1
  | some (.brk, ρ1) => some (.brk, ρ1)
  | some (.cont, ρ1) => some (.cont, ρ1)
  | some (.ret r, ρ1) => some (.ret r, ρ1)
  | none => none
theorem dss_nil : DSs X [] mNext := PSs.imp pss_nil fun D σ H ⟨ρ, M, O, π, fl, ρ', h, e, q⟩ => by
  cases e
  exact q σ H M (.refl h) h
theorem dss_one (h : DS X st m) : DSs X [st] m := pss_one h
theorem dss_cons (h1 : DS X st m) (h2 : DSs X rest n) : DSs X (st :: rest) (mSeq m n) := PSs.imp (pss_cons h1 h2) fun D σ H ⟨ρ, M, O, π, fl, ρ', h, e, q⟩ => by
  unfold mSeq at e
  split at e
  · rename_i ρ1 e1
    exact ⟨ρ, M, O, π, .next, ρ1, h, e1, fun σ1 H1 M1 x1 s1 => ⟨ρ1, M1, O, π, fl, ρ', s1, e, q.later (O1 := O) x1⟩⟩
  · rename_i ρ1 e1
    cases e
    exact ⟨ρ, M, O, π, .brk, _, h, e1, q⟩
  · rename_i ρ1 e1
    cases e
    exact ⟨ρ, M, O, π, .cont, _, h, e1, q⟩
  · rename_i r ρ1 e1
    cases e
    exact ⟨ρ, M, O, π, .ret r, _, h, e1, q⟩
  · cases e
def mBrk : MS := fun ρ => some (.brk, ρ)
def mCont : MS := fun ρ => some (.cont, ρ)
theorem ds_pass : DS X (.Pass pos) mNext := PS.imp ps_pass fun D σ H ⟨ρ, M, O, π, fl, ρ', h, e, q⟩ => by
  cases e
  exact q σ H M (.refl h) h
theorem ds_brk : DS X (.Break pos) mBrk := PS.imp ps_break fun D σ H ⟨ρ, M, O, π, fl, ρ', h, e, q⟩ => by
  cases e
  exact q σ H M (.refl h) h
theorem ds_cont : DS X (.Continue pos) mCont := PS.imp ps_continue fun D σ H ⟨ρ, M, O, π, fl, ρ', h, e, q⟩ => by
  cases e
  exact q σ H M (.refl h) h
/-- a raise (or whatever is never come to) -/
def mNever : MS := fun _ => none
theorem ds_never : DS X st mNever := PS.imp ps_never fun D σ H ⟨ρ, M, O, π, fl, ρ', h, e, q⟩ => by cases e
def mIfS (c : MT) (m n : MS) : MS := fun ρ => match c ρ with
  | some (true, ρ1) => m ρ1
  | some (false, ρ1) => n ρ1
  | none => none
theorem ds_if {c : Expr} (hc : DT X c mt) (ha : DSs X sa m) (hb : DSs X sb n) : DS X (.If c sa sb pos) (mIfS mt m n) := PS.imp (ps_if hc ha hb) fun D σ H ⟨ρ, M, O, π, fl, ρ', h, e, q⟩ => by
  unfold mIfS at e
  split at e
  · rename_i ρ1 e1
    exact ⟨ρ, M, O, π, true, ρ1, h, e1, fun H1 M1 x1 s1 => iteT ⟨ρ1, M1, O, π, fl, ρ', s1, e, q.later (O1 := O) x1⟩⟩
  · rename_i ρ1 e1
    exact ⟨ρ, M, O, π, false, ρ1, h, e1, fun H1 M1 x1 s1 => iteF ⟨ρ1, M1, O, π, fl, ρ', s1, e, q.later (O1 := O) x1⟩⟩
  · cases e
def mRet (me : ME) : MS := fun ρ => match me ρ with
  | some (pr, ρ1) => match give ρ1 pr with
    | some r => some (.ret r, ρ1)
    | none => none
  | none => none
theorem ds_ret (he : DE X e me) : DS X (.Return (some e) pos) (mRet me) := PS.imp (ps_ret he) fun D σ H ⟨ρ, M, O, π, fl, ρ', h, e, q⟩ => by
  unfold mRet at e
  split at e
  · rename_i pr ρ1 e1
    split at e
    · rename_i r e2
      cases e
      exact ⟨ρ, M, O, π, pr, _, h, e1, fun v H1 M1 x1 s1 r1 => q v σ H1 M1 x1 s1 (give_ok s1 r1 e2)⟩
    · cases e
  · cases e
def mRetN : MS := fun ρ => some (.ret (.imm .none), ρ)
theorem ds_retN : DS X (.Return none pos) mRetN := PS.imp ps_retN fun D σ H ⟨ρ, M, O, π, fl, ρ', h, e, q⟩ => by
  cases e
  exact q .non σ H M (.refl h) h .non
/-- x = e -/
def mSet (i : Nat) (me : ME) : MS := fun ρ => match me ρ with
  | some (pr, ρ1) => match put i pr ρ1 with
    | some ρ2 => some (.next, ρ2)
    | none => none
  | none => none
theorem ds_set {i : Nat} (h : ∀ te, PE X e te → PS X st (tAsg te (gName i))) (he : DE X e me) : DS X st (mSet i me) := PS.imp (h _ he) fun D σ H ⟨ρ, M, O, π, fl, ρ', h, e, q⟩ => by
  unfold mSet at e
  split at e
  · rename_i pr ρ1 e1
    split at e
    · rename_i ρ2 e2
      cases e
      refine ⟨ρ, M, O, π, pr, ρ1, h, e1, fun v H1 M1 x1 s1 r1 => ?_⟩
      obtain ⟨M2, x2, s2⟩ := put_ok s1 r1 e2
      exact q _ H1 M2 (x1.trans x2) s2
    · cases e
  · cases e
/-- an expression whose value is dropped -/
def mDrop (me : ME) : MS := fun ρ => match me ρ with
  | some (_, ρ1) => some (.next, ρ1)
  | none => none
theorem ds_expr (he : DE X e me) (hs : swapsWith e none pos.line X.env = pure false := by rfl) : DS X (.Expr e pos) (mDrop me) := PS.imp (ps_expr he hs) fun D σ H ⟨ρ, M, O, π, fl, ρ', h, e, q⟩ => by
  unfold mDrop at e
  split at e
  · rename_i pr ρ1 e1
    cases e
    exact ⟨ρ, M, O, π, pr, _, h, e1, fun v H1 M1 x1 s1 r1 => q σ H1 M1 x1 s1⟩
  · cases e
theorem ds_doc {x j pos'} : DS X (.Expr (.Constant (.str x) j pos) pos') mNext := PS.imp ps_doc fun D σ H ⟨ρ, M, O, π, fl, ρ', h, e, q⟩ => by
  cases e
  exact q σ H M (.refl h) h

/-! ### methods that change a name's list -/
/-- x.append(e), as an expression -/
def mApp (i : Nat) (me : ME) : ME := fun ρ => match ρ[i]? with
  | some (some (.own _ _)) => match me ρ with
    | some (pr, ρ1) => match frz ρ1 pr with
      | some (d, ρ2) => match ρ2[i]? with
        | some (some (.own b ds)) => if fits (ds.length + 1) = true then some (.val (.imm .none), ρ2.set i (some (.own b (ds ++ [d])))) else none
        | _ => none
      | none => none
    | none => none
  | _ => none
theorem de_app {i : Nat} (h : ∀ t, PA X [e] t → PE X st_e (tBM X.K "list" rAppend (tVar i) t)) (he : DE X e me) (hs : starEach (e :: []) X.env = (false, eval e X.env) :: starEach [] X.env := by rfl) : DE X st_e (mApp i me) :=
  PE.imp (h _ (pa_cons he pa_nil hs)) fun σ H Q ⟨ρ, M, O, π, fl, ρ', h, e, q⟩ => by
    unfold mApp at e
    split at e
    · rename_i b0 ds0 e0
      obtain ⟨a, vs, f1, f2, f3, f4, f5, f6⟩ := h.own i b0 ds0 e0
      refine ⟨.ref a, f1, .inl ⟨rfl, vs, .inl (.inl f2)⟩, ?_⟩
      split at e
      · rename_i pr ρ1 e1
        split at e
        · rename_i d ρ2 e2
          split at e
          · rename_i b ds e3
            split at e
            · rename_i hz
              cases e
              refine ⟨ρ, M, O, π, pr, ρ1, h, e1, fun v H1 M1 x1 s1 r1 => ?_⟩
              obtain ⟨M2, x2, s2, r2⟩ := frz_ok s1 r1 e2
              obtain ⟨a', ws, g1, g2, g3, g4, g5, g6⟩ := s2.own i b ds e3
              rw [f1] at g1; cases g1
              obtain ⟨s3, x3, t3⟩ := s2.write (ws := ws ++ [v]) (es := ds ++ [d]) e3 f1 (g5.append (.cons r2 .nil))
              exact ⟨a, ws, v, rfl, rfl, g2, by have := fits_le hz; rw [g5.length]; omega, q _ _ M2 ((x1.trans x2).trans x3) s3 .non⟩
            · cases e
          · cases e
        · cases e
      · cases e
    · cases e
/-- x.pop(k) -/
def mPopAt (i : Nat) (me : ME) : ME := fun ρ => match ρ[i]? with
  | some (some (.own _ _)) => match me ρ with
    | some (pr, ρ1) => match peek ρ1 pr with
      | some (.int k) => match ρ1[i]? with
        | some (some (.own b ds)) => match seqIndex? k ds.length with
          | some j => match ds[j]? with
            | some d => if decide (-(2 ^ 63) ≤ k ∧ k < 2 ^ 63) = true then some (.val (.imm d), ρ1.set i (some (.own b (ds.eraseIdx j)))) else none
            | none => none
          | none => none
        | _ => none
      | _ => none
    | none => none
  | _ => none
theorem de_popAt {i : Nat} (h : ∀ t, PA X [e] t → PE X st_e (tBM X.K "list" rPopAt (tVar i) t)) (he : DE X e me) (hs : starEach (e :: []) X.env = (false, eval e X.env) :: starEach [] X.env := by rfl) : DE X st_e (mPopAt i me) :=
  PE.imp (h _ (pa_cons he pa_nil hs)) fun σ H Q ⟨ρ, M, O, π, fl, ρ', h, e, q⟩ => by
    unfold mPopAt at e
    split at e
    · rename_i b0 ds0 e0
      obtain ⟨a, vs, f1, f2, f3, f4, f5, f6⟩ := h.own i b0 ds0 e0
      refine ⟨.ref a, f1, .inl ⟨rfl, vs, .inl (.inl f2)⟩, ?_⟩
      split at e
      · rename_i pr ρ1 e1
        split at e
        · rename_i k e2
          split at e
          · rename_i b ds e3
            split at e
            · rename_i j ej
              split at e
              · rename_i d ed
                split at e
                · rename_i hz
                  cases e
                  have hz' := of_decide_eq_true hz
                  refine ⟨ρ, M, O, π, pr, ρ1, h, e1, fun v H1 M1 x1 s1 r1 => ?_⟩
                  obtain ⟨a', ws, g1, g2, g3, g4, g5, g6⟩ := s1.own i b ds e3
                  rw [f1] at g1; cases g1
                  obtain ⟨w, hw, rw'⟩ := g5.get ed
                  obtain ⟨s3, x3, t3⟩ := s1.write (ws := ws.eraseIdx j) (es := ds.eraseIdx j) e3 f1 (g5.erase j)
                  exact ⟨a, ws, k, j, w, rfl, by rw [(peek_vw s1 r1 e2).inI], g2, hz'.1, hz'.2, by rw [g5.length]; exact ej, hw, q _ _ M1 (x1.trans x3) s3 (rw'.tr t3)⟩
                · cases e
              · cases e
            · cases e
          · cases e
        · cases e
      · cases e
    · cases e
/-- x[k] = e -/
def mStore (i : Nat) (mk me : ME) : MS := fun ρ => match me ρ with
  | some (pr, ρ1) => match frz ρ1 pr with
    | some (d, ρ2) => match ρ2[i]? with
      | some (some (.own _ _)) => match mk ρ2 with
        | some (pk, ρ3) => match peek ρ3 pk with
          | some (.int k) => match ρ3[i]? with
            | some (some (.own b ds)) => match ixN ds.length k with
              | some j => some (.next, ρ3.set i (some (.own b (ds.set j d))))
              | none => none
            | _ => none
          | _ => none
        | none => none
      | _ => none
    | none => none
  | none => none
theorem ds_store {i : Nat} {k : Expr} {mk : ME} (h : ∀ te tk, PE X e te → PE X k tk → PS X st (tAsg te (gSub (tVar i) tk rSetL))) (he : DE X e me) (hk : DE X k mk) : DS X st (mStore i mk me) :=
  PS.imp (h _ _ he hk) fun D σ H ⟨ρ, M, O, π, fl, ρ', h, e, q⟩ => by
    unfold mStore at e
    split at e
    · rename_i pr ρ1 e1
      split at e
      · rename_i d ρ2 e2
        split at e
        · rename_i b0 ds0 e0
          split at e
          · rename_i pk ρ3 e3
            split at e
            · rename_i k e4
              split at e
              · rename_i b ds e5
                split at e
                · rename_i j ej
                  cases e
                  refine ⟨ρ, M, O, π, pr, ρ1, h, e1, fun v H1 M1 x1 s1 r1 => ?_⟩
                  obtain ⟨M2, x2, s2, r2⟩ := frz_ok s1 r1 e2
                  obtain ⟨a, vs, f1, f2, f3, f4, f5, f6⟩ := s2.own i b0 ds0 e0
                  refine ⟨.ref a, f1, ρ2, M2, O, π, pk, ρ3, s2, e3, fun w H3 M3 x3 s3 r3 => ?_⟩
                  obtain ⟨a', ws, g1, g2, g3, g4, g5, g6⟩ := s3.own i b ds e5
                  rw [f1] at g1; cases g1
                  obtain ⟨s4, x4, t4⟩ := s3.write (ws := ws.set j v) (es := ds.set j d) e5 f1 (g5.set j (r2.tr x3.tr))
                  exact ⟨a, ws, k, j, rfl, (peek_vw s3 r3 e4).inI, g2, by rw [g5.length]; exact ej, q _ _ M3 (((x1.trans x2).trans x3).trans x4) s4⟩
                · cases e
              · cases e
            · cases e
          · cases e
        · cases e
      · cases e
    · cases e
end
end Vi

namespace Vi
open PySem PySem.Spec PyProof.Rows L2

/-- what was fixed stays -/
abbrev Lat (H0 : Hp) (M0 : Mset) (H : Hp) (M : Mset) : Prop := ∀ a u, Rd H0 a u → ¬ M0 a → Rd H a u ∧ ¬ M a
theorem Lat.trans {H0 H1 H2 : Hp} {M0 M1 M2 : Mset} (a : Lat H0 M0 H1 M1) (b : Lat H1 M1 H2 M2) : Lat H0 M0 H2 M2 := fun x u h n => b x u (a x u h n).1 (a x u h n).2

/-! ### targets -/
abbrev MG := D → Fm → Option Fm
def tG (K : PySem.W.Frag) (m : MG) (ts : List Nat) : TG := fun v σ H Q => ∃ ρ M O π d ρ', SR K H M O π ρ σ ∧ Rep K H M v d ∧ m d ρ = some ρ' ∧ ∀ σ', SR K H M O π ρ' σ' → (∀ j, j ∉ ts → σ'[j]? = σ[j]?) → σ'.length = σ.length → Q σ' H
def DG (X : Cx) (tg : Expr) (m : MG) (ts : List Nat) : Prop := PG X tg (tG X.K m ts)
theorem _root_.L2.PG.imp {X : Cx} {e : Expr} {t t' : TG} (h : PG X e t) (i : ∀ v σ H Q, t' v σ H Q → t v σ H Q) : PG X e t' := ⟨fun pins s σ H v u Q I r q => h.run pins s σ H v u Q I r (i v σ H Q q)⟩
theorem _root_.L2.PGs.imp {X : Cx} {e : List Expr} {t t' : TGs} (h : PGs X e t) (i : ∀ v σ H Q, t' v σ H Q → t v σ H Q) : PGs X e t' := ⟨fun pins s σ H v u Q I r q => h.run pins s σ H v u Q I r (i v σ H Q q)⟩
def mN (i : Nat) : MG := fun d ρ => some (ρ.set i (some (.imm d)))
section
variable {X : Cx} {tg e : Expr} {es : List Expr} {pos : Pos}
theorem dg_name {i : Nat} (h : PG X e (gName i)) : DG X e (mN i) [i] := PG.imp h fun v σ H Q ⟨ρ, M, O, π, d, ρ', hs, r, e, q⟩ => by
  cases e
  exact q _ (hs.setImm r) (fun j hj => List.getElem?_set_ne (fun z => hj (by simp [z]))) (List.length_set ..)
abbrev MGs := List D → Fm → Option Fm
def tGs (K : PySem.W.Frag) (m : MGs) (ts : List Nat) : TGs := fun vs σ H Q => ∃ ρ M O π ds ρ', SR K H M O π ρ σ ∧ Reps K H M vs ds ∧ m ds ρ = some ρ' ∧ ∀ σ', SR K H M O π ρ' σ' → (∀ j, j ∉ ts → σ'[j]? = σ[j]?) → σ'.length = σ.length → Q σ' H
def DGs (X : Cx) (tg : List Expr) (m : MGs) (ts : List Nat) : Prop := PGs X tg (tGs X.K m ts)
def mGnil : MGs := fun ds ρ => match ds with
  | [] => some ρ
  | _ :: _ => none
def mGcons (m : MG) (n : MGs) : MGs := fun ds ρ => match ds with
  | [] => none
  | d :: ds => match m d ρ with
    | some ρ1 => n ds ρ1
    | none => none
theorem dgs_nil : DGs X [] mGnil [] := PGs.imp pgs_nil fun vs σ H Q ⟨ρ, M, O, π, ds, ρ', hs, r, e, q⟩ => by
  unfold mGnil at e
  split at e
  · cases e
    cases r
    exact ⟨rfl, q σ hs (fun _ _ => rfl) rfl⟩
  · cases e
theorem dgs_cons {m : MG} {n : MGs} {ts us : List Nat} (h1 : DG X e m ts) (h2 : DGs X es n us) (hs : (assignEach (e :: es) X.env).map (·.2) = assign e X.env :: (assignEach es X.env).map (·.2) := by rfl) : DGs X (e :: es) (mGcons m n) (ts ++ us) :=
  PGs.imp (pgs_cons h1 h2 hs) fun vs σ H Q ⟨ρ, M, O, π, ds, ρ', hs, r, e, q⟩ => by
    unfold mGcons at e
    split at e
    · cases e
    · rename_i d ds
      cases r with
      | @cons v vs d ds rv rr =>
        split at e
        · rename_i ρ1 e1
          refine ⟨v, vs, rfl, ρ, M, O, π, d, ρ1, hs, rv, e1, fun σ1 s1 f1 l1 => ⟨ρ1, M, O, π, ds, ρ', s1, rr, e, fun σ2 s2 f2 l2 => q σ2 s2 (fun j hj => ?_) (l2.trans l1)⟩⟩
          rw [List.mem_append, not_or] at hj
          rw [f2 j hj.2, f1 j hj.1]
        · cases e
def mGtup (k : Nat) (n : MGs) : MG := fun d ρ => match d with
  | .tuple ds => if ds.length = k then n ds ρ else none
  | _ => none
theorem dg_tup {k : Nat} {n : MGs} {ts : List Nat} {kk : Nat} (hc : X.calm = true) (h : DGs X es n ts) (hn : (assignEach es X.env).length = k := by rfl) (hst : (assignEach es X.env).findIdx? (·.1) = none := by rfl) : DG X (.Tuple es kk pos) (mGtup k n) ts :=
  PG.imp (pg_tup hc h hn hst) fun v σ H Q ⟨ρ, M, O, π, d, ρ', hs, r, e, q⟩ => by
    unfold mGtup at e
    split at e
    · rename_i ds
      split at e
      · rename_i hl
        cases r with
        | tup ht rr => exact ⟨_, _, rfl, ht.sq, by rw [rr.length]; exact hl, ρ, M, O, π, ds, ρ', hs, rr, e, q⟩
      · cases e
    · cases e

/-! ### what is walked -/
def YD (K : PySem.W.Frag) (H : Hp) (M : Mset) (x : V) (H' : Hp) (d : D) : Prop :=
  (H' = H ∧ Rep K H M x d) ∨ ∃ T vs es, x = .ref T ∧ H T = none ∧ H' = upd H T (.tup vs) ∧ d = .tuple es ∧ Reps K H M vs es
structure Src (K : PySem.W.Frag) (J : It) (ds : List D) (H0 : Hp) (M0 : Mset) : Prop where
  go : ∀ H M, Lat H0 M0 H M → ∀ i, i < ds.length → J.go i H
  stop : ∀ H M, Lat H0 M0 H M → J.stop ds.length H
  yld : ∀ H M, Lat H0 M0 H M → ∀ (i : Nat) d x H', ds[i]? = some d → J.yld i H x H' → YD K H M x H' d
theorem YD.ok {K : PySem.W.Frag} {H : Hp} {M O : Mset} {π : Nat → Option Addr} {ρ : Fm} {σ : St} {x : V} {H' : Hp} {d : D} (y : YD K H M x H' d) (h : SR K H M O π ρ σ) : SR K H' M O π ρ σ ∧ Ext O H M H' M ∧ Rep K H' M x d := by
  rcases y with ⟨rfl, r⟩ | ⟨T, vs, es, rfl, hT, rfl, rfl, r⟩
  · exact ⟨h, .refl h, r⟩
  · exact ⟨h.alloc hT, .alloc h hT, .tup (.inl ⟨.inl upd_same, fun z => h.live T z hT⟩) (r.tr (alloc_tr h hT))⟩
abbrev MI := Fm → Option (List D × Fm)
def tI (K : PySem.W.Frag) (m : MI) : TI := fun σ H R => ∃ ρ M O π ds ρ', SR K H M O π ρ σ ∧ m ρ = some (ds, ρ') ∧ ∀ J H' M', Ext O H M H' M' → SR K H' M' O π ρ' σ → Src K J ds H' M' → R J H'
def DI (X : Cx) (tg iter : Expr) (m : MI) : Prop := PI X tg iter (tI X.K m)
theorem _root_.L2.PI.imp {X : Cx} {tg e : Expr} {t t' : TI} (h : PI X tg e t) (i : ∀ σ H Q, t' σ H Q → t σ H Q) : PI X tg e t' := ⟨fun pins s σ H Q I q => h.run pins s σ H Q I (i σ H Q q)⟩
def iSeq (K : PySem.W.Frag) (tl : TE) : TI := fun σ H R => tl σ H fun x H1 => ∃ a, x = .ref a ∧ (((∃ xs, SqL K H1 a xs) ∧ R (Itl K a) H1) ∨ ((∃ xs, SqT K H1 a xs) ∧ R (Itt K a) H1))
theorem pi_seq {l : Expr} {tl : TE} (hl : PE X l tl) : PI X tg l (iSeq X.K tl) := by
  refine ⟨fun pins s σ H R I h => ?_⟩
  refine thn (hl.run pins s σ H _ I h) fun v s1 ⟨x, H1, I1, r1, q1⟩ => ?_
  obtain ⟨a, e, q1⟩ := q1
  subst e
  cases r1
  rcases q1 with ⟨⟨xs, hq⟩, q⟩ | ⟨⟨xs, hq⟩, q⟩
  · obtain ⟨its, rv, p, hz⟩ := I1.list hq
    refine wpAny_pyIter_list p.isList ?_
    refine ⟨s1.heap.objs.size, [s1.heap.objs.size], _, _, H1, rfl, I1.kept (t' := s1.toks) fun b o e => Heap.get?_push_of_some _ e, turn_list a _, ⟨_, Heap.get?_push_size _ rfl, rfl, rfl⟩, fun b hb => ?_, q⟩
    have e : b = s1.heap.objs.size := by simpa using hb
    subst e
    exact I1.fpOk (Nat.le_refl _) (I1.hok.fresh (Nat.le_refl _))
  · obtain ⟨its, rv, p, hz⟩ := I1.tuple hq
    refine wpAny_pyIter_tuple (show s1.heap.IsTuple a its.toArray from p) ?_
    refine ⟨s1.heap.objs.size, [s1.heap.objs.size], _, _, H1, rfl, I1.kept (t' := s1.toks) fun b o e => Heap.get?_push_of_some _ e, turn_tuple a _, ⟨_, Heap.get?_push_size _ rfl, rfl, rfl⟩, fun b hb => ?_, q⟩
    have e : b = s1.heap.objs.size := by simpa using hb
    subst e
    exact I1.fpOk (Nat.le_refl _) (I1.hok.fresh (Nat.le_refl _))
theorem src_list {K : PySem.W.Frag} {H0 : Hp} {M0 : Mset} {a : Addr} {vs : List V} {ds : List D} (h : Rd H0 a (.lst vs)) (n : ¬ M0 a) (r : Reps K H0 M0 vs ds) : Src K (Itl K a) ds H0 M0 where
  go := fun H M l i hi => walk_list.goes i H (by rw [r.length]; exact hi) (.inl (l a _ h n).1)
  stop := fun H M l => by rw [← r.length]; exact walk_list.stops H (.inl (l a _ h n).1)
  yld := fun H M l i d x H' ed y => by
    obtain ⟨v, hv, rv⟩ := r.get ed
    obtain ⟨e1, e2⟩ := walk_list.yields i H x H' (by rw [r.length]; exact (List.getElem?_eq_some_iff.mp ed).1) (.inl (l a _ h n).1) y
    rw [hv] at e2; cases e2
    exact .inl ⟨e1, rv.tr l⟩
theorem tupAt_lat {K : PySem.W.Frag} {H0 H : Hp} {M0 M : Mset} {a : Addr} {vs : List V} (h : TupAt K H0 M0 a vs) (l : Lat H0 M0 H M) : SqT K H a vs := by
  rcases h with ⟨h, n⟩ | h
  · exact .inl (l a _ h n).1
  · exact .inr h
theorem src_tup {K : PySem.W.Frag} {H0 : Hp} {M0 : Mset} {a : Addr} {vs : List V} {ds : List D} (h : TupAt K H0 M0 a vs) (r : Reps K H0 M0 vs ds) : Src K (Itt K a) ds H0 M0 where
  go := fun H M l i hi => walk_tup.goes i H (by rw [r.length]; exact hi) (tupAt_lat h l)
  stop := fun H M l => by rw [← r.length]; exact walk_tup.stops H (tupAt_lat h l)
  yld := fun H M l i d x H' ed y => by
    obtain ⟨v, hv, rv⟩ := r.get ed
    obtain ⟨e1, e2⟩ := walk_tup.yields i H x H' (by rw [r.length]; exact (List.getElem?_eq_some_iff.mp ed).1) (tupAt_lat h l) y
    rw [hv] at e2; cases e2
    exact .inl ⟨e1, rv.tr l⟩
def itemsOf : D → Option (List D)
  | .list ds => some ds
  | .tuple ds => some ds
  | _ => none
def mISeq (me : ME) : MI := fun ρ => match me ρ with
  | some (pr, ρ1) => match frz ρ1 pr with
    | some (d, ρ2) => match itemsOf d with
      | some ds => some (ds, ρ2)
      | none => none
    | none => none
  | none => none
theorem di_seq {me : ME} (he : DE X e me) : DI X tg e (mISeq me) := PI.imp (pi_seq he) fun σ H R ⟨ρ, M, O, π, ds, ρ', h, e, q⟩ => by
  unfold mISeq at e
  split at e
  · rename_i pr ρ1 e1
    split at e
    · rename_i d ρ2 e2
      split at e
      · rename_i ds' e3
        cases e
        refine ⟨ρ, M, O, π, pr, ρ1, h, e1, fun v H1 M1 x1 s1 r1 => ?_⟩
        obtain ⟨M2, x2, s2, r2⟩ := frz_ok s1 r1 e2
        unfold itemsOf at e3
        split at e3
        · cases e3
          cases r2 with
          | lst hr n rr => exact ⟨_, rfl, .inl ⟨⟨_, .inl hr⟩, q _ H1 M2 (x1.trans x2) s2 (src_list hr n rr)⟩⟩
        · cases e3
          cases r2 with
          | tup ht rr => exact ⟨_, rfl, .inr ⟨⟨_, ht.sq⟩, q _ H1 M2 (x1.trans x2) s2 (src_tup ht rr)⟩⟩
        · cases e3
      · cases e
    · cases e
  · cases e
/-- range -/
def rngD (lo : Int) (n : Nat) : List D := (List.range n).map fun k => .int (lo + (k : Nat))
theorem rngD_len (lo : Int) (n : Nat) : (rngD lo n).length = n := by unfold rngD; simp
theorem src_rng {K : PySem.W.Frag} {H0 : Hp} {M0 : Mset} {lo : Int} {n : Nat} : Src K (Itr lo n) (rngD lo n) H0 M0 where
  go := fun H M l i hi => by rw [rngD_len] at hi; exact hi
  stop := fun H M l => by rw [rngD_len]; exact Nat.le_refl _
  yld := fun H M l i d x H' ed y => by
    obtain ⟨e1, e2⟩ := y
    subst e2
    refine .inl ⟨e1, ?_⟩
    unfold rngD at ed
    rw [List.getElem?_map] at ed
    obtain ⟨k, ek, rfl⟩ := Option.map_eq_some_iff.mp ed
    have hk : k = i := by
      obtain ⟨h1, h2⟩ := List.getElem?_eq_some_iff.mp ek
      simpa using h2.symm
    subst hk
    exact .int _
def rngOk (i : Int) : Bool := decide (-(2 ^ 62) ≤ i ∧ i < 2 ^ 62)
def mIRng1 (ma : MA) : MI := fun ρ => match ma ρ with
  | some ([.int j], ρ1) => if rngOk j = true then some (rngD 0 j.toNat, ρ1) else none
  | _ => none
def mIRng2 (ma : MA) : MI := fun ρ => match ma ρ with
  | some ([.int i, .int j], ρ1) => if (rngOk i && rngOk j) = true then some (rngD i (j - i).toNat, ρ1) else none
  | _ => none
theorem di_rng1 {a : Expr} {ma : MA} {p : Pos} (hg : Gl X "range") (hm : X.mg "range" = none) (ha : DA X [a] ma) (hs : starEach [a] X.env = [(false, eval a X.env)] := by rfl) : DI X tg (.Call (.Name "range" p) [a] [] pos) (mIRng1 ma) :=
  PI.imp (pi_range1 hg hm ha hs) fun σ H R ⟨ρ, M, O, π, ds, ρ', h, e, q⟩ => by
    unfold mIRng1 at e
    split at e
    · rename_i j ρ1 e1
      split at e
      · rename_i hz
        cases e
        have hz' := of_decide_eq_true hz
        refine ⟨ρ, M, O, π, _, _, h, e1, fun vs H1 M1 x1 s1 r1 => ?_⟩
        cases r1 with
        | cons rv rr =>
          cases rr
          cases rv
          exact ⟨j, rfl, hz'.1, hz'.2, q _ H1 M1 x1 s1 src_rng⟩
      · cases e
    · cases e
theorem di_rng2 {a b : Expr} {ma : MA} {p : Pos} (hg : Gl X "range") (hm : X.mg "range" = none) (ha : DA X [a, b] ma) (hs : starEach [a, b] X.env = [(false, eval a X.env), (false, eval b X.env)] := by rfl) (hs2 : starEach [b] X.env = [(false, eval b X.env)] := by rfl) : DI X tg (.Call (.Name "range" p) [a, b] [] pos) (mIRng2 ma) :=
  PI.imp (pi_range2 hg hm ha hs hs2) fun σ H R ⟨ρ, M, O, π, ds, ρ', h, e, q⟩ => by
    unfold mIRng2 at e
    split at e
    · rename_i i j ρ1 e1
      split at e
      · rename_i hz
        cases e
        rw [Bool.and_eq_true] at hz
        have hz1 := of_decide_eq_true hz.1
        have hz2 := of_decide_eq_true hz.2
        refine ⟨ρ, M, O, π, _, _, h, e1, fun vs H1 M1 x1 s1 r1 => ?_⟩
        cases r1 with
        | cons rv rr =>
          cases rr with
          | cons rw' rr =>
            cases rr
            cases rv
            cases rw'
            exact ⟨i, j, rfl, ⟨hz1.1, hz1.2, hz2.1, hz2.2⟩, q _ H1 M1 x1 s1 src_rng⟩
      · cases e
    · cases e
/-- zip, enumerate -/
def zipD : List D → List D → List D
  | x :: xs, y :: ys => .tuple [x, y] :: zipD xs ys
  | _, _ => []
theorem zipD_len : ∀ xs ys : List D, (zipD xs ys).length = min xs.length ys.length
  | [], _ => by simp [zipD]
  | _ :: _, [] => by simp [zipD]
  | x :: xs, y :: ys => by
    show (zipD xs ys).length + 1 = min (xs.length + 1) (ys.length + 1)
    rw [zipD_len xs ys]; omega
theorem zipD_get : ∀ {xs ys : List D} {i : Nat} {d : D}, (zipD xs ys)[i]? = some d → ∃ x y, xs[i]? = some x ∧ ys[i]? = some y ∧ d = .tuple [x, y]
  | [], _, _, _, h => by simp [zipD] at h
  | _ :: _, [], _, _, h => by simp [zipD] at h
  | x :: xs, y :: ys, 0, d, h => ⟨x, y, rfl, rfl, (Option.some.inj (show some (PyData.tuple [x, y]) = some d from h)).symm⟩
  | x :: xs, y :: ys, i + 1, d, h => by
    obtain ⟨a, b, h1, h2, h3⟩ := zipD_get (xs := xs) (ys := ys) (i := i) (d := d) (by simpa [zipD] using h)
    exact ⟨a, b, by simpa using h1, by simpa using h2, h3⟩
theorem yd_pair {K : PySem.W.Frag} {H : Hp} {M : Mset} {x : V} {H' : Hp} {f g : Nat → Option V} {i : Nat} {a b : D} {va vb : V} (y : YPair f g i H x H') (ha : f i = some va) (hb : g i = some vb) (ra : Rep K H M va a) (rb : Rep K H M vb b) : YD K H M x H' (.tuple [a, b]) := by
  obtain ⟨T, p, q, rfl, hT, rfl, h1, h2⟩ := y
  rw [ha] at h1; cases h1
  rw [hb] at h2; cases h2
  exact .inr ⟨T, _, _, rfl, hT, rfl, rfl, .cons ra (.cons rb .nil)⟩
theorem src_zipL {K : PySem.W.Frag} {H0 : Hp} {M0 : Mset} {a b : Addr} {vs ws : List V} {xs ys : List D} (h : Rd H0 a (.lst vs)) (n : ¬ M0 a) (r : Reps K H0 M0 vs xs) (h2 : Rd H0 b (.lst ws)) (n2 : ¬ M0 b) (r2 : Reps K H0 M0 ws ys) : Src K (Itz K a b) (zipD xs ys) H0 M0 := by
  have W := walk_zip (K := K) (a := a) (b := b) (xs := vs) (ys := ws) rfl
  have G : ∀ {H : Hp} {M : Mset}, Lat H0 M0 H M → SqL K H a vs ∧ SqL K H b ws := fun l => ⟨.inl (l a _ h n).1, .inl (l b _ h2 n2).1⟩
  refine ⟨fun H M l i hi => W.goes i H (by rw [r.length, r2.length, ← zipD_len]; exact hi) (G l), fun H M l => by rw [zipD_len, ← r.length, ← r2.length]; exact W.stops H (G l), fun H M l i d x H' ed y => ?_⟩
  obtain ⟨p, q, e1, e2, rfl⟩ := zipD_get ed
  obtain ⟨v, hv, rv⟩ := r.get e1
  obtain ⟨w, hw, rw'⟩ := r2.get e2
  exact yd_pair (W.yields i H x H' (by rw [r.length, r2.length, ← zipD_len]; exact (List.getElem?_eq_some_iff.mp ed).1) (G l) y) hv hw (rv.tr l) (rw'.tr l)
theorem src_zipT {K : PySem.W.Frag} {H0 : Hp} {M0 : Mset} {a b : Addr} {vs ws : List V} {xs ys : List D} (h : TupAt K H0 M0 a vs) (r : Reps K H0 M0 vs xs) (h2 : TupAt K H0 M0 b ws) (r2 : Reps K H0 M0 ws ys) : Src K (RZ.ItzT K a b) (zipD xs ys) H0 M0 := by
  refine ⟨fun H M l i hi => ?_, fun H M l => ⟨vs, ws, tupAt_lat h l, tupAt_lat h2 l, ?_⟩, fun H M l i d x H' ed y => ?_⟩
  · rw [zipD_len, ← r.length, ← r2.length] at hi
    have h1 : i < vs.length := by omega
    have h3 : i < ws.length := by omega
    exact ⟨vs, ws, vs[i], ws[i], tupAt_lat h l, tupAt_lat h2 l, by simp [h1], by simp [h3]⟩
  · rw [zipD_len, ← r.length, ← r2.length]; omega
  · obtain ⟨p, q, e1, e2, rfl⟩ := zipD_get ed
    obtain ⟨v, hv, rv⟩ := r.get e1
    obtain ⟨w, hw, rw'⟩ := r2.get e2
    obtain ⟨T, vx, vy, rfl, hT, rfl, f1, f2⟩ := y
    have g1 := f1 vs (tupAt_lat h l)
    have g2 := f2 ws (tupAt_lat h2 l)
    rw [hv] at g1; cases g1
    rw [hw] at g2; cases g2
    exact .inr ⟨T, _, _, rfl, hT, rfl, rfl, .cons (rv.tr l) (.cons (rw'.tr l) .nil)⟩
def mIZip (ma : MA) : MI := fun ρ => match ma ρ with
  | some ([.list xs, .list ys], ρ1) => some (zipD xs ys, ρ1)
  | some ([.tuple xs, .tuple ys], ρ1) => some (zipD xs ys, ρ1)
  | _ => none
theorem di_zip {a b : Expr} {ma : MA} {p tpos : Pos} {elts : List Expr} {kk : Nat} (hg : Gl X "zip") (hm : X.mg "zip" = none) (ha : DA X [a, b] ma)
    (hs : starEach [a, b] X.env = (false, eval a X.env) :: starEach [b] X.env := by rfl) (hpl : (backTo pos (starEach [b] X.env)).any (·.1) = false := by rfl) : DI X (.Tuple elts kk tpos) (.Call (.Name "zip" p) [a, b] [] pos) (mIZip ma) :=
  PI.imp (RZ.pi_zipA hg hm ha hs hpl) fun σ H R ⟨ρ, M, O, π, ds, ρ', h, e, q⟩ => by
    unfold mIZip at e
    split at e
    · rename_i xs ys ρ1 e1
      cases e
      refine ⟨ρ, M, O, π, _, _, h, e1, fun vs H1 M1 x1 s1 r1 => ?_⟩
      cases r1 with
      | cons rv rr =>
        cases rr with
        | cons rw' rr =>
          cases rr
          cases rv with
          | lst hr n rr => cases rw' with
            | lst hr2 n2 rr2 => exact ⟨_, _, _, _, rfl, .inl ⟨.inl hr, .inl hr2, q _ H1 M1 x1 s1 (src_zipL hr n rr hr2 n2 rr2)⟩⟩
    · rename_i xs ys ρ1 e1
      cases e
      refine ⟨ρ, M, O, π, _, _, h, e1, fun vs H1 M1 x1 s1 r1 => ?_⟩
      cases r1 with
      | cons rv rr =>
        cases rr with
        | cons rw' rr =>
          cases rr
          cases rv with
          | tup hr rr => cases rw' with
            | tup hr2 rr2 => exact ⟨_, _, _, _, rfl, .inr ⟨hr.sq, hr2.sq, q _ H1 M1 x1 s1 (src_zipT hr rr hr2 rr2)⟩⟩
    · cases e
def enumD (k : Nat) : List D → List D
  | [] => []
  | x :: xs => .tuple [.int (k : Nat), x] :: enumD (k + 1) xs
theorem enumD_len : ∀ (k : Nat) (xs : List D), (enumD k xs).length = xs.length
  | _, [] => rfl
  | k, x :: xs => by show (enumD (k + 1) xs).length + 1 = _; rw [enumD_len (k + 1) xs]; rfl
theorem enumD_get : ∀ {k : Nat} {xs : List D} {i : Nat} {d : D}, (enumD k xs)[i]? = some d → ∃ x, xs[i]? = some x ∧ d = .tuple [.int ((k + i : Nat) : Int), x]
  | _, [], _, _, h => by simp [enumD] at h
  | k, x :: xs, 0, d, h => ⟨x, rfl, (Option.some.inj (show some (PyData.tuple [.int (k : Nat), x]) = some d from h)).symm⟩
  | k, x :: xs, i + 1, d, h => by
    obtain ⟨a, h1, h2⟩ := enumD_get (k := k + 1) (xs := xs) (i := i) (d := d) (by simpa [enumD] using h)
    exact ⟨a, by simpa using h1, by rw [h2, show k + 1 + i = k + (i + 1) by omega]⟩
theorem src_enumL {K : PySem.W.Frag} {H0 : Hp} {M0 : Mset} {a : Addr} {vs : List V} {xs : List D} (h : Rd H0 a (.lst vs)) (n : ¬ M0 a) (r : Reps K H0 M0 vs xs) : Src K (Ite K a) (enumD 0 xs) H0 M0 := by
  have W := walk_enum (K := K) (a := a) (xs := vs)
  refine ⟨fun H M l i hi => W.goes i H (by rw [r.length, ← enumD_len 0]; exact hi) (.inl (l a _ h n).1), fun H M l => by rw [enumD_len, ← r.length]; exact W.stops H (.inl (l a _ h n).1), fun H M l i d x H' ed y => ?_⟩
  obtain ⟨p, e1, rfl⟩ := enumD_get ed
  obtain ⟨v, hv, rv⟩ := r.get e1
  rw [Nat.zero_add]
  exact yd_pair (W.yields i H x H' (by rw [r.length, ← enumD_len 0]; exact (List.getElem?_eq_some_iff.mp ed).1) (.inl (l a _ h n).1) y) rfl hv (.int _) (rv.tr l)
end

/-! ### for, while -/
section
variable {X : Cx} {tg iter c : Expr} {body : List Stmt} {pos : Pos} {mi : MI} {mg : MG} {mb : MS} {mt : MT} {ts : List Nat}
def loop (mg : MG) (mb : MS) : List D → Fm → Option (Fl × Fm)
  | [], ρ => some (.next, ρ)
  | d :: ds, ρ => match mg d ρ with
    | some ρ1 => match mb ρ1 with
      | some (.next, ρ2) => loop mg mb ds ρ2
      | some (.cont, ρ2) => loop mg mb ds ρ2
      | some (.brk, ρ2) => some (.next, ρ2)
      | some (.ret r, ρ2) => some (.ret r, ρ2)
      | none => none
    | none => none
def mFor (mi : MI) (mg : MG) (mb : MS) : MS := fun ρ => match mi ρ with
  | some (ds, ρ1) => loop mg mb ds ρ1
  | none => none
theorem ds_for (hp : PassesOwn (model X.prog X.w) X.A X.env X.xe) (hc : X.calm = true) (hi : DI X tg iter mi) (hg : DG X tg mg ts) (hb : DSs X body mb) (hs : ∀ x, foldedSetIterable iter X.env x = pure x := by intro _; rfl) : DS X (.For tg iter body [] pos) (mFor mi mg mb) :=
  PS.imp (ps_for hp hc hi hg hb hs) fun D σ H ⟨ρ, M, O, π, fl, ρ', h, e, q⟩ => by
    unfold mFor at e
    split at e
    · rename_i ds ρ1 e1
      refine ⟨ρ, M, O, π, ds, ρ1, h, e1, fun J H1 M1 x1 s1 src => ?_⟩
      have q1 := q.later (O1 := O) x1
      refine ⟨fun i m σ2 H2 => m = ds.length - i ∧ i ≤ ds.length ∧ ∃ ρ2 M2, SR X.K H2 M2 O π ρ2 σ2 ∧ Ext O H1 M1 H2 M2 ∧ loop mg mb (ds.drop i) ρ2 = some (fl, ρ'), ⟨_, rfl, Nat.zero_le _, ρ1, M1, s1, .refl s1, e⟩, ?_⟩
      rintro i m σ2 H2 ⟨rfl, hi2, ρ2, M2, s2, x2, e2⟩
      by_cases hlt : i < ds.length
      · rw [List.drop_eq_getElem_cons hlt] at e2
        have hd : ds[i]? = some ds[i] := List.getElem?_eq_getElem hlt
        refine .inr ⟨src.go H2 M2 x2.tr i hlt, fun σ3 H3 => ds.length - (i + 1) = ds.length - (i + 1) ∧ i + 1 ≤ ds.length ∧ ∃ ρ3 M3, SR X.K H3 M3 O π ρ3 σ3 ∧ Ext O H1 M1 H3 M3 ∧ loop mg mb (ds.drop (i + 1)) ρ3 = some (fl, ρ'), fun σ3 H3 w => ⟨_, by omega, w⟩, fun x H3 y => ?_⟩
        obtain ⟨s3, x3, r3⟩ := (src.yld H2 M2 x2.tr i _ x H3 hd y).ok s2
        unfold loop at e2
        split at e2
        · rename_i ρ3 e3
          refine ⟨ρ2, M2, O, π, _, ρ3, s3, r3, e3, fun σ4 s4 _ _ => ?_⟩
          have x23 := x2.trans x3
          split at e2
          · rename_i ρ5 e5
            exact ⟨ρ3, M2, O, π, .next, ρ5, s4, e5, fun σ5 H5 M5 x5 s5 => ⟨rfl, hlt, ρ5, M5, s5, x23.trans x5, e2⟩⟩
          · rename_i ρ5 e5
            exact ⟨ρ3, M2, O, π, .cont, ρ5, s4, e5, fun σ5 H5 M5 x5 s5 => ⟨rfl, hlt, ρ5, M5, s5, x23.trans x5, e2⟩⟩
          · rename_i ρ5 e5
            cases e2
            exact ⟨ρ3, M2, O, π, .brk, _, s4, e5, fun σ5 H5 M5 x5 s5 => q1 σ5 H5 M5 (x23.trans x5) s5⟩
          · rename_i r ρ5 e5
            cases e2
            exact ⟨ρ3, M2, O, π, .ret r, _, s4, e5, fun v σ5 H5 M5 x5 s5 rv => q1 v σ5 H5 M5 (x23.trans x5) s5 rv⟩
          · cases e2
        · cases e2
      · have ei : i = ds.length := by omega
        subst ei
        rw [List.drop_length] at e2
        cases e2
        exact .inl ⟨src.stop H2 M2 x2.tr, q1 σ2 H2 M2 x2 s2⟩
    · cases e
def whl (mt : MT) (mb : MS) : Nat → Fm → Option (Fl × Fm)
  | 0, _ => none
  | n + 1, ρ => match mt ρ with
    | some (false, ρ1) => some (.next, ρ1)
    | some (true, ρ1) => match mb ρ1 with
      | some (.next, ρ2) => whl mt mb n ρ2
      | some (.cont, ρ2) => whl mt mb n ρ2
      | some (.brk, ρ2) => some (.next, ρ2)
      | some (.ret r, ρ2) => some (.ret r, ρ2)
      | none => none
    | none => none
theorem ds_while {n : Nat} (hp : PassesOwn (model X.prog X.w) X.A X.env X.xe) (hc : DT X c mt) (hb : DSs X body mb) : DS X (.While c body [] pos) (whl mt mb n) :=
  PS.imp (ps_while hp hc hb) fun D σ H ⟨ρ, M, O, π, fl, ρ', h, e, q⟩ => by
    refine ⟨fun m σ2 H2 => ∃ ρ2 M2, SR X.K H2 M2 O π ρ2 σ2 ∧ Ext O H M H2 M2 ∧ whl mt mb m ρ2 = some (fl, ρ'), ⟨n, ρ, M, h, .refl h, e⟩, ?_⟩
    rintro m σ2 H2 ⟨ρ2, M2, s2, x2, e2⟩
    cases m with
    | zero => cases e2
    | succ m =>
      unfold whl at e2
      split at e2
      · rename_i ρ3 e3
        cases e2
        exact ⟨ρ2, M2, O, π, false, _, s2, e3, fun H3 M3 x3 s3 => iteF (q σ2 H3 M3 (x2.trans x3) s3)⟩
      · rename_i ρ3 e3
        refine ⟨ρ2, M2, O, π, true, ρ3, s2, e3, fun H3 M3 x3 s3 => iteT ?_⟩
        have x23 := x2.trans x3
        refine ⟨fun σ5 H5 => ∃ ρ5 M5, SR X.K H5 M5 O π ρ5 σ5 ∧ Ext O H M H5 M5 ∧ whl mt mb m ρ5 = some (fl, ρ'), fun σ5 H5 w => ⟨m, Nat.lt_succ_self m, w⟩, ?_⟩
        split at e2
        · rename_i ρ5 e5
          exact ⟨ρ3, M3, O, π, .next, ρ5, s3, e5, fun σ5 H5 M5 x5 s5 => ⟨ρ5, M5, s5, x23.trans x5, e2⟩⟩
        · rename_i ρ5 e5
          exact ⟨ρ3, M3, O, π, .cont, ρ5, s3, e5, fun σ5 H5 M5 x5 s5 => ⟨ρ5, M5, s5, x23.trans x5, e2⟩⟩
        · rename_i ρ5 e5
          cases e2
          exact ⟨ρ3, M3, O, π, .brk, _, s3, e5, fun σ5 H5 M5 x5 s5 => q σ5 H5 M5 (x23.trans x5) s5⟩
        · rename_i r ρ5 e5
          cases e2
          exact ⟨ρ3, M3, O, π, .ret r, _, s3, e5, fun v σ5 H5 M5 x5 s5 rv => q v σ5 H5 M5 (x23.trans x5) s5 rv⟩
        · cases e2
      · cases e2
end
end Vi

namespace Vi
open PySem PySem.Spec PyProof.Rows L2

/-! ### slots forgotten and brought back -/
section
variable {α : Type}
def wipeA (l : List (Option α)) : List Nat → List (Option α)
  | [] => l
  | v :: vs => (wipeA l vs).set v none
theorem wipeA_len (l : List (Option α)) : ∀ vs, (wipeA l vs).length = l.length
  | [] => rfl
  | v :: vs => by unfold wipeA; rw [List.length_set, wipeA_len l vs]
theorem wipeA_out {l : List (Option α)} {i : Nat} : ∀ {vs : List Nat}, i ∉ vs → (wipeA l vs)[i]? = l[i]?
  | [], _ => rfl
  | v :: vs, h => by
    rw [List.mem_cons, not_or] at h
    unfold wipeA
    rw [List.getElem?_set_ne (Ne.symm h.1), wipeA_out h.2]
theorem wipeA_in {l : List (Option α)} {i : Nat} : ∀ {vs : List Nat}, i ∈ vs → i < l.length → (wipeA l vs)[i]? = some none
  | [], h, _ => by cases h
  | v :: vs, h, hl => by
    unfold wipeA
    by_cases e : v = i
    · subst e
      rw [List.getElem?_set_self (by rw [wipeA_len]; exact hl)]
    · rw [List.getElem?_set_ne e]
      rcases List.mem_cons.mp h with z | z
      · exact absurd z.symm e
      · exact wipeA_in z hl
theorem wipeA_some {l : List (Option α)} {i : Nat} {x : α} {vs : List Nat} (h : (wipeA l vs)[i]? = some (some x)) : l[i]? = some (some x) ∧ i ∉ vs := by
  by_cases hi : i ∈ vs
  · by_cases hl : i < l.length
    · rw [wipeA_in hi hl] at h; cases h
    · rw [List.getElem?_eq_none (by rw [wipeA_len]; omega)] at h; cases h
  · rw [wipeA_out hi] at h; exact ⟨h, hi⟩
theorem wipeA_ext {l l' : List (Option α)} {vs : List Nat} (h : ∀ j, j ∉ vs → l[j]? = l'[j]?) (hl : l.length = l'.length) : wipeA l vs = wipeA l' vs := by
  apply List.ext_getElem?
  intro i
  by_cases hi : i ∈ vs
  · by_cases hn : i < l.length
    · rw [wipeA_in hi hn, wipeA_in hi (by omega)]
    · rw [List.getElem?_eq_none (by rw [wipeA_len]; omega), List.getElem?_eq_none (by rw [wipeA_len]; omega)]
  · rw [wipeA_out hi, wipeA_out hi, h i hi]
theorem wipe_eq (σ : St) : ∀ vs, wipe σ vs = wipeA σ vs
  | [] => rfl
  | v :: vs => by unfold wipe wipeA; rw [wipe_eq σ vs]
def restA (l l1 : List (Option α)) : List Nat → List (Option α)
  | [] => l
  | v :: vs => (restA l l1 vs).set v ((l1[v]?).getD none)
theorem restA_len (l l1 : List (Option α)) : ∀ vs, (restA l l1 vs).length = l.length
  | [] => rfl
  | v :: vs => by unfold restA; rw [List.length_set, restA_len l l1 vs]
theorem restA_out {l l1 : List (Option α)} {i : Nat} : ∀ {vs : List Nat}, i ∉ vs → (restA l l1 vs)[i]? = l[i]?
  | [], _ => rfl
  | v :: vs, h => by
    rw [List.mem_cons, not_or] at h
    unfold restA
    rw [List.getElem?_set_ne (Ne.symm h.1), restA_out h.2]
theorem restA_in {l l1 : List (Option α)} {i : Nat} : ∀ {vs : List Nat}, i ∈ vs → i < l.length → (restA l l1 vs)[i]? = some ((l1[i]?).getD none)
  | [], h, _ => by cases h
  | v :: vs, h, hl => by
    unfold restA
    by_cases e : v = i
    · subst e
      rw [List.getElem?_set_self (by rw [restA_len]; exact hl)]
    · rw [List.getElem?_set_ne e]
      rcases List.mem_cons.mp h with z | z
      · exact absurd z.symm e
      · exact restA_in z hl
end
section
variable {K : PySem.W.Frag} {H H' H1 : Hp} {M M' M1 O O' : Mset} {π : Nat → Option Addr} {ρ ρ1 ρ2 : Fm} {σ : St} {vs : List Nat} {p : Addr}
theorem SR.wipe (h : SR K H M O π ρ σ) (vs : List Nat) : SR K H M O π (wipeA ρ vs) (wipeA σ vs) := by
  refine ⟨by rw [wipeA_len, wipeA_len]; exact h.len, h.sub, h.live, fun i d e => ?_, fun i b ds e => ?_, fun i j b c ds es a hij e f g => ?_⟩
  · obtain ⟨e1, n⟩ := wipeA_some e
    rw [wipeA_out n]; exact h.imm i d e1
  · obtain ⟨e1, n⟩ := wipeA_some e
    rw [wipeA_out n]; exact h.own i b ds e1
  · obtain ⟨e1, n⟩ := wipeA_some e
    obtain ⟨f1, n2⟩ := wipeA_some f
    rw [wipeA_out n] at g
    rw [wipeA_out n2]; exact h.uniq i j b c ds es a hij e1 f1 g
def vsOk (ρ : Fm) (vs : List Nat) : Bool := vs.all fun i => match ρ[i]? with
  | some (some (.own _ _)) => false
  | _ => true
theorem vsOk_own (h : vsOk ρ vs = true) {i : Nat} (hi : i ∈ vs) {b : Bool} {ds : List D} (e : ρ[i]? = some (some (.own b ds))) : False := by
  have := List.all_eq_true.mp h i hi
  rw [e] at this
  cases this
theorem SR.unwipe (h1 : SR K H1 M1 O π ρ1 σ) (ok : vsOk ρ1 vs = true) (h2 : SR K H M O π ρ2 (wipeA σ vs)) (l : Lat H1 M1 H M) : SR K H M O π (restA ρ2 ρ1 vs) σ := by
  have len : ρ2.length = σ.length := by rw [h2.len, wipeA_len]
  have get : ∀ {i : Nat} {s : Sv}, (restA ρ2 ρ1 vs)[i]? = some (some s) → (i ∈ vs ∧ ρ1[i]? = some (some s)) ∨ (i ∉ vs ∧ ρ2[i]? = some (some s)) := fun {i s} e => by
    by_cases hi : i ∈ vs
    · by_cases hl : i < ρ2.length
      · rw [restA_in hi hl] at e
        refine .inl ⟨hi, ?_⟩
        cases q : ρ1[i]? with
        | none => rw [q] at e; cases e
        | some x => rw [q] at e; exact e
      · rw [List.getElem?_eq_none (by rw [restA_len]; omega)] at e; cases e
    · rw [restA_out hi] at e; exact .inr ⟨hi, e⟩
  refine ⟨by rw [restA_len]; exact len, h2.sub, h2.live, fun i d e => ?_, fun i b ds e => ?_, fun i j b c ds es a hij e f g => ?_⟩
  · rcases get e with ⟨hi, e⟩ | ⟨hi, e⟩
    · obtain ⟨v, f1, f2⟩ := h1.imm i d e
      exact ⟨v, f1, f2.tr l⟩
    · obtain ⟨v, f1, f2⟩ := h2.imm i d e
      rw [wipeA_out hi] at f1
      exact ⟨v, f1, f2⟩
  · rcases get e with ⟨hi, e⟩ | ⟨hi, e⟩
    · exact (vsOk_own ok hi e).elim
    · obtain ⟨x, vs', f1, f2⟩ := h2.own i b ds e
      rw [wipeA_out hi] at f1
      exact ⟨x, vs', f1, f2⟩
  · rcases get e with ⟨hi, e⟩ | ⟨hi, e⟩
    · exact (vsOk_own ok hi e).elim
    · rcases get f with ⟨hj, f⟩ | ⟨hj, f⟩
      · exact (vsOk_own ok hj f).elim
      · have := h2.uniq i j b c ds es a hij e f (by rw [wipeA_out hi]; exact g)
        rw [wipeA_out hj] at this
        exact this
/-- a held list is written -/
theorem upd_lat {o : HO} (hM : M p) : Lat H M (upd H p o) M := fun a u q n => by
  have ne : a ≠ p := fun z => n (z ▸ hM)
  refine ⟨?_, n⟩
  rcases q with q | ⟨o', q⟩
  · exact .inl (by rw [upd_ne ne]; exact q)
  · exact .inr ⟨o', by rw [upd_ne ne]; exact q⟩
theorem SR.writeO {o : HO} (h : SR K H M O π ρ σ) (hM : M p) (hO : O p) : SR K (upd H p o) M O π ρ σ := by
  refine ⟨h.len, h.sub, fun a q => ?_, fun i d e => ?_, fun i b ds e => ?_, h.uniq⟩
  · by_cases ha : a = p
    · subst ha; rw [upd_same]; intro z; cases z
    · rw [upd_ne ha]; exact h.live a q
  · obtain ⟨v, e1, r⟩ := h.imm i d e
    exact ⟨v, e1, r.tr (upd_lat hM)⟩
  · obtain ⟨a, ws, e1, e2, e3, e4, r, e5⟩ := h.own i b ds e
    exact ⟨a, ws, e1, by rw [upd_ne (fun z => e4 (by rw [z]; exact hO))]; exact e2, e3, e4, r.tr (upd_lat hM), e5⟩
theorem Ext.updM {o : HO} (x : Ext O H1 M1 H M) (hM : M1 p) (hO : ¬ O p) : Ext O H1 M1 (upd H p o) M :=
  ⟨fun a u e q => by rw [upd_ne (fun z => by subst z; exact q.elim hO fun n => n hM)]; exact x.keep a u e q, x.sub, x.new⟩
end

/-! ### comprehensions -/
section
variable {mg : MG} {mt : MT} {me : ME} {vs ts : List Nat}
def cloop (mg : MG) (mt : MT) (me : ME) (vs : List Nat) : List D → Fm → Option (List D × Fm)
  | [], ρ => some ([], ρ)
  | d :: ds, ρ => match mg d ρ with
    | some ρ1 => match mt ρ1 with
      | some (true, ρ2) => match me ρ2 with
        | some (pr, ρ3) => match frz ρ3 pr with
          | some (e, ρ4) => match cloop mg mt me vs ds (wipeA ρ4 vs) with
            | some (es, ρ5) => some (e :: es, ρ5)
            | none => none
          | none => none
        | none => none
      | some (false, ρ2) => cloop mg mt me vs ds (wipeA ρ2 vs)
      | none => none
    | none => none
theorem cread {K : PySem.W.Frag} (hts : ∀ i ∈ ts, i ∈ vs) {J : It} {ds : List D} {H0 Hs : Hp} {M0 Ms O : Mset} {π : Nat → Option Addr} {σ : St} {Dd : Addr} {ρa ρ2 : Fm} {es ea : List D} {acc : List V} {Qd : Hp → Prop}
    (src : Src K J ds H0 M0) (l : Lat H0 M0 Hs Ms) (s : SR K Hs Ms (wth O Dd) π ρa (wipeA σ vs)) (hO : ¬ O Dd) (hA : Hs Dd = some (.lst acc)) (hR : Reps K Hs Ms acc ea) (hz : ea.length + es.length ≤ sizeLine)
    (e : cloop mg mt me vs ds ρa = some (es, ρ2)) (hq : ∀ H M acc', Ext O Hs Ms H M → SR K H M (wth O Dd) π ρ2 (wipeA σ vs) → H Dd = some (.lst acc') → Reps K H M acc' (ea ++ es) → Qd H) :
    ∃ W : Nat → Nat → Hp → Prop, (∃ m, W 0 m Hs) ∧ ∀ i m H, W i m H →
      (J.stop i H ∧ Qd H) ∨ (J.go i H ∧ ∃ Nx : Hp → Prop, (∀ H', Nx H' → ∃ m', m' < m ∧ W (i + 1) m' H') ∧ ∀ x H', J.yld i H x H' → tG K mg ts x (wipe σ vs) H' fun σ2 H2 => wipe σ2 vs = wipe σ vs ∧ tT K mt σ2 H2 fun b H3 =>
        if b = true then tE K me σ2 H3 fun y H4 => ∃ acc, H4 Dd = some (.lst acc) ∧ acc.length < sizeLine ∧ Nx (upd H4 Dd (.lst (acc ++ [y]))) else Nx H3) := by
  have hMs : Ms Dd := s.sub Dd (.inr rfl)
  have less : ∀ a, O a → wth O Dd a := fun a q => .inl q
  refine ⟨fun i m H => m = ds.length - i ∧ i ≤ ds.length ∧ ∃ ρb M acc' eb es', SR K H M (wth O Dd) π ρb (wipeA σ vs) ∧ Ext O Hs Ms H M ∧ H Dd = some (.lst acc') ∧ Reps K H M acc' eb ∧ cloop mg mt me vs (ds.drop i) ρb = some (es', ρ2) ∧ ea ++ es = eb ++ es',
    ⟨_, rfl, Nat.zero_le _, ρa, Ms, acc, ea, es, s, .refl (s.less less), hA, hR, e, rfl⟩, ?_⟩
  rintro i m H ⟨rfl, hi, ρb, M, acc', eb, es', sb, xb, hAb, hRb, eb', eq⟩
  have lb : Lat H0 M0 H M := l.trans xb.tr
  by_cases hlt : i < ds.length
  · rw [List.drop_eq_getElem_cons hlt] at eb'
    have hd : ds[i]? = some ds[i] := List.getElem?_eq_getElem hlt
    refine .inr ⟨src.go H M lb i hlt, fun H' => ds.length - (i + 1) = ds.length - (i + 1) ∧ i + 1 ≤ ds.length ∧ ∃ ρb M acc' eb es', SR K H' M (wth O Dd) π ρb (wipeA σ vs) ∧ Ext O Hs Ms H' M ∧ H' Dd = some (.lst acc') ∧ Reps K H' M acc' eb ∧ cloop mg mt me vs (ds.drop (i + 1)) ρb = some (es', ρ2) ∧ ea ++ es = eb ++ es', fun H' w => ⟨_, by omega, w⟩, fun x H3 y => ?_⟩
    obtain ⟨s3, x3, r3⟩ := (src.yld H M lb i _ x H3 hd y).ok sb
    unfold cloop at eb'
    split at eb'
    · rename_i ρ3 e3
      rw [wipe_eq]
      refine ⟨ρb, M, wth O Dd, π, _, ρ3, s3, r3, e3, fun σ4 s4 fr ln => ?_⟩
      have hw : wipeA σ4 vs = wipeA σ vs := wipeA_ext (fun j hj => by rw [fr j (fun z => hj (hts j z)), wipeA_out hj]) (by rw [ln, wipeA_len])
      refine ⟨by rw [wipe_eq]; exact hw, ?_⟩
      split at eb'
      · rename_i ρ4 e4
        refine ⟨ρ3, M, wth O Dd, π, true, ρ4, s4, e4, fun H5 M5 x5 s5 => iteT ?_⟩
        split at eb'
        · rename_i pr ρ5 e5
          split at eb'
          · rename_i ee ρ6 e6
            split at eb'
            · rename_i es2 ρ7 e7
              cases eb'
              refine ⟨ρ4, M5, wth O Dd, π, pr, ρ5, s5, e5, fun v H6 M6 x6 s6 r6 => ?_⟩
              obtain ⟨M7, x7, s7, r7⟩ := frz_ok s6 r6 e6
              have xx : Ext (wth O Dd) H M H6 M7 := ((x3.trans x5).trans x6).trans x7
              have hA6 : H6 Dd = some (.lst acc') := xx.keep Dd _ hAb (.inl (.inr rfl))
              have hM7 : M7 Dd := s7.sub Dd (.inr rfl)
              have hl : acc'.length < sizeLine := by
                rw [hRb.length]
                have := congrArg List.length eq
                rw [List.length_append, List.length_append, List.length_cons] at this
                omega
              refine ⟨acc', hA6, hl, rfl, hlt, wipeA ρ6 vs, M7, acc' ++ [v], eb ++ [ee], es2, ?_, (xb.trans (xx.less less)).updM hMs hO, upd_same, ((hRb.tr xx.tr).append (.cons r7 .nil)).tr (upd_lat hM7), e7, ?_⟩
              · rw [← hw]; exact (s7.writeO hM7 (.inr rfl)).wipe vs
              · rw [eq, List.append_assoc]; rfl
            · cases eb'
          · cases eb'
        · cases eb'
      · rename_i ρ4 e4
        refine ⟨ρ3, M, wth O Dd, π, false, ρ4, s4, e4, fun H5 M5 x5 s5 => iteF ?_⟩
        have xx : Ext (wth O Dd) H M H5 M5 := x3.trans x5
        refine ⟨rfl, hlt, wipeA ρ4 vs, M5, acc', eb, es', ?_, xb.trans (xx.less less), xx.keep Dd _ hAb (.inl (.inr rfl)), hRb.tr xx.tr, eb', eq⟩
        rw [← hw]; exact s5.wipe vs
      · cases eb'
    · cases eb'
  · have ei : i = ds.length := by omega
    subst ei
    rw [List.drop_length] at eb'
    cases eb'
    rw [List.append_nil] at eq
    exact .inl ⟨src.stop H M lb, hq H M acc' xb sb hAb (by rw [eq]; exact hRb)⟩
def mComp (mi : MI) (mg : MG) (mt : MT) (me : ME) (vs : List Nat) : ME := fun ρ => match mi ρ with
  | some (ds, ρ1) => if vsOk ρ1 vs = true then match cloop mg mt me vs ds (wipeA ρ1 vs) with
    | some (es, ρ2) => if fits es.length = true then some (.val (.own false es), restA ρ2 ρ1 vs) else none
    | none => none
    else none
  | none => none
theorem comp_start {K : PySem.W.Frag} {H1 : Hp} {M1 O : Mset} {π : Nat → Option Addr} {ρ1 : Fm} {σ : St} {Dd : Addr} (s1 : SR K H1 M1 O π ρ1 σ) (hD : H1 Dd = none) (vs : List Nat) : SR K (upd H1 Dd (.lst [])) (wth M1 Dd) (wth O Dd) π (wipeA ρ1 vs) (wipeA σ vs) := by
  refine ((s1.allocOwn hD).wipe vs).more (fun a q => q.elim (fun z => .inl (s1.sub a z)) fun z => .inr z) fun i b ds a e1 e2 z => ?_
  obtain ⟨e3, hn⟩ := wipeA_some e1
  rw [wipeA_out hn] at e2
  obtain ⟨a', ws, f1, f2, f3, f4, _⟩ := s1.own i b ds e3
  rw [e2] at f1; cases f1
  rcases z with z | z
  · exact f4 z
  · rw [z, hD] at f2; cases f2
theorem comp_end {K : PySem.W.Frag} {H1 H : Hp} {M1 M O : Mset} {π : Nat → Option Addr} {ρ1 ρ2 : Fm} {σ : St} {Dd : Addr} {acc : List V} {es : List D} (s1 : SR K H1 M1 O π ρ1 σ) (hD : H1 Dd = none) (ok : vsOk ρ1 vs = true) (x : Ext O (upd H1 Dd (.lst [])) (wth M1 Dd) H M) (s : SR K H M (wth O Dd) π ρ2 (wipeA σ vs))
    (hA : H Dd = some (.lst acc)) (hR : Reps K H M acc es) : Ext O H1 M1 H M ∧ SR K H M O π (restA ρ2 ρ1 vs) σ ∧ RP K H M O (restA ρ2 ρ1 vs) σ (.val (.own false es)) (.ref Dd) := by
  have less : ∀ a, O a → wth O Dd a := fun a q => .inl q
  have x1 : Ext O H1 M1 H M := (Ext.allocOwn s1 hD).trans x
  have hO : ¬ O Dd := fun z => s1.live Dd (s1.sub Dd z) hD
  refine ⟨x1, s1.unwipe ok (s.less less) x1.tr, Dd, acc, rfl, hA, s.sub Dd (.inr rfl), hO, hR, fun i b ds e1 e2 => ?_⟩
  by_cases hi : i ∈ vs
  · by_cases hl : i < ρ2.length
    · rw [restA_in hi hl] at e1
      cases q : ρ1[i]? with
      | none => rw [q] at e1; cases e1
      | some z => rw [q] at e1; exact vsOk_own ok hi (q.trans e1)
    · rw [List.getElem?_eq_none (by rw [restA_len]; omega)] at e1; cases e1
  · rw [restA_out hi] at e1
    obtain ⟨a', ws, f1, f2, f3, f4, _⟩ := s.own i b ds e1
    rw [wipeA_out hi, e2] at f1; cases f1
    exact f4 (.inr rfl)
theorem lc_read {K : PySem.W.Frag} {mi : MI} (hts : ∀ i ∈ ts, i ∈ vs) {σ : St} {H : Hp} {Q : VK} (h : tE K (mComp mi mg mt me vs) σ H Q) : tLc (tI K mi) (tG K mg ts) (tT K mt) (tE K me) vs σ H Q := by
  obtain ⟨ρ, M, O, π, pr, ρ', h, e, q⟩ := h
  unfold mComp at e
  split at e
  · rename_i ds ρ1 e1
    split at e
    · rename_i ok
      split at e
      · rename_i es ρ2 e2
        split at e
        · rename_i hz
          cases e
          refine ⟨ρ, M, O, π, ds, ρ1, h, e1, fun J H1 M1 x1 s1 src Dd hD => ?_⟩
          have hO : ¬ O Dd := fun z => s1.live Dd (s1.sub Dd z) hD
          refine cread (ea := []) hts src (alloc_tr_own s1 hD) (comp_start s1 hD vs) hO upd_same .nil (by have := fits_le hz; simpa using this) e2 fun H2 M2 acc x2 s2 hA hR => ?_
          obtain ⟨y1, y2, y3⟩ := comp_end s1 hD ok x2 s2 hA hR
          exact q _ H2 M2 (x1.trans y1) y2 y3
        · cases e
      · cases e
    · cases e
  · cases e
/-! two clauses -/
variable {mi1 : MI} {mg1 : MG} {mt1 : MT} {vs1 ts1 : List Nat}
def c2loop (mg : MG) (mt : MT) (mi1 : MI) (mg1 : MG) (mt1 : MT) (me : ME) (vs vs1 : List Nat) : List D → Fm → Option (List D × Fm)
  | [], ρ => some ([], ρ)
  | d :: ds, ρ => match mg d ρ with
    | some ρ1 => match mt ρ1 with
      | some (true, ρ2) => match mi1 ρ2 with
        | some (ds1, ρ3) => match cloop mg1 mt1 me vs1 ds1 (wipeA ρ3 vs1) with
          | some (es1, ρ4) => match c2loop mg mt mi1 mg1 mt1 me vs vs1 ds (wipeA ρ4 vs) with
            | some (es, ρ5) => some (es1 ++ es, ρ5)
            | none => none
          | none => none
        | none => none
      | some (false, ρ2) => c2loop mg mt mi1 mg1 mt1 me vs vs1 ds (wipeA ρ2 vs)
      | none => none
    | none => none
def mComp2 (mi : MI) (mg : MG) (mt : MT) (mi1 : MI) (mg1 : MG) (mt1 : MT) (me : ME) (vs vs1 : List Nat) : ME := fun ρ => match mi ρ with
  | some (ds, ρ1) => if vsOk ρ1 vs = true then match c2loop mg mt mi1 mg1 mt1 me vs vs1 ds (wipeA ρ1 vs) with
    | some (es, ρ2) => if fits es.length = true then some (.val (.own false es), restA ρ2 ρ1 vs) else none
    | none => none
    else none
  | none => none
theorem lc2_read {K : PySem.W.Frag} {mi : MI} (hts : ∀ i ∈ ts, i ∈ vs) (hts1 : ∀ i ∈ ts1, i ∈ vs1) (hv : ∀ i ∈ vs1, i ∈ vs) {σ : St} {H : Hp} {Q : VK} (h : tE K (mComp2 mi mg mt mi1 mg1 mt1 me vs vs1) σ H Q) :
    tLc2 (tI K mi) (tG K mg ts) (tT K mt) (tI K mi1) (tG K mg1 ts1) (tT K mt1) (tE K me) vs vs1 σ H Q := by
  obtain ⟨ρ, M, O, π, pr, ρ', h, e, q⟩ := h
  unfold mComp2 at e
  split at e
  · rename_i ds ρ1 e1
    split at e
    · rename_i ok
      split at e
      · rename_i es ρ2 e2
        split at e
        · rename_i hz
          cases e
          refine ⟨ρ, M, O, π, ds, ρ1, h, e1, fun J H1 M1 x1 s1 src Dd hD => ?_⟩
          have hO : ¬ O Dd := fun z => s1.live Dd (s1.sub Dd z) hD
          have less : ∀ a, O a → wth O Dd a := fun a q => .inl q
          have s := comp_start s1 hD vs
          have hMs : wth M1 Dd Dd := .inr rfl
          refine ⟨fun i m H => m = ds.length - i ∧ i ≤ ds.length ∧ ∃ ρb M acc' eb es', SR K H M (wth O Dd) π ρb (wipeA σ vs) ∧ Ext O (upd H1 Dd (.lst [])) (wth M1 Dd) H M ∧ H Dd = some (.lst acc') ∧ Reps K H M acc' eb ∧ c2loop mg mt mi1 mg1 mt1 me vs vs1 (ds.drop i) ρb = some (es', ρ2) ∧ es = eb ++ es',
            ⟨_, rfl, Nat.zero_le _, _, _, [], [], es, s, .refl (s.less less), upd_same, .nil, e2, rfl⟩, ?_⟩
          rintro i m H ⟨rfl, hi, ρb, M, acc', eb, es', sb, xb, hAb, hRb, eb', eq⟩
          have lb : Lat H1 M1 H M := Lat.trans (alloc_tr_own s1 hD) xb.tr
          by_cases hlt : i < ds.length
          · rw [List.drop_eq_getElem_cons hlt] at eb'
            have hd : ds[i]? = some ds[i] := List.getElem?_eq_getElem hlt
            refine .inr ⟨src.go H M lb i hlt, fun H' => ds.length - (i + 1) = ds.length - (i + 1) ∧ i + 1 ≤ ds.length ∧ ∃ ρb M acc' eb es', SR K H' M (wth O Dd) π ρb (wipeA σ vs) ∧ Ext O (upd H1 Dd (.lst [])) (wth M1 Dd) H' M ∧ H' Dd = some (.lst acc') ∧ Reps K H' M acc' eb ∧ c2loop mg mt mi1 mg1 mt1 me vs vs1 (ds.drop (i + 1)) ρb = some (es', ρ2) ∧ es = eb ++ es', fun H' w => ⟨_, by omega, w⟩, fun x H3 y => ?_⟩
            obtain ⟨s3, x3, r3⟩ := (src.yld H M lb i _ x H3 hd y).ok sb
            unfold c2loop at eb'
            split at eb'
            · rename_i ρ3 e3
              rw [wipe_eq]
              refine ⟨ρb, M, wth O Dd, π, _, ρ3, s3, r3, e3, fun σ4 s4 fr ln => ?_⟩
              have hw : wipeA σ4 vs = wipeA σ vs := wipeA_ext (fun j hj => by rw [fr j (fun z => hj (hts j z)), wipeA_out hj]) (by rw [ln, wipeA_len])
              refine ⟨by rw [wipe_eq]; exact hw, ?_⟩
              split at eb'
              · rename_i ρ4 e4
                refine ⟨ρ3, M, wth O Dd, π, true, ρ4, s4, e4, fun H5 M5 x5 s5 => iteT ?_⟩
                split at eb'
                · rename_i ds1 ρ5 e5
                  split at eb'
                  · rename_i es1 ρ6 e6
                    split at eb'
                    · rename_i es2 ρ7 e7
                      cases eb'
                      refine ⟨ρ4, M5, wth O Dd, π, ds1, ρ5, s5, e5, fun J1 H6 M6 x6 s6 src1 => ?_⟩
                      have xx : Ext (wth O Dd) H M H6 M6 := (x3.trans x5).trans x6
                      have hA6 : H6 Dd = some (.lst acc') := xx.keep Dd _ hAb (.inl (.inr rfl))
                      have hl : eb.length + es1.length ≤ sizeLine := by
                        have h1 := fits_le hz
                        have := congrArg List.length eq
                        rw [List.length_append, List.length_append] at this
                        omega
                      refine cread hts1 src1 (fun _ _ h n => ⟨h, n⟩) (s6.wipe vs1) hO hA6 (hRb.tr xx.tr) hl e6 fun H8 M8 acc8 x8 s8 hA8 hR8 => ?_
                      refine ⟨rfl, hlt, wipeA ρ6 vs, M8, acc8, eb ++ es1, es2, ?_, (xb.trans (xx.less less)).trans x8, hA8, hR8, e7, by rw [eq, List.append_assoc]⟩
                      have hw2 : wipeA (wipeA σ4 vs1) vs = wipeA σ vs := by
                        rw [← hw]
                        exact wipeA_ext (fun j hj => wipeA_out fun z => hj (hv j z)) (wipeA_len _ _)
                      rw [← hw2]
                      exact s8.wipe vs
                    · cases eb'
                  · cases eb'
                · cases eb'
              · rename_i ρ4 e4
                refine ⟨ρ3, M, wth O Dd, π, false, ρ4, s4, e4, fun H5 M5 x5 s5 => iteF ?_⟩
                have xx : Ext (wth O Dd) H M H5 M5 := x3.trans x5
                refine ⟨rfl, hlt, wipeA ρ4 vs, M5, acc', eb, es', ?_, xb.trans (xx.less less), xx.keep Dd _ hAb (.inl (.inr rfl)), hRb.tr xx.tr, eb', eq⟩
                rw [← hw]; exact s5.wipe vs
              · cases eb'
            · cases eb'
          · have ei : i = ds.length := by omega
            subst ei
            rw [List.drop_length] at eb'
            cases eb'
            rw [List.append_nil] at eq
            obtain ⟨y1, y2, y3⟩ := comp_end s1 hD ok xb sb hAb (by rw [← eq] at hRb; exact hRb)
            exact .inl ⟨src.stop H M lb, q _ H M (x1.trans y1) y2 y3⟩
        · cases e
      · cases e
    · cases e
  · cases e
end
section
variable {X : Cx} {elt tg iter tg1 iter1 : Expr} {ifs ifs1 : List Expr} {scope : Scope} {own : List (Str × Nat)} {pos : Pos} {mi mi1 : MI} {mg mg1 : MG} {mt mt1 : MT} {me : ME} {ts ts1 vs1 : List Nat}
def DTs (X : Cx) (es : List Expr) (m : MT) : Prop := PTs X es (tT X.K m)
def mYes : MT := fun ρ => some (true, ρ)
theorem dts_nil : DTs X [] mYes := ⟨fun pins s σ H Q I ⟨ρ, M, O, π, b, ρ', h, e, q⟩ => by
  cases e
  exact pts_nil.run pins s σ H Q I (q H M (.refl h) h)⟩
theorem dts_one {c : Expr} (h : DT X c mt) : DTs X [c] mt := pts_one h
/-- a block's context -/
abbrev Bk (X : Cx) (scope : Scope) (P : Cx → Prop) : Prop := ∀ (s : Shared) (H : Hp) (C : Addr) (cl : List (Str × Addr)) (fp : List Addr), P (X.blk s H scope (compEnvC scope cl C X.env) fp)
theorem de_lc (hc : X.calm = true) (hN : X.N.Nodup) (hi : DI X tg iter mi) (ok : BlkOk X.N X.env.scope scope own) (hg : Bk X scope fun Y => DG Y tg mg ts) (ht : Bk X scope fun Y => DTs Y ifs mt) (he : Bk X scope fun Y => DE Y elt me)
    (hts : ∀ i ∈ ts, i ∈ own.map (·.2)) (hs : ∀ x, foldedSetIterable iter X.env x = pure x := by intro _; rfl) : DE X (.ListComp elt [⟨tg, iter, ifs, 0⟩] scope pos) (mComp mi mg mt me (own.map (·.2))) :=
  PE.imp (pe_lc (wi := tI X.K mi) (g := tG X.K mg ts) (tt := tT X.K mt) (te := tE X.K me) hc hN hi ok hg ht he hs) fun σ H Q h => lc_read hts h
theorem ds_setLc {i : Nat} {y : Str} {py spos : Pos} (hc : X.calm = true) (hN : X.N.Nodup) (hy : X.N[i]? = some y) (hyl : X.env.scope.names.lookup y = some .local)
    (hsw : swapsWith (.ListComp elt [⟨tg, iter, ifs, 0⟩] scope pos) (some (.Name y py)) spos.line X.env = pure true) (hi : DI X tg iter mi) (ok : BlkOk X.N X.env.scope scope own) (hg : Bk X scope fun Y => DG Y tg mg ts) (ht : Bk X scope fun Y => DTs Y ifs mt) (he : Bk X scope fun Y => DE Y elt me)
    (hts : ∀ i ∈ ts, i ∈ own.map (·.2)) (hs : ∀ x, foldedSetIterable iter X.env x = pure x := by intro _; rfl) : DS X (.Assign [.Name y py] (.ListComp elt [⟨tg, iter, ifs, 0⟩] scope pos) spos) (mSet i (mComp mi mg mt me (own.map (·.2)))) :=
  PS.imp (ps_setLc (wi := tI X.K mi) (g := tG X.K mg ts) (tt := tT X.K mt) (te := tE X.K me) hc hN hy hyl hsw hi ok hg ht he hs) fun D σ H ⟨ρ, M, O, π, fl, ρ', h, e, q⟩ => by
    unfold mSet at e
    split at e
    · rename_i pr ρ1 e1
      split at e
      · rename_i ρ2 e2
        cases e
        refine lc_read (K := X.K) hts ⟨ρ, M, O, π, pr, ρ1, h, e1, fun v H1 M1 x1 s1 r1 => ?_⟩
        obtain ⟨M2, x2, s2⟩ := put_ok s1 r1 e2
        exact q _ H1 M2 (x1.trans x2) s2
      · cases e
    · cases e
theorem de_lc2 (hc : X.calm = true) (hN : X.N.Nodup) (hi : DI X tg iter mi) (ok : BlkOk X.N X.env.scope scope own) (hv : ∀ i ∈ vs1, i ∈ own.map (·.2)) (hg : Bk X scope fun Y => DG Y tg mg ts) (ht : Bk X scope fun Y => DTs Y ifs mt) (hi1 : Bk X scope fun Y => DI Y tg1 iter1 mi1) (hg1 : Bk X scope fun Y => DG Y tg1 mg1 ts1) (ht1 : Bk X scope fun Y => DTs Y ifs1 mt1) (he : Bk X scope fun Y => DE Y elt me)
    (hts : ∀ i ∈ ts, i ∈ own.map (·.2)) (hts1 : ∀ i ∈ ts1, i ∈ vs1) (hs : ∀ x, foldedSetIterable iter X.env x = pure x := by intro _; rfl) (hs1 : ∀ env x, foldedSetIterable iter1 env x = pure x := by intro _ _; rfl) :
    DE X (.ListComp elt [⟨tg, iter, ifs, 0⟩, ⟨tg1, iter1, ifs1, 0⟩] scope pos) (mComp2 mi mg mt mi1 mg1 mt1 me (own.map (·.2)) vs1) :=
  PE.imp (pe_lc2 (wi := tI X.K mi) (g := tG X.K mg ts) (tt := tT X.K mt) (wi1 := tI X.K mi1) (g1 := tG X.K mg1 ts1) (tt1 := tT X.K mt1) (te := tE X.K me) hc hN hi ok hv hg ht hi1 hg1 ht1 he hs hs1) fun σ H Q h => lc2_read hts hts1 hv h
theorem ds_setLc2 {i : Nat} {y : Str} {py spos : Pos} (hc : X.calm = true) (hN : X.N.Nodup) (hy : X.N[i]? = some y) (hyl : X.env.scope.names.lookup y = some .local)
    (hsw : swapsWith (.ListComp elt [⟨tg, iter, ifs, 0⟩, ⟨tg1, iter1, ifs1, 0⟩] scope pos) (some (.Name y py)) spos.line X.env = pure true) (hi : DI X tg iter mi) (ok : BlkOk X.N X.env.scope scope own) (hv : ∀ i ∈ vs1, i ∈ own.map (·.2)) (hg : Bk X scope fun Y => DG Y tg mg ts) (ht : Bk X scope fun Y => DTs Y ifs mt) (hi1 : Bk X scope fun Y => DI Y tg1 iter1 mi1) (hg1 : Bk X scope fun Y => DG Y tg1 mg1 ts1) (ht1 : Bk X scope fun Y => DTs Y ifs1 mt1) (he : Bk X scope fun Y => DE Y elt me)
    (hts : ∀ i ∈ ts, i ∈ own.map (·.2)) (hts1 : ∀ i ∈ ts1, i ∈ vs1) (hs : ∀ x, foldedSetIterable iter X.env x = pure x := by intro _; rfl) (hs1 : ∀ env x, foldedSetIterable iter1 env x = pure x := by intro _ _; rfl) :
    DS X (.Assign [.Name y py] (.ListComp elt [⟨tg, iter, ifs, 0⟩, ⟨tg1, iter1, ifs1, 0⟩] scope pos) spos) (mSet i (mComp2 mi mg mt mi1 mg1 mt1 me (own.map (·.2)) vs1)) :=
  PS.imp (ps_setLc2 (wi := tI X.K mi) (g := tG X.K mg ts) (tt := tT X.K mt) (wi1 := tI X.K mi1) (g1 := tG X.K mg1 ts1) (tt1 := tT X.K mt1) (te := tE X.K me) hc hN hy hyl hsw hi ok hv hg ht hi1 hg1 ht1 he hs hs1) fun D σ H ⟨ρ, M, O, π, fl, ρ', h, e, q⟩ => by
    unfold mSet at e
    split at e
    · rename_i pr ρ1 e1
      split at e
      · rename_i ρ2 e2
        cases e
        refine lc2_read (K := X.K) hts hts1 hv ⟨ρ, M, O, π, pr, ρ1, h, e1, fun v H1 M1 x1 s1 r1 => ?_⟩
        obtain ⟨M2, x2, s2⟩ := put_ok s1 r1 e2
        exact q _ H1 M2 (x1.trans x2) s2
      · cases e
    · cases e
end
end Vi

namespace Vi
open PySem PySem.Spec PyProof.Rows L2

/-! ### what a def does, over data -/
/-- the names' values, what is handed back and the lists that were handed in to be changed -/
abbrev Out := Sv × List (Option (List D))
abbrev Fn := List Sv → Option Out
def outsOf : List Sv → Fm → Option (List (Option (List D)))
  | [], _ => some []
  | .imm _ :: as, _ :: ρ => match outsOf as ρ with
    | some os => some (none :: os)
    | none => none
  | .own _ _ :: as, some (.own true ds) :: ρ => match outsOf as ρ with
    | some os => some (some ds :: os)
    | none => none
  | _, _ => none
def pinned : List Sv → Bool
  | [] => true
  | .imm _ :: as => pinned as
  | .own b _ :: as => b && pinned as
/-- nN: how many names, np: how many parameters -/
def mFn (nN np : Nat) (body : MS) : Fn := fun args =>
  if args.length = np then match body (args.map some ++ List.replicate (nN - np) none) with
    | some (.ret r, ρ) => match outsOf args ρ with
      | some os => some (r, os)
      | none => none
    | some (.next, ρ) => match outsOf args ρ with
      | some os => some (.imm .none, os)
      | none => none
    | _ => none
  else none
def OutR (K : PySem.W.Frag) (H : Hp) (M : Mset) (π : Nat → Option Addr) (os : List (Option (List D))) : Prop :=
  ∀ (i : Nat) (ds : List D), os[i]? = some (some ds) → ∃ a ws, π i = some a ∧ H a = some (.lst ws) ∧ M a ∧ Reps K H M ws ds
def RetR (K : PySem.W.Frag) (H : Hp) (M O : Mset) (π : Nat → Option Addr) (os : List (Option (List D))) : Sv → V → Prop
  | .imm d, v => Rep K H M v d
  | .own _ ds, v => ∃ p vs, v = .ref p ∧ H p = some (.lst vs) ∧ M p ∧ ¬ O p ∧ Reps K H M vs ds ∧ ∀ (i : Nat) (es : List D), os[i]? = some (some es) → π i ≠ some p
def spD (K : PySem.W.Frag) (n : Nat) (f : Fn) : Sp := fun vs H Q _ => ∃ M O π args r os, vs.length = n ∧ SR K H M O π (args.map some) (vs.map some) ∧ f args = some (r, os) ∧
  ∀ v H' M', (∀ a, M' a → H' a ≠ none) → Ext O H M H' M' → OutR K H' M' π os → RetR K H' M' O π os r v → Q v H'
theorem outs_len : ∀ {as : List Sv} {ρ : Fm} {os : List (Option (List D))}, outsOf as ρ = some os → os.length = as.length
  | [], _, _, e => by cases e; rfl
  | .imm _ :: as, [], _, e => by cases e
  | .imm d :: as, x :: ρ, os, e => by
    unfold outsOf at e
    split at e
    · rename_i o e1
      cases e
      rw [List.length_cons, List.length_cons, outs_len e1]
    · cases e
  | .own _ _ :: as, [], _, e => by cases e
  | .own _ _ :: as, none :: ρ, _, e => by cases e
  | .own _ _ :: as, some (.imm _) :: ρ, _, e => by cases e
  | .own _ _ :: as, some (.own false _) :: ρ, _, e => by cases e
  | .own _ _ :: as, some (.own true ds) :: ρ, os, e => by
    unfold outsOf at e
    split at e
    · rename_i o e1
      cases e
      rw [List.length_cons, List.length_cons, outs_len e1]
    · cases e
theorem outs_get : ∀ {as : List Sv} {ρ : Fm} {os : List (Option (List D))} {i : Nat} {ds : List D}, outsOf as ρ = some os → os[i]? = some (some ds) → ρ[i]? = some (some (.own true ds)) ∧ ∃ b es, as[i]? = some (.own b es)
  | [], _, _, _, _, e, h => by cases e; simp at h
  | .imm _ :: as, [], _, _, _, e, h => by cases e
  | .imm d :: as, x :: ρ, os, i, ds, e, h => by
    unfold outsOf at e
    split at e
    · rename_i o e1
      cases e
      cases i with
      | zero => simp at h
      | succ i =>
        obtain ⟨h1, h2⟩ := outs_get e1 (by simpa using h)
        exact ⟨by simpa using h1, by simpa using h2⟩
    · cases e
  | .own _ _ :: as, [], _, _, _, e, h => by cases e
  | .own _ _ :: as, none :: ρ, _, _, _, e, h => by cases e
  | .own _ _ :: as, some (.imm _) :: ρ, _, _, _, e, h => by cases e
  | .own _ _ :: as, some (.own false _) :: ρ, _, _, _, e, h => by cases e
  | .own b es :: as, some (.own true ds') :: ρ, os, i, ds, e, h => by
    unfold outsOf at e
    split at e
    · rename_i o e1
      cases e
      cases i with
      | zero =>
        simp at h
        subst h
        exact ⟨rfl, b, es, rfl⟩
      | succ i =>
        obtain ⟨h1, h2⟩ := outs_get e1 (by simpa using h)
        exact ⟨by simpa using h1, by simpa using h2⟩
    · cases e
/-- an own parameter is handed out -/
theorem outs_own : ∀ {as : List Sv} {ρ : Fm} {os : List (Option (List D))} {i : Nat} {b : Bool} {es : List D}, outsOf as ρ = some os → as[i]? = some (.own b es) → ∃ ds, os[i]? = some (some ds)
  | [], _, _, _, _, _, e, h => by simp at h
  | .imm _ :: as, [], _, _, _, _, e, h => by cases e
  | .imm d :: as, x :: ρ, os, i, _, _, e, h => by
    unfold outsOf at e
    split at e
    · rename_i o e1
      cases e
      cases i with
      | zero => simp at h
      | succ i => obtain ⟨ds, h1⟩ := outs_own e1 (by simpa using h); exact ⟨ds, by simpa using h1⟩
    · cases e
  | .own _ _ :: as, [], _, _, _, _, e, h => by cases e
  | .own _ _ :: as, none :: ρ, _, _, _, _, e, h => by cases e
  | .own _ _ :: as, some (.imm _) :: ρ, _, _, _, _, e, h => by cases e
  | .own _ _ :: as, some (.own false _) :: ρ, _, _, _, _, e, h => by cases e
  | .own b es :: as, some (.own true ds') :: ρ, os, i, _, _, e, h => by
    unfold outsOf at e
    split at e
    · rename_i o e1
      cases e
      cases i with
      | zero => exact ⟨ds', rfl⟩
      | succ i => obtain ⟨ds, h1⟩ := outs_own e1 (by simpa using h); exact ⟨ds, by simpa using h1⟩
    · cases e

section
variable {P : Program} {w : World} {K : PySem.W.Frag} {mg : Str → Option Value} {base : Heap}
theorem SR.pad {H : Hp} {M O : Mset} {π : Nat → Option Addr} {as : List Sv} {vs : List V} (h : SR K H M O π (as.map some) (vs.map some)) (n : Nat) : SR K H M O π (as.map some ++ List.replicate n none) (vs.map some ++ List.replicate n none) := by
  have len : as.length = vs.length := by have := h.len; simpa using this
  have get : ∀ {i : Nat} {s : Sv}, (as.map some ++ List.replicate n none)[i]? = some (some s) → (as.map some)[i]? = some (some s) ∧ i < vs.length := fun {i s} e => by
    by_cases hi : i < as.length
    · rw [List.getElem?_append_left (by simpa using hi)] at e
      exact ⟨e, by omega⟩
    · rw [List.getElem?_append_right (by simpa using hi), List.getElem?_replicate] at e
      split at e <;> cases e
  have up : ∀ {i : Nat}, i < vs.length → (vs.map some ++ List.replicate n none)[i]? = (vs.map some)[i]? := fun {i} hi => List.getElem?_append_left (by simpa using hi)
  refine ⟨by rw [List.length_append, List.length_append, h.len]; simp, h.sub, h.live, fun i d e => ?_, fun i b ds e => ?_, fun i j b c ds es a hij e f g => ?_⟩
  · obtain ⟨e1, hi⟩ := get e
    rw [up hi]; exact h.imm i d e1
  · obtain ⟨e1, hi⟩ := get e
    rw [up hi]; exact h.own i b ds e1
  · obtain ⟨e1, hi⟩ := get e
    obtain ⟨f1, hj⟩ := get f
    rw [up hi] at g
    rw [up hj]; exact h.uniq i j b c ds es a hij e1 f1 g
/-- THE RULE for a def -/
theorem fn_ok {x qual : Str} {st : Stmt} {f : Addr} {fd : FuncData} {N ps : List Str} {k : Nat} {body : MS} (F : Fun K x qual st f fd) (S : FnScope N ps (defScope st))
    (hb : ∀ (cdv : Value) (A : Around) (outer : List Env) (s : Shared) (H : Hp) (E : XK), Room k (A.deeper (envOfC qual (defScope st) s.heap.objs.size f cdv)) → DSs (cxOf CX0 P w K mg base N qual (defScope st) f cdv A outer s H E).nox (defBody st) body) :
    FnOk P w K mg base CX0 (k + 1) f fd ps (spD K ps.length (mFn N.length ps.length body)) := by
  refine F.ok S (fun vs H Q E h => ?_) (fun cdv A outer s H vs Q E hr h => ?_)
  · obtain ⟨M, O, π, args, r, os, hl, _⟩ := h
    exact hl
  · obtain ⟨M, O, π, args, r, os, hl, hs, e, q⟩ := h
    have hal : args.length = vs.length := by have := hs.len; simpa using this
    refine ⟨_, hb cdv A outer s H E hr, ?_⟩
    unfold mFn at e
    have start_eq : L2.start N vs = vs.map some ++ List.replicate (N.length - ps.length) none := by unfold L2.start; rw [hl]
    have fin : ∀ {σ' : St} {ρ' : Fm} {H' : Hp} {M' : Mset} {rr : Sv} {v : V}, Ext O H M H' M' → SR K H' M' O π ρ' σ' → RV K H' M' O ρ' σ' rr v → outsOf args ρ' = some os → rr = r → Q v H' := fun {σ' ρ' H' M' rr v} x s r1 eo er => by
      subst er
      refine q v H' M' s.live x (fun i ds ei => ?_) ?_
      · obtain ⟨e1, _⟩ := outs_get eo ei
        obtain ⟨a, ws, f1, f2, f3, f4, f5, f6⟩ := s.own i true ds e1
        exact ⟨a, ws, f6 rfl, f2, f3, f5⟩
      · cases rr with
        | imm d => exact r1
        | own b ds =>
          obtain ⟨p, ws, g1, g2, g3, g4, g5, g6⟩ := r1
          refine ⟨p, ws, g1, g2, g3, g4, g5, fun i es ei hp => ?_⟩
          obtain ⟨e1, _⟩ := outs_get eo ei
          obtain ⟨a, us, f1, f2, f3, f4, f5, f6⟩ := s.own i true es e1
          rw [f6 rfl] at hp; cases hp
          exact g6 i es e1 f1
    split at e
    · rename_i hn
      split at e
      · rename_i r' ρ' e1
        split at e
        · rename_i os' e2
          cases e
          refine ⟨_, M, O, π, .ret r, ρ', by rw [start_eq]; exact hs.pad _, e1, fun v σ' H' M' x s r1 => fin x s r1 e2 rfl⟩
        · cases e
      · rename_i ρ' e1
        split at e
        · rename_i os' e2
          cases e
          refine ⟨_, M, O, π, .next, ρ', by rw [start_eq]; exact hs.pad _, e1, fun σ' H' M' x s => fin (rr := .imm .none) x s .non e2 rfl⟩
        · cases e
      · cases e
    · cases e
end

/-! ### calls -/
/-- an argument: a value, or a name's own list that the callee may change -/
inductive AR where
  | v (d : D)
  | s (i : Nat)
abbrev MR := Fm → Option (List AR × Fm)
def ARep (K : PySem.W.Frag) (H : Hp) (M : Mset) (σ : St) : AR → V → Prop
  | .v d, v => Rep K H M v d
  | .s i, v => σ[i]? = some (some v)
abbrev AReps (K : PySem.W.Frag) (H : Hp) (M : Mset) (σ : St) : List V → List AR → Prop := Paired fun v a => ARep K H M σ a v
def tR (K : PySem.W.Frag) (m : MR) : TA := fun σ H Q => ∃ ρ M O π as ρ', SR K H M O π ρ σ ∧ m ρ = some (as, ρ') ∧ ∀ vs H' M', Ext O H M H' M' → SR K H' M' O π ρ' σ → AReps K H' M' σ vs as → Q vs H'
def DR (X : Cx) (es : List Expr) (m : MR) : Prop := PA X es (tR X.K m)
def rNil : MR := fun ρ => some ([], ρ)
def rVal (me : ME) (n : MR) : MR := fun ρ => match me ρ with
  | some (pr, ρ1) => match frz ρ1 pr with
    | some (d, ρ2) => match n ρ2 with
      | some (as, ρ3) => some (.v d :: as, ρ3)
      | none => none
    | none => none
  | none => none
def rSlot (i : Nat) (n : MR) : MR := fun ρ => match ρ[i]? with
  | some (some (.own _ _)) => match n ρ with
    | some (as, ρ3) => some (.s i :: as, ρ3)
    | none => none
  | _ => none
section
variable {X : Cx} {e : Expr} {es : List Expr} {me : ME} {n : MR}
theorem ARep.tr {K : PySem.W.Frag} {H H' : Hp} {M M' : Mset} {σ : St} {a : AR} {v : V} (l : Lat H M H' M') (r : ARep K H M σ a v) : ARep K H' M' σ a v := by
  cases a with
  | v d => exact Rep.tr l r
  | s i => exact r
theorem dr_nil : DR X [] rNil := PA.imp pa_nil fun σ H Q ⟨ρ, M, O, π, ds, ρ', h, e, q⟩ => by
  cases e
  exact q [] H M (.refl h) h .nil
theorem dr_val (he : DE X e me) (hes : DR X es n) (hs : starEach (e :: es) X.env = (false, eval e X.env) :: starEach es X.env := by rfl) : DR X (e :: es) (rVal me n) :=
  PA.imp (pa_cons he hes hs) fun σ H Q ⟨ρ, M, O, π, ds, ρ', h, e, q⟩ => by
    unfold rVal at e
    split at e
    · rename_i pr ρ1 e1
      split at e
      · rename_i d ρ2 e2
        split at e
        · rename_i as ρ3 e3
          cases e
          refine ⟨ρ, M, O, π, pr, ρ1, h, e1, fun v H1 M1 x1 s1 r1 => ?_⟩
          obtain ⟨M2, x2, s2, r2⟩ := frz_ok s1 r1 e2
          exact ⟨ρ2, M2, O, π, as, _, s2, e3, fun vs H3 M3 x3 s3 r3 => q (v :: vs) H3 M3 ((x1.trans x2).trans x3) s3 (.cons (r2.tr x3.tr) r3)⟩
        · cases e
      · cases e
    · cases e
theorem dr_slot {i : Nat} (he : PE X e (tVar i)) (hes : DR X es n) (hs : starEach (e :: es) X.env = (false, eval e X.env) :: starEach es X.env := by rfl) : DR X (e :: es) (rSlot i n) :=
  PA.imp (pa_cons he hes hs) fun σ H Q ⟨ρ, M, O, π, ds, ρ', h, e, q⟩ => by
    unfold rSlot at e
    split at e
    · rename_i b0 ds0 e0
      split at e
      · rename_i as ρ3 e3
        cases e
        obtain ⟨a, vs, f1, _⟩ := h.own i b0 ds0 e0
        exact ⟨_, f1, ρ, M, O, π, as, _, h, e3, fun vs H3 M3 x3 s3 r3 => q _ H3 M3 x3 s3 (.cons f1 r3)⟩
      · cases e
    · cases e
/-- the arguments as the callee sees them -/
def argsOf (ρ : Fm) : List AR → Option (List Sv)
  | [] => some []
  | .v d :: as => match argsOf ρ as with
    | some xs => some (.imm d :: xs)
    | none => none
  | .s i :: as => match ρ[i]? with
    | some (some (.own _ ds)) => match argsOf ρ as with
      | some xs => some (.own true ds :: xs)
      | none => none
    | _ => none
def slotsOf : List AR → List Nat
  | [] => []
  | .v _ :: as => slotsOf as
  | .s i :: as => i :: slotsOf as
def nodupB : List Nat → Bool
  | [] => true
  | i :: is => !is.contains i && nodupB is
/-- the callee's changes -/
def backTo (ρ : Fm) : List AR → List (Option (List D)) → Option Fm
  | [], [] => some ρ
  | .v _ :: as, _ :: os => backTo ρ as os
  | .s i :: as, some ds :: os => match ρ[i]? with
    | some (some (.own b _)) => backTo (ρ.set i (some (.own b ds))) as os
    | _ => none
  | _, _ => none
def mCall (f : Fn) (mr : MR) : ME := fun ρ => match mr ρ with
  | some (as, ρ1) => if nodupB (slotsOf as) = true then match argsOf ρ1 as with
    | some args => match f args with
      | some (r, os) => match backTo ρ1 as os with
        | some ρ2 => some (.val r, ρ2)
        | none => none
      | none => none
    | none => none
    else none
  | none => none
end
section
variable {K : PySem.W.Frag} {H H' : Hp} {M M' O : Mset} {π : Nat → Option Addr} {ρ ρ' : Fm} {σ : St} {as : List AR} {vs : List V} {args : List Sv} {os : List (Option (List D))}
theorem args_len : ∀ {as : List AR} {args : List Sv}, argsOf ρ as = some args → args.length = as.length
  | [], _, e => by cases e; rfl
  | .v d :: as, _, e => by
    unfold argsOf at e
    split at e
    · rename_i xs e1
      cases e; rw [List.length_cons, List.length_cons, args_len e1]
    · cases e
  | .s i :: as, _, e => by
    unfold argsOf at e
    split at e
    · split at e
      · rename_i xs e1
        cases e; rw [List.length_cons, List.length_cons, args_len e1]
      · cases e
    · cases e
theorem args_get : ∀ {as : List AR} {args : List Sv} {j : Nat} {s : Sv}, argsOf ρ as = some args → args[j]? = some s → (∃ d, as[j]? = some (.v d) ∧ s = .imm d) ∨ ∃ i b ds, as[j]? = some (.s i) ∧ ρ[i]? = some (some (.own b ds)) ∧ s = .own true ds
  | [], _, _, _, e, h => by cases e; simp at h
  | .v d :: as, _, j, s, e, h => by
    unfold argsOf at e
    split at e
    · rename_i xs e1
      cases e
      cases j with
      | zero => simp at h; exact .inl ⟨d, rfl, h.symm⟩
      | succ j => simpa using args_get e1 (by simpa using h)
    · cases e
  | .s i :: as, _, j, s, e, h => by
    unfold argsOf at e
    split at e
    · rename_i b ds hb
      split at e
      · rename_i xs e1
        cases e
        cases j with
        | zero => simp at h; exact .inr ⟨i, b, ds, rfl, hb, h.symm⟩
        | succ j => simpa using args_get e1 (by simpa using h)
      · cases e
    · cases e
theorem slots_mem : ∀ {as : List AR} {j i : Nat}, as[j]? = some (.s i) → i ∈ slotsOf as
  | [], _, _, h => by simp at h
  | .v _ :: as, 0, _, h => by simp at h
  | .v _ :: as, j + 1, i, h => slots_mem (as := as) (j := j) (by simpa using h)
  | .s k :: as, 0, i, h => by simp at h; subst h; exact List.mem_cons_self ..
  | .s k :: as, j + 1, i, h => List.mem_cons_of_mem _ (slots_mem (as := as) (j := j) (by simpa using h))
theorem slots_at : ∀ {as : List AR} {i : Nat}, i ∈ slotsOf as → ∃ (j : Nat), as[j]? = some (AR.s i)
  | [], _, h => by cases h
  | .v _ :: as, i, h => by obtain ⟨j, e⟩ := slots_at (as := as) h; exact ⟨j + 1, by simpa using e⟩
  | .s k :: as, i, h => by
    rcases List.mem_cons.mp h with rfl | h
    · exact ⟨0, rfl⟩
    · obtain ⟨j, e⟩ := slots_at (as := as) h; exact ⟨j + 1, by simpa using e⟩
theorem slots_inj : ∀ {as : List AR} {j k i : Nat}, nodupB (slotsOf as) = true → as[j]? = some (.s i) → as[k]? = some (.s i) → j = k
  | [], _, _, _, _, h, _ => by simp at h
  | .v _ :: as, 0, _, _, _, h, _ => by simp at h
  | .v _ :: as, _ + 1, 0, _, _, _, h => by simp at h
  | .v _ :: as, j + 1, k + 1, i, n, h, g => by rw [slots_inj (as := as) (j := j) (k := k) n (by simpa using h) (by simpa using g)]
  | .s m :: as, 0, 0, _, _, _, _ => rfl
  | .s m :: as, 0, k + 1, i, n, h, g => by
    simp at h; subst h
    have : m ∈ slotsOf as := slots_mem (j := k) (by simpa using g)
    unfold slotsOf nodupB at n
    rw [Bool.and_eq_true] at n
    simp [this] at n
  | .s m :: as, j + 1, 0, i, n, h, g => by
    simp at g; subst g
    have : m ∈ slotsOf as := slots_mem (j := j) (by simpa using h)
    unfold slotsOf nodupB at n
    rw [Bool.and_eq_true] at n
    simp [this] at n
  | .s m :: as, j + 1, k + 1, i, n, h, g => by
    unfold slotsOf nodupB at n
    rw [Bool.and_eq_true] at n
    rw [slots_inj (as := as) (j := j) (k := k) n.2 (by simpa using h) (by simpa using g)]
theorem paired_get {α β : Type} {F : α → β → Prop} : ∀ {xs : List α} {ys : List β} {i : Nat} {y : β}, Paired F xs ys → ys[i]? = some y → ∃ x, xs[i]? = some x ∧ F x y
  | _, _, _, _, .nil, e => by simp at e
  | _, _, 0, y, .cons r _, e => by simp at e; subst e; exact ⟨_, rfl, r⟩
  | _, _, i + 1, y, .cons _ t, e => by
    obtain ⟨x, h1, h2⟩ := paired_get (i := i) t (by simpa using e)
    exact ⟨x, by simpa using h1, h2⟩
/-- what the callee may not touch -/
def calO (M : Mset) (σ : St) (is : List Nat) : Mset := fun a => M a ∧ ∀ i ∈ is, σ[i]? ≠ some (some (.ref a))
def calP (vs : List V) : Nat → Option Addr := fun j => match vs[j]? with
  | some (.ref a) => some a
  | _ => none
theorem call_start (h : SR K H M O π ρ σ) (r : AReps K H M σ vs as) (n : nodupB (slotsOf as) = true) (e : argsOf ρ as = some args) : SR K H M (calO M σ (slotsOf as)) (calP vs) (args.map some) (vs.map some) := by
  have hl : args.length = vs.length := by rw [args_len e]; exact (Paired.length r).symm
  have get : ∀ {j : Nat} {s : Sv}, (args.map some)[j]? = some (some s) → args[j]? = some s := fun {j s} q => by
    rw [List.getElem?_map] at q
    obtain ⟨x, h1, h2⟩ := Option.map_eq_some_iff.mp q
    cases h2; exact h1
  have own : ∀ {j : Nat} {c : Bool} {ds : List D}, (args.map some)[j]? = some (some (.own c ds)) → ∃ i b a ws, as[j]? = some (.s i) ∧ ρ[i]? = some (some (.own b ds)) ∧ c = true ∧ vs[j]? = some (.ref a) ∧ σ[i]? = some (some (.ref a)) ∧ H a = some (.lst ws) ∧ M a ∧ ¬ O a ∧ Reps K H M ws ds := fun {j c ds} q => by
    rcases args_get e (get q) with ⟨d, _, z⟩ | ⟨i, b, ds', e1, e2, z⟩
    · cases z
    · cases z
      obtain ⟨v, e3, e4⟩ := paired_get r e1
      obtain ⟨a, ws, f1, f2, f3, f4, f5, _⟩ := h.own i b ds e2
      have e4' : σ[i]? = some (some v) := e4
      rw [f1] at e4'; cases e4'
      exact ⟨i, b, a, ws, e1, e2, rfl, e3, f1, f2, f3, f4, f5⟩
  have up : ∀ {j : Nat} {v : V}, vs[j]? = some v → (vs.map some)[j]? = some (some v) := fun q => by rw [List.getElem?_map, q]; rfl
  refine ⟨by rw [List.length_map, List.length_map, hl], fun a q => q.1, h.live, fun j d q => ?_, fun j c ds q => ?_, fun j k c c' ds es a hjk q q2 q3 q4 => ?_⟩
  · rcases args_get e (get q) with ⟨d', e1, z⟩ | ⟨i, b, ds', e1, e2, z⟩
    · cases z
      obtain ⟨v, e3, e4⟩ := paired_get r e1
      exact ⟨v, up e3, e4⟩
    · cases z
  · obtain ⟨i, b, a, ws, e1, e2, e3, e4, f1, f2, f3, f4, f5⟩ := own q
    refine ⟨a, ws, up e4, f2, f3, fun z => z.2 i (slots_mem e1) f1, f5, fun _ => ?_⟩
    unfold calP
    rw [e4]
  · obtain ⟨i, b, a1, ws, e1, e2, e3, e4, f1, f2, f3, f4, f5⟩ := own q
    obtain ⟨i', b', a2, ws', e1', e2', e3', e4', f1', f2', f3', f4', f5'⟩ := own q2
    rw [up e4] at q3; cases q3
    rw [up e4'] at q4; cases q4
    have hi : i ≠ i' := fun z => by
      subst z
      exact hjk (slots_inj n e1 e1')
    exact h.uniq i i' b b' ds es a hi e2 e2' f1 f1'
/-- the names behind the callee's changes -/
theorem back_get : ∀ {as : List AR} {os : List (Option (List D))} {ρ ρ' : Fm}, nodupB (slotsOf as) = true → backTo ρ as os = some ρ' → ρ'.length = ρ.length ∧ (∀ (i : Nat), i ∉ slotsOf as → ρ'[i]? = ρ[i]?) ∧
    ∀ (i : Nat), i ∈ slotsOf as → ∃ (j : Nat) (b : Bool) (ds es : List D), as[j]? = some (AR.s i) ∧ os[j]? = some (some ds) ∧ ρ[i]? = some (some (.own b es)) ∧ ρ'[i]? = some (some (.own b ds))
  | [], [], ρ, ρ', _, e => by
    cases e
    exact ⟨rfl, fun _ _ => rfl, fun i hi => by cases hi⟩
  | [], _ :: _, _, _, _, e => by cases e
  | .v _ :: as, [], _, _, _, e => by cases e
  | .v _ :: as, o :: os, ρ, ρ', n, e => by
    obtain ⟨h1, h2, h3⟩ := back_get (as := as) (os := os) n e
    refine ⟨h1, h2, fun i hi => ?_⟩
    obtain ⟨j, b, ds, es, g1, g2, g3, g4⟩ := h3 i hi
    exact ⟨j + 1, b, ds, es, by simpa using g1, by simpa using g2, g3, g4⟩
  | .s _ :: as, [], _, _, _, e => by cases e
  | .s _ :: as, none :: os, _, _, _, e => by cases e
  | .s m :: as, some ds :: os, ρ, ρ', n, e => by
    unfold backTo at e
    split at e
    · rename_i b es hb
      unfold slotsOf nodupB at n
      rw [Bool.and_eq_true] at n
      have nm : m ∉ slotsOf as := fun z => by have := n.1; simp [z] at this
      obtain ⟨h1, h2, h3⟩ := back_get (as := as) (os := os) n.2 e
      refine ⟨by rw [h1, List.length_set], fun i hi => ?_, fun i hi => ?_⟩
      · unfold slotsOf at hi
        rw [List.mem_cons, not_or] at hi
        rw [h2 i hi.2, List.getElem?_set_ne (Ne.symm hi.1)]
      · unfold slotsOf at hi
        rcases List.mem_cons.mp hi with rfl | hi
        · exact ⟨0, b, ds, es, rfl, rfl, hb, by rw [h2 i nm]; exact get_set_same hb⟩
        · obtain ⟨j, b', ds', es', g1, g2, g3, g4⟩ := h3 i hi
          have hne : i ≠ m := fun z => nm (z ▸ hi)
          rw [List.getElem?_set_ne (Ne.symm hne)] at g3
          exact ⟨j + 1, b', ds', es', by simpa using g1, by simpa using g2, g3, g4⟩
    · cases e
theorem call_end (h : SR K H M O π ρ σ) (r : AReps K H M σ vs as) (n : nodupB (slotsOf as) = true) (eb : backTo ρ as os = some ρ') (lv : ∀ a, M' a → H' a ≠ none) (x : Ext (calO M σ (slotsOf as)) H M H' M') (ho : OutR K H' M' (calP vs) os) :
    Ext O H M H' M' ∧ SR K H' M' O π ρ' σ := by
  obtain ⟨b1, b2, b3⟩ := back_get n eb
  have sub : ∀ a, O a → calO M σ (slotsOf as) a := fun a q => ⟨h.sub a q, fun i hi z => by
    obtain ⟨j, b, ds, es, g1, g2, g3, g4⟩ := b3 i hi
    obtain ⟨a', ws, f1, f2, f3, f4, _⟩ := h.own i b es g3
    rw [z] at f1; cases f1
    exact f4 q⟩
  have same : ∀ {i : Nat} {s : Sv}, ρ'[i]? = some (some s) → i ∉ slotsOf as → ρ[i]? = some (some s) := fun e hi => by rw [b2 _ hi] at e; exact e
  have ow : ∀ {i : Nat} {b : Bool} {ds : List D}, ρ'[i]? = some (some (.own b ds)) → ∃ es, ρ[i]? = some (some (.own b es)) := fun {i b ds} e => by
    by_cases hi : i ∈ slotsOf as
    · obtain ⟨j, b', ds', es, g1, g2, g3, g4⟩ := b3 i hi
      rw [e] at g4; cases g4
      exact ⟨es, g3⟩
    · exact ⟨ds, same e hi⟩
  refine ⟨x.less sub, ⟨by rw [b1]; exact h.len, fun a q => x.sub a (sub a q), lv, fun i d e => ?_, fun i b ds e => ?_, fun i j b c ds es a hij e f g => ?_⟩⟩
  · by_cases hi : i ∈ slotsOf as
    · obtain ⟨j, b', ds', es, g1, g2, g3, g4⟩ := b3 i hi
      rw [e] at g4; cases g4
    · obtain ⟨v, e1, rr⟩ := h.imm i d (same e hi)
      exact ⟨v, e1, rr.tr x.tr⟩
  · by_cases hi : i ∈ slotsOf as
    · obtain ⟨j, b', ds', es, g1, g2, g3, g4⟩ := b3 i hi
      rw [e] at g4; cases g4
      obtain ⟨a, ws, f1, f2, f3, f4, f5, f6⟩ := h.own i b es g3
      obtain ⟨v, e3, e4⟩ := paired_get r g1
      have e4' : σ[i]? = some (some v) := e4
      rw [f1] at e4'; cases e4'
      obtain ⟨a', us, p1, p2, p3, p4⟩ := ho j ds g2
      unfold calP at p1
      rw [e3] at p1
      cases p1
      exact ⟨a, us, f1, p2, p3, f4, p4, f6⟩
    · have e0 := same e hi
      obtain ⟨a, ws, f1, f2, f3, f4, f5, f6⟩ := h.own i b ds e0
      have ha : calO M σ (slotsOf as) a := ⟨f3, fun k hk z => by
        obtain ⟨j, b', ds', es, g1, g2, g3, g4⟩ := b3 k hk
        exact h.uniq i k _ _ _ _ a (fun q => hi (q ▸ hk)) e0 g3 f1 z⟩
      exact ⟨a, ws, f1, x.keep a _ f2 (.inl ha), x.sub a ha, f4, f5.tr x.tr, f6⟩
  · obtain ⟨ds', e1⟩ := ow e
    obtain ⟨es', f1⟩ := ow f
    exact h.uniq i j b c ds' es' a hij e1 f1 g
/-- what comes back -/
theorem call_ret {rr : Sv} {v : V} (h : SR K H M O π ρ σ) (r : AReps K H M σ vs as) (n : nodupB (slotsOf as) = true) (eb : backTo ρ as os = some ρ') (x : Ext (calO M σ (slotsOf as)) H M H' M') (ho : OutR K H' M' (calP vs) os) (q : RetR K H' M' (calO M σ (slotsOf as)) (calP vs) os rr v) :
    RP K H' M' O ρ' σ (.val rr) v := by
  cases rr with
  | imm d => exact q
  | own b0 ds0 =>
    obtain ⟨p, ws, e1, e2, e3, e4, e5, e6⟩ := q
    obtain ⟨b1, b2, b3⟩ := back_get n eb
    refine ⟨p, ws, e1, e2, e3, fun z => e4 ⟨h.sub p z, fun i hi y => ?_⟩, e5, fun i b ds e y => ?_⟩
    · obtain ⟨j, b, ds, es, g1, g2, g3, g4⟩ := b3 i hi
      obtain ⟨a', ws', f1, f2, f3, f4, _⟩ := h.own i b es g3
      rw [y] at f1; cases f1
      exact f4 z
    · by_cases hi : i ∈ slotsOf as
      · obtain ⟨j, b', ds', es, g1, g2, g3, g4⟩ := b3 i hi
        obtain ⟨v', e7, e8⟩ := paired_get r g1
        have e8' : σ[i]? = some (some v') := e8
        rw [y] at e8'; cases e8'
        exact e6 j ds' g2 (by unfold calP; rw [e7])
      · rw [b2 i hi] at e
        obtain ⟨a, us, f1, f2, f3, f4, f5, f6⟩ := h.own i b ds e
        rw [y] at f1; cases f1
        exact e4 ⟨f3, fun k hk z => by
          obtain ⟨j, b', ds', es, g1, g2, g3, g4⟩ := b3 k hk
          exact h.uniq i k _ _ _ _ p (fun q => hi (q ▸ hk)) e g3 y z⟩
end
section
variable {X : Cx} {e : Expr} {es : List Expr} {me : ME} {mr : MR} {k np : Nat} {f : Addr} {fd : FuncData} {ps : List Str} {g : Fn} {x : Str} {p pos : Pos}
theorem tR_call {σ : St} {H : Hp} {Q : VK} (hn : ∀ ρ as ρ', mr ρ = some (as, ρ') → as.length = np) (h : tE X.K (mCall g mr) σ H Q) : tR X.K mr σ H fun vs H1 => spD X.K np g vs H1 Q E0 := by
  obtain ⟨ρ, M, O, π, pr, ρ', h, e, q⟩ := h
  unfold mCall at e
  split at e
  · rename_i as ρ1 e1
    split at e
    · rename_i n
      split at e
      · rename_i args e2
        split at e
        · rename_i r os e3
          split at e
          · rename_i ρ2 e4
            cases e
            refine ⟨ρ, M, O, π, as, ρ1, h, e1, fun vs H1 M1 x1 s1 r1 => ?_⟩
            refine ⟨M1, _, _, args, r, os, by rw [Paired.length r1]; exact hn _ _ _ e1, call_start s1 r1 n e2, e3, fun v H2 M2 lv x2 ho rr => ?_⟩
            obtain ⟨x3, s3⟩ := call_end s1 r1 n e4 lv x2 ho
            exact q v H2 M2 (x1.trans x3) s3 (call_ret s1 r1 n e4 x2 ho rr)
          · cases e
        · cases e
      · cases e
    · cases e
  · cases e
/-- f(e, ..) -/
theorem de_call (F : FnOk X.prog X.w X.K X.mg X.base CX0 k f fd ps (spD X.K ps.length g)) (hr : Room k X.A) (hg : Gl X x) (hm : X.mg x = some (.ref f)) (hk : PySem.W.keepIn X.K (.ref f) = true) (hb : Binds X.K fd ps [])
    (ha : DR X (e :: es) mr) (hn : ∀ ρ as ρ', mr ρ = some (as, ρ') → as.length = ps.length) (hdb : (x == ("__debug__" : Str)) = false := by decide) (he : starEach (e :: es) X.env = (false, eval e X.env) :: starEach es X.env := by rfl) (hpl : (PySem.backTo pos (starEach es X.env)).any (·.1) = false := by rfl) :
    DE X (.Call (.Name x p) (e :: es) [] pos) (mCall g mr) :=
  PE.imp (pe_call F hr hg hm hk hb .nil pass0 ha hdb he hpl) fun σ H Q h => by
    have := tR_call (X := X) hn h
    obtain ⟨ρ, M, O, π, as, ρ', h, e, q⟩ := this
    exact ⟨ρ, M, O, π, as, ρ', h, e, fun vs H' M' x s r => by show spD X.K ps.length g (vs ++ []) H' Q E0; rw [List.append_nil]; exact q vs H' M' x s r⟩
theorem de_call0 (F : FnOk X.prog X.w X.K X.mg X.base CX0 k f fd [] (spD X.K 0 g)) (hr : Room k X.A) (hg : Gl X x) (hm : X.mg x = some (.ref f)) (hk : PySem.W.keepIn X.K (.ref f) = true) (hb : Binds X.K fd [] []) (hdb : (x == ("__debug__" : Str)) = false := by decide) :
    DE X (.Call (.Name x p) [] [] pos) (mCall g rNil) :=
  PE.imp (pe_call0 (dvs := []) F hr hg hm hk hb .nil pass0 hdb) fun σ H Q h => by
    obtain ⟨ρ, M, O, π, as, ρ', h, e, q⟩ := tR_call (X := X) (np := 0) (fun ρ as ρ' e => by cases e; rfl) h
    cases e
    exact q [] H M (.refl h) h .nil
end
end Vi

namespace PySem
open Sem (wp)
open AutoSeq1 (wpAny_loadPart')
theorem vi_meets_enumerate_newT (l : Addr) (items : Array Value) (n : Nat) (dct : Option Addr) (sl : Array (Option Value)) :
    Meets (Builtin.«enumerate.__new__» ⟨[.type "enumerate", .ref l], []⟩) (fun _ R s => s.heap.get? l = some { cls := .type "tuple", dict := dct, data := .seq items n, slots := sl } ∧
      R (.ok (.ret (.ref (s.heap.push { cls := .type "tuple_iterator", data := .fields #[.ref l, .int 0 0] }).objs.size)))
        { s with heap := (s.heap.push { cls := .type "tuple_iterator", data := .fields #[.ref l, .int 0 0] }).push { cls := .type "enumerate", data := .fields #[.none, .bool false, .ref s.heap.objs.size, rawInt 0, .none, .none] } }) :=
  .of_wp fun prog w A R s h => by
    obtain ⟨hp, g, d, tk, os⟩ := s; obtain ⟨hl, h⟩ := h
    have hsub := sub_enumerate
    have hL : Heap.IsTuple (Shared.heap ⟨hp, g, d, tk, os⟩) l items := ⟨_, hl, rfl, n, rfl⟩
    wp_walk using wpAny_loadPart' hl
    refine wpAny_stack_any fun st => wpAny_pure ?_
    split
    · rename_i c _ _ _ _ _
      cases (c == Value.type "enumerate")
      · wp_walk using wpAny_loadPart' hl, wpAny_pyIter_tuple hL
        exact ⟨_, rfl, h⟩
      · wp_walk using wpAny_loadPart' hl, wpAny_pyIter_tuple hL
        exact ⟨_, rfl, h⟩
    · wp_walk using wpAny_loadPart' hl, wpAny_pyIter_tuple hL
      exact ⟨_, rfl, h⟩
theorem vi_call_enumerate_tuple {prog : Program} {w : World} {A : Around} {E : Value → Shared → Prop} {s : Shared} {l : Addr} {items : Array Value} {Q : Value → Shared → Prop} (hL : s.heap.IsTuple l items)
    (h : ∀ h', IsEnum h' (s.heap.objs.size + 1) s.heap.objs.size 0 .none → h'.IsTupleIter s.heap.objs.size l 0 → h'.objs.size = s.heap.objs.size + 2 →
      (∀ b o, s.heap.get? b = some o → h'.get? b = some o) → Q (.ref (s.heap.objs.size + 1)) { s with heap := h' }) :
    wpAny (model prog w) A (call (.type "enumerate") [.ref l]) Q E s := by
  obtain ⟨⟨c, dct, dt, sl⟩, hl, hc, n, hd⟩ := hL
  replace hc : c = .type "tuple" := hc
  replace hd : dt = .seq items n := hd
  subst hc hd
  refine callType_new F.called_enumerate (by decide) (F.typeCall_enumerate_1 _) (F.newCall_enumerate_1 _) (fun obj => F.args_object_init_2 obj _) F.entry_enumerate_new
    (vi_meets_enumerate_newT l items n dct sl) ⟨hl, ?_⟩
  have hz : (s.heap.push { cls := .type "tuple_iterator", data := .fields #[.ref l, .int 0 0] }).objs.size = s.heap.objs.size + 1 := Heap.size_push ..
  show _ ∧ _
  rw [hz]
  have he : IsEnum ((s.heap.push { cls := .type "tuple_iterator", data := .fields #[.ref l, .int 0 0] }).push
      { cls := .type "enumerate", data := .fields #[.none, .bool false, .ref s.heap.objs.size, rawInt 0, .none, .none] }) (s.heap.objs.size + 1) s.heap.objs.size 0 .none := by
    have := Heap.get?_push_size (s.heap.push { cls := .type "tuple_iterator", data := .fields #[.ref l, .int 0 0] })
      (o := { cls := .type "enumerate", data := .fields #[.none, .bool false, .ref s.heap.objs.size, rawInt 0, .none, .none] }) rfl
    rw [hz] at this; exact this
  refine ⟨⟨_, he, rfl⟩, h _ he ⟨_, Heap.get?_push_of_some _ (Heap.get?_push_size _ rfl), rfl, rfl⟩ (by rw [Heap.size_push, hz]) fun b o x => Heap.get?_push_of_some _ (Heap.get?_push_of_some _ x)⟩
end PySem
namespace Vi
open PySem PySem.Spec PyProof.Rows L2
/-! ### enumerate of a tuple -/
def IteT (K : PySem.W.Frag) (a : Addr) : It :=
  ⟨fun i H => ∃ (xs : List V) (x : V), SqT K H a xs ∧ xs[i]? = some x, fun i H v H' => ∃ T x, v = .ref T ∧ H T = none ∧ H' = upd H T (.tup [.int (i : Nat), x]) ∧ ∀ xs, SqT K H a xs → xs[i]? = some x, fun i H => ∃ xs : List V, SqT K H a xs ∧ xs.length ≤ i⟩
theorem turn_enumT {P : Program} {w : World} {K : PySem.W.Frag} {elts : List Expr} {kk : Nat} {tpos : Pos} (a e it : Addr) (hai : a ≠ it) (hae : a ≠ e) :
    Turn P w K (.Tuple elts kk tpos) (IteT K a) [e, it] e (fun i h => (∃ old, IsEnum h e it ((i : Nat) : Int) old) ∧ h.IsTupleIter it a i ∧ e ≠ it) where
  mem := by simp
  obj := fun i h st b hb => by
    obtain ⟨⟨old, he⟩, ⟨o, ho, hc, hd⟩, _⟩ := st
    have e' : b = e ∨ b = it := by simpa using hb
    rcases e' with z | z
    · rw [z]; exact ⟨_, he, fun v q => nomatch q⟩
    · rw [z]; exact ⟨o, ho, fun v q => by rw [hd] at q; cases q⟩
  keep := fun i h h' st k => let ⟨⟨old, he⟩, hi, hne⟩ := st; ⟨⟨old, k e (by simp) _ he⟩, hi.at fun o q => k it (by simp) o q, hne⟩
  item := by
    intro X hP hw hK hc i pins s σ H E I hf st hg
    subst hP hw hK
    obtain ⟨⟨old, he⟩, hit, hne⟩ := st
    obtain ⟨xs, x, hq, hx⟩ := hg
    obtain ⟨its, rv, p, hz⟩ := I.tuple hq
    obtain ⟨u, hu, ru⟩ := rv.get hx
    have hel : e < s.heap.objs.size := Heap.lt_size he
    have hil : it < s.heap.objs.size := by obtain ⟨_, q, _⟩ := hit; exact Heap.lt_size q
    have hlt : i < its.toArray.size := by simpa using (List.getElem?_eq_some_iff.mp hu).1
    refine wpAny_pyNext_enum_itemD (Draws.tuple (A := X.A.in1) (I.ok.hd hc) it a hai its.toArray) he ⟨hit, p⟩ hlt hne (by simp; exact ⟨hne, fun z => hae z.symm⟩) fun y h' tk py ho ⟨hit', _⟩ hT hsz hk => ?_
    have ey : y = u := by
      have h1 : its.toArray[i]? = some y := py
      have h2 : its.toArray[i]? = some u := by simpa using hu
      rw [h2] at h1; exact (Option.some.inj h1).symm
    subst ey
    refine ⟨_, rfl, wpAny_letOwnedTupleGo_enum (s := { s with heap := h', toks := tk + 1 }) ho fun h'' he' sb => ?_⟩
    have hT2 : h''.get? s.heap.objs.size = some { cls := .type "tuple", data := .seq #[.int i tk, y] } := (sb.2 _ (Nat.ne_of_gt hel)).trans hT
    have new : ObjOk X.prog X.w (upd H s.heap.objs.size (.tup [.int (i : Nat), x])) h'' s.heap.objs.size (.tup [.int (i : Nat), x]) :=
      ⟨by show 2 ≤ sizeLine; decide, [.int i tk, y], .cons ⟨_, rfl⟩ (.cons ru .nil), ⟨_, hT2, rfl, _, rfl⟩⟩
    have I1 : Inv X pins σ (upd H s.heap.objs.size (.tup [.int (i : Nat), x])) { s with heap := h'', toks := tk + 1 } :=
      I.turnedNew (ch := [e, it]) (fun b ob hb q => (sb.2 b (fun z => hb (by simp [z]))).trans (hk b ob (fun z => hb (by simp [z])) (fun z => hb (by simp [z])) q)) hf (Nat.le_refl _) new
    refine ⟨.ref s.heap.objs.size, _, I1, rfl, ⟨_, x, rfl, I.hok.fresh (Nat.le_refl _), rfl, fun ys hy => by rw [I.tuple_inj hy hq]; exact hx⟩, ⟨⟨y, ?_⟩, hit'.at fun o q => (sb.2 it (Ne.symm hne)).trans q, hne⟩, fun b hb => ?_⟩
    · have e1 : ((i + 1 : Nat) : Int) = (i : Int) + 1 := by omega
      rw [e1]; exact he'
    · have hb' : b < s.heap.objs.size := by
        have e' : b = e ∨ b = it := by simpa using hb
        rcases e' with z | z
        · rw [z]; exact hel
        · rw [z]; exact hil
      rw [upd_ne (Nat.ne_of_lt hb')]
      exact (hf b hb).1
  done := by
    intro X hP hw hK hc i pins s σ H E I hf st hg
    subst hP hw hK
    obtain ⟨⟨old, he⟩, hit, hne⟩ := st
    obtain ⟨xs, hq, hx⟩ := hg
    obtain ⟨its, rv, p, hz⟩ := I.tuple hq
    obtain ⟨f0, f1, f2, f3, f4, f5⟩ := hf it (by simp)
    have hl := rv.length
    have hT : s.TypeIs (.ref e) "enumerate" := ⟨_, he, rfl⟩
    unfold pyNext
    refine wpAny_bind (wpAny_attempt (wpAny_callSpecial?_slot (name := Str.ofString "__next__") hT F.slot_enumerate_next
      (wpAny_call_entry F.slot_enumerate_next hT F.entry_enumerate_next ?_ (F.args_enumerate_next_1 _))))
    show wpAny _ _ (field (.ref e) 2 >>= _) _ _ _
    refine wpAny_bind (wpAny_field he rfl (x := .ref it) rfl ?_)
    refine wpAny_bind (wpAny_nextOf_tuple_end (I.ok.hd hc) hit p (by simp; omega) fun h' x he' hx' => ?_)
    obtain ⟨o, ho, hc⟩ := hx'
    refine wpAny_bind (wpAny_isInstance (T := "StopIteration") (b := true) ⟨o, ho, hc⟩ isSubtype_stop ?_)
    exact wpAny_pure ⟨rfl, I.turned (t' := s.toks) (fun b o hb q => he' b o hb q) f0 f1 f3 f4 f5⟩
  self := fun A i s Q E st h => let ⟨⟨_, he⟩, _⟩ := st; wpAny_pyIter_enum he h
section
variable {X : Cx}
def iEnumA (K : PySem.W.Frag) (ta : TA) : TI := fun σ H R => ta σ H fun vs H1 => ∃ a xs, vs = [.ref a] ∧ ((SqL K H1 a xs ∧ R (Ite K a) H1) ∨ (SqT K H1 a xs ∧ R (IteT K a) H1))
theorem pi_enumA {e : Expr} {ta : TA} {p pos tpos : Pos} {elts : List Expr} {kk : Nat} (hg : Gl X "enumerate") (hm : X.mg "enumerate" = none) (ha : PA X [e] ta) (hs : starEach [e] X.env = [(false, eval e X.env)] := by rfl) :
    PI X (.Tuple elts kk tpos) (.Call (.Name "enumerate" p) [e] [] pos) (iEnumA X.K ta) := by
  refine ⟨fun pins s σ H R I h => ?_⟩
  refine Call_ (ld_blt I hg hm boot_enumerate (PyProof.Rows.callWith_type1 (thn (ha.run pos pins s σ H _ I h) fun us s1 ⟨vs, H1, I1, r1, q1⟩ => ?_) hs rfl))
  obtain ⟨a, xs, ex, q1⟩ := q1
  subst ex
  cases r1 with
  | cons r rr =>
    cases rr
    cases r
    rcases q1 with ⟨hq, q⟩ | ⟨hq, q⟩
    · obtain ⟨its, rv, p', hz⟩ := I1.list hq
      refine call_enumerate_list p'.isList fun h' he hit hsz hk => wpAny_pyIter_enum he ?_
      have I2 : Inv X pins σ H1 { s1 with heap := h' } := I1.kept (t' := s1.toks) hk
      refine ⟨s1.heap.objs.size + 1, [s1.heap.objs.size + 1, s1.heap.objs.size], _, _, H1, rfl, I2, turn_enum a (s1.heap.objs.size + 1) s1.heap.objs.size, ⟨⟨.none, he⟩, hit, Nat.succ_ne_self _⟩, fun b hb => ?_, q⟩
      have e' : b = s1.heap.objs.size + 1 ∨ b = s1.heap.objs.size := by simpa using hb
      have hle : s1.heap.objs.size ≤ b := by
        rcases e' with z | z
        · rw [z]; exact Nat.le_add_right _ _
        · rw [z]; exact Nat.le_refl _
      exact I1.fpOk hle (I1.hok.fresh hle)
    · obtain ⟨its, rv, p', hz⟩ := I1.tuple hq
      have hat : a < s1.heap.objs.size := p'.lt
      refine vi_call_enumerate_tuple p' fun h' he hit hsz hk => wpAny_pyIter_enum he ?_
      have I2 : Inv X pins σ H1 { s1 with heap := h' } := I1.kept (t' := s1.toks) hk
      refine ⟨s1.heap.objs.size + 1, [s1.heap.objs.size + 1, s1.heap.objs.size], _, _, H1, rfl, I2, turn_enumT a (s1.heap.objs.size + 1) s1.heap.objs.size (Nat.ne_of_lt hat) (Nat.ne_of_lt (Nat.lt_succ_of_lt hat)), ⟨⟨.none, he⟩, hit, Nat.succ_ne_self _⟩, fun b hb => ?_, q⟩
      have e' : b = s1.heap.objs.size + 1 ∨ b = s1.heap.objs.size := by simpa using hb
      have hle : s1.heap.objs.size ≤ b := by
        rcases e' with z | z
        · rw [z]; exact Nat.le_add_right _ _
        · rw [z]; exact Nat.le_refl _
      exact I1.fpOk hle (I1.hok.fresh hle)
theorem src_enumT {K : PySem.W.Frag} {H0 : Hp} {M0 : Mset} {a : Addr} {vs : List V} {xs : List D} (h : TupAt K H0 M0 a vs) (r : Reps K H0 M0 vs xs) : Src K (IteT K a) (enumD 0 xs) H0 M0 := by
  refine ⟨fun H M l i hi => ?_, fun H M l => ⟨vs, tupAt_lat h l, by rw [enumD_len, r.length]; exact Nat.le_refl _⟩, fun H M l i d x H' ed y => ?_⟩
  · rw [enumD_len, ← r.length] at hi
    exact ⟨vs, vs[i], tupAt_lat h l, by simp [hi]⟩
  · obtain ⟨p, e1, rfl⟩ := enumD_get ed
    obtain ⟨v, hv, rv⟩ := r.get e1
    obtain ⟨T, vx, rfl, hT, rfl, f1⟩ := y
    have g1 := f1 vs (tupAt_lat h l)
    rw [hv] at g1; cases g1
    rw [Nat.zero_add]
    exact .inr ⟨T, _, _, rfl, hT, rfl, rfl, .cons (.int _) (.cons (rv.tr l) .nil)⟩
def mIEnum (ma : MA) : MI := fun ρ => match ma ρ with
  | some ([.list xs], ρ1) => some (enumD 0 xs, ρ1)
  | some ([.tuple xs], ρ1) => some (enumD 0 xs, ρ1)
  | _ => none
theorem di_enum {e : Expr} {ma : MA} {p pos tpos : Pos} {elts : List Expr} {kk : Nat} (hg : Gl X "enumerate") (hm : X.mg "enumerate" = none) (ha : DA X [e] ma) (hs : starEach [e] X.env = [(false, eval e X.env)] := by rfl) :
    DI X (.Tuple elts kk tpos) (.Call (.Name "enumerate" p) [e] [] pos) (mIEnum ma) :=
  PI.imp (pi_enumA hg hm ha hs) fun σ H R ⟨ρ, M, O, π, ds, ρ', h, e, q⟩ => by
    unfold mIEnum at e
    split at e
    · rename_i xs ρ1 e1
      cases e
      refine ⟨ρ, M, O, π, _, _, h, e1, fun vs H1 M1 x1 s1 r1 => ?_⟩
      cases r1 with
      | cons rv rr =>
        cases rr
        cases rv with
        | lst hr n rr => exact ⟨_, _, rfl, .inl ⟨.inl hr, q _ H1 M1 x1 s1 (src_enumL hr n rr)⟩⟩
    · rename_i xs ρ1 e1
      cases e
      refine ⟨ρ, M, O, π, _, _, h, e1, fun vs H1 M1 x1 s1 r1 => ?_⟩
      cases r1 with
      | cons rv rr =>
        cases rr
        cases rv with
        | tup hr rr => exact ⟨_, _, rfl, .inr ⟨hr.sq, q _ H1 M1 x1 s1 (src_enumT hr rr)⟩⟩
    · cases e

/-! ### a, b = x, y -/
theorem take_ok {K : PySem.W.Frag} {H : Hp} {M O : Mset} {π : Nat → Option Addr} {ρ ρ' : Fm} {σ : St} {pr : PR} {v : V} {sv : Sv} (h : SR K H M O π ρ σ) (r : RP K H M O ρ σ pr v) (e : take ρ pr = some (sv, ρ')) : ∃ M', Ext O H M H M' ∧ SR K H M' O π ρ' σ ∧ RP K H M' O ρ' σ (.val sv) v := by
  match pr, v, r with
  | .val (.imm d), v, r => cases e; exact ⟨M, .refl h, h, r⟩
  | .val (.own b ds), v, ⟨p, vs, e1, e2, e3, e4, e5, e6⟩ => cases e; exact ⟨M, .refl h, h, p, vs, e1, e2, e3, e4, e5, e6⟩
  | .slot j, v, r =>
    unfold take at e
    simp only at e
    cases ef : frz ρ (.slot j) with
    | none => rw [ef] at e; cases e
    | some dρ =>
      obtain ⟨d, ρ1⟩ := dρ
      rw [ef] at e
      cases e
      obtain ⟨M', x, s, rr⟩ := frz_ok h r ef
      exact ⟨M', x, s, rr⟩
theorem SR.setVal {K : PySem.W.Frag} {H : Hp} {M O : Mset} {π : Nat → Option Addr} {ρ : Fm} {σ : St} {v : V} {sv : Sv} (h : SR K H M O π ρ σ) (r : RP K H M O ρ σ (.val sv) v) (hp : ∀ ds, sv ≠ .own true ds) (i : Nat) : SR K H M O π (ρ.set i (some sv)) (σ.set i (some v)) := by
  cases sv with
  | imm d => exact h.setImm r
  | own b ds =>
    obtain ⟨p, vs, rfl, e2, e3, e4, e5, e6⟩ := r
    cases b with
    | true => exact absurd rfl (hp ds)
    | false => exact h.setOwn e2 e3 e4 e5 e6
theorem RP.set {K : PySem.W.Frag} {H : Hp} {M O : Mset} {ρ : Fm} {σ : St} {v1 v2 : V} {s1 s2 : Sv} {i : Nat} (r1 : RP K H M O ρ σ (.val s1) v1) (r2 : RP K H M (hold O (.val s1) v1) ρ σ (.val s2) v2) (hl : ρ.length = σ.length) : RP K H M O (ρ.set i (some s1)) (σ.set i (some v1)) (.val s2) v2 := by
  cases s2 with
  | imm d => exact r2
  | own b ds =>
    obtain ⟨p, vs, rfl, e2, e3, e4, e5, e6⟩ := r2
    refine ⟨p, vs, rfl, e2, e3, fun z => e4 (hold_le O _ v1 p z), e5, fun j c es f g => ?_⟩
    rcases get_set f with ⟨hj, z⟩ | ⟨hj, f'⟩
    · have hz : s1 = .own c es := (Option.some.inj z).symm
      subst hz
      have hlt : i < ρ.length := by
        subst hj
        have := (List.getElem?_eq_some_iff.mp f).1
        rwa [List.length_set] at this
      obtain ⟨q, ws, e1, _⟩ := r1
      subst e1
      subst hj
      rw [List.getElem?_set_self (by rw [← hl]; exact hlt)] at g
      cases g
      exact e4 (.inr rfl)
    · rw [List.getElem?_set_ne (Ne.symm hj)] at g
      exact e6 j c es f' g
def fine : Sv → Bool
  | .own true _ => false
  | _ => true
theorem fine_ne {s : Sv} (h : fine s = true) : ∀ ds, s ≠ .own true ds := fun ds e => by subst e; cases h
def mPar (i j : Nat) (ma mb : ME) : MS := fun ρ => match ma ρ with
  | some (p1, ρ1) => match take ρ1 p1 with
    | some (s1, ρ2) => match mb ρ2 with
      | some (p2, ρ3) => match take ρ3 p2 with
        | some (s2, ρ4) => if (fine s1 && fine s2) = true then some (.next, (ρ4.set i (some s1)).set j (some s2)) else none
        | none => none
      | none => none
    | none => none
  | none => none
theorem ds_par {st : Stmt} {a b : Expr} {ma mb : ME} {i j : Nat} (h : ∀ ta, PA X [a, b] ta → PS X st (tPar i j ta)) (ha : DE X a ma) (hb : DE X b mb) (hs : starEach [a, b] X.env = (false, eval a X.env) :: starEach [b] X.env := by rfl) (hs2 : starEach [b] X.env = (false, eval b X.env) :: starEach [] X.env := by rfl) : DS X st (mPar i j ma mb) :=
  PS.imp (h _ (pa_cons ha (pa_cons hb pa_nil hs2) hs)) fun D σ H ⟨ρ, M, O, π, fl, ρ', h, e, q⟩ => by
    unfold mPar at e
    split at e
    · rename_i p1 ρ1 e1
      split at e
      · rename_i s1 ρ2 e2
        split at e
        · rename_i p2 ρ3 e3
          split at e
          · rename_i s2 ρ4 e4
            split at e
            · rename_i hz
              cases e
              rw [Bool.and_eq_true] at hz
              refine ⟨ρ, M, O, π, p1, ρ1, h, e1, fun v1 H1 M1 x1 t1 r1 => ?_⟩
              obtain ⟨M2, x2, t2, r2⟩ := take_ok t1 r1 e2
              refine ⟨ρ2, M2, Vi.hold O (.val s1) v1, π, p2, ρ3, t2.hold r2, e3, fun v2 H3 M3 x3 t3 r3 => ⟨v1, v2, rfl, ?_⟩⟩
              obtain ⟨M4, x4, t4, r4⟩ := take_ok t3 r3 e4
              have le := hold_le O (.val s1) v1
              have r1' := r2.held (x3.trans x4) t4
              have t5 := (t4.less le).setVal r1' (fine_ne hz.1) i
              have r5 := RP.set (i := i) r1' r4 t4.len
              exact q _ H3 M4 ((x1.trans x2).trans ((x3.trans x4).less le)) (t5.setVal r5 (fine_ne hz.2) j)
            · cases e
          · cases e
        · cases e
      · cases e
    · cases e
/-- targets of a value that is a tuple -/
def mAsgG (me : ME) (mg : MG) : MS := fun ρ => match me ρ with
  | some (pr, ρ1) => match frz ρ1 pr with
    | some (d, ρ2) => match mg d ρ2 with
      | some ρ3 => some (.next, ρ3)
      | none => none
    | none => none
  | none => none
theorem ds_asgG {st : Stmt} {e tg : Expr} {me : ME} {mg : MG} {ts : List Nat} (h : ∀ te g, PE X e te → PG X tg g → PS X st (tAsg te g)) (he : DE X e me) (hg : DG X tg mg ts) : DS X st (mAsgG me mg) :=
  PS.imp (h _ _ he hg) fun D σ H ⟨ρ, M, O, π, fl, ρ', h, e, q⟩ => by
    unfold mAsgG at e
    split at e
    · rename_i pr ρ1 e1
      split at e
      · rename_i d ρ2 e2
        split at e
        · rename_i ρ3 e3
          cases e
          refine ⟨ρ, M, O, π, pr, ρ1, h, e1, fun v H1 M1 x1 s1 r1 => ?_⟩
          obtain ⟨M2, x2, s2, r2⟩ := frz_ok s1 r1 e2
          exact ⟨ρ2, M2, O, π, d, _, s2, r2, e3, fun σ' s3 _ _ => q σ' H1 M2 (x1.trans x2) s3⟩
        · cases e
      · cases e
    · cases e

/-! ### calls by keyword -/
theorem pe_callK0 {CX : CXT} {k : Nat} {f : Addr} {fd : FuncData} {ps ks : List Str} {sp : Sp} {E : XK} {x : Str} {p pos : Pos} {kws : List Keyword} {tk : TA} {g : List Value → List Value → List Value} {gV : List V → List V → List V}
    (F : FnOk X.prog X.w X.K X.mg X.base CX k f fd ps sp) (hr : Room k X.A) (hg : Gl X x) (hm : X.mg x = some (.ref f)) (hk : PySem.W.keepIn X.K (.ref f) = true) (hb : KBinds X.K fd ps ks g gV) (hx : Passes CX X E)
    (hkw : PK X kws tk) (hall : (backToKw pos (keywordEach kws X.env)).all (·.1.isSome) = true := by rfl) (hks : (backToKw pos (keywordEach kws X.env)).filterMap (·.1) = ks := by rfl)
    (hdb : (x == ("__debug__" : Str)) = false := by decide) (hpl : ((PySem.backTo pos (starEach [] X.env)).any (·.1) || (backToKw pos (keywordEach kws X.env)).any (·.1.isNone)) = false := by rfl) :
    PE X (.Call (.Name x p) [] kws pos) (tCallK sp gV E tNil tk) := by
  refine ⟨fun pins s σ H Q I h => ?_⟩
  refine wpAny_Call_Name_kw (ld_glob I hg hm ?_ hdb)
  refine PySem.W.callWith_KW0 (h₀ := X.base) I.ok.mod.kin hk hall (thn (hkw.run pos pins s σ H _ I h) fun ws s2 ⟨zs, H2, I2, rz, q2⟩ => ⟨I2.kIn, ?_⟩) hpl
  rw [hks]
  exact run_fnk (us := []) (vs := []) F hr hb hx I2 .nil rz q2
/-- the arguments in the parameters' order -/
def perm {α : Type} (n1 n2 : Nat) (is : List Nat) (us ws : List α) : List α := if us.length = n1 ∧ ws.length = n2 then is.filterMap fun i => (us ++ ws)[i]? else []
theorem perm_rel {α β : Type} {F : α → β → Prop} (n1 n2 : Nat) (is : List Nat) {vs : List α} {us : List β} {zs : List α} {ws : List β} (r : Paired F vs us) (s : Paired F zs ws) : Paired F (perm n1 n2 is vs zs) (perm n1 n2 is us ws) := by
  have ap : ∀ {vs : List α} {us : List β} {zs : List α} {ws : List β}, Paired F vs us → Paired F zs ws → Paired F (vs ++ zs) (us ++ ws) := fun {vs us zs ws} r s => by
    induction r with
    | nil => exact s
    | cons h t ih => exact .cons h ih
  have get : ∀ {xs : List α} {ys : List β} (i : Nat), Paired F xs ys → (xs[i]? = none ∧ ys[i]? = none) ∨ ∃ x y, xs[i]? = some x ∧ ys[i]? = some y ∧ F x y := fun {xs ys} i r => by
    induction r generalizing i with
    | nil => exact .inl ⟨by simp, by simp⟩
    | cons h t ih =>
      cases i with
      | zero => exact .inr ⟨_, _, rfl, rfl, h⟩
      | succ i => simpa using ih i
  unfold perm
  rw [Paired.length r, Paired.length s]
  split
  · have all := ap r s
    induction is with
    | nil => exact .nil
    | cons i is ih =>
      rcases get i all with ⟨e1, e2⟩ | ⟨x, y, e1, e2, f⟩
      · rw [List.filterMap_cons, List.filterMap_cons, e1, e2]; exact ih
      · rw [List.filterMap_cons, List.filterMap_cons, e1, e2]; exact .cons f ih
  · exact .nil
theorem _root_.L2.Fun.kbinds {K : PySem.W.Frag} {x qual : Str} {st : Stmt} {f : Addr} {fd : FuncData} {ps ks : List Str} {n1 n2 : Nat} {is : List Nat} (F : Fun K x qual st f fd) (hp : ps ≠ [])
    (h : ∀ (kV doc pm : Value) (an : Option Addr) (cdv ct : Value) (us ws : List Value), us.length = n1 → ws.length = n2 → bindArgs (PySem.W.fnOf x qual (defArgs st) (defBody st) (defScope st) .none kV doc pm an cdv ct) ⟨us, ks.zip ws⟩ = pure (ps.zip (is.filterMap fun i => (us ++ ws)[i]?))) : KBinds K fd ps ks (perm n1 n2 is) (perm n1 n2 is) := by
  obtain ⟨oc, od, kV, doc, pm, an, cdv, ct, osl, rfl, lk, hcd⟩ := F.ex
  refine ⟨fun s us ws _ hl => ?_, fun r s => perm_rel n1 n2 is r s⟩
  by_cases hc : us.length = n1 ∧ ws.length = n2
  · refine .of_eq ?_
    unfold perm
    rw [if_pos hc]
    exact h kV doc pm an cdv ct us ws hc.1 hc.2
  · unfold perm at hl
    rw [if_neg hc] at hl
    cases ps with
    | nil => exact absurd rfl hp
    | cons a b => cases hl
/-- keywords' values -/
def DK (X : Cx) (kws : List Keyword) (m : MR) : Prop := PK X kws (tR X.K m)
theorem _root_.L2.PK.imp {kws : List Keyword} {t t' : TA} (h : PK X kws t) (i : ∀ σ H Q, t' σ H Q → t σ H Q) : PK X kws t' := ⟨fun pos pins s σ H Q I q => h.run pos pins s σ H Q I (i σ H Q q)⟩
theorem dk_nil : DK X [] rNil := PK.imp pk_nil fun σ H Q ⟨ρ, M, O, π, ds, ρ', h, e, q⟩ => by
  cases e
  exact q [] H M (.refl h) h .nil
theorem dk_val {nm : Option Str} {e : Expr} {kpos : Pos} {kws : List Keyword} {me : ME} {n : MR} (he : DE X e me) (hes : DK X kws n) : DK X (⟨nm, e, kpos⟩ :: kws) (rVal me n) :=
  PK.imp (pk_cons he hes) fun σ H Q ⟨ρ, M, O, π, ds, ρ', h, e, q⟩ => by
    unfold rVal at e
    split at e
    · rename_i pr ρ1 e1
      split at e
      · rename_i d ρ2 e2
        split at e
        · rename_i as ρ3 e3
          cases e
          refine ⟨ρ, M, O, π, pr, ρ1, h, e1, fun v H1 M1 x1 s1 r1 => ?_⟩
          obtain ⟨M2, x2, s2, r2⟩ := frz_ok s1 r1 e2
          exact ⟨ρ2, M2, O, π, as, _, s2, e3, fun vs H3 M3 x3 s3 r3 => q (v :: vs) H3 M3 ((x1.trans x2).trans x3) s3 (.cons (r2.tr x3.tr) r3)⟩
        · cases e
      · cases e
    · cases e
def rPerm (n1 n2 : Nat) (is : List Nat) (mr mk : MR) : MR := fun ρ => match mr ρ with
  | some (as, ρ1) => match mk ρ1 with
    | some (bs, ρ2) => some (perm n1 n2 is as bs, ρ2)
    | none => none
  | none => none
theorem AReps.tr {K : PySem.W.Frag} {H H' : Hp} {M M' : Mset} {σ : St} (l : Lat H M H' M') : ∀ {vs : List V} {as : List AR}, AReps K H M σ vs as → AReps K H' M' σ vs as
  | _, _, .nil => .nil
  | _, _, .cons h t => .cons (ARep.tr l h) (AReps.tr l t)
theorem tR_perm {mr mk : MR} {n1 n2 : Nat} {is : List Nat} {σ : St} {H : Hp} {Q : List V → Hp → Prop} (h : tR X.K (rPerm n1 n2 is mr mk) σ H Q) : tR X.K mr σ H fun vs H1 => tR X.K mk σ H1 fun zs H2 => Q (perm n1 n2 is vs zs) H2 := by
  obtain ⟨ρ, M, O, π, as, ρ', h, e, q⟩ := h
  unfold rPerm at e
  split at e
  · rename_i as ρ1 e1
    split at e
    · rename_i bs ρ2 e2
      cases e
      refine ⟨ρ, M, O, π, as, ρ1, h, e1, fun vs H1 M1 x1 s1 r1 => ⟨ρ1, M1, O, π, bs, _, s1, e2, fun zs H2 M2 x2 s2 r2 => q _ H2 M2 (x1.trans x2) s2 ?_⟩⟩
      exact perm_rel n1 n2 is (AReps.tr x2.tr r1) r2
    · cases e
  · cases e
theorem de_callK0 {k : Nat} {f : Addr} {fd : FuncData} {ps ks : List Str} {g : Fn} {x : Str} {p pos : Pos} {kws : List Keyword} {mk : MR} {n1 n2 : Nat} {is : List Nat} (F : FnOk X.prog X.w X.K X.mg X.base CX0 k f fd ps (spD X.K ps.length g)) (hr : Room k X.A) (hg : Gl X x) (hm : X.mg x = some (.ref f)) (hk : PySem.W.keepIn X.K (.ref f) = true) (hb : KBinds X.K fd ps ks (perm n1 n2 is) (perm n1 n2 is))
    (hkw : DK X kws mk) (hn : ∀ ρ as ρ', rPerm n1 n2 is rNil mk ρ = some (as, ρ') → as.length = ps.length) (hall : (backToKw pos (keywordEach kws X.env)).all (·.1.isSome) = true := by rfl) (hks : (backToKw pos (keywordEach kws X.env)).filterMap (·.1) = ks := by rfl)
    (hdb : (x == ("__debug__" : Str)) = false := by decide) (hpl : ((PySem.backTo pos (starEach [] X.env)).any (·.1) || (backToKw pos (keywordEach kws X.env)).any (·.1.isNone)) = false := by rfl) :
    DE X (.Call (.Name x p) [] kws pos) (mCall g (rPerm n1 n2 is rNil mk)) :=
  PE.imp (pe_callK0 F hr hg hm hk hb pass0 hkw hall hks hdb hpl) fun σ H Q h => by
    obtain ⟨ρ, M, O, π, as, ρ', h, e, q⟩ := tR_perm (tR_call (X := X) hn h)
    cases e
    exact q [] H M (.refl h) h .nil
theorem de_callK {k : Nat} {f : Addr} {fd : FuncData} {ps ks : List Str} {g : Fn} {x : Str} {p pos : Pos} {e : Expr} {es : List Expr} {kws : List Keyword} {mr mk : MR} {n1 n2 : Nat} {is : List Nat} (F : FnOk X.prog X.w X.K X.mg X.base CX0 k f fd ps (spD X.K ps.length g)) (hr : Room k X.A) (hg : Gl X x) (hm : X.mg x = some (.ref f)) (hk : PySem.W.keepIn X.K (.ref f) = true) (hb : KBinds X.K fd ps ks (perm n1 n2 is) (perm n1 n2 is))
    (ha : DR X (e :: es) mr) (hkw : DK X kws mk) (hn : ∀ ρ as ρ', rPerm n1 n2 is mr mk ρ = some (as, ρ') → as.length = ps.length) (hall : (backToKw pos (keywordEach kws X.env)).all (·.1.isSome) = true := by rfl) (hks : (backToKw pos (keywordEach kws X.env)).filterMap (·.1) = ks := by rfl)
    (hdb : (x == ("__debug__" : Str)) = false := by decide) (he : starEach (e :: es) X.env = (false, eval e X.env) :: starEach es X.env := by rfl) (hpl : ((PySem.backTo pos (starEach (e :: es) X.env)).any (·.1) || (backToKw pos (keywordEach kws X.env)).any (·.1.isNone)) = false := by rfl) :
    DE X (.Call (.Name x p) (e :: es) kws pos) (mCall g (rPerm n1 n2 is mr mk)) :=
  PE.imp (pe_callK F hr hg hm hk hb pass0 ha hkw hall hks hdb he hpl) fun σ H Q h => tR_perm (tR_call (X := X) hn h)
/-! how many arguments -/
theorem rl_nil {n : Nat} (hn : n = 0) : ∀ ρ as ρ', rNil ρ = some (as, ρ') → as.length = n := fun ρ as ρ' e => by cases e; exact hn.symm
theorem rl_val {me : ME} {n : MR} {k : Nat} (h : ∀ ρ as ρ', n ρ = some (as, ρ') → as.length = k) : ∀ ρ as ρ', rVal me n ρ = some (as, ρ') → as.length = k + 1 := fun ρ as ρ' e => by
  unfold rVal at e
  split at e
  · split at e
    · split at e
      · rename_i e3
        cases e
        rw [List.length_cons, h _ _ _ e3]
      · cases e
    · cases e
  · cases e
theorem rl_slot {i : Nat} {n : MR} {k : Nat} (h : ∀ ρ as ρ', n ρ = some (as, ρ') → as.length = k) : ∀ ρ as ρ', rSlot i n ρ = some (as, ρ') → as.length = k + 1 := fun ρ as ρ' e => by
  unfold rSlot at e
  split at e
  · split at e
    · rename_i e3
      cases e
      rw [List.length_cons, h _ _ _ e3]
    · cases e
  · cases e
theorem rl_perm {mr mk : MR} {n1 n2 : Nat} {is : List Nat} (h1 : ∀ ρ as ρ', mr ρ = some (as, ρ') → as.length = n1) (h2 : ∀ ρ as ρ', mk ρ = some (as, ρ') → as.length = n2) (hi : is.all (fun i => decide (i < n1 + n2)) = true) : ∀ ρ as ρ', rPerm n1 n2 is mr mk ρ = some (as, ρ') → as.length = is.length := fun ρ as ρ' e => by
  unfold rPerm at e
  split at e
  · rename_i as1 ρ1 e1
    split at e
    · rename_i bs ρ2 e2
      cases e
      unfold perm
      rw [if_pos ⟨h1 _ _ _ e1, h2 _ _ _ e2⟩]
      have hl : (as1 ++ bs).length = n1 + n2 := by rw [List.length_append, h1 _ _ _ e1, h2 _ _ _ e2]
      clear e1 e2
      induction is with
      | nil => rfl
      | cons i is ih =>
        rw [List.all_cons, Bool.and_eq_true] at hi
        have hi1 : i < (as1 ++ bs).length := by rw [hl]; exact of_decide_eq_true hi.1
        rw [List.filterMap_cons, List.getElem?_eq_getElem hi1, List.length_cons, List.length_cons, ih hi.2]
    · cases e
  · cases e
/-! ### room -/
theorem room70 {A : Around} {k : Nat} (r : Room k A) : A.units + 70 < cLine := by have := r.un; omega
theorem room65 {A : Around} {k : Nat} (r : Room k A) : A.units + 65 < cLine := by have := r.un; omega
theorem room64 {A : Around} {k : Nat} (r : Room k A) : A.units + 64 < cLine := by have := r.un; omega
end
/-- a def that nothing is promised of -/
theorem fn_zero {P : Program} {w : World} {K : PySem.W.Frag} {mg : Str → Option Value} {base : Heap} {f : Addr} {fd : FuncData} {ps : List Str} {k : Nat} : FnOk P w K mg base CX0 k f fd ps (spD K ps.length fun _ => none) :=
  ⟨fun vs H Q E ⟨M, O, π, args, r, os, hl, _⟩ => hl, fun A outer s H args us vs Q E _ _ _ _ ⟨M, O, π, as, r, os, _, _, e, _⟩ => by cases e⟩
/-- the law's promise -/
theorem law_sp {K : PySem.W.Frag} {g : Fn} {H : Hp} {a : Addr} {ns : List Int} (hS : SqL K H a (ns.map V.int)) (e : ∃ os, g [.imm (.dict (ns.map fun n => (.int n, .none)))] = some (.imm (.bool true), os)) : spD K 1 g [.ref a] H (fun v _ => v = .bl true) fun _ _ _ => False := by
  obtain ⟨os, e⟩ := e
  have rs : Reps K H (fun _ => False) (ns.map V.int) ((ns.map fun n => ((.int n : D), (.none : D))).map Prod.fst) := by
    induction ns with
    | nil => exact .nil
    | cons n ns ih => exact .cons (.int n) (by
        clear ih e hS
        induction ns with
        | nil => exact .nil
        | cons m ns ih => exact .cons (.int m) ih)
  refine ⟨fun _ => False, fun _ => False, fun _ => none, _, _, os, rfl, ⟨rfl, fun _ z => z, fun _ z => z.elim, fun i d h => ?_, fun i b ds h => ?_, fun i j b c ds es x _ h => ?_⟩, e, fun v H' M' _ _ _ r => ?_⟩
  · cases i with
    | zero =>
      cases h
      exact ⟨.ref a, rfl, .scr (by
        rcases hS with h | h
        · exact .inl ⟨h, fun z => z⟩
        · exact .inr h) rs⟩
    | succ i => simp at h
  · cases i with
    | zero => cases h
    | succ i => simp at h
  · cases i with
    | zero => cases h
    | succ i => simp at h
  · cases (show Rep K H' M' v (.bool true) from r)
    rfl
end Vi

namespace Vi
open PySem PySem.Spec PyProof.Rows L2
section
variable {K : PySem.W.Frag} {H H' : Hp} {M M' O O' : Mset} {π : Nat → Option Addr} {ρ ρ' : Fm} {σ : St} {v : V}
theorem last_get {α : Type} {l : List α} {x y : α} {i : Nat} (h : (l ++ [x])[i]? = some y) : l[i]? = some y ∨ (i = l.length ∧ y = x) := by
  by_cases hi : i < l.length
  · rw [List.getElem?_append_left hi] at h; exact .inl h
  · rw [List.getElem?_append_right (by omega)] at h
    by_cases hz : i - l.length = 0
    · rw [hz] at h; cases h; exact .inr ⟨by omega, rfl⟩
    · obtain ⟨m, hm⟩ : ∃ m, i - l.length = m + 1 := ⟨i - l.length - 1, by omega⟩
      rw [hm] at h; simp at h
theorem lt_of_get {α : Type} {l : List α} {i : Nat} {y : α} (h : l[i]? = some y) : i < l.length := by
  rcases Nat.lt_or_ge i l.length with q | q
  · exact q
  · rw [List.getElem?_eq_none q] at h; cases h
/-- a hidden name for a fresh list -/
theorem SR.snoc (h : SR K H M O π ρ σ) {b : Bool} {ds : List D} {p : Addr} (r : RP K H M O ρ σ (.val (.own b ds)) (.ref p)) : SR K H M O π (ρ ++ [some (.own false ds)]) (σ ++ [some (.ref p)]) := by
  obtain ⟨p', vs, e0, e1, e2, e3, e4, e5⟩ := r
  cases e0
  have up : ∀ {i : Nat}, i < σ.length → (σ ++ [some (V.ref p)])[i]? = σ[i]? := fun {i} hi => List.getElem?_append_left hi
  have lastσ : (σ ++ [some (V.ref p)])[ρ.length]? = some (some (.ref p)) := by rw [h.len, List.getElem?_append_right (Nat.le_refl _), Nat.sub_self]; rfl
  refine ⟨by rw [List.length_append, List.length_append, h.len]; rfl, h.sub, h.live, fun i d e => ?_, fun i c es e => ?_, fun i j c c' es fs x hij e f g => ?_⟩
  · rcases last_get e with e | ⟨_, e⟩
    · obtain ⟨v, f1, f2⟩ := h.imm i d e
      exact ⟨v, by rw [up (lt_of_get f1)]; exact f1, f2⟩
    · cases e
  · rcases last_get e with e | ⟨rfl, e2⟩
    · obtain ⟨a, ws, f1, f2⟩ := h.own i c es e
      exact ⟨a, ws, by rw [up (lt_of_get f1)]; exact f1, f2⟩
    · cases e2
      exact ⟨p, vs, lastσ, e1, e2, e3, e4, fun z => by cases z⟩
  · rcases last_get e with e | ⟨rfl, _⟩
    · have hi := lt_of_get e
      rw [up (by rw [← h.len]; exact hi)] at g
      rcases last_get f with f | ⟨rfl, _⟩
      · have hj := lt_of_get f
        rw [up (by rw [← h.len]; exact hj)]
        exact h.uniq i j c c' es fs x hij e f g
      · rw [lastσ]
        intro z; cases z
        exact e5 i c es e g
    · rw [lastσ] at g
      cases g
      rcases last_get f with f | ⟨rfl, _⟩
      · have hj := lt_of_get f
        rw [up (by rw [← h.len]; exact hj)]
        exact e5 j c' fs f
      · exact absurd rfl hij
theorem SR.unsnoc {x : Option Sv} {y : Option V} (h : SR K H M O π (ρ ++ [x]) (σ ++ [y])) : SR K H M O π ρ σ := by
  have hl : ρ.length = σ.length := by have := h.len; simpa using this
  have up : ∀ {i : Nat} {s : Option Sv}, ρ[i]? = some s → (ρ ++ [x])[i]? = some s ∧ (σ ++ [y])[i]? = σ[i]? := fun {i s} e => by
    have hi := lt_of_get e
    exact ⟨by rw [List.getElem?_append_left hi]; exact e, List.getElem?_append_left (by omega)⟩
  refine ⟨hl, h.sub, h.live, fun i d e => ?_, fun i c es e => ?_, fun i j c c' es fs a hij e f g => ?_⟩
  · obtain ⟨e1, e2⟩ := up e
    rw [← e2]; exact h.imm i d e1
  · obtain ⟨e1, e2⟩ := up e
    rw [← e2]; exact h.own i c es e1
  · obtain ⟨e1, e2⟩ := up e
    obtain ⟨f1, f2⟩ := up f
    rw [← f2]; exact h.uniq i j c c' es fs a hij e1 f1 (by rw [e2]; exact g)
theorem RP.unsnoc {x : Option Sv} {y : Option V} {s : Sv} (hl : ρ.length = σ.length) (h : RP K H M O (ρ ++ [x]) (σ ++ [y]) (.val s) v) : RP K H M O ρ σ (.val s) v := by
  cases s with
  | imm d => exact h
  | own b ds =>
    obtain ⟨p, vs, e0, e1, e2, e3, e4, e5⟩ := h
    refine ⟨p, vs, e0, e1, e2, e3, e4, fun i c es e => ?_⟩
    have hi := lt_of_get e
    have := e5 i c es (by rw [List.getElem?_append_left hi]; exact e)
    rw [List.getElem?_append_left (by omega)] at this
    exact this
end
/-- f(e), e a fresh list that f may change -/
def mCallO (f : Fn) (me : ME) : ME := fun ρ => match me ρ with
  | some (.val (.own _ ds), ρ1) => match f [.own true ds] with
    | some (r, [some _]) => some (.val r, ρ1)
    | _ => none
  | _ => none
section
variable {X : Cx} {e : Expr} {me : ME} {k : Nat} {f : Addr} {fd : FuncData} {ps : List Str} {g : Fn} {x : Str} {p pos : Pos}
theorem de_callO (F : FnOk X.prog X.w X.K X.mg X.base CX0 k f fd ps (spD X.K ps.length g)) (hr : Room k X.A) (hg : Gl X x) (hm : X.mg x = some (.ref f)) (hk : PySem.W.keepIn X.K (.ref f) = true) (hb : Binds X.K fd ps [])
    (ha : DE X e me) (hp : ps.length = 1) (hdb : (x == ("__debug__" : Str)) = false := by decide) (he : starEach [e] X.env = (false, eval e X.env) :: starEach [] X.env := by rfl) (hpl : (PySem.backTo pos (starEach [] X.env)).any (·.1) = false := by rfl) :
    DE X (.Call (.Name x p) [e] [] pos) (mCallO g me) :=
  PE.imp (pe_call F hr hg hm hk hb .nil pass0 (pa_cons ha pa_nil he) hdb he hpl) fun σ H Q ⟨ρ, M, O, π, pr, ρ', h, e, q⟩ => by
    unfold mCallO at e
    split at e
    · rename_i b ds ρ1 e1
      split at e
      · rename_i r ds' e2
        cases e
        refine ⟨ρ, M, O, π, _, _, h, e1, fun v H1 M1 x1 s1 r1 => ?_⟩
        obtain ⟨a, vs, rfl, r2⟩ := (show ∃ a vs, v = .ref a ∧ _ from r1)
        have s2 := s1.snoc r1
        have as2 : AReps X.K H1 M1 (σ ++ [some (V.ref a)]) [.ref a] [AR.s ρ'.length] := .cons (show (σ ++ [some (V.ref a)])[ρ'.length]? = some (some (.ref a)) by rw [s1.len, List.getElem?_append_right (Nat.le_refl _), Nat.sub_self]; rfl) .nil
        have gt : (ρ' ++ [some (Sv.own false ds)])[ρ'.length]? = some (some (.own false ds)) := by rw [List.getElem?_append_right (Nat.le_refl _), Nat.sub_self]; rfl
        have ea : argsOf (ρ' ++ [some (Sv.own false ds)]) [AR.s ρ'.length] = some [.own true ds] := by
          unfold argsOf; rw [gt]; rfl
        have eb : backTo (ρ' ++ [some (Sv.own false ds)]) [AR.s ρ'.length] [some ds'] = some (ρ' ++ [some (Sv.own false ds')]) := by
          unfold backTo; rw [gt]
          show some ((ρ' ++ [some (Sv.own false ds)]).set ρ'.length (some (.own false ds'))) = _
          rw [List.set_append_right _ _ (Nat.le_refl _), Nat.sub_self]; rfl
        show spD X.K ps.length g ([V.ref a] ++ []) H1 Q E0
        refine ⟨M1, _, _, [.own true ds], r, [some ds'], by rw [hp]; rfl, call_start s2 as2 rfl ea, e2, fun v H2 M2 lv x2 ho rr => ?_⟩
        obtain ⟨x3, s3⟩ := call_end s2 as2 rfl eb lv x2 ho
        have r3 := call_ret s2 as2 rfl eb x2 ho rr
        have s4 := s3.unsnoc
        exact q v H2 M2 (x1.trans x3) s4 (r3.unsnoc s4.len)
      · cases e
    · cases e
end
end Vi

namespace Vi
open PySem PySem.Spec PyProof.Rows L2
section
variable {X : Cx}
/-! ### < and the like of any data -/
def rCmpD (K : PySem.W.Frag) (f : D → D → Bool) : R2 := fun x y H Q => ∃ d e, Dp K H x d ∧ Dp K H y e ∧ SeqAt.shaped d = true ∧ SeqAt.shaped e = true ∧ W.alike d e = true ∧ d ≠ .none ∧ Q (.bl (f d e)) H
theorem room_cmp {A : Around} {d e : D} (h : SeqAt.shaped d = true) (hu : A.units + 64 < cLine) : A.units + min d.depth e.depth < cLine := by
  have h1 := SeqAt.depth_of_shaped h
  have h2 : min d.depth e.depth ≤ d.depth := Nat.min_le_left _ _
  omega
theorem op_ltDD (hu : X.A.units + 64 < cLine) : OpR X (compareOp .Lt) (rCmpD X.K fun d e => W.dataLt d e) := by
  intro pins s σ H x y v u Q I rx ry h
  obtain ⟨d, e, hd, he, sd, se, al, hn, q⟩ := h
  obtain ⟨as, r1⟩ := Dp.reads I d x v hd rx
  obtain ⟨bs, r2⟩ := Dp.reads I e y u he ry
  exact W.lt_data r1 r2 al hn (room_cmp sd hu) ⟨.bl _, H, I, rfl, q⟩
theorem op_gtDD (hu : X.A.units + 64 < cLine) : OpR X (compareOp .Gt) (rCmpD X.K fun d e => W.dataLt e d) := by
  intro pins s σ H x y v u Q I rx ry h
  obtain ⟨d, e, hd, he, sd, se, al, hn, q⟩ := h
  obtain ⟨as, r1⟩ := Dp.reads I d x v hd rx
  obtain ⟨bs, r2⟩ := Dp.reads I e y u he ry
  exact W.gt_data r1 r2 al hn (room_cmp sd hu) ⟨.bl _, H, I, rfl, q⟩
theorem op_leDD (hu : X.A.units + 64 < cLine) : OpR X (compareOp .LtE) (rCmpD X.K fun d e => !W.dataLt e d) := by
  intro pins s σ H x y v u Q I rx ry h
  obtain ⟨d, e, hd, he, sd, se, al, hn, q⟩ := h
  obtain ⟨as, r1⟩ := Dp.reads I d x v hd rx
  obtain ⟨bs, r2⟩ := Dp.reads I e y u he ry
  exact W.le_data r1 r2 al hn (room_cmp sd hu) ⟨.bl _, H, I, rfl, q⟩
theorem op_geDD (hu : X.A.units + 64 < cLine) : OpR X (compareOp .GtE) (rCmpD X.K fun d e => !W.dataLt d e) := by
  intro pins s σ H x y v u Q I rx ry h
  obtain ⟨d, e, hd, he, sd, se, al, hn, q⟩ := h
  obtain ⟨as, r1⟩ := Dp.reads I d x v hd rx
  obtain ⟨bs, r2⟩ := Dp.reads I e y u he ry
  exact W.ge_data r1 r2 al hn (room_cmp sd hu) ⟨.bl _, H, I, rfl, q⟩
def dCmpD (g : Int → Int → Bool) (f : D → D → Bool) : D → D → Option Sv
  | .int i, .int j => some (.imm (.bool (g i j)))
  | a, b => if (okD a && okD b && W.alike a b && !isNon a) = true then some (.imm (.bool (f a b))) else none
theorem os_cmpD {g : Int → Int → Bool} {f : D → D → Bool} : OpS X (fun x y H Q => rI0 (fun i j => .bl (g i j)) x y H Q ∨ rCmpD X.K f x y H Q) (dCmpD g f) := by
  intro H M O π ρ σ v1 v2 d1 d2 res Q h r1 r2 e q
  unfold dCmpD at e
  split at e
  · cases e
    cases r1.inI; cases r2.inI
    exact .inl ⟨_, _, rfl, rfl, Post.now q h (.bl _)⟩
  · split at e
    · rename_i hz
      cases e
      rw [Bool.and_eq_true, Bool.and_eq_true, Bool.and_eq_true] at hz
      exact .inr ⟨d1, d2, r1.dp (SeqAt.canLay_of_shaped hz.1.1.1), r2.dp (SeqAt.canLay_of_shaped hz.1.1.2), hz.1.1.1, hz.1.1.2, hz.1.2, fun z => by rw [z] at hz; exact absurd hz.2 (by decide), Post.now q h (.bl _)⟩
    · cases e
theorem op_ltA (hu : X.A.units + 64 < cLine) : OpR X (compareOp .Lt) (fun x y H Q => rI0 (fun i j => .bl (decide (i < j))) x y H Q ∨ rCmpD X.K (fun d e => W.dataLt d e) x y H Q) := op_lt.or (op_ltDD hu)
theorem op_leA (hu : X.A.units + 64 < cLine) : OpR X (compareOp .LtE) (fun x y H Q => rI0 (fun i j => .bl (decide (i ≤ j))) x y H Q ∨ rCmpD X.K (fun d e => !W.dataLt e d) x y H Q) := op_le.or (op_leDD hu)
theorem op_gtA (hu : X.A.units + 64 < cLine) : OpR X (compareOp .Gt) (fun x y H Q => rI0 (fun i j => .bl (decide (j < i))) x y H Q ∨ rCmpD X.K (fun d e => W.dataLt e d) x y H Q) := op_gt.or (op_gtDD hu)
theorem op_geA (hu : X.A.units + 64 < cLine) : OpR X (compareOp .GtE) (fun x y H Q => rI0 (fun i j => .bl (decide (j ≤ i))) x y H Q ∨ rCmpD X.K (fun d e => !W.dataLt d e) x y H Q) := op_ge.or (op_geDD hu)
abbrev dLtA := dCmpD (fun i j => decide (i < j)) fun d e => W.dataLt d e
abbrev dLeA := dCmpD (fun i j => decide (i ≤ j)) fun d e => !W.dataLt e d
abbrev dGtA := dCmpD (fun i j => decide (j < i)) fun d e => W.dataLt e d
abbrev dGeA := dCmpD (fun i j => decide (j ≤ i)) fun d e => !W.dataLt d e
/-! ### sum, str, list times a number -/
def intsOf : List D → Option (List Int)
  | [] => some []
  | .int i :: r => (intsOf r).map (i :: ·)
  | _ :: _ => none
theorem ints_reps {K : PySem.W.Frag} {H : Hp} {M : Mset} : ∀ {vs : List V} {ds : List D} {bs : List Int}, Reps K H M vs ds → intsOf ds = some bs → vs = bs.map V.int
  | _, _, _, .nil, e => by cases e; rfl
  | _, _, bs, .cons h r, e => by
    cases h with
    | int b =>
      obtain ⟨cs, e1, rfl⟩ := Option.map_eq_some_iff.mp (show (intsOf _).map (b :: ·) = some bs from e)
      rw [ints_reps r e1]; rfl
    | _ => cases e
def dSum : D → Option Sv
  | .list ds => (intsOf ds).map fun ns => .imm (.int ns.sum)
  | _ => none
theorem us_sum : UnS X (fun v H Q => rSum X.K [v] H Q) dSum := by
  intro H M O π ρ σ v1 d1 res Q h r1 e q
  unfold dSum at e
  split at e
  · obtain ⟨bs, e1, rfl⟩ := Option.map_eq_some_iff.mp e
    obtain ⟨a, vs, rfl, rd, rs⟩ := r1.inL
    exact ⟨a, bs, rfl, .inl (by rw [← ints_reps rs e1]; exact rd), Post.now q h (.int _)⟩
  · cases e
def dStr : D → Option Sv
  | .int i => if decide (i.natAbs.log2 < 1920) = true then some (.imm (.str (toString i))) else none
  | _ => none
theorem us_str : UnS X (fun v H Q => (fun xs H Q => ∃ i, xs = [V.int i] ∧ i.natAbs.log2 < 1920 ∧ Q (.str (toString i)) H) [v] H Q) dStr := by
  intro H M O π ρ σ v1 d1 res Q h r1 e q
  unfold dStr at e
  split at e
  · split at e
    · rename_i hz
      cases e
      cases r1.inI
      exact ⟨_, rfl, of_decide_eq_true hz, Post.now q h (.str _)⟩
    · cases e
  · cases e
variable {a b e : Expr} {ma mb me : ME} {mes : MA} {es : List Expr} {pos : Pos}
/-- a fresh list * k -/
def mRep (ma mb : ME) : ME := fun ρ => match ma ρ with
  | some (.val (.own _ xs), ρ1) => match mb ρ1 with
    | some (pk, ρ2) => match peek ρ2 pk with
      | some (.int k) => if decide (-(2 ^ 63) ≤ k ∧ k < 2 ^ 63 ∧ xs.length * k.toNat ≤ sizeLine) = true then some (.val (.own false (List.replicate k.toNat xs).flatten), ρ2) else none
      | _ => none
    | none => none
  | _ => none
theorem de_rep (ha : DE X a ma) (hb : DE X b mb) : DE X (.BinOp a .Mult b pos) (mRep ma mb) := PE.imp (pe_op op_rep ha hb) fun σ H Q ⟨ρ, M, O, π, pr, ρ', h, e, q⟩ => by
  unfold mRep at e
  split at e
  · rename_i b0 xs ρ1 e1
    split at e
    · rename_i pk ρ2 e2
      split at e
      · rename_i k ek
        split at e
        · rename_i hz
          cases e
          have hz' := of_decide_eq_true hz
          refine ⟨ρ, M, O, π, _, ρ1, h, e1, fun v1 H1 M1 x1 s1 r1 => ?_⟩
          refine ⟨ρ1, M1, Vi.hold O _ v1, π, pk, _, s1.hold r1, e2, fun v2 H2 M2 x2 s2 r2 => ?_⟩
          have s2' := s2.less (hold_le O (.val (.own b0 xs)) v1)
          obtain ⟨p, vs, e3, e4, e5, e6, e7, e8⟩ := r1.held x2 s2
          have ev := (peek_vw s2' (r2.less (hold_le O (.val (.own b0 xs)) v1)) ek).inI
          subst e3 ev
          exact ⟨p, k, vs, rfl, rfl, e4, hz'.1, hz'.2.1, by rw [e7.length]; exact hz'.2.2, fun p' hp' => Post.lst (Q := Q) (fun v H' M' x3 s3 r3 => q v H' M' ((x1.trans (x2.less (hold_le O (.val (.own b0 xs)) (.ref p)))).trans x3) s3 r3) s2' (e7.rep k.toNat) hp'⟩
        · cases e
      · cases e
    · cases e
  · cases e
/-! ### built-ins of several values -/
def mA (f : List D → Option Sv) (m : MA) : ME := fun ρ => match m ρ with
  | some (ds, ρ1) => match f ds with
    | some r => some (.val r, ρ1)
    | none => none
  | none => none
def AS (X : Cx) (r : List V → Hp → VK → Prop) (f : List D → Option Sv) : Prop := ∀ {H : Hp} {M O : Mset} {π : Nat → Option Addr} {ρ : Fm} {σ : St} {vs : List V} {ds : List D} {res : Sv} {Q : VK}, SR X.K H M O π ρ σ → Reps X.K H M vs ds → f ds = some res →
  (∀ v H' M', Ext O H M H' M' → SR X.K H' M' O π ρ σ → RP X.K H' M' O ρ σ (.val res) v → Q v H') → r vs H Q
theorem de_callA {id : String} {x : Str} {p : Pos} {r : List V → Hp → VK → Prop} {f : List D → Option Sv} (hc : CallR X (.builtin id) r) (hs : AS X r f) (hg : Gl X x) (hm : X.mg x = none) (hv : bootBuiltins x = some (.builtin id)) (ha : DA X (e :: es) mes)
    (hn : x ≠ "__name__" := by decide) (hd : (x == ("__debug__" : Str)) = false := by decide) (he : starEach (e :: es) X.env = (false, eval e X.env) :: starEach es X.env := by rfl) (hpl : (PySem.backTo pos (starEach es X.env)).any (·.1) = false := by rfl) : DE X (.Call (.Name x p) (e :: es) [] pos) (mA f mes) :=
  PE.imp (pe_callB hc hg hm hv ha hn hd he hpl) fun σ H Q ⟨ρ, M, O, π, pr, ρ', h, e, q⟩ => by
    unfold mA at e
    split at e
    · rename_i ds ρ1 e1
      split at e
      · rename_i r er
        cases e
        exact ⟨ρ, M, O, π, ds, _, h, e1, fun vs H1 M1 x1 s1 r1 => hs s1 r1 er fun v H' M' x3 s3 r3 => q v H' M' (x1.trans x3) s3 r3⟩
      · cases e
    · cases e
def dMin2 : List D → Option Sv
  | [.int i, .int j] => some (.imm (.int (if j < i then j else i)))
  | _ => none
def dMax2 : List D → Option Sv
  | [.int i, .int j] => some (.imm (.int (if j > i then j else i)))
  | _ => none
theorem as_min2 : AS X (fun xs H Q => ∃ i j, xs = [V.int i, V.int j] ∧ Q (.int (if j < i then j else i)) H) dMin2 := by
  intro H M O π ρ σ vs ds res Q h r e q
  unfold dMin2 at e
  split at e
  · cases e
    cases r with
    | cons r1 r2 => cases r2 with
      | cons r2 r3 =>
        cases r3; cases r1; cases r2
        exact ⟨_, _, rfl, Post.now q h (.int _)⟩
  · cases e
theorem as_max2 : AS X (fun xs H Q => ∃ i j, xs = [V.int i, V.int j] ∧ Q (.int (if j > i then j else i)) H) dMax2 := by
  intro H M O π ρ σ vs ds res Q h r e q
  unfold dMax2 at e
  split at e
  · cases e
    cases r with
    | cons r1 r2 => cases r2 with
      | cons r2 r3 =>
        cases r3; cases r1; cases r2
        exact ⟨_, _, rfl, Post.now q h (.int _)⟩
  · cases e
/-! ### x.pop(), x.extend(e) -/
def mPop (i : Nat) : ME := fun ρ => match ρ[i]? with
  | some (some (.own b ds)) => match ds[ds.length - 1]? with
    | some d => some (.val (.imm d), ρ.set i (some (.own b ds.dropLast)))
    | none => none
  | _ => none
theorem Reps.dropLast {K : PySem.W.Frag} {H : Hp} {M : Mset} {vs : List V} {ds : List D} (h : Reps K H M vs ds) : Reps K H M vs.dropLast ds.dropLast := by
  rw [List.dropLast_eq_take, List.dropLast_eq_take, h.length]; exact h.take _
theorem de_pop {i : Nat} {st_e : Expr} (h : PE X st_e (tBM0 X.K "list" rPop (tVar i))) : DE X st_e (mPop i) :=
  PE.imp h fun σ H Q ⟨ρ, M, O, π, fl, ρ', h, e, q⟩ => by
    unfold mPop at e
    split at e
    · rename_i b ds e0
      obtain ⟨a, vs, f1, f2, f3, f4, f5, f6⟩ := h.own i b ds e0
      split at e
      · rename_i d ed
        cases e
        obtain ⟨w, hw, rw'⟩ := f5.get ed
        obtain ⟨s3, x3, t3⟩ := h.write (ws := vs.dropLast) (es := ds.dropLast) e0 f1 f5.dropLast
        exact ⟨.ref a, f1, .inl ⟨rfl, vs, .inl (.inl f2)⟩, a, vs, w, rfl, rfl, f2, by rw [f5.length]; exact hw, q _ _ M x3 s3 (rw'.tr t3)⟩
      · cases e
    · cases e
def ownD (ρ : Fm) : PR → Option (List D)
  | .val (.own _ ds) => some ds
  | .slot j => match ρ[j]? with
    | some (some (.own _ ds)) => some ds
    | _ => none
  | _ => none
theorem ownD_ok {K : PySem.W.Frag} {H : Hp} {M O : Mset} {π : Nat → Option Addr} {ρ : Fm} {σ : St} {pr : PR} {v : V} {ds : List D} (h : SR K H M O π ρ σ) (r : RP K H M O ρ σ pr v) (e : ownD ρ pr = some ds) : ∃ p vs, v = .ref p ∧ H p = some (.lst vs) ∧ Reps K H M vs ds := by
  match pr, v, r, e with
  | .val (.own b ds'), v, ⟨p, vs, e1, e2, _, _, e4, _⟩, e =>
    cases e; exact ⟨p, vs, e1, e2, e4⟩
  | .slot j, v, r, e =>
    have r' : σ[j]? = some (some v) := r
    unfold ownD at e
    simp only at e
    split at e
    · rename_i b ds' hs
      cases e
      obtain ⟨a, vs, f1, f2, f3, f4, f5, f6⟩ := h.own j b _ hs
      rw [r'] at f1; cases f1
      exact ⟨a, vs, rfl, f2, f5⟩
    · cases e
/-- x.extend(e), e a list of nobody else's -/
def mExt (i : Nat) (me : ME) : ME := fun ρ => match ρ[i]? with
  | some (some (.own _ _)) => match me ρ with
    | some (pr, ρ1) => match ownD ρ1 pr with
      | some es => match ρ1[i]? with
        | some (some (.own b ds)) => if fits (ds.length + es.length) = true then some (.val (.imm .none), ρ1.set i (some (.own b (ds ++ es)))) else none
        | _ => none
      | none => none
    | none => none
  | _ => none
theorem de_ext {i : Nat} {st_e : Expr} (h : ∀ t, PA X [e] t → PE X st_e (tBM X.K "list" rExtend (tVar i) t)) (he : DE X e me) (hs : starEach (e :: []) X.env = (false, eval e X.env) :: starEach [] X.env := by rfl) : DE X st_e (mExt i me) :=
  PE.imp (h _ (pa_cons he pa_nil hs)) fun σ H Q ⟨ρ, M, O, π, fl, ρ', h, e, q⟩ => by
    unfold mExt at e
    split at e
    · rename_i b0 ds0 e0
      obtain ⟨a, vs, f1, f2, f3, f4, f5, f6⟩ := h.own i b0 ds0 e0
      refine ⟨.ref a, f1, .inl ⟨rfl, vs, .inl (.inl f2)⟩, ?_⟩
      split at e
      · rename_i pr ρ1 e1
        split at e
        · rename_i es e2
          split at e
          · rename_i b ds e3
            split at e
            · rename_i hz
              cases e
              refine ⟨ρ, M, O, π, pr, ρ1, h, e1, fun v H1 M1 x1 s1 r1 => ?_⟩
              obtain ⟨a', ws, g1, g2, g3, g4, g5, g6⟩ := s1.own i b ds e3
              rw [f1] at g1; cases g1
              obtain ⟨p, zs, rfl, g7, g8⟩ := ownD_ok s1 r1 e2
              obtain ⟨s3, x3, t3⟩ := s1.write (ws := ws ++ zs) (es := ds ++ es) e3 f1 (g5.append g8)
              exact ⟨a, p, ws, zs, rfl, rfl, g2, g7, by have := fits_le hz; rw [g5.length, g8.length]; omega, q _ _ M1 (x1.trans x3) s3 .non⟩
            · cases e
          · cases e
        · cases e
      · cases e
    · cases e
end
end Vi

namespace HT
open PySem PyProof.Rows PySem.Spec
section
variable {prog : Program} {w : World} {A : Around} {E : Value → Shared → Prop} {s : Shared}
theorem vi_applied_rev {sl : Addr} {vs : Value} {n : Nat} {Q : Int × Int × Nat → Shared → Prop} (hs : s.heap.IsSliceOf sl .none .none vs) (ps : IsPart vs (some (-1)))
    (h : Q ((n : Int) - 1, -1, n) s) : wpAny (model prog w) A (Builtin.Slice.sliceApplied (.ref sl) (pure (n : Int))) Q E s := by
  obtain ⟨os, hos, hcs, hds⟩ := id hs
  unfold Builtin.Slice.sliceApplied Builtin.Slice.sliceFields
  refine wpAny_bind (wpAny_bind (wpAny_field hos hds (x := Value.none) rfl (wpAny_bind (wpAny_field hos hds (x := Value.none) rfl (wpAny_bind (wpAny_field hos hds (x := vs) rfl (wpAny_pure ?_)))))))
  refine wpAny_bind (slicePart_ ps ?_)
  show wpAny _ _ (if ((-1 : Int) == 0) = true then _ else _) _ _ s
  rw [if_neg (by decide)]
  refine wpAny_bind (slicePart_none (wpAny_bind (slicePart_none (wpAny_bind (wpAny_pure ?_)))))
  show wpAny _ _ (pure ((n : Int) - 1, (-1 : Int), Builtin.Slice.slicePlaces ((n : Int) - 1) (-1) (-1))) _ _ s
  have e : Builtin.Slice.slicePlaces ((n : Int) - 1) (-1) (-1) = n := by
    unfold Builtin.Slice.slicePlaces
    rw [if_neg (by decide)]
    by_cases hn : (n : Int) - 1 > -1
    · rw [if_pos hn, show (-(-1) : Int) = 1 by decide, Int.ediv_one]; omega
    · rw [if_neg hn]; omega
  rw [e]
  exact wpAny_pure h
theorem vi_fm_congr {α β : Type} {f g : α → Option β} : ∀ {l : List α}, (∀ x ∈ l, f x = g x) → l.filterMap f = l.filterMap g
  | [], _ => rfl
  | x :: l, h => by rw [List.filterMap_cons, List.filterMap_cons, h x (List.mem_cons_self ..), vi_fm_congr fun y hy => h y (List.mem_cons_of_mem _ hy)]
theorem vi_fm_all {α : Type} : ∀ l : List α, (List.range l.length).filterMap (fun m => l[m]?) = l
  | [] => rfl
  | x :: l => by
    rw [List.length_cons, List.range_succ_eq_map, List.filterMap_cons, List.filterMap_map]
    show x :: (List.range l.length).filterMap (fun m => l[m]?) = _
    rw [vi_fm_all l]
theorem vi_pick_rev (xs : Array Value) : ((List.range xs.size).filterMap fun (m : Nat) => xs[(((xs.size : Int) - 1) + (m : Int) * (-1)).toNat]?).toArray = xs.toList.reverse.toArray := by
  have e : ∀ m ∈ List.range xs.size, (fun (m : Nat) => xs[(((xs.size : Int) - 1) + (m : Int) * (-1)).toNat]?) m = xs.toList.reverse[m]? := fun m hm => by
    have hm' := List.mem_range.mp hm
    show xs[(((xs.size : Int) - 1) + (m : Int) * (-1)).toNat]? = _
    rw [List.getElem?_reverse (by simpa using hm'), show (((xs.size : Int) - 1) + (m : Int) * (-1)).toNat = xs.toList.length - 1 - m by rw [Array.length_toList]; omega]
    simp
  rw [vi_fm_congr e]
  have := vi_fm_all xs.toList.reverse
  rw [List.length_reverse, Array.length_toList] at this
  rw [this]
theorem vi_tuple_rev {t sl : Addr} {items : Array Value} {vs : Value} {Q : Value → Shared → Prop} (ht : IsTup s.heap t items) (hs : s.heap.IsSliceOf sl .none .none vs) (ps : IsPart vs (some (-1)))
    (h : Q (.ref s.heap.objs.size) { s with heap := s.heap.push { cls := .type "tuple", data := .seq items.toList.reverse.toArray } })
    (hsz : items.size ≤ sizeLine) : wpAny (model prog w) A (getItem (.ref t) (.ref sl)) Q E s := by
  have htake : sizeOk (.seq items.toList.reverse.toArray) := by
    show items.toList.reverse.toArray.size ≤ sizeLine
    rw [List.size_toArray, List.length_reverse, Array.length_toList]
    exact hsz
  obtain ⟨os, hos, hcs, hds⟩ := id hs
  have hTs : s.TypeIs (.ref sl) "slice" := ⟨os, hos, hcs⟩
  unfold getItem
  try with_reducible refine wpAny_holding ?_
  first | refine wpAny_bind (wpAny_pure ?_) | skip
  refine wpAny_bind (wpAny_sequenceKey ht.typeIs (by decide) ?_)
  refine wpAny_bind (wpAny_callSpecial?_slot (name := Str.ofString "__getitem__") ht.typeIs PyProof.Rows.slot_tuple_getitem
    (wpAny_call_entry PyProof.Rows.slot_tuple_getitem ht.typeIs entry_tuple_getitem ?_ (args_tuple_getitem _ _)))
  show wpAny _ _ (Builtin.Tuple.tupleItemsOf (.ref t) >>= _) _ _ s
  refine wpAny_bind (tupleItemsOf_ ht ?_)
  refine wpAny_bind (wpAny_typeOf hTs ?_)
  rw [if_pos (by decide)]
  refine wpAny_bind (vi_applied_rev hs ps ?_)
  show wpAny _ _ (if ((((items.size : Int) - 1)) == 0 && (-1 : Int) == 1 && items.size == items.size) = true then _ else _) _ _ s
  rw [if_neg (by simp), vi_pick_rev]
  first
    | exact wpAny_bind (m := Builtin.Tuple.tupleExact _) (wpAny_newObj_type (wpAny_pure ⟨_, rfl, wpAny_pure h⟩) htake)
    | exact wpAny_bind (m := Builtin.Tuple.tupleExact _) (wpAny_newObj_type (wpAny_bind (wpAny_pure (wpAny_pure ⟨_, rfl, wpAny_pure h⟩))) htake)
    | exact wpAny_bind (wpAny_bind (m := Builtin.Tuple.tupleExact _) (wpAny_newObj_type (wpAny_pure (wpAny_pure ⟨_, rfl, wpAny_pure h⟩)) htake))
    | exact wpAny_bind (wpAny_bind (m := Builtin.Tuple.tupleExact _) (wpAny_newObj_type (wpAny_pure ⟨_, rfl, wpAny_pure h⟩) htake))
end
end HT
namespace Vi
open PySem PySem.Spec PyProof.Rows L2 HT
section
variable {X : Cx} {e : Expr} {te : TE} {me : ME}
def tRevT (K : PySem.W.Frag) (te : TE) : TE := fun σ H Q => te σ H fun x H1 => ∃ a xs, x = .ref a ∧ SqT K H1 a xs ∧ ∀ p, H1 p = none → Q (.ref p) (upd H1 p (.tup xs.reverse))
theorem pe_revT {k : Nat} {p1 p2 p3 pos : Pos} (he : PE X e te) : PE X (.Subscript e (.Slice none none (some (.UnaryOp .USub (.Constant (.int 1) k p1) p2)) p3) pos) (tRevT X.K te) := by
  refine ⟨fun pins s σ H Q I h => ?_⟩
  refine Subscript_ (thn (he.run pins s σ H _ I h) fun v s1 ⟨x, H1, I1, r1, q1⟩ => ?_)
  obtain ⟨a, xs, ex, hx, q⟩ := q1
  subst ex
  cases r1
  have hst : PO X (some (.UnaryOp .USub (.Constant (.int 1) k p1) p2)) (tPart (tUn (rU fun i => .int (-i)) (tC (.int 1)))) := po_some (pe_un un_neg pe_int)
  refine wpAny_Slice (thn (po_none.run pins s1 σ H1 (fun o H2 => o = none ∧ H2 = H1) I1 ⟨rfl, rfl⟩) fun vl s2 ⟨l, H2, I2, pl, el, e2⟩ => ?_)
  subst el e2
  refine thn (po_none.run pins s2 σ H2 (fun o H3 => o = none ∧ H3 = H2) I2 ⟨rfl, rfl⟩) fun vu s3 ⟨u, H3, I3, pu, eu, e3⟩ => ?_
  subst eu e3
  refine thn (hst.run pins s3 σ H3 (fun o H4 => o = some (-1) ∧ H4 = H3) I3 ⟨1, rfl, -1, rfl, rfl, rfl⟩) fun vs s4 ⟨o, H4, I4, ps, eo, e4⟩ => ?_
  subst eo e4
  have I5 : Inv X pins σ H4 { s4 with heap := s4.heap.push { cls := .type "slice", data := .fields #[vl, vu, vs] } } := I4.kept (t' := s4.toks) fun b ob q => Heap.get?_push_of_some _ q
  obtain ⟨its, r, ht, hz⟩ := I5.tuple hx
  have hlen := r.length
  cases pl
  cases pu
  show wpAny (model X.prog X.w) X.A (subscriptTail e (.Slice none none (some (.UnaryOp .USub (.Constant (.int 1) k p1) p2)) p3) (.ref a) (.ref s4.heap.objs.size)) (EP X pins σ Q) X.xe { s4 with heap := s4.heap.push { cls := .type "slice", data := .fields #[.none, .none, vs] } }
  refine tail_any (ops := [.ref a, .ref s4.heap.objs.size]) ht.typeIs (PyProof.Rows.slot_tuple_getitem.lookup) ?_ (by with_unfolding_all rfl)
  refine vi_tuple_rev ht (Heap.IsSliceOf.new _ .none .none vs) ps ?_ (by rw [List.size_toArray]; omega)
  refine ⟨.ref _, _, I5.laid (t' := s4.toks) (o := .tup xs.reverse) (fun b ob q => Heap.get?_push_of_some _ q) (Nat.le_refl _) ?_, rfl, q _ (I5.hok.fresh (Nat.le_refl _))⟩
  exact ⟨by rw [List.length_reverse]; exact hz, _, r.reverse, ⟨_, Heap.get?_push_size _ rfl, rfl, 0, rfl⟩⟩
theorem pe_either {e : Expr} {t u : TE} (h1 : PE X e t) (h2 : PE X e u) : PE X e fun σ H Q => t σ H Q ∨ u σ H Q := ⟨fun pins s σ H Q I h => h.elim (fun z => h1.run pins s σ H Q I z) fun z => h2.run pins s σ H Q I z⟩
theorem Reps.reverse {K : PySem.W.Frag} {H : Hp} {M : Mset} : ∀ {vs : List V} {ds : List D}, Reps K H M vs ds → Reps K H M vs.reverse ds.reverse
  | _, _, .nil => .nil
  | _, _, .cons h r => by
    rw [List.reverse_cons, List.reverse_cons]
    exact (Reps.reverse r).append (.cons h .nil)
def dRev : D → Option Sv
  | .list ds => some (.own false ds.reverse)
  | .tuple ds => some (.imm (.tuple ds.reverse))
  | _ => none
/-- e[::-1] -/
theorem de_rev {k : Nat} {p1 p2 p3 pos : Pos} (he : DE X e me) : DE X (.Subscript e (.Slice none none (some (.UnaryOp .USub (.Constant (.int 1) k p1) p2)) p3) pos) (un dRev me) :=
  PE.imp (pe_either (pe_revL he) (pe_revT he)) fun σ H Q h => by
    obtain ⟨ρ, M, O, π, pr, ρ', h0, e, q⟩ := h
    unfold un at e
    split at e
    · rename_i a ρ1 ea
      split at e
      · rename_i x ex
        split at e
        · rename_i res er
          simp only [Option.some.injEq, Prod.mk.injEq] at e
          obtain ⟨rfl, rfl⟩ := e
          cases x with
          | list ds =>
            cases er
            refine .inl ⟨ρ, M, O, π, a, ρ1, h0, ea, fun v1 H1 M1 x1 s1 r1 => ?_⟩
            obtain ⟨a', vs, rfl, rd, rs⟩ := (peek_vw s1 r1 ex).inL
            exact ⟨a', vs, rfl, .inl rd, fun p hp => Post.lst (Q := Q) (fun v H' M' x3 s3 r3 => q v H' M' (x1.trans x3) s3 r3) s1 rs.reverse hp⟩
          | tuple ds =>
            cases er
            refine .inr ⟨ρ, M, O, π, a, ρ1, h0, ea, fun v1 H1 M1 x1 s1 r1 => ?_⟩
            obtain ⟨a', vs, rfl, rd, rs⟩ := (peek_vw s1 r1 ex).inT
            exact ⟨a', vs, rfl, rd.sq, fun p hp => Post.tup (Q := Q) (fun v H' M' x3 s3 r3 => q v H' M' (x1.trans x3) s3 r3) s1 rs.reverse hp⟩
          | _ => cases er
        · cases e
      · cases e
    · cases e
end
end Vi

namespace Vi
open PySem PySem.Spec PyProof.Rows L2
section
variable {X : Cx} {pos : Pos} {me mk : ME} {e k : Expr}
/-! ### op= -/
theorem pget_list : PGet X (rIxL X.K) := by
  intro pins s σ H x y v u Q I rx ry h
  obtain ⟨p, xs, i, z, rfl, rfl, hq, he, q⟩ := h
  cases rx
  obtain ⟨t, rfl⟩ := ry
  obtain ⟨its, r, pl, hz⟩ := I.list hq
  obtain ⟨j, h1, h2, h3, h4, h5⟩ := atI_get he
  obtain ⟨w, ew, rw'⟩ := r.get h2
  have hl := r.length
  have hn := line63
  have fin : EP X pins σ Q w s := ⟨z, H, I, rw', q⟩
  by_cases h0 : 0 ≤ i
  · have hj : i.toNat = j := by
      rw [seqIndex_of h0 h5] at h1
      exact Option.some.inj h1
    exact wpAny_getItem_list pl.isList h0 (by omega) (by rw [hj]; simpa using ew) fin
  · have hj : (i + (its.toArray.size : Int)).toNat = j := by
      rw [seqIndex_neg (by omega) h4] at h1
      rw [List.size_toArray, ← hl]
      exact Option.some.inj h1
    exact wpAny_getItem_list_neg pl.isList (by omega) (by rw [List.size_toArray] <;> omega) (by omega) (by rw [hj]; simpa using ew) fin
/-- x[k] op= e, of ints -/
def mAugS (f : Int → Int → Int) (i : Nat) (mk me : ME) : MS := fun ρ => match ρ[i]? with
  | some (some (.own _ _)) => match mk ρ with
    | some (pk, ρ1) => match peek ρ1 pk with
      | some (.int k) => match ρ1[i]? with
        | some (some (.own _ ds)) => match atI ds k with
          | some (.int x) => match me ρ1 with
            | some (pr, ρ2) => match peek ρ2 pr with
              | some (.int y) => match ρ2[i]? with
                | some (some (.own b ds)) => match ixN ds.length k with
                  | some j => some (.next, ρ2.set i (some (.own b (ds.set j (.int (f x y))))))
                  | none => none
                | _ => none
              | _ => none
            | none => none
          | _ => none
        | _ => none
      | _ => none
    | none => none
  | _ => none
theorem ds_augS {st : Stmt} {f : Int → Int → Int} {i : Nat} (h : ∀ te tk, PE X e te → PE X k tk → PS X st (tAugS (tVar i) tk te (rIxL X.K) (ipI f) rSetL)) (he : DE X e me) (hk : DE X k mk) : DS X st (mAugS f i mk me) :=
  PS.imp (h _ _ he hk) fun D σ H ⟨ρ, M, O, π, fl, ρ', h, e, q⟩ => by
    unfold mAugS at e
    split at e
    · rename_i b0 ds0 e0
      split at e
      · rename_i pk ρ1 e1
        split at e
        · rename_i k e2
          split at e
          · rename_i b1 ds1 e3
            split at e
            · rename_i x e4
              split at e
              · rename_i pr ρ2 e5
                split at e
                · rename_i y e6
                  split at e
                  · rename_i b ds e7
                    split at e
                    · rename_i j ej
                      cases e
                      obtain ⟨a, vs, f1, f2, f3, f4, f5, f6⟩ := h.own i b0 ds0 e0
                      refine ⟨.ref a, f1, ρ, M, O, π, pk, ρ1, h, e1, fun v H1 M1 x1 s1 r1 => ?_⟩
                      obtain ⟨a', ws, g1, g2, g3, g4, g5, g6⟩ := s1.own i b1 ds1 e3
                      rw [f1] at g1; cases g1
                      have hk := (peek_vw s1 r1 e2).inI
                      subst hk
                      obtain ⟨w, ew, rw'⟩ := atI_rep g5 e4
                      cases rw'
                      refine ⟨a, ws, k, .int x, rfl, rfl, .inl (.inl g2), ew, ?_⟩
                      refine ⟨ρ1, M1, O, π, pr, ρ2, s1, e5, fun w H2 M2 x2 s2 r2 => ?_⟩
                      have hy := (peek_vw s2 r2 e6).inI
                      subst hy
                      obtain ⟨a'', us, k1, k2, k3, k4, k5, k6⟩ := s2.own i b ds e7
                      rw [f1] at k1; cases k1
                      refine ⟨x, y, rfl, rfl, ?_⟩
                      obtain ⟨s4, x4, t4⟩ := s2.write (ws := us.set j (.int (f x y))) (es := ds.set j (.int (f x y))) e7 f1 (k5.set j (.int _))
                      exact ⟨a, us, k, j, rfl, rfl, k2, by rw [k5.length]; exact ej, q _ _ M2 ((x1.trans x2).trans x4) s4⟩
                    · cases e
                  · cases e
                · cases e
              · cases e
            · cases e
          · cases e
        · cases e
      · cases e
    · cases e
/-- x op= e, of ints -/
def mAugN (f : Int → Int → Int) (i : Nat) (me : ME) : MS := fun ρ => match ρ[i]? with
  | some (some (.imm (.int x))) => match me ρ with
    | some (pr, ρ1) => match peek ρ1 pr with
      | some (.int y) => match put i (.val (.imm (.int (f x y)))) ρ1 with
        | some ρ2 => some (.next, ρ2)
        | none => none
      | _ => none
    | none => none
  | _ => none
theorem ds_augN {st : Stmt} {f : Int → Int → Int} {i : Nat} (h : ∀ te, PE X e te → PS X st (tAug i te (ipI f))) (he : DE X e me) : DS X st (mAugN f i me) :=
  PS.imp (h _ he) fun D σ H ⟨ρ, M, O, π, fl, ρ', h, e, q⟩ => by
    unfold mAugN at e
    split at e
    · rename_i x e0
      split at e
      · rename_i pr ρ1 e1
        split at e
        · rename_i y e2
          split at e
          · rename_i ρ2 e3
            cases e
            obtain ⟨v, f1, f2⟩ := h.imm i _ e0
            cases f2
            refine ⟨.int x, f1, ρ, M, O, π, pr, ρ1, h, e1, fun w H1 M1 x1 s1 r1 => ?_⟩
            have hy := (peek_vw s1 r1 e2).inI
            subst hy
            refine ⟨x, y, rfl, rfl, ?_⟩
            obtain ⟨M2, x2, s2⟩ := put_ok s1 (show RP X.K H1 M1 O ρ1 σ (.val (.imm (.int (f x y)))) (.int (f x y)) from .int _) e3
            exact q _ H1 M2 (x1.trans x2) s2
          · cases e
        · cases e
      · cases e
    · cases e
/-- a, b = x, y with names that comprehensions read -/
theorem ds_parC {st : Stmt} {a b : Expr} {ma mb : ME} {i j : Nat} (h : ∀ ta, PA X [a, b] ta → PS X st (tAsg (tTup ta) (gTup X.K 2 (gCons (gName i) (gCons (gName j) gNil))))) (ha : DE X a ma) (hb : DE X b mb) (hs : starEach [a, b] X.env = (false, eval a X.env) :: starEach [b] X.env := by rfl) (hs2 : starEach [b] X.env = (false, eval b X.env) :: starEach [] X.env := by rfl) : DS X st (mPar i j ma mb) :=
  PS.imp (h _ (pa_cons ha (pa_cons hb pa_nil hs2) hs)) fun D σ H ⟨ρ, M, O, π, fl, ρ', h, e, q⟩ => by
    unfold mPar at e
    split at e
    · rename_i p1 ρ1 e1
      split at e
      · rename_i s1 ρ2 e2
        split at e
        · rename_i p2 ρ3 e3
          split at e
          · rename_i s2 ρ4 e4
            split at e
            · rename_i hz
              cases e
              rw [Bool.and_eq_true] at hz
              refine ⟨ρ, M, O, π, p1, ρ1, h, e1, fun v1 H1 M1 x1 t1 r1 => ?_⟩
              obtain ⟨M2, x2, t2, r2⟩ := take_ok t1 r1 e2
              refine ⟨ρ2, M2, Vi.hold O (.val s1) v1, π, p2, ρ3, t2.hold r2, e3, fun v2 H3 M3 x3 t3 r3 => ⟨by show 2 ≤ sizeLine; decide, fun p hp => ⟨p, [v1, v2], rfl, .inl (.inl upd_same), rfl, v1, [v2], rfl, v2, [], rfl, rfl, ?_⟩⟩⟩
              obtain ⟨M4, x4, t4, r4⟩ := take_ok t3 r3 e4
              have le := hold_le O (.val s1) v1
              have y1 : Ext (Vi.hold (Vi.hold O (.val s1) v1) (.val s2) v2) H3 M4 (upd H3 p (.tup [v1, v2])) M4 := .alloc (t4.hold r4) hp
              have u4 := (t4.hold r4).alloc (o := .tup [v1, v2]) hp
              have le2 := hold_le (Vi.hold O (.val s1) v1) (.val s2) v2
              have r4' := r4.held y1 u4
              have r1' := r2.held ((x3.trans x4).trans (y1.less le2)) (u4.less le2)
              have t5 := ((u4.less le2).less le).setVal r1' (fine_ne hz.1) i
              have r5 := RP.set (i := i) r1' r4' u4.len
              exact q _ _ M4 ((x1.trans x2).trans (((x3.trans x4).trans (y1.less le2)).less le)) (t5.setVal r5 (fine_ne hz.2) j)
            · cases e
          · cases e
        · cases e
      · cases e
    · cases e
end
end Vi

namespace Vi
open PySem PySem.Spec PyProof.Rows L2
section
variable {ρ ρ0 ρ1 ρ2 ρ3 : Fm} {me ma mb : ME} {m n : MS} {mt : MT} {mi : MI} {mg : MG} {d s t : D} {r sv : Sv} {ds es : List D} {pr p1 p2 : PR} {i : Nat} {os : List (Option (List D))} {fl : Fl}
theorem c_fits {n : Nat} (h : n ≤ 10000) : fits n = true := decide_eq_true (by unfold sizeLine; omega)
theorem c_rng {i : Int} (h : -1000000 ≤ i ∧ i ≤ 1000000) : rngOk i = true := decide_eq_true (by constructor <;> omega)
theorem c_call {f : Fn} {mr : MR} {as : List AR} {args : List Sv} (h1 : mr ρ = some (as, ρ1)) (h2 : nodupB (slotsOf as) = true) (h3 : argsOf ρ1 as = some args) (h4 : f args = some (r, os)) (h5 : Vi.backTo ρ1 as os = some ρ2) : mCall f mr ρ = some (.val r, ρ2) := by
  unfold mCall
  rw [h1]
  simp only [h2, h3, h4, h5, if_true]
theorem c_set (h1 : me ρ = some (pr, ρ1)) (h2 : put i pr ρ1 = some ρ2) : mSet i me ρ = some (.next, ρ2) := by
  unfold mSet
  rw [h1]
  simp only [h2]
theorem c_ret (h1 : me ρ = some (pr, ρ1)) (h2 : give ρ1 pr = some r) : mRet me ρ = some (.ret r, ρ1) := by
  unfold mRet
  rw [h1]
  simp only [h2]
theorem c_drop (h1 : me ρ = some (pr, ρ1)) : mDrop me ρ = some (.next, ρ1) := by
  unfold mDrop
  rw [h1]
theorem c_bin {f : D → D → Option Sv} (h1 : ma ρ = some (p1, ρ1)) (h2 : mb ρ1 = some (p2, ρ2)) (h3 : peek ρ2 p1 = some s) (h4 : peek ρ2 p2 = some t) (h5 : f s t = some r) : bin f ma mb ρ = some (.val r, ρ2) := by
  unfold bin
  rw [h1]
  simp only [h2, h3, h4, h5]
theorem c_un {f : D → Option Sv} (h1 : ma ρ = some (p1, ρ1)) (h3 : peek ρ1 p1 = some s) (h5 : f s = some r) : un f ma ρ = some (.val r, ρ1) := by
  unfold un
  rw [h1]
  simp only [h3, h5]
theorem c_seq {x : Option (Fl × Fm)} (h : m ρ = some (.next, ρ1)) (h2 : n ρ1 = x) : mSeq m n ρ = x := by unfold mSeq; rw [h]; exact h2
theorem c_for {x : Option (Fl × Fm)} (h : mi ρ = some (ds, ρ1)) (h2 : loop mg m ds ρ1 = x) : mFor mi mg m ρ = x := by unfold mFor; rw [h]; exact h2
theorem c_nil : loop mg m [] ρ = some (.next, ρ) := rfl
theorem c_cons {x : Option (Fl × Fm)} (h1 : mg d ρ = some ρ1) (h2 : m ρ1 = some (.next, ρ2)) (h3 : loop mg m ds ρ2 = x) : loop mg m (d :: ds) ρ = x := by
  rw [loop, h1]
  simp only [h2]
  exact h3
theorem c_cons_cont {x : Option (Fl × Fm)} (h1 : mg d ρ = some ρ1) (h2 : m ρ1 = some (.cont, ρ2)) (h3 : loop mg m ds ρ2 = x) : loop mg m (d :: ds) ρ = x := by
  rw [loop, h1]
  simp only [h2]
  exact h3
theorem c_ifT {x : Option (Fl × Fm)} (h : mt ρ = some (true, ρ1)) (h2 : m ρ1 = x) : mIfS mt m n ρ = x := by unfold mIfS; rw [h]; exact h2
theorem c_ifF {x : Option (Fl × Fm)} (h : mt ρ = some (false, ρ1)) (h2 : n ρ1 = x) : mIfS mt m n ρ = x := by unfold mIfS; rw [h]; exact h2
theorem c_tru {b : Bool} (h1 : me ρ = some (pr, ρ1)) (h2 : peek ρ1 pr = some d) (h3 : dTru d = some b) : mTru me ρ = some (b, ρ1) := by
  unfold mTru
  rw [h1]
  simp only [h2, h3]
theorem c_andT {x : Option (PR × Fm)} (h1 : ma ρ = some (pr, ρ1)) (h2 : peek ρ1 pr = some d) (h3 : dTru d = some true) (h4 : mb ρ1 = x) : mAnd ma mb ρ = x := by
  unfold mAnd
  rw [h1]
  simp only [h2, h3]
  exact h4
theorem c_andF (h1 : ma ρ = some (pr, ρ1)) (h2 : peek ρ1 pr = some d) (h3 : dTru d = some false) : mAnd ma mb ρ = some (pr, ρ1) := by
  unfold mAnd
  rw [h1]
  simp only [h2, h3]
/-- a and b, of bools -/
theorem c_andB {a b : Bool} (h1 : ma ρ = some (.val (.imm (.bool a)), ρ)) (h2 : a = true → mb ρ = some (.val (.imm (.bool b)), ρ)) : mAnd ma mb ρ = some (.val (.imm (.bool (a && b))), ρ) := by
  cases a
  · exact c_andF h1 rfl rfl
  · exact c_andT h1 rfl rfl (h2 rfl)
theorem c_comp {mg : MG} {mt : MT} {me : ME} {vs : List Nat} (h1 : mi ρ = some (ds, ρ1)) (h2 : vsOk ρ1 vs = true) (h3 : cloop mg mt me vs ds (wipeA ρ1 vs) = some (es, ρ2)) (h4 : fits es.length = true) (h5 : restA ρ2 ρ1 vs = ρ3) : mComp mi mg mt me vs ρ = some (.val (.own false es), ρ3) := by
  show (match mi ρ with
    | some (ds, ρ1) => if vsOk ρ1 vs = true then match cloop mg mt me vs ds (wipeA ρ1 vs) with
      | some (es, ρ2) => if fits es.length = true then some (PR.val (.own false es), restA ρ2 ρ1 vs) else none
      | none => none
      else none
    | none => none) = _
  rw [h1]
  show (if vsOk ρ1 vs = true then _ else _) = _
  rw [if_pos h2, h3]
  show (if fits es.length = true then _ else _) = _
  rw [if_pos h4, h5]
theorem c_cnil {vs : List Nat} : cloop mg mt me vs [] ρ = some ([], ρ) := rfl
theorem c_ccons {vs : List Nat} {ρ4 ρ5 : Fm} {e : D} (h1 : mg d ρ = some ρ1) (h2 : mt ρ1 = some (true, ρ2)) (h3 : me ρ2 = some (pr, ρ3)) (h4 : frz ρ3 pr = some (e, ρ4)) (h5 : cloop mg mt me vs ds (wipeA ρ4 vs) = some (es, ρ5)) : cloop mg mt me vs (d :: ds) ρ = some (e :: es, ρ5) := by
  rw [cloop, h1]
  simp only [h2, h3, h4, h5]
theorem c_cskip {vs : List Nat} {x : Option (List D × Fm)} (h1 : mg d ρ = some ρ1) (h2 : mt ρ1 = some (false, ρ2)) (h5 : cloop mg mt me vs ds (wipeA ρ2 vs) = x) : cloop mg mt me vs (d :: ds) ρ = x := by
  rw [cloop, h1]
  simp only [h2, h5]
theorem c_fn {nN np : Nat} {ms : MS} {us : List Sv} (hn : us.length = np) (h0 : us.map some ++ List.replicate (nN - np) none = ρ0) (h : ms ρ0 = some (.ret r, ρ)) (ho : outsOf us ρ = some os) : mFn nN np ms us = some (r, os) := by
  unfold mFn
  rw [if_pos hn, h0, h]
  simp only [ho]
theorem c_rng1 {ma : MA} {n : Nat} (h : ma ρ = some ([.int (n : Int)], ρ1)) (hn : n ≤ 1000000) : mIRng1 ma ρ = some (rngD 0 n, ρ1) := by
  have r1 : rngOk (n : Int) = true := c_rng (by omega)
  unfold mIRng1
  rw [h]
  simp only [r1, if_true, Int.toNat_natCast]
theorem c_rng2 {ma : MA} {i j : Int} {n : Nat} (h : ma ρ = some ([.int i, .int j], ρ1)) (hi : -1000000 ≤ i ∧ i ≤ 1000000) (hj : -1000000 ≤ j ∧ j ≤ 1000000) (hn : (j - i).toNat = n) : mIRng2 ma ρ = some (rngD i n, ρ1) := by
  have r1 : rngOk i = true := c_rng hi
  have r2 : rngOk j = true := c_rng hj
  unfold mIRng2
  rw [h]
  simp only [r1, r2, Bool.and_self, if_true, hn]
theorem c_addL (h : ds.length + es.length ≤ 10000) : dAdd (.list ds) (.list es) = some (.own false (ds ++ es)) := by
  have hf : fits (ds.length + es.length) = true := c_fits h
  unfold dAdd
  simp only [hf, if_true]
theorem c_addT (h : ds.length + es.length ≤ 10000) : dAdd (.tuple ds) (.tuple es) = some (.imm (.tuple (ds ++ es))) := by
  have hf : fits (ds.length + es.length) = true := c_fits h
  unfold dAdd
  simp only [hf, if_true]
theorem c_mul {i j : Int} (h : -(2 ^ 64) < j ∧ j < 2 ^ 64) : mulOk i j = true := by
  unfold mulOk; rw [Bool.or_eq_true, Bool.or_eq_true]; exact .inl (.inr (decide_eq_true h))
theorem c_mul' {i j : Int} (h : -(2 ^ 64) < i ∧ i < 2 ^ 64) : mulOk i j = true := by
  unfold mulOk; rw [Bool.or_eq_true, Bool.or_eq_true]; exact .inl (.inl (decide_eq_true h))
end
end Vi

namespace K30
open PySem PySem.Spec PyProof.Rows L2 Vi

def topS (i : Nat) : Stmt := PySem.Challenge.pw_everychange_k30_lyndon_words_among_all.main.body.getD i (.Pass ⟨0, 0, 0, 0⟩)
theorem sc1 : FnScope ["thing"] ["thing"] (defScope (topS 1)) := ⟨rfl, rfl, rfl, by decide +kernel, rfl, by decide +kernel, by decide +kernel⟩
theorem sc2 : FnScope ["thing"] ["thing"] (defScope (topS 2)) := ⟨rfl, rfl, rfl, by decide +kernel, rfl, by decide +kernel, by decide +kernel⟩
theorem sc4 : FnScope ["thing", "many", "letter"] ["thing", "many"] (defScope (topS 4)) := ⟨rfl, rfl, rfl, by decide +kernel, rfl, by decide +kernel, by decide +kernel⟩
theorem sc5 : FnScope ["word", "at"] ["word"] (defScope (topS 5)) := ⟨rfl, rfl, rfl, by decide +kernel, rfl, by decide +kernel, by decide +kernel⟩
theorem sc6 : FnScope ["many", "power", "found", "word", "length", "_", "own"] ["many", "power"] (defScope (topS 6)) := ⟨rfl, rfl, rfl, by decide +kernel, rfl, by decide +kernel, by decide +kernel⟩
theorem sc7 : FnScope ["many", "length", "counts", "words", "letters", "rounds", "done"] ["many", "length"] (defScope (topS 7)) := ⟨rfl, rfl, rfl, by decide +kernel, rfl, by decide +kernel, by decide +kernel⟩
theorem sc9 : FnScope ["script", "k", "bit_so"] ["script", "k"] (defScope (topS 9)) := ⟨rfl, rfl, rfl, by decide +kernel, rfl, by decide +kernel, by decide +kernel⟩
theorem sc10 : FnScope ["urn", "low_so", "drawn", "once", "far", "twice"] ["urn", "low_so"] (defScope (topS 10)) := ⟨rfl, rfl, rfl, by decide +kernel, rfl, by decide +kernel, by decide +kernel⟩
theorem sc11 : FnScope ["script", "roof_so", "bits_so", "k", "bit_so", "at_so"] ["script", "roof_so"] (defScope (topS 11)) := ⟨rfl, rfl, rfl, by decide +kernel, rfl, by decide +kernel, by decide +kernel⟩
theorem sc12 : FnScope ["near", "due", "far", "own"] ["near", "due"] (defScope (topS 12)) := ⟨rfl, rfl, rfl, by decide +kernel, rfl, by decide +kernel, by decide +kernel⟩
theorem sc13 : FnScope ["wide_so", "long_so", "found", "last_so", "lap", "more_so", "own", "k"] ["wide_so", "long_so"] (defScope (topS 13)) := ⟨rfl, rfl, rfl, by decide +kernel, rfl, by decide +kernel, by decide +kernel⟩
theorem sc14 : FnScope ["own", "k"] ["own"] (defScope (topS 14)) := ⟨rfl, rfl, rfl, by decide +kernel, rfl, by decide +kernel, by decide +kernel⟩
theorem sc15 : FnScope ["wide_so", "long_so", "own"] ["wide_so", "long_so"] (defScope (topS 15)) := ⟨rfl, rfl, rfl, by decide +kernel, rfl, by decide +kernel, by decide +kernel⟩
theorem sc16 : FnScope ["heard_so", "due", "k", "own"] [] (defScope (topS 16)) := ⟨rfl, rfl, rfl, by decide +kernel, rfl, by decide +kernel, by decide +kernel⟩
theorem sc17 : FnScope ["urn", "wide_so", "long_so", "own", "heard_so", "due", "size_so", "total_so", "k", "all_so", "go", "word_so", "found", "far"] ["urn"] (defScope (topS 17)) := ⟨rfl, rfl, rfl, by decide +kernel, rfl, by decide +kernel, by decide +kernel⟩
theorem sc18 : FnScope ["script"] ["script"] (defScope (topS 18)) := ⟨rfl, rfl, rfl, by decide +kernel, rfl, by decide +kernel, by decide +kernel⟩
/-- is_number -/
def fn1 (cl : Nat → Fn) : Fn := mFn 1 1 ((mRet (mAnd (un (dIsi Ty.int) (mVar 0)) (un dNot (un (dIsi Ty.bool) (mVar 0))))))
/-- is_count -/
def fn2 (cl : Nat → Fn) : Fn := mFn 1 1 ((mRet (mAnd (mCall (cl 1) (rVal (mVar 0) rNil)) (bin dGe (mVar 0) (mC (.int 0))))))
/-- is_word -/
def fn4 (cl : Nat → Fn) : Fn := mFn 3 2 ((mRet (mAnd (un (dIsi Ty.tuple) (mVar 0)) (un dAll (mComp (mISeq (mVar 0)) (mN 2) mYes (mAnd (mCall (cl 2) (rVal (mVar 2) rNil)) (bin dLtA (mVar 2) (mVar 1))) [2])))))
/-- is_lyndon -/
def fn5 (cl : Nat → Fn) : Fn := mFn 2 1 ((mRet (mAnd (bin dGt (un dLen (mVar 0)) (mC (.int 0))) (un dAll (mComp (mIRng2 (mCons (mC (.int 1)) (mCons (un dLen (mVar 0)) mNil))) (mN 1) mYes (bin dLtA (mVar 0) (mSl (mVar 0) (mPart (mVar 1)) mNoPart)) [1])))))
/-- lyndon_words -/
def fn6 (cl : Nat → Fn) : Fn := mFn 7 2 ((mSeq (mPar 2 3 (mLst mNil) (mLst (mCons (un dNeg (mC (.int 1))) mNil))) (mSeq (whl (mTru (mVar 3)) (mSeq (mAugS (· + ·) 3 (un dNeg (mC (.int 1))) (mC (.int 1))) (mSeq (mSet 4 (un dLen (mVar 3))) (mSeq (mDrop (mApp 2 (mTup (mCons (mVar 4) (mCons (un dTuple (mVar 3)) mNil))))) (mSeq (whl (mB (bin dLt (un dLen (mVar 3)) (mVar 1))) (mDrop (mApp 3 (bin dIx (mVar 3) (un dNeg (mVar 4))))) 64) (whl (mAndT (mTru (mVar 3)) (mB (bin dEq (bin dIx (mVar 3) (un dNeg (mC (.int 1)))) (bin dSub (mVar 0) (mC (.int 1)))))) (mDrop (mPop 3)) 64))))) 64) (mRet (mComp (mISeq (un dSort (mVar 2))) (mGtup 2 (mGcons (mN 5) (mGcons (mN 6) mGnil))) mYes (mVar 6) [5, 6])))))
/-- lyndon_count -/
def fn7 (cl : Nat → Fn) : Fn := mFn 7 2 ((mSeq (mPar 2 3 (mLst (mCons (mC (.int 0)) mNil)) (mC (.int 1))) (mSeq (mFor (mIRng2 (mCons (mC (.int 1)) (mCons (bin dAdd (mVar 1) (mC (.int 1))) mNil))) (mN 4) (mSeq (mSet 3 (bin dMul (mVar 3) (mVar 0))) (mSeq (mSet 5 (un dSum (mComp (mIRng2 (mCons (mC (.int 1)) (mCons (mVar 4) mNil))) (mN 6) (mB (bin dEq (bin dMod (mVar 4) (mVar 6)) (mC (.int 0)))) (bin dMul (mVar 6) (bin dIx (mVar 2) (mVar 6))) [6]))) (mDrop (mApp 2 (bin dDiv (bin dSub (mVar 3) (mVar 5)) (mVar 4))))))) (mRet (bin dIx (mVar 2) (mVar 1))))))
/-- _law_box -/
def fn9 (cl : Nat → Fn) : Fn := mFn 3 2 ((mSeq (mSet 2 (mIf (mB (bin dLt (mVar 1) (un dLen (mVar 0)))) (bin dIx (mVar 0) (mVar 1)) (mC (.int 0)))) (mRet (mLst (mCons (bin dMul (un dAbs (mVar 2)) (un dInt (bin dGe (un dAbs (mVar 2)) (bin dPow (mC (.int 10)) (mC (.int 18)))))) (mCons (bin dAdd (bin dAdd (bin dMod (un dInt (mVar 2)) (mC (.int 2305843009213693951))) (bin dMul (mC (.int 39373)) (mVar 1))) (mC (.int 13799))) (mCons (mC (.int 0)) mNil)))))))
/-- _law_take -/
def fn10 (cl : Nat → Fn) : Fn := mFn 6 2 ((mSeq (mIfS (mB (bin dGt (bin dIx (mVar 0) (mC (.int 0))) (mC (.int 0)))) (mSeq (mSet 2 (bin dMod (un dInt (bin dIx (mVar 0) (mC (.int 0)))) (mVar 1))) (mSeq (mStore 0 (mC (.int 0)) (bin dDiv (bin dIx (mVar 0) (mC (.int 0))) (mVar 1))) (mRet (mVar 2)))) mNext) (mSeq (mStore 0 (mC (.int 2)) (bin dAdd (bin dIx (mVar 0) (mC (.int 2))) (mC (.int 1)))) (mSeq (mSet 3 (bin dMod (un dInt (bin dMul (bin dAdd (bin dIx (mVar 0) (mC (.int 1))) (bin dMul (mC (.int 48271)) (bin dIx (mVar 0) (mC (.int 2))))) (bin dAdd (mC (.int 39373)) (bin dIx (mVar 0) (mC (.int 2)))))) (mC (.int 2147483647)))) (mSeq (mSet 4 (bin dAdd (bin dMod (un dInt (mVar 3)) (mC (.int 40009))) (mC (.int 7)))) (mSeq (mSet 5 (bin dMod (un dInt (bin dMul (bin dAdd (bin dAdd (mVar 3) (bin dIx (mVar 0) (mC (.int 2)))) (bin dDiv (bin dIx (mVar 0) (mC (.int 1))) (mC (.int 1000003)))) (mVar 4))) (mC (.int 2147483629)))) (mRet (bin dMod (un dInt (bin dDiv (bin dMod (un dInt (bin dAdd (bin dMul (mVar 5) (mC (.int 48271))) (mVar 3))) (mC (.int 2147483587))) (mC (.int 64)))) (mVar 1)))))))))
/-- _law_cells -/
def fn11 (cl : Nat → Fn) : Fn := mFn 6 2 ((mSeq (mSet 2 (mOr (un dList (mSl (mVar 0) mNoPart (mPart (mVar 1)))) (mLst (mCons (mC (.int 0)) mNil)))) (mSeq (mFor (mIEnum (mCons (mSl (mVar 0) (mPart (mVar 1)) (mPart (mC (.int 63)))) mNil)) (mGtup 2 (mGcons (mN 3) (mGcons (mN 4) mGnil))) (mSeq (mSet 5 (bin dMod (un dInt (mVar 3)) (mVar 1))) (mStore 2 (mVar 5) (bin dAdd (bin dIx (mVar 2) (mVar 5)) (bin dMul (mVar 4) (bin dAdd (mVar 3) (mC (.int 2)))))))) (mRet (mVar 2)))))
/-- _law_same -/
def fn12 (cl : Nat → Fn) : Fn := mFn 4 2 ((mSeq (mIfS (mTru (un (dIsi2 Ty.list Ty.tuple) (mVar 1))) (mSeq (mIfS (mB (bin dNe (un (dIsi Ty.list) (mVar 0)) (un (dIsi Ty.list) (mVar 1)))) (mRet (mC (.bool false))) mNext) (mSeq (mIfS (mB (bin dNe (un (dIsi Ty.tuple) (mVar 0)) (un (dIsi Ty.tuple) (mVar 1)))) (mRet (mC (.bool false))) mNext) (mSeq (mIfS (mNotT (mB (bin dEq (un dLen (mVar 0)) (un dLen (mVar 1))))) (mRet (mC (.bool false))) mNext) (mRet (un dAll (mComp (mIZip (mCons (mVar 0) (mCons (mVar 1) mNil))) (mGtup 2 (mGcons (mN 2) (mGcons (mN 3) mGnil))) mYes (mCall (cl 12) (rVal (mVar 2) (rVal (mVar 3) rNil))) [2, 3])))))) mNext) (mSeq (mIfS (mOrT (mB (bin dIs (mVar 1) (mC .none))) (mTru (un (dIsi2 Ty.bool Ty.str) (mVar 1)))) (mSeq (mIfS (mNotT (mB (bin dEq (mVar 0) (mVar 1)))) (mRet (mC (.bool false))) mNext) (mSeq (mIfS (mNotT (mB (bin dEq (un (dIsi Ty.bool) (mVar 0)) (un (dIsi Ty.bool) (mVar 1))))) (mRet (mC (.bool false))) mNext) (mRet (bin dEq (bin dIs (mVar 0) (mC .none)) (bin dIs (mVar 1) (mC .none)))))) mNext) (mRet (mAnd (un (dIsi Ty.int) (mVar 0)) (mAnd (un dNot (un (dIsi Ty.bool) (mVar 0))) (bin dEq (mVar 0) (mVar 1))))))))
/-- _law_words -/
def fn13 (cl : Nat → Fn) : Fn := mFn 8 2 ((mSeq (mPar 2 3 (mLst (mCons (mTup mNil) mNil)) (mLst (mCons (mTup mNil) mNil))) (mSeq (mFor (mIRng1 (mCons (mVar 1) mNil)) (mN 4) (mSeq (mSet 5 (mLst mNil)) (mSeq (mFor (mISeq (mVar 3)) (mN 6) (mSet 5 (bin dAdd (mVar 5) (mComp (mIRng1 (mCons (mVar 0) mNil)) (mN 7) mYes (bin dAdd (mVar 6) (mTup (mCons (mVar 7) mNil))) [7])))) (mSeq (mSet 3 (mVar 5)) (mSet 2 (bin dAdd (mVar 2) (mVar 3))))))) (mRet (mVar 2)))))
/-- _law_is_lyndon -/
def fn14 (cl : Nat → Fn) : Fn := mFn 2 1 ((mRet (mAnd (bin dNe (mVar 0) (mTup mNil)) (bin dEq (mComp (mIRng2 (mCons (mC (.int 1)) (mCons (un dLen (mVar 0)) mNil))) (mN 1) (mNotT (mB (bin dLtA (mVar 0) (mSl (mVar 0) (mPart (mVar 1)) mNoPart)))) (mVar 1) [1]) (mLst mNil)))))
/-- _law_lyndons -/
def fn15 (cl : Nat → Fn) : Fn := mFn 3 2 ((mRet (mComp (mISeq (mCall (cl 13) (rVal (mVar 0) (rVal (mVar 1) rNil)))) (mN 2) (mTru (mCall (cl 14) (rVal (mVar 2) rNil))) (mVar 2) [2])))
/-- _law_by_hand_right -/
def fn16 (cl : Nat → Fn) : Fn := mFn 4 0 ((mSeq (mSet 0 (mLst (mCons (mCall (cl 6) (rVal (mC (.int 2)) (rVal (mC (.int 3)) rNil))) (mCons (mCall (cl 6) (rVal (mC (.int 1)) (rVal (mC (.int 6)) rNil))) (mCons (mCall (cl 6) (rVal (mC (.int 3)) (rVal (mC (.int 2)) rNil))) (mCons (mSl (mCall (cl 6) (rVal (mC (.int 2)) (rVal (mC (.int 4)) rNil))) (mPart (mC (.int 5))) mNoPart) (mCons (mCall (cl 6) (rPerm 0 2 [0, 1] rNil (rVal (mC (.int 4)) (rVal (mC (.int 1)) rNil)))) mNil))))))) (mSeq (mSet 1 (mLst (mCons (mLst (mCons (mTup (mCons (mC (.int 0)) mNil)) (mCons (mTup (mCons (mC (.int 1)) mNil)) (mCons (mTup (mCons (mC (.int 0)) (mCons (mC (.int 1)) mNil))) (mCons (mTup (mCons (mC (.int 0)) (mCons (mC (.int 0)) (mCons (mC (.int 1)) mNil)))) (mCons (mTup (mCons (mC (.int 0)) (mCons (mC (.int 1)) (mCons (mC (.int 1)) mNil)))) mNil)))))) (mCons (mLst (mCons (mTup (mCons (mC (.int 0)) mNil)) mNil)) (mCons (mLst (mCons (mTup (mCons (mC (.int 0)) mNil)) (mCons (mTup (mCons (mC (.int 1)) mNil)) (mCons (mTup (mCons (mC (.int 2)) mNil)) (mCons (mTup (mCons (mC (.int 0)) (mCons (mC (.int 1)) mNil))) (mCons (mTup (mCons (mC (.int 0)) (mCons (mC (.int 2)) mNil))) (mCons (mTup (mCons (mC (.int 1)) (mCons (mC (.int 2)) mNil))) mNil))))))) (mCons (mLst (mCons (mTup (mCons (mC (.int 0)) (mCons (mC (.int 0)) (mCons (mC (.int 0)) (mCons (mC (.int 1)) mNil))))) (mCons (mTup (mCons (mC (.int 0)) (mCons (mC (.int 0)) (mCons (mC (.int 1)) (mCons (mC (.int 1)) mNil))))) (mCons (mTup (mCons (mC (.int 0)) (mCons (mC (.int 1)) (mCons (mC (.int 1)) (mCons (mC (.int 1)) mNil))))) mNil)))) (mCons (mLst (mCons (mTup (mCons (mC (.int 0)) mNil)) (mCons (mTup (mCons (mC (.int 1)) mNil)) (mCons (mTup (mCons (mC (.int 2)) mNil)) (mCons (mTup (mCons (mC (.int 3)) mNil)) mNil))))) mNil))))))) (mSeq (mSet 0 (bin dAdd (mVar 0) (mLst (mCons (mComp (mIRng2 (mCons (mC (.int 1)) (mCons (mC (.int 13)) mNil))) (mN 2) mYes (mCall (cl 7) (rVal (mC (.int 2)) (rVal (mVar 2) rNil))) [2]) (mCons (mComp (mISeq (mTup (mCons (mC (.int 1)) (mCons (mC (.int 2)) (mCons (mC (.int 12)) mNil))))) (mN 2) mYes (mCall (cl 7) (rVal (mC (.int 1)) (rVal (mVar 2) rNil))) [2]) (mCons (mComp (mIRng2 (mCons (mC (.int 1)) (mCons (mC (.int 7)) mNil))) (mN 2) mYes (mCall (cl 7) (rVal (mC (.int 3)) (rVal (mVar 2) rNil))) [2]) mNil)))))) (mSeq (mSet 1 (bin dAdd (mVar 1) (mLst (mCons (mLst (mCons (mC (.int 2)) (mCons (mC (.int 1)) (mCons (mC (.int 2)) (mCons (mC (.int 3)) (mCons (mC (.int 6)) (mCons (mC (.int 9)) (mCons (mC (.int 18)) (mCons (mC (.int 30)) (mCons (mC (.int 56)) (mCons (mC (.int 99)) (mCons (mC (.int 186)) (mCons (mC (.int 335)) mNil))))))))))))) (mCons (mLst (mCons (mC (.int 1)) (mCons (mC (.int 0)) (mCons (mC (.int 0)) mNil)))) (mCons (mLst (mCons (mC (.int 3)) (mCons (mC (.int 3)) (mCons (mC (.int 8)) (mCons (mC (.int 18)) (mCons (mC (.int 48)) (mCons (mC (.int 116)) mNil))))))) mNil)))))) (mSeq (mSet 0 (bin dAdd (mVar 0) (mLst (mCons (mCall (cl 7) (rPerm 0 2 [1, 0] rNil (rVal (mC (.int 30)) (rVal (mC (.int 2)) rNil)))) (mCons (mCall (cl 7) (rVal (mC (.int 4)) (rVal (mC (.int 30)) rNil))) (mCons (mCall (cl 5) (rVal (mTup mNil) rNil)) (mCons (mCall (cl 5) (rVal (mTup (mCons (mC (.int 3)) mNil)) rNil)) (mCons (mCall (cl 5) (rVal (mTup (mCons (mC (.int 0)) (mCons (mC (.int 0)) mNil))) rNil)) (mCons (mCall (cl 5) (rVal (mLst (mCons (mC (.int 0)) (mCons (mC (.int 0)) (mCons (mC (.int 1)) (mCons (mC (.int 0)) (mCons (mC (.int 1)) mNil)))))) rNil)) mNil))))))))) (mSeq (mSet 1 (bin dAdd (mVar 1) (mLst (mCons (mC (.int 35790267)) (mCons (mC (.int 38430716784401786)) (mCons (mC (.bool false)) (mCons (mC (.bool true)) (mCons (mC (.bool false)) (mCons (mC (.bool true)) mNil))))))))) (mSeq (mSet 0 (bin dAdd (mVar 0) (mLst (mCons (mCall (cl 5) (rVal (mTup (mCons (mC (.int 0)) (mCons (mC (.int 1)) (mCons (mC (.int 0)) (mCons (mC (.int 1)) mNil))))) rNil)) (mCons (mCall (cl 5) (rVal (mTup (mCons (mC (.int 0)) (mCons (mC (.int 1)) (mCons (mC (.int 0)) mNil)))) rNil)) (mCons (mCall (cl 5) (rVal (mTup (mCons (mC (.int 1)) (mCons (mC (.int 0)) mNil))) rNil)) (mCons (mCall (cl 5) (rPerm 0 1 [0] rNil (rVal (mTup (mCons (mC (.int 0)) (mCons (mC (.int 2)) (mCons (mC (.int 1)) mNil)))) rNil))) (mCons (mCall (cl 5) (rVal (mTup (mCons (mC (.int 0)) (mCons (mC (.int 0)) (mCons (mC (.int 1)) (mCons (mC (.int 0)) (mCons (mC (.int 0)) (mCons (mC (.int 2)) mNil))))))) rNil)) mNil)))))))) (mSeq (mSet 1 (bin dAdd (mVar 1) (mLst (mCons (mC (.bool false)) (mCons (mC (.bool false)) (mCons (mC (.bool false)) (mCons (mC (.bool true)) (mCons (mC (.bool true)) mNil)))))))) (mSeq (mSet 0 (bin dAdd (bin dAdd (mVar 0) (mComp (mISeq (mTup (mCons (mTup mNil) (mCons (mTup (mCons (mC (.int 0)) mNil)) (mCons (mTup (mCons (mC (.int 1)) (mCons (mC (.int 1)) (mCons (mC (.int 0)) mNil)))) (mCons (mTup (mCons (mC (.int 2)) mNil)) (mCons (mTup (mCons (un dNeg (mC (.int 1))) mNil)) (mCons (mLst (mCons (mC (.int 0)) mNil)) (mCons (mTup (mCons (mC (.bool true)) mNil)) (mCons (mC .none) (mCons (mTup (mCons (mTup (mCons (mC (.int 0)) mNil)) mNil)) (mCons (mC (.str "0")) (mCons (mTup (mCons (mC (.int 0)) (mCons (mC .none) mNil))) mNil))))))))))))) (mN 3) mYes (mCall (cl 4) (rVal (mVar 3) (rVal (mC (.int 2)) rNil))) [3])) (mLst (mCons (mCall (cl 4) (rPerm 0 2 [1, 0] rNil (rVal (mC (.int 1)) (rVal (mTup (mCons (mC (.int 0)) (mCons (mC (.int 0)) mNil))) rNil)))) mNil)))) (mRet (mCall (cl 12) (rVal (mVar 0) (rVal (bin dAdd (bin dAdd (bin dAdd (mVar 1) (mLst (mCons (mC (.bool true)) (mCons (mC (.bool true)) (mCons (mC (.bool true)) mNil))))) (mRep (mLst (mCons (mC (.bool false)) mNil)) (mC (.int 8)))) (mLst (mCons (mC (.bool true)) mNil))) rNil))))))))))))))
/-- _law_right -/
def fn17 (cl : Nat → Fn) : Fn := mFn 14 1 ((mSeq (mSet 1 (bin dAdd (mC (.int 1)) (mCall (cl 10) (rSlot 0 (rVal (mC (.int 4)) rNil))))) (mSeq (mSet 2 (bin dAdd (mC (.int 1)) (mCall (cl 10) (rSlot 0 (rVal (bin dIx (mTup (mCons (mC (.int 6)) (mCons (mC (.int 6)) (mCons (mC (.int 4)) (mCons (mC (.int 3)) mNil))))) (bin dSub (mVar 1) (mC (.int 1)))) rNil))))) (mSeq (mSet 3 (mCall (cl 15) (rVal (mVar 1) (rVal (mVar 2) rNil)))) (mSeq (mSet 4 (mLst (mCons (mCall (cl 6) (rVal (mVar 1) (rVal (mVar 2) rNil))) (mCons (mComp (mIRng2 (mCons (mC (.int 1)) (mCons (bin dAdd (mVar 2) (mC (.int 1))) mNil))) (mN 8) mYes (mCall (cl 7) (rVal (mVar 1) (rVal (mVar 8) rNil))) [8]) mNil)))) (mSeq (mSet 5 (mLst (mCons (mVar 3) (mCons (mComp (mIRng2 (mCons (mC (.int 1)) (mCons (bin dAdd (mVar 2) (mC (.int 1))) mNil))) (mN 8) mYes (un dLen (mComp (mISeq (mVar 3)) (mN 13) (mB (bin dEq (un dLen (mVar 13)) (mVar 8))) (mVar 13) [13])) [8]) mNil)))) (mSeq (mPar 6 7 (bin dAdd (mC (.int 1)) (mCall (cl 10) (rSlot 0 (rVal (mC (.int 30)) rNil)))) (mC (.int 0))) (mSeq (mFor (mIRng2 (mCons (mC (.int 1)) (mCons (bin dAdd (mVar 6) (mC (.int 1))) mNil))) (mN 8) (mIfS (mB (bin dEq (bin dMod (mVar 6) (mVar 8)) (mC (.int 0)))) (mSet 7 (bin dAdd (mVar 7) (bin dMul (mVar 8) (mCall (cl 7) (rVal (mVar 1) (rVal (mVar 8) rNil)))))) mNext)) (mSeq (mSet 9 (mC (.int 1))) (mSeq (mFor (mIRng1 (mCons (mVar 6) mNil)) (mN 8) (mSet 9 (bin dMul (mVar 9) (mVar 1)))) (mSeq (mDrop (mApp 4 (mVar 7))) (mSeq (mDrop (mApp 5 (mVar 9))) (mSeq (mFor (mIRng1 (mCons (mC (.int 6)) mNil)) (mN 10) (mSeq (mSet 11 (un dTuple (mComp (mIRng1 (mCons (mCall (cl 10) (rSlot 0 (rVal (mC (.int 8)) rNil))) mNil)) (mN 8) mYes (mCall (cl 10) (rSlot 0 (rVal (mVar 1) rNil))) [8]))) (mSeq (mSet 4 (bin dAdd (mVar 4) (mLst (mCons (mCall (cl 5) (rVal (mVar 11) rNil)) (mCons (mCall (cl 5) (rVal (un dList (mVar 11)) rNil)) (mCons (mCall (cl 4) (rVal (mVar 11) (rVal (mVar 1) rNil))) (mCons (mCall (cl 4) (rVal (bin dAdd (mVar 11) (mTup (mCons (mVar 1) mNil))) (rVal (mVar 1) rNil))) mNil))))))) (mSet 5 (bin dAdd (mVar 5) (mLst (mCons (mCall (cl 14) (rVal (mVar 11) rNil)) (mCons (mCall (cl 14) (rVal (mVar 11) rNil)) (mCons (mC (.bool true)) (mCons (mC (.bool false)) mNil)))))))))) (mSeq (mSet 12 (mCall (cl 6) (rVal (mVar 1) (rVal (mVar 2) rNil)))) (mSeq (mDrop (mApp 12 (mC .none))) (mSeq (mDrop (mApp 4 (mCall (cl 6) (rVal (mVar 1) (rVal (mVar 2) rNil))))) (mRet (mCall (cl 12) (rVal (mVar 4) (rVal (bin dAdd (mVar 5) (mLst (mCons (mVar 3) mNil))) rNil))))))))))))))))))))
/-- law -/
def fn18 (cl : Nat → Fn) : Fn := mFn 1 1 ((mSeq (mIfS (mNotT (mTru (mCall (cl 16) rNil))) (mRet (mC (.bool false))) mNext) (mRet (mCallO (cl 17) (mCall (cl 9) (rVal (mCall (cl 11) (rVal (mVar 0) (rVal (mC (.int 1)) rNil))) (rVal (mC (.int 0)) rNil)))))))
def run : Nat → Nat → Fn
  | 0, _ => fun _ => none
  | k + 1, i => match i with
    | 1 => fn1 (run k)
    | 2 => fn2 (run k)
    | 4 => fn4 (run k)
    | 5 => fn5 (run k)
    | 6 => fn6 (run k)
    | 7 => fn7 (run k)
    | 9 => fn9 (run k)
    | 10 => fn10 (run k)
    | 11 => fn11 (run k)
    | 12 => fn12 (run k)
    | 13 => fn13 (run k)
    | 14 => fn14 (run k)
    | 15 => fn15 (run k)
    | 16 => fn16 (run k)
    | 17 => fn17 (run k)
    | 18 => fn18 (run k)
    | _ => fun _ => none
/-- what the top has written -/
structure Top (K : PySem.W.Frag) (mg : Str → Option Value) (fa : Nat → Addr) (fd : Nat → FuncData) : Prop where
  F1 : Fun K "is_number" "is_number" (topS 1) (fa 1) (fd 1)
  g1 : mg "is_number" = some (.ref (fa 1))
  b1 : Binds K (fd 1) ["thing"] []
  F2 : Fun K "is_count" "is_count" (topS 2) (fa 2) (fd 2)
  g2 : mg "is_count" = some (.ref (fa 2))
  b2 : Binds K (fd 2) ["thing"] []
  F4 : Fun K "is_word" "is_word" (topS 4) (fa 4) (fd 4)
  g4 : mg "is_word" = some (.ref (fa 4))
  b4 : Binds K (fd 4) ["thing", "many"] []
  F5 : Fun K "is_lyndon" "is_lyndon" (topS 5) (fa 5) (fd 5)
  g5 : mg "is_lyndon" = some (.ref (fa 5))
  b5 : Binds K (fd 5) ["word"] []
  F6 : Fun K "lyndon_words" "lyndon_words" (topS 6) (fa 6) (fd 6)
  g6 : mg "lyndon_words" = some (.ref (fa 6))
  b6 : Binds K (fd 6) ["many", "power"] []
  F7 : Fun K "lyndon_count" "lyndon_count" (topS 7) (fa 7) (fd 7)
  g7 : mg "lyndon_count" = some (.ref (fa 7))
  b7 : Binds K (fd 7) ["many", "length"] []
  F9 : Fun K "_law_box" "_law_box" (topS 9) (fa 9) (fd 9)
  g9 : mg "_law_box" = some (.ref (fa 9))
  b9 : Binds K (fd 9) ["script", "k"] []
  F10 : Fun K "_law_take" "_law_take" (topS 10) (fa 10) (fd 10)
  g10 : mg "_law_take" = some (.ref (fa 10))
  b10 : Binds K (fd 10) ["urn", "low_so"] []
  F11 : Fun K "_law_cells" "_law_cells" (topS 11) (fa 11) (fd 11)
  g11 : mg "_law_cells" = some (.ref (fa 11))
  b11 : Binds K (fd 11) ["script", "roof_so"] []
  F12 : Fun K "_law_same" "_law_same" (topS 12) (fa 12) (fd 12)
  g12 : mg "_law_same" = some (.ref (fa 12))
  b12 : Binds K (fd 12) ["near", "due"] []
  F13 : Fun K "_law_words" "_law_words" (topS 13) (fa 13) (fd 13)
  g13 : mg "_law_words" = some (.ref (fa 13))
  b13 : Binds K (fd 13) ["wide_so", "long_so"] []
  F14 : Fun K "_law_is_lyndon" "_law_is_lyndon" (topS 14) (fa 14) (fd 14)
  g14 : mg "_law_is_lyndon" = some (.ref (fa 14))
  b14 : Binds K (fd 14) ["own"] []
  F15 : Fun K "_law_lyndons" "_law_lyndons" (topS 15) (fa 15) (fd 15)
  g15 : mg "_law_lyndons" = some (.ref (fa 15))
  b15 : Binds K (fd 15) ["wide_so", "long_so"] []
  F16 : Fun K "_law_by_hand_right" "_law_by_hand_right" (topS 16) (fa 16) (fd 16)
  g16 : mg "_law_by_hand_right" = some (.ref (fa 16))
  b16 : Binds K (fd 16) [] []
  F17 : Fun K "_law_right" "_law_right" (topS 17) (fa 17) (fd 17)
  g17 : mg "_law_right" = some (.ref (fa 17))
  b17 : Binds K (fd 17) ["urn"] []
  F18 : Fun K "law" "law" (topS 18) (fa 18) (fd 18)
  g18 : mg "law" = some (.ref (fa 18))
  b18 : Binds K (fd 18) ["script"] []
  k4_0_many_thing : KBinds K (fd 4) ["thing", "many"] ["many", "thing"] (perm 0 2 [1, 0]) (perm 0 2 [1, 0])
  k5_0_word : KBinds K (fd 5) ["word"] ["word"] (perm 0 1 [0]) (perm 0 1 [0])
  k7_0_length_many : KBinds K (fd 7) ["many", "length"] ["length", "many"] (perm 0 2 [1, 0]) (perm 0 2 [1, 0])
  k6_0_many_power : KBinds K (fd 6) ["many", "power"] ["many", "power"] (perm 0 2 [0, 1]) (perm 0 2 [0, 1])
  z_abs : mg "abs" = none
  z_all : mg "all" = none
  z_bool : mg "bool" = none
  z_enumerate : mg "enumerate" = none
  z_int : mg "int" = none
  z_isinstance : mg "isinstance" = none
  z_len : mg "len" = none
  z_list : mg "list" = none
  z_range : mg "range" = none
  z_sorted : mg "sorted" = none
  z_str : mg "str" = none
  z_sum : mg "sum" = none
  z_tuple : mg "tuple" = none
  z_zip : mg "zip" = none
structure Gs (P : Program) (w : World) (K : PySem.W.Frag) (mg : Str → Option Value) (base : Heap) (fa : Nat → Addr) (fd : Nat → FuncData) (k : Nat) (cl : Nat → Fn) : Prop where
  c1 : FnOk P w K mg base CX0 k (fa 1) (fd 1) ["thing"] (spD K 1 (cl 1))
  c2 : FnOk P w K mg base CX0 k (fa 2) (fd 2) ["thing"] (spD K 1 (cl 2))
  c4 : FnOk P w K mg base CX0 k (fa 4) (fd 4) ["thing", "many"] (spD K 2 (cl 4))
  c5 : FnOk P w K mg base CX0 k (fa 5) (fd 5) ["word"] (spD K 1 (cl 5))
  c6 : FnOk P w K mg base CX0 k (fa 6) (fd 6) ["many", "power"] (spD K 2 (cl 6))
  c7 : FnOk P w K mg base CX0 k (fa 7) (fd 7) ["many", "length"] (spD K 2 (cl 7))
  c9 : FnOk P w K mg base CX0 k (fa 9) (fd 9) ["script", "k"] (spD K 2 (cl 9))
  c10 : FnOk P w K mg base CX0 k (fa 10) (fd 10) ["urn", "low_so"] (spD K 2 (cl 10))
  c11 : FnOk P w K mg base CX0 k (fa 11) (fd 11) ["script", "roof_so"] (spD K 2 (cl 11))
  c12 : FnOk P w K mg base CX0 k (fa 12) (fd 12) ["near", "due"] (spD K 2 (cl 12))
  c13 : FnOk P w K mg base CX0 k (fa 13) (fd 13) ["wide_so", "long_so"] (spD K 2 (cl 13))
  c14 : FnOk P w K mg base CX0 k (fa 14) (fd 14) ["own"] (spD K 1 (cl 14))
  c15 : FnOk P w K mg base CX0 k (fa 15) (fd 15) ["wide_so", "long_so"] (spD K 2 (cl 15))
  c16 : FnOk P w K mg base CX0 k (fa 16) (fd 16) [] (spD K 0 (cl 16))
  c17 : FnOk P w K mg base CX0 k (fa 17) (fd 17) ["urn"] (spD K 1 (cl 17))
  c18 : FnOk P w K mg base CX0 k (fa 18) (fd 18) ["script"] (spD K 1 (cl 18))
section
variable {P : Program} {w : World} {K : PySem.W.Frag} {mg : Str → Option Value} {base : Heap} {fa : Nat → Addr} {fd : Nat → FuncData} {k : Nat} {cl : Nat → Fn}
theorem ok1 (T : Top K mg fa fd) (G : Gs P w K mg base fa fd k cl) : FnOk P w K mg base CX0 (k + 1) (fa 1) (fd 1) ["thing"] (spD K 1 (fn1 cl)) :=
  fn_ok T.F1 sc1 fun cdv A outer s H E hr => (dss_one (ds_ret (de_and (de_isi (t := Ty.int) (by rfl) T.z_isinstance boot_isinstance (de_var (pv 0)) (pe_bltn (by rfl) T.z_int boot_int rfl)) (de_one (de_not (de_isi (t := Ty.bool) (by rfl) T.z_isinstance boot_isinstance (de_var (pv 0)) (pe_bltn (by rfl) T.z_bool boot_bool rfl)))))))
theorem ok2 (T : Top K mg fa fd) (G : Gs P w K mg base fa fd k cl) : FnOk P w K mg base CX0 (k + 1) (fa 2) (fd 2) ["thing"] (spD K 1 (fn2 cl)) :=
  fn_ok T.F2 sc2 fun cdv A outer s H E hr => (dss_one (ds_ret (de_and (de_call G.c1 hr (by rfl) T.g1 T.F1.kp T.b1 (dr_val (de_var (pv 0)) dr_nil) (rl_val (rl_nil rfl))) (de_one (de_cmp op_ge os_cmpI (de_var (pv 0)) de_int (nomark _))))))
theorem ok4 (T : Top K mg fa fd) (G : Gs P w K mg base fa fd k cl) : FnOk P w K mg base CX0 (k + 1) (fa 4) (fd 4) ["thing", "many"] (spD K 2 (fn4 cl)) :=
  fn_ok T.F4 sc4 fun cdv A outer s H E hr => (dss_one (ds_ret (de_and (de_isi (t := Ty.tuple) (by rfl) T.z_isinstance boot_isinstance (de_var (pv 0)) (pe_bltn (by rfl) T.z_tuple boot_tuple rfl)) (de_one (de_call1 (cr_all rfl) us_all (by rfl) T.z_all boot_all (de_lc rfl sc4.nd (di_seq (de_var (pv 0))) (own := [("letter", 2)]) (blkOk_by (by kernel_rfl)) (fun _ _ _ _ _ => (dg_name (pg_name sc4.nd rfl (by first | exact Or.inl rfl | exact Or.inr rfl)))) (fun _ _ _ _ _ => dts_nil) (fun _ _ _ _ _ => (de_and (de_call G.c2 hr (by rfl) T.g2 T.F2.kp T.b2 (dr_val (de_var (pv 2)) dr_nil) (rl_val (rl_nil rfl))) (de_one (de_cmp (op_ltA (room64 hr)) os_cmpD (de_var (pv 2)) (de_var (pv 1)) (nomark _))))) (by decide)))))))
theorem ok5 (T : Top K mg fa fd) (G : Gs P w K mg base fa fd k cl) : FnOk P w K mg base CX0 (k + 1) (fa 5) (fd 5) ["word"] (spD K 1 (fn5 cl)) :=
  fn_ok T.F5 sc5 fun cdv A outer s H E hr => (dss_one (ds_ret (de_and (de_cmp op_gt os_cmpI (de_call1 call_len_seq us_len (by rfl) T.z_len boot_len (de_var (pv 0))) de_int (nomark _)) (de_one (de_call1 (cr_all rfl) us_all (by rfl) T.z_all boot_all (de_lc rfl sc5.nd (di_rng2 (by rfl) T.z_range (da_cons de_int (da_cons (de_call1 call_len_seq us_len (by rfl) T.z_len boot_len (de_var (pv 0))) da_nil))) (own := [("at", 1)]) (blkOk_by (by kernel_rfl)) (fun _ _ _ _ _ => (dg_name (pg_name sc5.nd rfl (by first | exact Or.inl rfl | exact Or.inr rfl)))) (fun _ _ _ _ _ => dts_nil) (fun _ _ _ _ _ => (de_cmp (op_ltA (room64 hr)) os_cmpD (de_var (pv 0)) (de_sl (de_var (pv 0)) (do_some (de_var (pv 1))) do_none) (nomark _))) (by decide)))))))
theorem ok6 (T : Top K mg fa fd) (G : Gs P w K mg base fa fd k cl) : FnOk P w K mg base CX0 (k + 1) (fa 6) (fd 6) ["many", "power"] (spD K 2 (fn6 cl)) :=
  fn_ok T.F6 sc6 fun cdv A outer s H E hr => (dss_cons (ds_par (fun ta h => ps_par rfl sc6.nd rfl rfl (by decide) rfl rfl h (by rfl)) (de_lst da_nil) (de_lst (da_cons (de_un un_neg us_neg de_int) da_nil)))
    (dss_cons (ds_while (n := 64) PassesOwn.never (dt_tru (de_var (pv 3))) (dss_cons (ds_augS (fun te tk h1 h2 => ps_augS (pv 3) h2 pget_list h1 ip_add set_list) de_int (de_un un_neg us_neg de_int))
    (dss_cons (ds_set (fun te h => ps_set sc6.nd rfl (by first | exact Or.inl rfl | exact Or.inr rfl) h) (de_call1 call_len_seq us_len (by rfl) T.z_len boot_len (de_var (pv 3))))
    (dss_cons (ds_expr (de_app (fun t h => pe_bm PySem.F.plainAttrs_list PySem.F.slot_list_append PySem.F.type_list_append mt_append (pv 2) h) (de_tup (da_cons (de_var (pv 4)) (da_cons (de_callT1 call_tuple_of us_tuple (by rfl) T.z_tuple boot_tuple (de_var (pv 3))) da_nil)))))
    (dss_cons (ds_while (n := 64) PassesOwn.never (dt_cmp op_lt os_cmpI (de_call1 call_len_seq us_len (by rfl) T.z_len boot_len (de_var (pv 3))) (de_var (pv 1)) (nomark _)) (dss_one (ds_expr (de_app (fun t h => pe_bm PySem.F.plainAttrs_list PySem.F.slot_list_append PySem.F.type_list_append mt_append (pv 3) h) (de_ix ix_A os_ix (de_var (pv 3)) (de_un un_neg us_neg (de_var (pv 4))) (fun _ _ => rfl))))))
    (dss_one (ds_while (n := 64) PassesOwn.never (dt_w (dw_and (dt_tru (de_var (pv 3))) (dw_and1 (dt_cmp (op_eqD (room64 hr)) os_eq (de_ix ix_A os_ix (de_var (pv 3)) (de_un un_neg us_neg de_int) (fun _ _ => rfl)) (de_op op_sub os_sub (de_var (pv 0)) de_int) (nomark _))))) (dss_one (ds_expr (de_pop (pe_bm0 PySem.F.plainAttrs_list PySem.F.slot_list_pop PySem.F.type_list_pop mt_pop (pv 3))))))))))))
    (dss_one (ds_ret (de_lc rfl sc6.nd (di_seq (de_call1 (cr_sortD (room70 hr)) us_sort (by rfl) T.z_sorted boot_sorted (de_var (pv 2)))) (own := [("_", 5), ("own", 6)]) (blkOk_by (by kernel_rfl)) (fun _ _ _ _ _ => (dg_tup rfl (dgs_cons (dg_name (pg_name sc6.nd rfl (by first | exact Or.inl rfl | exact Or.inr rfl))) (dgs_cons (dg_name (pg_name sc6.nd rfl (by first | exact Or.inl rfl | exact Or.inr rfl))) dgs_nil)))) (fun _ _ _ _ _ => dts_nil) (fun _ _ _ _ _ => (de_var (pv 6))) (by decide))))))
theorem ok7 (T : Top K mg fa fd) (G : Gs P w K mg base fa fd k cl) : FnOk P w K mg base CX0 (k + 1) (fa 7) (fd 7) ["many", "length"] (spD K 2 (fn7 cl)) :=
  fn_ok T.F7 sc7 fun cdv A outer s H E hr => (dss_cons (ds_parC (fun ta h => ps_asg (pe_tup h) (pg_tup rfl (pgs_cons (pg_name sc7.nd rfl (by first | exact Or.inl rfl | exact Or.inr rfl)) (pgs_cons (pg_name sc7.nd rfl (by first | exact Or.inl rfl | exact Or.inr rfl)) pgs_nil)))) (de_lst (da_cons de_int da_nil)) de_int)
    (dss_cons (ds_for PassesOwn.never rfl (di_rng2 (by rfl) T.z_range (da_cons de_int (da_cons (de_op op_addA os_add (de_var (pv 1)) de_int) da_nil))) (dg_name (pg_name sc7.nd rfl (by first | exact Or.inl rfl | exact Or.inr rfl))) (dss_cons (ds_set (fun te h => ps_set sc7.nd rfl (by first | exact Or.inl rfl | exact Or.inr rfl) h) (de_op op_mulA os_mul (de_var (pv 3)) (de_var (pv 0))))
    (dss_cons (ds_set (fun te h => ps_set sc7.nd rfl (by first | exact Or.inl rfl | exact Or.inr rfl) h) (de_call1 (cr_sum rfl) us_sum (by rfl) T.z_sum boot_sum (de_lc rfl sc7.nd (di_rng2 (by rfl) T.z_range (da_cons de_int (da_cons (de_var (pv 4)) da_nil))) (own := [("done", 6)]) (blkOk_by (by kernel_rfl)) (fun _ _ _ _ _ => (dg_name (pg_name sc7.nd rfl (by first | exact Or.inl rfl | exact Or.inr rfl)))) (fun _ _ _ _ _ => (dts_one (dt_cmp (op_eqD (room64 hr)) os_eq (de_op op_mod os_mod (de_var (pv 4)) (de_var (pv 6))) de_int (nomark _)))) (fun _ _ _ _ _ => (de_op op_mulA os_mul (de_var (pv 6)) (de_ix ix_A os_ix (de_var (pv 2)) (de_var (pv 6)) (fun _ _ => rfl)))) (by decide))))
    (dss_one (ds_expr (de_app (fun t h => pe_bm PySem.F.plainAttrs_list PySem.F.slot_list_append PySem.F.type_list_append mt_append (pv 2) h) (de_op op_fdivW os_div (de_op op_sub os_sub (de_var (pv 3)) (de_var (pv 5))) (de_var (pv 4)))))))))
    (dss_one (ds_ret (de_ix ix_A os_ix (de_var (pv 2)) (de_var (pv 1)) (fun _ _ => rfl))))))
theorem ok9 (T : Top K mg fa fd) (G : Gs P w K mg base fa fd k cl) : FnOk P w K mg base CX0 (k + 1) (fa 9) (fd 9) ["script", "k"] (spD K 2 (fn9 cl)) :=
  fn_ok T.F9 sc9 fun cdv A outer s H E hr => (dss_cons (ds_set (fun te h => ps_set sc9.nd rfl (by first | exact Or.inl rfl | exact Or.inr rfl) h) (de_if (dt_cmp op_lt os_cmpI (de_var (pv 1)) (de_call1 call_len_seq us_len (by rfl) T.z_len boot_len (de_var (pv 0))) (nomark _)) (de_ix ix_A os_ix (de_var (pv 0)) (de_var (pv 1)) (fun _ _ => rfl)) de_int))
    (dss_one (ds_ret (de_lst (da_cons (de_op op_mulA os_mul (de_call1 call_abs us_abs (by rfl) T.z_abs boot_abs (de_var (pv 2))) (de_callT1 call_int1 us_int (by rfl) T.z_int boot_int (de_cmp op_ge os_cmpI (de_call1 call_abs us_abs (by rfl) T.z_abs boot_abs (de_var (pv 2))) (de_op op_pow os_pow de_int de_int) (nomark _)))) (da_cons (de_op op_addA os_add (de_op op_addA os_add (de_op op_mod os_mod (de_callT1 call_int1 us_int (by rfl) T.z_int boot_int (de_var (pv 2))) de_int) (de_op op_mulA os_mul de_int (de_var (pv 1)))) de_int) (da_cons de_int da_nil)))))))
theorem ok10 (T : Top K mg fa fd) (G : Gs P w K mg base fa fd k cl) : FnOk P w K mg base CX0 (k + 1) (fa 10) (fd 10) ["urn", "low_so"] (spD K 2 (fn10 cl)) :=
  fn_ok T.F10 sc10 fun cdv A outer s H E hr => (dss_cons (ds_if (dt_cmp op_gt os_cmpI (de_ix ix_A os_ix (de_var (pv 0)) de_int (fun _ _ => rfl)) de_int (nomark _)) (dss_cons (ds_set (fun te h => ps_set sc10.nd rfl (by first | exact Or.inl rfl | exact Or.inr rfl) h) (de_op op_mod os_mod (de_callT1 call_int1 us_int (by rfl) T.z_int boot_int (de_ix ix_A os_ix (de_var (pv 0)) de_int (fun _ _ => rfl))) (de_var (pv 1))))
    (dss_cons (ds_store (fun te tk h1 h2 => ps_asg h1 (pg_sub (pv 0) h2 set_list)) (de_op op_fdivW os_div (de_ix ix_A os_ix (de_var (pv 0)) de_int (fun _ _ => rfl)) (de_var (pv 1))) de_int)
    (dss_one (ds_ret (de_var (pv 2)))))) dss_nil)
    (dss_cons (ds_store (fun te tk h1 h2 => ps_asg h1 (pg_sub (pv 0) h2 set_list)) (de_op op_addA os_add (de_ix ix_A os_ix (de_var (pv 0)) de_int (fun _ _ => rfl)) de_int) de_int)
    (dss_cons (ds_set (fun te h => ps_set sc10.nd rfl (by first | exact Or.inl rfl | exact Or.inr rfl) h) (de_op op_mod os_mod (de_callT1 call_int1 us_int (by rfl) T.z_int boot_int (de_op op_mulA os_mul (de_op op_addA os_add (de_ix ix_A os_ix (de_var (pv 0)) de_int (fun _ _ => rfl)) (de_op op_mulA os_mul de_int (de_ix ix_A os_ix (de_var (pv 0)) de_int (fun _ _ => rfl)))) (de_op op_addA os_add de_int (de_ix ix_A os_ix (de_var (pv 0)) de_int (fun _ _ => rfl))))) de_int))
    (dss_cons (ds_set (fun te h => ps_set sc10.nd rfl (by first | exact Or.inl rfl | exact Or.inr rfl) h) (de_op op_addA os_add (de_op op_mod os_mod (de_callT1 call_int1 us_int (by rfl) T.z_int boot_int (de_var (pv 3))) de_int) de_int))
    (dss_cons (ds_set (fun te h => ps_set sc10.nd rfl (by first | exact Or.inl rfl | exact Or.inr rfl) h) (de_op op_mod os_mod (de_callT1 call_int1 us_int (by rfl) T.z_int boot_int (de_op op_mulA os_mul (de_op op_addA os_add (de_op op_addA os_add (de_var (pv 3)) (de_ix ix_A os_ix (de_var (pv 0)) de_int (fun _ _ => rfl))) (de_op op_fdivW os_div (de_ix ix_A os_ix (de_var (pv 0)) de_int (fun _ _ => rfl)) de_int)) (de_var (pv 4)))) de_int))
    (dss_one (ds_ret (de_op op_mod os_mod (de_callT1 call_int1 us_int (by rfl) T.z_int boot_int (de_op op_fdivW os_div (de_op op_mod os_mod (de_callT1 call_int1 us_int (by rfl) T.z_int boot_int (de_op op_addA os_add (de_op op_mulA os_mul (de_var (pv 5)) de_int) (de_var (pv 3)))) de_int) de_int)) (de_var (pv 1))))))))))
theorem ok11 (T : Top K mg fa fd) (G : Gs P w K mg base fa fd k cl) : FnOk P w K mg base CX0 (k + 1) (fa 11) (fd 11) ["script", "roof_so"] (spD K 2 (fn11 cl)) :=
  fn_ok T.F11 sc11 fun cdv A outer s H E hr => (dss_cons (ds_set (fun te h => ps_set sc11.nd rfl (by first | exact Or.inl rfl | exact Or.inr rfl) h) (de_or (de_callT1 call_list_of us_list (by rfl) T.z_list boot_list (de_sl (de_var (pv 0)) do_none (do_some (de_var (pv 1))))) (de_one (de_lst (da_cons de_int da_nil)))))
    (dss_cons (ds_for PassesOwn.never rfl (di_enum (by rfl) T.z_enumerate (da_cons (de_sl (de_var (pv 0)) (do_some (de_var (pv 1))) (do_some de_int)) da_nil)) (dg_tup rfl (dgs_cons (dg_name (pg_name sc11.nd rfl (by first | exact Or.inl rfl | exact Or.inr rfl))) (dgs_cons (dg_name (pg_name sc11.nd rfl (by first | exact Or.inl rfl | exact Or.inr rfl))) dgs_nil))) (dss_cons (ds_set (fun te h => ps_set sc11.nd rfl (by first | exact Or.inl rfl | exact Or.inr rfl) h) (de_op op_mod os_mod (de_callT1 call_int1 us_int (by rfl) T.z_int boot_int (de_var (pv 3))) (de_var (pv 1))))
    (dss_one (ds_store (fun te tk h1 h2 => ps_asg h1 (pg_sub (pv 2) h2 set_list)) (de_op op_addA os_add (de_ix ix_A os_ix (de_var (pv 2)) (de_var (pv 5)) (fun _ _ => rfl)) (de_op op_mulA os_mul (de_var (pv 4)) (de_op op_addA os_add (de_var (pv 3)) de_int))) (de_var (pv 5))))))
    (dss_one (ds_ret (de_var (pv 2))))))
theorem ok12 (T : Top K mg fa fd) (G : Gs P w K mg base fa fd k cl) : FnOk P w K mg base CX0 (k + 1) (fa 12) (fd 12) ["near", "due"] (spD K 2 (fn12 cl)) :=
  fn_ok T.F12 sc12 fun cdv A outer s H E hr => (dss_cons (ds_if (dt_tru (de_isi2 (t := Ty.list) (u := Ty.tuple) (by rfl) T.z_isinstance boot_isinstance (de_var (pv 1)) (pe_bltn (by rfl) T.z_list boot_list rfl) (pe_bltn (by rfl) T.z_tuple boot_tuple rfl))) (dss_cons (ds_if (dt_cmp (op_neD (room64 hr)) os_ne (de_isi (t := Ty.list) (by rfl) T.z_isinstance boot_isinstance (de_var (pv 0)) (pe_bltn (by rfl) T.z_list boot_list rfl)) (de_isi (t := Ty.list) (by rfl) T.z_isinstance boot_isinstance (de_var (pv 1)) (pe_bltn (by rfl) T.z_list boot_list rfl)) (nomark _)) (dss_one (ds_ret de_bl)) dss_nil)
    (dss_cons (ds_if (dt_cmp (op_neD (room64 hr)) os_ne (de_isi (t := Ty.tuple) (by rfl) T.z_isinstance boot_isinstance (de_var (pv 0)) (pe_bltn (by rfl) T.z_tuple boot_tuple rfl)) (de_isi (t := Ty.tuple) (by rfl) T.z_isinstance boot_isinstance (de_var (pv 1)) (pe_bltn (by rfl) T.z_tuple boot_tuple rfl)) (nomark _)) (dss_one (ds_ret de_bl)) dss_nil)
    (dss_cons (ds_if (dt_not (dt_cmp (op_eqD (room64 hr)) os_eq (de_call1 call_len_seq us_len (by rfl) T.z_len boot_len (de_var (pv 0))) (de_call1 call_len_seq us_len (by rfl) T.z_len boot_len (de_var (pv 1))) (nomark _))) (dss_one (ds_ret de_bl)) dss_nil)
    (dss_one (ds_ret (de_call1 (cr_all rfl) us_all (by rfl) T.z_all boot_all (de_lc rfl sc12.nd (di_zip (by rfl) T.z_zip (da_cons (de_var (pv 0)) (da_cons (de_var (pv 1)) da_nil))) (own := [("far", 2), ("own", 3)]) (blkOk_by (by kernel_rfl)) (fun _ _ _ _ _ => (dg_tup rfl (dgs_cons (dg_name (pg_name sc12.nd rfl (by first | exact Or.inl rfl | exact Or.inr rfl))) (dgs_cons (dg_name (pg_name sc12.nd rfl (by first | exact Or.inl rfl | exact Or.inr rfl))) dgs_nil)))) (fun _ _ _ _ _ => dts_nil) (fun _ _ _ _ _ => (de_call G.c12 hr (by rfl) T.g12 T.F12.kp T.b12 (dr_val (de_var (pv 2)) (dr_val (de_var (pv 3)) dr_nil)) (rl_val (rl_val (rl_nil rfl))))) (by decide)))))))) dss_nil)
    (dss_cons (ds_if (dt_w (dw_or (dt_cmp op_isN os_is (de_var (pv 1)) de_non (nomark _)) (dw_or1 (dt_tru (de_isi2 (t := Ty.bool) (u := Ty.str) (by rfl) T.z_isinstance boot_isinstance (de_var (pv 1)) (pe_bltn (by rfl) T.z_bool boot_bool rfl) (pe_bltn (by rfl) T.z_str boot_str rfl)))))) (dss_cons (ds_if (dt_not (dt_cmp (op_eqD (room64 hr)) os_eq (de_var (pv 0)) (de_var (pv 1)) (nomark _))) (dss_one (ds_ret de_bl)) dss_nil)
    (dss_cons (ds_if (dt_not (dt_cmp (op_eqD (room64 hr)) os_eq (de_isi (t := Ty.bool) (by rfl) T.z_isinstance boot_isinstance (de_var (pv 0)) (pe_bltn (by rfl) T.z_bool boot_bool rfl)) (de_isi (t := Ty.bool) (by rfl) T.z_isinstance boot_isinstance (de_var (pv 1)) (pe_bltn (by rfl) T.z_bool boot_bool rfl)) (nomark _))) (dss_one (ds_ret de_bl)) dss_nil)
    (dss_one (ds_ret (de_cmp (op_eqD (room64 hr)) os_eq (de_cmp op_isN os_is (de_var (pv 0)) de_non (nomark _)) (de_cmp op_isN os_is (de_var (pv 1)) de_non (nomark _)) (nomark _)))))) dss_nil)
    (dss_one (ds_ret (de_and (de_isi (t := Ty.int) (by rfl) T.z_isinstance boot_isinstance (de_var (pv 0)) (pe_bltn (by rfl) T.z_int boot_int rfl)) (de_and (de_not (de_isi (t := Ty.bool) (by rfl) T.z_isinstance boot_isinstance (de_var (pv 0)) (pe_bltn (by rfl) T.z_bool boot_bool rfl))) (de_one (de_cmp (op_eqD (room64 hr)) os_eq (de_var (pv 0)) (de_var (pv 1)) (nomark _)))))))))
theorem ok13 (T : Top K mg fa fd) (G : Gs P w K mg base fa fd k cl) : FnOk P w K mg base CX0 (k + 1) (fa 13) (fd 13) ["wide_so", "long_so"] (spD K 2 (fn13 cl)) :=
  fn_ok T.F13 sc13 fun cdv A outer s H E hr => (dss_cons (ds_par (fun ta h => ps_par rfl sc13.nd rfl rfl (by decide) rfl rfl h (by rfl)) (de_lst (da_cons (de_tup da_nil) da_nil)) (de_lst (da_cons (de_tup da_nil) da_nil)))
    (dss_cons (ds_for PassesOwn.never rfl (di_rng1 (by rfl) T.z_range (da_cons (de_var (pv 1)) da_nil)) (dg_name (pg_name sc13.nd rfl (by first | exact Or.inl rfl | exact Or.inr rfl))) (dss_cons (ds_set (fun te h => ps_set sc13.nd rfl (by first | exact Or.inl rfl | exact Or.inr rfl) h) (de_lst da_nil))
    (dss_cons (ds_for PassesOwn.never rfl (di_seq (de_var (pv 3))) (dg_name (pg_name sc13.nd rfl (by first | exact Or.inl rfl | exact Or.inr rfl))) (dss_one (ds_set (fun te h => ps_set sc13.nd rfl (by first | exact Or.inl rfl | exact Or.inr rfl) h) (de_op op_addA os_add (de_var (pv 5)) (de_lc rfl sc13.nd (di_rng1 (by rfl) T.z_range (da_cons (de_var (pv 0)) da_nil)) (own := [("k", 7)]) (blkOk_by (by kernel_rfl)) (fun _ _ _ _ _ => (dg_name (pg_name sc13.nd rfl (by first | exact Or.inl rfl | exact Or.inr rfl)))) (fun _ _ _ _ _ => dts_nil) (fun _ _ _ _ _ => (de_op op_addA os_add (de_var (pv 6)) (de_tup (da_cons (de_var (pv 7)) da_nil)))) (by decide))))))
    (dss_cons (ds_set (fun te h => ps_set sc13.nd rfl (by first | exact Or.inl rfl | exact Or.inr rfl) h) (de_var (pv 5)))
    (dss_one (ds_set (fun te h => ps_set sc13.nd rfl (by first | exact Or.inl rfl | exact Or.inr rfl) h) (de_op op_addA os_add (de_var (pv 2)) (de_var (pv 3)))))))))
    (dss_one (ds_ret (de_var (pv 2))))))
theorem ok14 (T : Top K mg fa fd) (G : Gs P w K mg base fa fd k cl) : FnOk P w K mg base CX0 (k + 1) (fa 14) (fd 14) ["own"] (spD K 1 (fn14 cl)) :=
  fn_ok T.F14 sc14 fun cdv A outer s H E hr => (dss_one (ds_ret (de_and (de_cmp (op_neD (room64 hr)) os_ne (de_var (pv 0)) (de_tup da_nil) (nomark _)) (de_one (de_cmp (op_eqD (room64 hr)) os_eq (de_lc rfl sc14.nd (di_rng2 (by rfl) T.z_range (da_cons de_int (da_cons (de_call1 call_len_seq us_len (by rfl) T.z_len boot_len (de_var (pv 0))) da_nil))) (own := [("k", 1)]) (blkOk_by (by kernel_rfl)) (fun _ _ _ _ _ => (dg_name (pg_name sc14.nd rfl (by first | exact Or.inl rfl | exact Or.inr rfl)))) (fun _ _ _ _ _ => (dts_one (dt_not (dt_cmp (op_ltA (room64 hr)) os_cmpD (de_var (pv 0)) (de_sl (de_var (pv 0)) (do_some (de_var (pv 1))) do_none) (nomark _))))) (fun _ _ _ _ _ => (de_var (pv 1))) (by decide)) (de_lst da_nil) (nomark _))))))
theorem ok15 (T : Top K mg fa fd) (G : Gs P w K mg base fa fd k cl) : FnOk P w K mg base CX0 (k + 1) (fa 15) (fd 15) ["wide_so", "long_so"] (spD K 2 (fn15 cl)) :=
  fn_ok T.F15 sc15 fun cdv A outer s H E hr => (dss_one (ds_ret (de_lc rfl sc15.nd (di_seq (de_call G.c13 hr (by rfl) T.g13 T.F13.kp T.b13 (dr_val (de_var (pv 0)) (dr_val (de_var (pv 1)) dr_nil)) (rl_val (rl_val (rl_nil rfl))))) (own := [("own", 2)]) (blkOk_by (by kernel_rfl)) (fun _ _ _ _ _ => (dg_name (pg_name sc15.nd rfl (by first | exact Or.inl rfl | exact Or.inr rfl)))) (fun _ _ _ _ _ => (dts_one (dt_tru (de_call G.c14 hr (by rfl) T.g14 T.F14.kp T.b14 (dr_val (de_var (pv 2)) dr_nil) (rl_val (rl_nil rfl)))))) (fun _ _ _ _ _ => (de_var (pv 2))) (by decide))))
theorem ok16 (T : Top K mg fa fd) (G : Gs P w K mg base fa fd k cl) : FnOk P w K mg base CX0 (k + 1) (fa 16) (fd 16) [] (spD K 0 (fn16 cl)) :=
  fn_ok T.F16 sc16 fun cdv A outer s H E hr => (dss_cons (ds_set (fun te h => ps_set sc16.nd rfl (by first | exact Or.inl rfl | exact Or.inr rfl) h) (de_lst (da_cons (de_call G.c6 hr (by rfl) T.g6 T.F6.kp T.b6 (dr_val de_int (dr_val de_int dr_nil)) (rl_val (rl_val (rl_nil rfl)))) (da_cons (de_call G.c6 hr (by rfl) T.g6 T.F6.kp T.b6 (dr_val de_int (dr_val de_int dr_nil)) (rl_val (rl_val (rl_nil rfl)))) (da_cons (de_call G.c6 hr (by rfl) T.g6 T.F6.kp T.b6 (dr_val de_int (dr_val de_int dr_nil)) (rl_val (rl_val (rl_nil rfl)))) (da_cons (de_sl (de_call G.c6 hr (by rfl) T.g6 T.F6.kp T.b6 (dr_val de_int (dr_val de_int dr_nil)) (rl_val (rl_val (rl_nil rfl)))) (do_some de_int) do_none) (da_cons (de_callK0 G.c6 hr (by rfl) T.g6 T.F6.kp T.k6_0_many_power (dk_val de_int (dk_val de_int dk_nil)) (rl_perm (rl_nil rfl) (rl_val (rl_val (rl_nil rfl))) rfl)) da_nil)))))))
    (dss_cons (ds_set (fun te h => ps_set sc16.nd rfl (by first | exact Or.inl rfl | exact Or.inr rfl) h) (de_lst (da_cons (de_lst (da_cons (de_tup (da_cons de_int da_nil)) (da_cons (de_tup (da_cons de_int da_nil)) (da_cons (de_tup (da_cons de_int (da_cons de_int da_nil))) (da_cons (de_tup (da_cons de_int (da_cons de_int (da_cons de_int da_nil)))) (da_cons (de_tup (da_cons de_int (da_cons de_int (da_cons de_int da_nil)))) da_nil)))))) (da_cons (de_lst (da_cons (de_tup (da_cons de_int da_nil)) da_nil)) (da_cons (de_lst (da_cons (de_tup (da_cons de_int da_nil)) (da_cons (de_tup (da_cons de_int da_nil)) (da_cons (de_tup (da_cons de_int da_nil)) (da_cons (de_tup (da_cons de_int (da_cons de_int da_nil))) (da_cons (de_tup (da_cons de_int (da_cons de_int da_nil))) (da_cons (de_tup (da_cons de_int (da_cons de_int da_nil))) da_nil))))))) (da_cons (de_lst (da_cons (de_tup (da_cons de_int (da_cons de_int (da_cons de_int (da_cons de_int da_nil))))) (da_cons (de_tup (da_cons de_int (da_cons de_int (da_cons de_int (da_cons de_int da_nil))))) (da_cons (de_tup (da_cons de_int (da_cons de_int (da_cons de_int (da_cons de_int da_nil))))) da_nil)))) (da_cons (de_lst (da_cons (de_tup (da_cons de_int da_nil)) (da_cons (de_tup (da_cons de_int da_nil)) (da_cons (de_tup (da_cons de_int da_nil)) (da_cons (de_tup (da_cons de_int da_nil)) da_nil))))) da_nil)))))))
    (dss_cons (ds_set (fun te h => ps_set sc16.nd rfl (by first | exact Or.inl rfl | exact Or.inr rfl) h) (de_op op_addA os_add (de_var (pv 0)) (de_lst (da_cons (de_lc rfl sc16.nd (di_rng2 (by rfl) T.z_range (da_cons de_int (da_cons de_int da_nil))) (own := [("k", 2)]) (blkOk_by (by kernel_rfl)) (fun _ _ _ _ _ => (dg_name (pg_name sc16.nd rfl (by first | exact Or.inl rfl | exact Or.inr rfl)))) (fun _ _ _ _ _ => dts_nil) (fun _ _ _ _ _ => (de_call G.c7 hr (by rfl) T.g7 T.F7.kp T.b7 (dr_val de_int (dr_val (de_var (pv 2)) dr_nil)) (rl_val (rl_val (rl_nil rfl))))) (by decide)) (da_cons (de_lc rfl sc16.nd (di_seq (de_tup (da_cons de_int (da_cons de_int (da_cons de_int da_nil))))) (own := [("k", 2)]) (blkOk_by (by kernel_rfl)) (fun _ _ _ _ _ => (dg_name (pg_name sc16.nd rfl (by first | exact Or.inl rfl | exact Or.inr rfl)))) (fun _ _ _ _ _ => dts_nil) (fun _ _ _ _ _ => (de_call G.c7 hr (by rfl) T.g7 T.F7.kp T.b7 (dr_val de_int (dr_val (de_var (pv 2)) dr_nil)) (rl_val (rl_val (rl_nil rfl))))) (by decide)) (da_cons (de_lc rfl sc16.nd (di_rng2 (by rfl) T.z_range (da_cons de_int (da_cons de_int da_nil))) (own := [("k", 2)]) (blkOk_by (by kernel_rfl)) (fun _ _ _ _ _ => (dg_name (pg_name sc16.nd rfl (by first | exact Or.inl rfl | exact Or.inr rfl)))) (fun _ _ _ _ _ => dts_nil) (fun _ _ _ _ _ => (de_call G.c7 hr (by rfl) T.g7 T.F7.kp T.b7 (dr_val de_int (dr_val (de_var (pv 2)) dr_nil)) (rl_val (rl_val (rl_nil rfl))))) (by decide)) da_nil))))))
    (dss_cons (ds_set (fun te h => ps_set sc16.nd rfl (by first | exact Or.inl rfl | exact Or.inr rfl) h) (de_op op_addA os_add (de_var (pv 1)) (de_lst (da_cons (de_lst (da_cons de_int (da_cons de_int (da_cons de_int (da_cons de_int (da_cons de_int (da_cons de_int (da_cons de_int (da_cons de_int (da_cons de_int (da_cons de_int (da_cons de_int (da_cons de_int da_nil))))))))))))) (da_cons (de_lst (da_cons de_int (da_cons de_int (da_cons de_int da_nil)))) (da_cons (de_lst (da_cons de_int (da_cons de_int (da_cons de_int (da_cons de_int (da_cons de_int (da_cons de_int da_nil))))))) da_nil))))))
    (dss_cons (ds_set (fun te h => ps_set sc16.nd rfl (by first | exact Or.inl rfl | exact Or.inr rfl) h) (de_op op_addA os_add (de_var (pv 0)) (de_lst (da_cons (de_callK0 G.c7 hr (by rfl) T.g7 T.F7.kp T.k7_0_length_many (dk_val de_int (dk_val de_int dk_nil)) (rl_perm (rl_nil rfl) (rl_val (rl_val (rl_nil rfl))) rfl)) (da_cons (de_call G.c7 hr (by rfl) T.g7 T.F7.kp T.b7 (dr_val de_int (dr_val de_int dr_nil)) (rl_val (rl_val (rl_nil rfl)))) (da_cons (de_call G.c5 hr (by rfl) T.g5 T.F5.kp T.b5 (dr_val (de_tup da_nil) dr_nil) (rl_val (rl_nil rfl))) (da_cons (de_call G.c5 hr (by rfl) T.g5 T.F5.kp T.b5 (dr_val (de_tup (da_cons de_int da_nil)) dr_nil) (rl_val (rl_nil rfl))) (da_cons (de_call G.c5 hr (by rfl) T.g5 T.F5.kp T.b5 (dr_val (de_tup (da_cons de_int (da_cons de_int da_nil))) dr_nil) (rl_val (rl_nil rfl))) (da_cons (de_call G.c5 hr (by rfl) T.g5 T.F5.kp T.b5 (dr_val (de_lst (da_cons de_int (da_cons de_int (da_cons de_int (da_cons de_int (da_cons de_int da_nil)))))) dr_nil) (rl_val (rl_nil rfl))) da_nil)))))))))
    (dss_cons (ds_set (fun te h => ps_set sc16.nd rfl (by first | exact Or.inl rfl | exact Or.inr rfl) h) (de_op op_addA os_add (de_var (pv 1)) (de_lst (da_cons de_int (da_cons de_int (da_cons de_bl (da_cons de_bl (da_cons de_bl (da_cons de_bl da_nil)))))))))
    (dss_cons (ds_set (fun te h => ps_set sc16.nd rfl (by first | exact Or.inl rfl | exact Or.inr rfl) h) (de_op op_addA os_add (de_var (pv 0)) (de_lst (da_cons (de_call G.c5 hr (by rfl) T.g5 T.F5.kp T.b5 (dr_val (de_tup (da_cons de_int (da_cons de_int (da_cons de_int (da_cons de_int da_nil))))) dr_nil) (rl_val (rl_nil rfl))) (da_cons (de_call G.c5 hr (by rfl) T.g5 T.F5.kp T.b5 (dr_val (de_tup (da_cons de_int (da_cons de_int (da_cons de_int da_nil)))) dr_nil) (rl_val (rl_nil rfl))) (da_cons (de_call G.c5 hr (by rfl) T.g5 T.F5.kp T.b5 (dr_val (de_tup (da_cons de_int (da_cons de_int da_nil))) dr_nil) (rl_val (rl_nil rfl))) (da_cons (de_callK0 G.c5 hr (by rfl) T.g5 T.F5.kp T.k5_0_word (dk_val (de_tup (da_cons de_int (da_cons de_int (da_cons de_int da_nil)))) dk_nil) (rl_perm (rl_nil rfl) (rl_val (rl_nil rfl)) rfl)) (da_cons (de_call G.c5 hr (by rfl) T.g5 T.F5.kp T.b5 (dr_val (de_tup (da_cons de_int (da_cons de_int (da_cons de_int (da_cons de_int (da_cons de_int (da_cons de_int da_nil))))))) dr_nil) (rl_val (rl_nil rfl))) da_nil))))))))
    (dss_cons (ds_set (fun te h => ps_set sc16.nd rfl (by first | exact Or.inl rfl | exact Or.inr rfl) h) (de_op op_addA os_add (de_var (pv 1)) (de_lst (da_cons de_bl (da_cons de_bl (da_cons de_bl (da_cons de_bl (da_cons de_bl da_nil))))))))
    (dss_cons (ds_set (fun te h => ps_set sc16.nd rfl (by first | exact Or.inl rfl | exact Or.inr rfl) h) (de_op op_addA os_add (de_op op_addA os_add (de_var (pv 0)) (de_lc rfl sc16.nd (di_seq (de_tup (da_cons (de_tup da_nil) (da_cons (de_tup (da_cons de_int da_nil)) (da_cons (de_tup (da_cons de_int (da_cons de_int (da_cons de_int da_nil)))) (da_cons (de_tup (da_cons de_int da_nil)) (da_cons (de_tup (da_cons (de_un un_neg us_neg de_int) da_nil)) (da_cons (de_lst (da_cons de_int da_nil)) (da_cons (de_tup (da_cons de_bl da_nil)) (da_cons de_non (da_cons (de_tup (da_cons (de_tup (da_cons de_int da_nil)) da_nil)) (da_cons de_str (da_cons (de_tup (da_cons de_int (da_cons de_non da_nil))) da_nil))))))))))))) (own := [("own", 3)]) (blkOk_by (by kernel_rfl)) (fun _ _ _ _ _ => (dg_name (pg_name sc16.nd rfl (by first | exact Or.inl rfl | exact Or.inr rfl)))) (fun _ _ _ _ _ => dts_nil) (fun _ _ _ _ _ => (de_call G.c4 hr (by rfl) T.g4 T.F4.kp T.b4 (dr_val (de_var (pv 3)) (dr_val de_int dr_nil)) (rl_val (rl_val (rl_nil rfl))))) (by decide))) (de_lst (da_cons (de_callK0 G.c4 hr (by rfl) T.g4 T.F4.kp T.k4_0_many_thing (dk_val de_int (dk_val (de_tup (da_cons de_int (da_cons de_int da_nil))) dk_nil)) (rl_perm (rl_nil rfl) (rl_val (rl_val (rl_nil rfl))) rfl)) da_nil))))
    (dss_one (ds_ret (de_call G.c12 hr (by rfl) T.g12 T.F12.kp T.b12 (dr_val (de_var (pv 0)) (dr_val (de_op op_addA os_add (de_op op_addA os_add (de_op op_addA os_add (de_var (pv 1)) (de_lst (da_cons de_bl (da_cons de_bl (da_cons de_bl da_nil))))) (de_rep (de_lst (da_cons de_bl da_nil)) de_int)) (de_lst (da_cons de_bl da_nil))) dr_nil)) (rl_val (rl_val (rl_nil rfl)))))))))))))))
theorem ok17 (T : Top K mg fa fd) (G : Gs P w K mg base fa fd k cl) : FnOk P w K mg base CX0 (k + 1) (fa 17) (fd 17) ["urn"] (spD K 1 (fn17 cl)) :=
  fn_ok T.F17 sc17 fun cdv A outer s H E hr => (dss_cons (ds_set (fun te h => ps_set sc17.nd rfl (by first | exact Or.inl rfl | exact Or.inr rfl) h) (de_op op_addA os_add de_int (de_call G.c10 hr (by rfl) T.g10 T.F10.kp T.b10 (dr_slot (pv 0) (dr_val de_int dr_nil)) (rl_slot (rl_val (rl_nil rfl))))))
    (dss_cons (ds_set (fun te h => ps_set sc17.nd rfl (by first | exact Or.inl rfl | exact Or.inr rfl) h) (de_op op_addA os_add de_int (de_call G.c10 hr (by rfl) T.g10 T.F10.kp T.b10 (dr_slot (pv 0) (dr_val (de_ix ix_A os_ix (de_tup (da_cons de_int (da_cons de_int (da_cons de_int (da_cons de_int da_nil))))) (de_op op_sub os_sub (de_var (pv 1)) de_int) (fun _ _ => rfl)) dr_nil)) (rl_slot (rl_val (rl_nil rfl))))))
    (dss_cons (ds_set (fun te h => ps_set sc17.nd rfl (by first | exact Or.inl rfl | exact Or.inr rfl) h) (de_call G.c15 hr (by rfl) T.g15 T.F15.kp T.b15 (dr_val (de_var (pv 1)) (dr_val (de_var (pv 2)) dr_nil)) (rl_val (rl_val (rl_nil rfl)))))
    (dss_cons (ds_set (fun te h => ps_set sc17.nd rfl (by first | exact Or.inl rfl | exact Or.inr rfl) h) (de_lst (da_cons (de_call G.c6 hr (by rfl) T.g6 T.F6.kp T.b6 (dr_val (de_var (pv 1)) (dr_val (de_var (pv 2)) dr_nil)) (rl_val (rl_val (rl_nil rfl)))) (da_cons (de_lc rfl sc17.nd (di_rng2 (by rfl) T.z_range (da_cons de_int (da_cons (de_op op_addA os_add (de_var (pv 2)) de_int) da_nil))) (own := [("k", 8)]) (blkOk_by (by kernel_rfl)) (fun _ _ _ _ _ => (dg_name (pg_name sc17.nd rfl (by first | exact Or.inl rfl | exact Or.inr rfl)))) (fun _ _ _ _ _ => dts_nil) (fun _ _ _ _ _ => (de_call G.c7 hr (by rfl) T.g7 T.F7.kp T.b7 (dr_val (de_var (pv 1)) (dr_val (de_var (pv 8)) dr_nil)) (rl_val (rl_val (rl_nil rfl))))) (by decide)) da_nil))))
    (dss_cons (ds_set (fun te h => ps_set sc17.nd rfl (by first | exact Or.inl rfl | exact Or.inr rfl) h) (de_lst (da_cons (de_var (pv 3)) (da_cons (de_lc rfl sc17.nd (di_rng2 (by rfl) T.z_range (da_cons de_int (da_cons (de_op op_addA os_add (de_var (pv 2)) de_int) da_nil))) (own := [("k", 8)]) (blkOk_by (by kernel_rfl)) (fun _ _ _ _ _ => (dg_name (pg_name sc17.nd rfl (by first | exact Or.inl rfl | exact Or.inr rfl)))) (fun _ _ _ _ _ => dts_nil) (fun _ _ _ _ _ => (de_call1 call_len_seq us_len (by rfl) T.z_len boot_len (de_lc rfl sc17.nd (di_seq (de_var (pv 3))) (own := [("far", 13)]) (blkOk_by (by kernel_rfl)) (fun _ _ _ _ _ => (dg_name (pg_name sc17.nd rfl (by first | exact Or.inl rfl | exact Or.inr rfl)))) (fun _ _ _ _ _ => (dts_one (dt_cmp (op_eqD (room64 hr)) os_eq (de_call1 call_len_seq us_len (by rfl) T.z_len boot_len (de_var (pv 13))) (de_var (pv 8)) (nomark _)))) (fun _ _ _ _ _ => (de_var (pv 13))) (by decide)))) (by decide)) da_nil))))
    (dss_cons (ds_par (fun ta h => ps_par rfl sc17.nd rfl rfl (by decide) rfl rfl h (by rfl)) (de_op op_addA os_add de_int (de_call G.c10 hr (by rfl) T.g10 T.F10.kp T.b10 (dr_slot (pv 0) (dr_val de_int dr_nil)) (rl_slot (rl_val (rl_nil rfl))))) de_int)
    (dss_cons (ds_for PassesOwn.never rfl (di_rng2 (by rfl) T.z_range (da_cons de_int (da_cons (de_op op_addA os_add (de_var (pv 6)) de_int) da_nil))) (dg_name (pg_name sc17.nd rfl (by first | exact Or.inl rfl | exact Or.inr rfl))) (dss_one (ds_if (dt_cmp (op_eqD (room64 hr)) os_eq (de_op op_mod os_mod (de_var (pv 6)) (de_var (pv 8))) de_int (nomark _)) (dss_one (ds_set (fun te h => ps_set sc17.nd rfl (by first | exact Or.inl rfl | exact Or.inr rfl) h) (de_op op_addA os_add (de_var (pv 7)) (de_op op_mulA os_mul (de_var (pv 8)) (de_call G.c7 hr (by rfl) T.g7 T.F7.kp T.b7 (dr_val (de_var (pv 1)) (dr_val (de_var (pv 8)) dr_nil)) (rl_val (rl_val (rl_nil rfl)))))))) dss_nil)))
    (dss_cons (ds_set (fun te h => ps_set sc17.nd rfl (by first | exact Or.inl rfl | exact Or.inr rfl) h) de_int)
    (dss_cons (ds_for PassesOwn.never rfl (di_rng1 (by rfl) T.z_range (da_cons (de_var (pv 6)) da_nil)) (dg_name (pg_name sc17.nd rfl (by first | exact Or.inl rfl | exact Or.inr rfl))) (dss_one (ds_set (fun te h => ps_set sc17.nd rfl (by first | exact Or.inl rfl | exact Or.inr rfl) h) (de_op op_mulA os_mul (de_var (pv 9)) (de_var (pv 1))))))
    (dss_cons (ds_expr (de_app (fun t h => pe_bm PySem.F.plainAttrs_list PySem.F.slot_list_append PySem.F.type_list_append mt_append (pv 4) h) (de_var (pv 7))))
    (dss_cons (ds_expr (de_app (fun t h => pe_bm PySem.F.plainAttrs_list PySem.F.slot_list_append PySem.F.type_list_append mt_append (pv 5) h) (de_var (pv 9))))
    (dss_cons (ds_for PassesOwn.never rfl (di_rng1 (by rfl) T.z_range (da_cons de_int da_nil)) (dg_name (pg_name sc17.nd rfl (by first | exact Or.inl rfl | exact Or.inr rfl))) (dss_cons (ds_set (fun te h => ps_set sc17.nd rfl (by first | exact Or.inl rfl | exact Or.inr rfl) h) (de_callT1 call_tuple_of us_tuple (by rfl) T.z_tuple boot_tuple (de_lc rfl sc17.nd (di_rng1 (by rfl) T.z_range (da_cons (de_call G.c10 hr (by rfl) T.g10 T.F10.kp T.b10 (dr_slot (pv 0) (dr_val de_int dr_nil)) (rl_slot (rl_val (rl_nil rfl)))) da_nil)) (own := [("k", 8)]) (blkOk_by (by kernel_rfl)) (fun _ _ _ _ _ => (dg_name (pg_name sc17.nd rfl (by first | exact Or.inl rfl | exact Or.inr rfl)))) (fun _ _ _ _ _ => dts_nil) (fun _ _ _ _ _ => (de_call G.c10 hr (by rfl) T.g10 T.F10.kp T.b10 (dr_slot (pv 0) (dr_val (de_var (pv 1)) dr_nil)) (rl_slot (rl_val (rl_nil rfl))))) (by decide))))
    (dss_cons (ds_set (fun te h => ps_set sc17.nd rfl (by first | exact Or.inl rfl | exact Or.inr rfl) h) (de_op op_addA os_add (de_var (pv 4)) (de_lst (da_cons (de_call G.c5 hr (by rfl) T.g5 T.F5.kp T.b5 (dr_val (de_var (pv 11)) dr_nil) (rl_val (rl_nil rfl))) (da_cons (de_call G.c5 hr (by rfl) T.g5 T.F5.kp T.b5 (dr_val (de_callT1 call_list_of us_list (by rfl) T.z_list boot_list (de_var (pv 11))) dr_nil) (rl_val (rl_nil rfl))) (da_cons (de_call G.c4 hr (by rfl) T.g4 T.F4.kp T.b4 (dr_val (de_var (pv 11)) (dr_val (de_var (pv 1)) dr_nil)) (rl_val (rl_val (rl_nil rfl)))) (da_cons (de_call G.c4 hr (by rfl) T.g4 T.F4.kp T.b4 (dr_val (de_op op_addA os_add (de_var (pv 11)) (de_tup (da_cons (de_var (pv 1)) da_nil))) (dr_val (de_var (pv 1)) dr_nil)) (rl_val (rl_val (rl_nil rfl)))) da_nil)))))))
    (dss_one (ds_set (fun te h => ps_set sc17.nd rfl (by first | exact Or.inl rfl | exact Or.inr rfl) h) (de_op op_addA os_add (de_var (pv 5)) (de_lst (da_cons (de_call G.c14 hr (by rfl) T.g14 T.F14.kp T.b14 (dr_val (de_var (pv 11)) dr_nil) (rl_val (rl_nil rfl))) (da_cons (de_call G.c14 hr (by rfl) T.g14 T.F14.kp T.b14 (dr_val (de_var (pv 11)) dr_nil) (rl_val (rl_nil rfl))) (da_cons de_bl (da_cons de_bl da_nil)))))))))))
    (dss_cons (ds_set (fun te h => ps_set sc17.nd rfl (by first | exact Or.inl rfl | exact Or.inr rfl) h) (de_call G.c6 hr (by rfl) T.g6 T.F6.kp T.b6 (dr_val (de_var (pv 1)) (dr_val (de_var (pv 2)) dr_nil)) (rl_val (rl_val (rl_nil rfl)))))
    (dss_cons (ds_expr (de_app (fun t h => pe_bm PySem.F.plainAttrs_list PySem.F.slot_list_append PySem.F.type_list_append mt_append (pv 12) h) de_non))
    (dss_cons (ds_expr (de_app (fun t h => pe_bm PySem.F.plainAttrs_list PySem.F.slot_list_append PySem.F.type_list_append mt_append (pv 4) h) (de_call G.c6 hr (by rfl) T.g6 T.F6.kp T.b6 (dr_val (de_var (pv 1)) (dr_val (de_var (pv 2)) dr_nil)) (rl_val (rl_val (rl_nil rfl))))))
    (dss_one (ds_ret (de_call G.c12 hr (by rfl) T.g12 T.F12.kp T.b12 (dr_val (de_var (pv 4)) (dr_val (de_op op_addA os_add (de_var (pv 5)) (de_lst (da_cons (de_var (pv 3)) da_nil))) dr_nil)) (rl_val (rl_val (rl_nil rfl)))))))))))))))))))))
theorem ok18 (T : Top K mg fa fd) (G : Gs P w K mg base fa fd k cl) : FnOk P w K mg base CX0 (k + 1) (fa 18) (fd 18) ["script"] (spD K 1 (fn18 cl)) :=
  fn_ok T.F18 sc18 fun cdv A outer s H E hr => (dss_cons (ds_if (dt_not (dt_tru (de_call0 G.c16 hr (by rfl) T.g16 T.F16.kp T.b16))) (dss_one (ds_ret de_bl)) dss_nil)
    (dss_one (ds_ret (de_callO G.c17 hr (by rfl) T.g17 T.F17.kp T.b17 (de_call G.c9 hr (by rfl) T.g9 T.F9.kp T.b9 (dr_val (de_call G.c11 hr (by rfl) T.g11 T.F11.kp T.b11 (dr_val (de_var (pv 0)) (dr_val de_int dr_nil)) (rl_val (rl_val (rl_nil rfl)))) (dr_val de_int dr_nil)) (rl_val (rl_val (rl_nil rfl)))) rfl))))
theorem all_ok (T : Top K mg fa fd) : ∀ k : Nat, Gs P w K mg base fa fd k (run k)
  | 0 => ⟨fn_zero, fn_zero, fn_zero, fn_zero, fn_zero, fn_zero, fn_zero, fn_zero, fn_zero, fn_zero, fn_zero, fn_zero, fn_zero, fn_zero, fn_zero, fn_zero⟩
  | k + 1 => ⟨ok1 T (all_ok T k), ok2 T (all_ok T k), ok4 T (all_ok T k), ok5 T (all_ok T k), ok6 T (all_ok T k), ok7 T (all_ok T k), ok9 T (all_ok T k), ok10 T (all_ok T k), ok11 T (all_ok T k), ok12 T (all_ok T k), ok13 T (all_ok T k), ok14 T (all_ok T k), ok15 T (all_ok T k), ok16 T (all_ok T k), ok17 T (all_ok T k), ok18 T (all_ok T k)⟩
end
/-! ### what the top has written -/
theorem all_mk {l : PySem.W.OpenLaw} {w : World} {K : PySem.W.Frag} {h : Heap} {mg : Str → Option Value} {fl f1 f2 f4 f5 f6 f7 f9 f10 f11 f12 f13 f14 f15 f16 f17 f18 : Addr} (X : K.In h) (G : h.Ns mainGlobals mg) (hfa : mg "law" = some (.ref fl))
    {od1 an1 od2 an2 od4 an4 od5 an5 od6 an6 od7 an7 od9 an9 od10 an10 od11 an11 od12 an12 od13 an13 od14 an14 od15 an15 od16 an16 od17 an17 od18 an18 : Option Addr} {sl1 sl2 sl4 sl5 sl6 sl7 sl9 sl10 sl11 sl12 sl13 sl14 sl15 sl16 sl17 sl18 : Array (Option Value)} {oc1 kV1 dc1 pm1 cd1 ct1 oc2 kV2 dc2 pm2 cd2 ct2 oc4 kV4 dc4 pm4 cd4 ct4 oc5 kV5 dc5 pm5 cd5 ct5 oc6 kV6 dc6 pm6 cd6 ct6 oc7 kV7 dc7 pm7 cd7 ct7 oc9 kV9 dc9 pm9 cd9 ct9 oc10 kV10 dc10 pm10 cd10 ct10 oc11 kV11 dc11 pm11 cd11 ct11 oc12 kV12 dc12 pm12 cd12 ct12 oc13 kV13 dc13 pm13 cd13 ct13 oc14 kV14 dc14 pm14 cd14 ct14 oc15 kV15 dc15 pm15 cd15 ct15 oc16 kV16 dc16 pm16 cd16 ct16 oc17 kV17 dc17 pm17 cd17 ct17 oc18 kV18 dc18 pm18 cd18 ct18 : Value}
    (a1 : PySem.W.nsIn K mainGlobals "is_number" = some (some (.ref f1))) (l1 : K.lookup f1 = some ⟨oc1, od1, .func (PySem.W.fnOf "is_number" "is_number" (defArgs (topS 1)) (defBody (topS 1)) (defScope (topS 1)) .none kV1 dc1 pm1 an1 cd1 ct1), sl1⟩) (c1 : PySem.W.codeIn K cd1 "is_number" = true) (k1 : PySem.W.keepIn K (.ref f1) = true)
    (a2 : PySem.W.nsIn K mainGlobals "is_count" = some (some (.ref f2))) (l2 : K.lookup f2 = some ⟨oc2, od2, .func (PySem.W.fnOf "is_count" "is_count" (defArgs (topS 2)) (defBody (topS 2)) (defScope (topS 2)) .none kV2 dc2 pm2 an2 cd2 ct2), sl2⟩) (c2 : PySem.W.codeIn K cd2 "is_count" = true) (k2 : PySem.W.keepIn K (.ref f2) = true)
    (a4 : PySem.W.nsIn K mainGlobals "is_word" = some (some (.ref f4))) (l4 : K.lookup f4 = some ⟨oc4, od4, .func (PySem.W.fnOf "is_word" "is_word" (defArgs (topS 4)) (defBody (topS 4)) (defScope (topS 4)) .none kV4 dc4 pm4 an4 cd4 ct4), sl4⟩) (c4 : PySem.W.codeIn K cd4 "is_word" = true) (k4 : PySem.W.keepIn K (.ref f4) = true)
    (a5 : PySem.W.nsIn K mainGlobals "is_lyndon" = some (some (.ref f5))) (l5 : K.lookup f5 = some ⟨oc5, od5, .func (PySem.W.fnOf "is_lyndon" "is_lyndon" (defArgs (topS 5)) (defBody (topS 5)) (defScope (topS 5)) .none kV5 dc5 pm5 an5 cd5 ct5), sl5⟩) (c5 : PySem.W.codeIn K cd5 "is_lyndon" = true) (k5 : PySem.W.keepIn K (.ref f5) = true)
    (a6 : PySem.W.nsIn K mainGlobals "lyndon_words" = some (some (.ref f6))) (l6 : K.lookup f6 = some ⟨oc6, od6, .func (PySem.W.fnOf "lyndon_words" "lyndon_words" (defArgs (topS 6)) (defBody (topS 6)) (defScope (topS 6)) .none kV6 dc6 pm6 an6 cd6 ct6), sl6⟩) (c6 : PySem.W.codeIn K cd6 "lyndon_words" = true) (k6 : PySem.W.keepIn K (.ref f6) = true)
    (a7 : PySem.W.nsIn K mainGlobals "lyndon_count" = some (some (.ref f7))) (l7 : K.lookup f7 = some ⟨oc7, od7, .func (PySem.W.fnOf "lyndon_count" "lyndon_count" (defArgs (topS 7)) (defBody (topS 7)) (defScope (topS 7)) .none kV7 dc7 pm7 an7 cd7 ct7), sl7⟩) (c7 : PySem.W.codeIn K cd7 "lyndon_count" = true) (k7 : PySem.W.keepIn K (.ref f7) = true)
    (a9 : PySem.W.nsIn K mainGlobals "_law_box" = some (some (.ref f9))) (l9 : K.lookup f9 = some ⟨oc9, od9, .func (PySem.W.fnOf "_law_box" "_law_box" (defArgs (topS 9)) (defBody (topS 9)) (defScope (topS 9)) .none kV9 dc9 pm9 an9 cd9 ct9), sl9⟩) (c9 : PySem.W.codeIn K cd9 "_law_box" = true) (k9 : PySem.W.keepIn K (.ref f9) = true)
    (a10 : PySem.W.nsIn K mainGlobals "_law_take" = some (some (.ref f10))) (l10 : K.lookup f10 = some ⟨oc10, od10, .func (PySem.W.fnOf "_law_take" "_law_take" (defArgs (topS 10)) (defBody (topS 10)) (defScope (topS 10)) .none kV10 dc10 pm10 an10 cd10 ct10), sl10⟩) (c10 : PySem.W.codeIn K cd10 "_law_take" = true) (k10 : PySem.W.keepIn K (.ref f10) = true)
    (a11 : PySem.W.nsIn K mainGlobals "_law_cells" = some (some (.ref f11))) (l11 : K.lookup f11 = some ⟨oc11, od11, .func (PySem.W.fnOf "_law_cells" "_law_cells" (defArgs (topS 11)) (defBody (topS 11)) (defScope (topS 11)) .none kV11 dc11 pm11 an11 cd11 ct11), sl11⟩) (c11 : PySem.W.codeIn K cd11 "_law_cells" = true) (k11 : PySem.W.keepIn K (.ref f11) = true)
    (a12 : PySem.W.nsIn K mainGlobals "_law_same" = some (some (.ref f12))) (l12 : K.lookup f12 = some ⟨oc12, od12, .func (PySem.W.fnOf "_law_same" "_law_same" (defArgs (topS 12)) (defBody (topS 12)) (defScope (topS 12)) .none kV12 dc12 pm12 an12 cd12 ct12), sl12⟩) (c12 : PySem.W.codeIn K cd12 "_law_same" = true) (k12 : PySem.W.keepIn K (.ref f12) = true)
    (a13 : PySem.W.nsIn K mainGlobals "_law_words" = some (some (.ref f13))) (l13 : K.lookup f13 = some ⟨oc13, od13, .func (PySem.W.fnOf "_law_words" "_law_words" (defArgs (topS 13)) (defBody (topS 13)) (defScope (topS 13)) .none kV13 dc13 pm13 an13 cd13 ct13), sl13⟩) (c13 : PySem.W.codeIn K cd13 "_law_words" = true) (k13 : PySem.W.keepIn K (.ref f13) = true)
    (a14 : PySem.W.nsIn K mainGlobals "_law_is_lyndon" = some (some (.ref f14))) (l14 : K.lookup f14 = some ⟨oc14, od14, .func (PySem.W.fnOf "_law_is_lyndon" "_law_is_lyndon" (defArgs (topS 14)) (defBody (topS 14)) (defScope (topS 14)) .none kV14 dc14 pm14 an14 cd14 ct14), sl14⟩) (c14 : PySem.W.codeIn K cd14 "_law_is_lyndon" = true) (k14 : PySem.W.keepIn K (.ref f14) = true)
    (a15 : PySem.W.nsIn K mainGlobals "_law_lyndons" = some (some (.ref f15))) (l15 : K.lookup f15 = some ⟨oc15, od15, .func (PySem.W.fnOf "_law_lyndons" "_law_lyndons" (defArgs (topS 15)) (defBody (topS 15)) (defScope (topS 15)) .none kV15 dc15 pm15 an15 cd15 ct15), sl15⟩) (c15 : PySem.W.codeIn K cd15 "_law_lyndons" = true) (k15 : PySem.W.keepIn K (.ref f15) = true)
    (a16 : PySem.W.nsIn K mainGlobals "_law_by_hand_right" = some (some (.ref f16))) (l16 : K.lookup f16 = some ⟨oc16, od16, .func (PySem.W.fnOf "_law_by_hand_right" "_law_by_hand_right" (defArgs (topS 16)) (defBody (topS 16)) (defScope (topS 16)) .none kV16 dc16 pm16 an16 cd16 ct16), sl16⟩) (c16 : PySem.W.codeIn K cd16 "_law_by_hand_right" = true) (k16 : PySem.W.keepIn K (.ref f16) = true)
    (a17 : PySem.W.nsIn K mainGlobals "_law_right" = some (some (.ref f17))) (l17 : K.lookup f17 = some ⟨oc17, od17, .func (PySem.W.fnOf "_law_right" "_law_right" (defArgs (topS 17)) (defBody (topS 17)) (defScope (topS 17)) .none kV17 dc17 pm17 an17 cd17 ct17), sl17⟩) (c17 : PySem.W.codeIn K cd17 "_law_right" = true) (k17 : PySem.W.keepIn K (.ref f17) = true)
    (a18 : PySem.W.nsIn K mainGlobals "law" = some (some (.ref f18))) (l18 : K.lookup f18 = some ⟨oc18, od18, .func (PySem.W.fnOf "law" "law" (defArgs (topS 18)) (defBody (topS 18)) (defScope (topS 18)) .none kV18 dc18 pm18 an18 cd18 ct18), sl18⟩) (c18 : PySem.W.codeIn K cd18 "law" = true) (k18 : PySem.W.keepIn K (.ref f18) = true)
    (z_abs : PySem.W.nsIn K mainGlobals "abs" = some none) (z_all : PySem.W.nsIn K mainGlobals "all" = some none) (z_bool : PySem.W.nsIn K mainGlobals "bool" = some none) (z_enumerate : PySem.W.nsIn K mainGlobals "enumerate" = some none) (z_int : PySem.W.nsIn K mainGlobals "int" = some none) (z_isinstance : PySem.W.nsIn K mainGlobals "isinstance" = some none) (z_len : PySem.W.nsIn K mainGlobals "len" = some none) (z_list : PySem.W.nsIn K mainGlobals "list" = some none) (z_range : PySem.W.nsIn K mainGlobals "range" = some none) (z_sorted : PySem.W.nsIn K mainGlobals "sorted" = some none) (z_str : PySem.W.nsIn K mainGlobals "str" = some none) (z_sum : PySem.W.nsIn K mainGlobals "sum" = some none) (z_tuple : PySem.W.nsIn K mainGlobals "tuple" = some none) (z_zip : PySem.W.nsIn K mainGlobals "zip" = some none) :
    ∃ fd : FuncData, (∀ (s : Shared) (v : Value), BindsTo s fd ⟨[v], []⟩ [("script", v)]) ∧ ∀ base : Heap, K.In base → base.Ns mainGlobals mg → FnOk l.prog w K mg base CX0 60 fl fd ["script"] (spD K 1 (run 60 18)) := by
  have e : fl = f18 := by
    have e := hfa.symm.trans (PySem.W.mg_of X G a18)
    injection e with e
    injection e with e
  rw [e]
  let fa : Nat → Addr := fun i => match i with | 1 => f1 | 2 => f2 | 4 => f4 | 5 => f5 | 6 => f6 | 7 => f7 | 9 => f9 | 10 => f10 | 11 => f11 | 12 => f12 | 13 => f13 | 14 => f14 | 15 => f15 | 16 => f16 | 17 => f17 | 18 => f18 | _ => f18
  let fd : Nat → FuncData := fun i => match i with | 1 => PySem.W.fnOf "is_number" "is_number" (defArgs (topS 1)) (defBody (topS 1)) (defScope (topS 1)) .none kV1 dc1 pm1 an1 cd1 ct1 | 2 => PySem.W.fnOf "is_count" "is_count" (defArgs (topS 2)) (defBody (topS 2)) (defScope (topS 2)) .none kV2 dc2 pm2 an2 cd2 ct2 | 4 => PySem.W.fnOf "is_word" "is_word" (defArgs (topS 4)) (defBody (topS 4)) (defScope (topS 4)) .none kV4 dc4 pm4 an4 cd4 ct4 | 5 => PySem.W.fnOf "is_lyndon" "is_lyndon" (defArgs (topS 5)) (defBody (topS 5)) (defScope (topS 5)) .none kV5 dc5 pm5 an5 cd5 ct5 | 6 => PySem.W.fnOf "lyndon_words" "lyndon_words" (defArgs (topS 6)) (defBody (topS 6)) (defScope (topS 6)) .none kV6 dc6 pm6 an6 cd6 ct6 | 7 => PySem.W.fnOf "lyndon_count" "lyndon_count" (defArgs (topS 7)) (defBody (topS 7)) (defScope (topS 7)) .none kV7 dc7 pm7 an7 cd7 ct7 | 9 => PySem.W.fnOf "_law_box" "_law_box" (defArgs (topS 9)) (defBody (topS 9)) (defScope (topS 9)) .none kV9 dc9 pm9 an9 cd9 ct9 | 10 => PySem.W.fnOf "_law_take" "_law_take" (defArgs (topS 10)) (defBody (topS 10)) (defScope (topS 10)) .none kV10 dc10 pm10 an10 cd10 ct10 | 11 => PySem.W.fnOf "_law_cells" "_law_cells" (defArgs (topS 11)) (defBody (topS 11)) (defScope (topS 11)) .none kV11 dc11 pm11 an11 cd11 ct11 | 12 => PySem.W.fnOf "_law_same" "_law_same" (defArgs (topS 12)) (defBody (topS 12)) (defScope (topS 12)) .none kV12 dc12 pm12 an12 cd12 ct12 | 13 => PySem.W.fnOf "_law_words" "_law_words" (defArgs (topS 13)) (defBody (topS 13)) (defScope (topS 13)) .none kV13 dc13 pm13 an13 cd13 ct13 | 14 => PySem.W.fnOf "_law_is_lyndon" "_law_is_lyndon" (defArgs (topS 14)) (defBody (topS 14)) (defScope (topS 14)) .none kV14 dc14 pm14 an14 cd14 ct14 | 15 => PySem.W.fnOf "_law_lyndons" "_law_lyndons" (defArgs (topS 15)) (defBody (topS 15)) (defScope (topS 15)) .none kV15 dc15 pm15 an15 cd15 ct15 | 16 => PySem.W.fnOf "_law_by_hand_right" "_law_by_hand_right" (defArgs (topS 16)) (defBody (topS 16)) (defScope (topS 16)) .none kV16 dc16 pm16 an16 cd16 ct16 | 17 => PySem.W.fnOf "_law_right" "_law_right" (defArgs (topS 17)) (defBody (topS 17)) (defScope (topS 17)) .none kV17 dc17 pm17 an17 cd17 ct17 | 18 => PySem.W.fnOf "law" "law" (defArgs (topS 18)) (defBody (topS 18)) (defScope (topS 18)) .none kV18 dc18 pm18 an18 cd18 ct18 | _ => PySem.W.fnOf "law" "law" (defArgs (topS 18)) (defBody (topS 18)) (defScope (topS 18)) .none kV18 dc18 pm18 an18 cd18 ct18
  have F1 : Fun K "is_number" "is_number" (topS 1) (fa 1) (fd 1) := fun_mk (st := topS 1) l1 c1 k1
  have F2 : Fun K "is_count" "is_count" (topS 2) (fa 2) (fd 2) := fun_mk (st := topS 2) l2 c2 k2
  have F4 : Fun K "is_word" "is_word" (topS 4) (fa 4) (fd 4) := fun_mk (st := topS 4) l4 c4 k4
  have F5 : Fun K "is_lyndon" "is_lyndon" (topS 5) (fa 5) (fd 5) := fun_mk (st := topS 5) l5 c5 k5
  have F6 : Fun K "lyndon_words" "lyndon_words" (topS 6) (fa 6) (fd 6) := fun_mk (st := topS 6) l6 c6 k6
  have F7 : Fun K "lyndon_count" "lyndon_count" (topS 7) (fa 7) (fd 7) := fun_mk (st := topS 7) l7 c7 k7
  have F9 : Fun K "_law_box" "_law_box" (topS 9) (fa 9) (fd 9) := fun_mk (st := topS 9) l9 c9 k9
  have F10 : Fun K "_law_take" "_law_take" (topS 10) (fa 10) (fd 10) := fun_mk (st := topS 10) l10 c10 k10
  have F11 : Fun K "_law_cells" "_law_cells" (topS 11) (fa 11) (fd 11) := fun_mk (st := topS 11) l11 c11 k11
  have F12 : Fun K "_law_same" "_law_same" (topS 12) (fa 12) (fd 12) := fun_mk (st := topS 12) l12 c12 k12
  have F13 : Fun K "_law_words" "_law_words" (topS 13) (fa 13) (fd 13) := fun_mk (st := topS 13) l13 c13 k13
  have F14 : Fun K "_law_is_lyndon" "_law_is_lyndon" (topS 14) (fa 14) (fd 14) := fun_mk (st := topS 14) l14 c14 k14
  have F15 : Fun K "_law_lyndons" "_law_lyndons" (topS 15) (fa 15) (fd 15) := fun_mk (st := topS 15) l15 c15 k15
  have F16 : Fun K "_law_by_hand_right" "_law_by_hand_right" (topS 16) (fa 16) (fd 16) := fun_mk (st := topS 16) l16 c16 k16
  have F17 : Fun K "_law_right" "_law_right" (topS 17) (fa 17) (fd 17) := fun_mk (st := topS 17) l17 c17 k17
  have F18 : Fun K "law" "law" (topS 18) (fa 18) (fd 18) := fun_mk (st := topS 18) l18 c18 k18
  have T : Top K mg fa fd := ⟨F1,
    PySem.W.mg_of X G a1,
    (F1.binds (ps := ["thing"]) fun _ _ _ _ _ _ us hl => match us, hl with | [_], _ => rfl),
    F2,
    PySem.W.mg_of X G a2,
    (F2.binds (ps := ["thing"]) fun _ _ _ _ _ _ us hl => match us, hl with | [_], _ => rfl),
    F4,
    PySem.W.mg_of X G a4,
    (F4.binds (ps := ["thing", "many"]) fun _ _ _ _ _ _ us hl => match us, hl with | [_, _], _ => rfl),
    F5,
    PySem.W.mg_of X G a5,
    (F5.binds (ps := ["word"]) fun _ _ _ _ _ _ us hl => match us, hl with | [_], _ => rfl),
    F6,
    PySem.W.mg_of X G a6,
    (F6.binds (ps := ["many", "power"]) fun _ _ _ _ _ _ us hl => match us, hl with | [_, _], _ => rfl),
    F7,
    PySem.W.mg_of X G a7,
    (F7.binds (ps := ["many", "length"]) fun _ _ _ _ _ _ us hl => match us, hl with | [_, _], _ => rfl),
    F9,
    PySem.W.mg_of X G a9,
    (F9.binds (ps := ["script", "k"]) fun _ _ _ _ _ _ us hl => match us, hl with | [_, _], _ => rfl),
    F10,
    PySem.W.mg_of X G a10,
    (F10.binds (ps := ["urn", "low_so"]) fun _ _ _ _ _ _ us hl => match us, hl with | [_, _], _ => rfl),
    F11,
    PySem.W.mg_of X G a11,
    (F11.binds (ps := ["script", "roof_so"]) fun _ _ _ _ _ _ us hl => match us, hl with | [_, _], _ => rfl),
    F12,
    PySem.W.mg_of X G a12,
    (F12.binds (ps := ["near", "due"]) fun _ _ _ _ _ _ us hl => match us, hl with | [_, _], _ => rfl),
    F13,
    PySem.W.mg_of X G a13,
    (F13.binds (ps := ["wide_so", "long_so"]) fun _ _ _ _ _ _ us hl => match us, hl with | [_, _], _ => rfl),
    F14,
    PySem.W.mg_of X G a14,
    (F14.binds (ps := ["own"]) fun _ _ _ _ _ _ us hl => match us, hl with | [_], _ => rfl),
    F15,
    PySem.W.mg_of X G a15,
    (F15.binds (ps := ["wide_so", "long_so"]) fun _ _ _ _ _ _ us hl => match us, hl with | [_, _], _ => rfl),
    F16,
    PySem.W.mg_of X G a16,
    (F16.binds (ps := []) fun _ _ _ _ _ _ us hl => match us, hl with | [], _ => rfl),
    F17,
    PySem.W.mg_of X G a17,
    (F17.binds (ps := ["urn"]) fun _ _ _ _ _ _ us hl => match us, hl with | [_], _ => rfl),
    F18,
    PySem.W.mg_of X G a18,
    (F18.binds (ps := ["script"]) fun _ _ _ _ _ _ us hl => match us, hl with | [_], _ => rfl),
    (F4.kbinds (n1 := 0) (n2 := 2) (is := [1, 0]) (by decide) fun _ _ _ _ _ _ us ws h1 h2 => match us, h1, ws, h2 with | [], _, [_, _], _ => rfl),
    (F5.kbinds (n1 := 0) (n2 := 1) (is := [0]) (by decide) fun _ _ _ _ _ _ us ws h1 h2 => match us, h1, ws, h2 with | [], _, [_], _ => rfl),
    (F7.kbinds (n1 := 0) (n2 := 2) (is := [1, 0]) (by decide) fun _ _ _ _ _ _ us ws h1 h2 => match us, h1, ws, h2 with | [], _, [_, _], _ => rfl),
    (F6.kbinds (n1 := 0) (n2 := 2) (is := [0, 1]) (by decide) fun _ _ _ _ _ _ us ws h1 h2 => match us, h1, ws, h2 with | [], _, [_, _], _ => rfl),
    PySem.W.mg_none_of X G z_abs,
    PySem.W.mg_none_of X G z_all,
    PySem.W.mg_none_of X G z_bool,
    PySem.W.mg_none_of X G z_enumerate,
    PySem.W.mg_none_of X G z_int,
    PySem.W.mg_none_of X G z_isinstance,
    PySem.W.mg_none_of X G z_len,
    PySem.W.mg_none_of X G z_list,
    PySem.W.mg_none_of X G z_range,
    PySem.W.mg_none_of X G z_sorted,
    PySem.W.mg_none_of X G z_str,
    PySem.W.mg_none_of X G z_sum,
    PySem.W.mg_none_of X G z_tuple,
    PySem.W.mg_none_of X G z_zip⟩
  exact ⟨fd 18, fun s v => .of_eq rfl, fun base _ _ => (all_ok T 60).c18⟩
end K30

namespace K30
open PySem Vi PyProof.Rows
theorem fits_of {n : Nat} (h : n ≤ 10000) : fits n = true := decide_eq_true (by unfold sizeLine; omega)
theorem okD_int (i : Int) : okD (.int i) = true := rfl
theorem eqv_int (i j : Int) : PyData.eqv (.int i) (.int j) = (i == j) := by rw [PyData.eqv]
theorem seq_next {m n : MS} {ρ ρ1 : Fm} (h : m ρ = some (.next, ρ1)) : mSeq m n ρ = n ρ1 := by unfold mSeq; rw [h]
theorem for_next {mi : MI} {mg : MG} {mb : MS} {ρ ρ1 : Fm} {ds : List D} (h : mi ρ = some (ds, ρ1)) : mFor mi mg mb ρ = loop mg mb ds ρ1 := by unfold mFor; rw [h]
abbrev bx (a b c : Int) : List D := [.int a, .int b, .int c]
theorem mul_small {i j : Int} (h : -(2 ^ 64) < j ∧ j < 2 ^ 64) : mulOk i j = true := by
  unfold mulOk; rw [Bool.or_eq_true, Bool.or_eq_true]; exact .inl (.inr (decide_eq_true h))
theorem mul_small' {i j : Int} (h : -(2 ^ 64) < i ∧ i < 2 ^ 64) : mulOk i j = true := by
  unfold mulOk; rw [Bool.or_eq_true, Bool.or_eq_true]; exact .inl (.inl (decide_eq_true h))
theorem div_small {j : Int} (h : 0 < j) (h2 : j < 1000000000) : divOk j = true := decide_eq_true ⟨h, by
  have : j.natAbs.log2 < 64 := (Nat.log2_lt (by omega)).mpr (by omega)
  omega⟩
theorem at0 (a b c : Int) : L2.atI (bx a b c) 0 = some (.int a) := rfl
theorem at1 (a b c : Int) : L2.atI (bx a b c) 1 = some (.int b) := rfl
theorem at2 (a b c : Int) : L2.atI (bx a b c) 2 = some (.int c) := rfl
theorem take_ok {K : Nat} {a b c n : Int} (hn : 0 < n) (hn2 : n < 1000000) (hc : 0 ≤ c) (hc2 : c < 1000000) :
    ∃ v a' c' : Int, run (K + 1) 10 [.own true (bx a b c), .imm (.int n)] = some (.imm (.int v), [some (bx a' b c'), none]) ∧ 0 ≤ v ∧ v < n ∧ 0 ≤ c' ∧ c' ≤ c + 1 := by
  have i0 : L2.ixN 3 0 = some 0 := rfl
  have i2 : L2.ixN 3 2 = some 2 := rfl
  by_cases ha : 0 < a
  · refine ⟨a % n, a / n, c, ?_, Int.emod_nonneg _ (by omega), Int.emod_lt_of_pos _ hn, hc, by omega⟩
    have hd := div_small hn (by omega)
    show fn10 (run K) _ = _
    simp [fits_of, mFn, mSeq, mSet, put, take, frz, peek, mVar, mC, bin, un, mIfS, mNotT, mTru, mRet, mNext, mLst, mNil, mCons, mTup, mFor, mISeq, mN, mDrop, mApp, mCall, rVal, rNil, argsOf, slotsOf, nodupB, Vi.backTo, give, outsOf, Sv.toD, itemsOf, dTru, dIsi2, dIsi, tyN, isT, dTuple, dList, mGtup, mGcons, mGnil, mYes, mComp, mComp2, wipeA, restA, vsOk, dSort, dAdd, dIx, dLen, mIf, mB, dCmpI, dNeg, mAndT, mIEnum, mStore, rSlot, dInt, dMod, dMul, dDiv, dAbs, dPow, mSl, mPart, mNoPart, dCut, mOr, fn10, at0, ha, hn, hd, i0]
  · have key : ∃ z : Int, run (K + 1) 10 [.own true (bx a b c), .imm (.int n)] = some (.imm (.int (z % n)), [some (bx a b (c + 1)), none]) := by
      let once : Int := ((b + 48271 * (c + 1)) * (39373 + (c + 1))) % 2147483647
      let far : Int := once % 40009 + 7
      let again : Int := ((once + (c + 1) + b / 1000003) * far) % 2147483629
      refine ⟨((again * 48271 + once) % 2147483587) / 64, ?_⟩
      show fn10 (run K) _ = _
      have m1 : mulOk 48271 (c + 1) = true := mul_small' (by decide)
      have m2 : ∀ z : Int, mulOk z (39373 + (c + 1)) = true := fun z => mul_small (by omega)
      have m3 : ∀ z w : Int, mulOk z (w % 40009 + 7) = true := fun z w => mul_small (by have := Int.emod_nonneg w (show (40009 : Int) ≠ 0 by omega); have := Int.emod_lt_of_pos w (show (0 : Int) < 40009 by omega); omega)
      have m4 : ∀ z : Int, mulOk z 48271 = true := fun z => mul_small (by decide)
      have d1 : divOk 1000003 = true := rfl
      have d2 : divOk 64 = true := rfl
      simp [fits_of, mFn, mSeq, mSet, put, take, frz, peek, mVar, mC, bin, un, mIfS, mNotT, mTru, mRet, mNext, mLst, mNil, mCons, mTup, mFor, mISeq, mN, mDrop, mApp, mCall, rVal, rNil, argsOf, slotsOf, nodupB, Vi.backTo, give, outsOf, Sv.toD, itemsOf, dTru, dIsi2, dIsi, tyN, isT, dTuple, dList, mGtup, mGcons, mGnil, mYes, mComp, mComp2, wipeA, restA, vsOk, dSort, dAdd, dIx, dLen, mIf, mB, dCmpI, dNeg, mAndT, mIEnum, mStore, rSlot, dInt, dMod, dMul, dDiv, dAbs, dPow, mSl, mPart, mNoPart, dCut, mOr, fn10, at0, at1, at2, ha, hn, i2, m1, m2, m3, m4, d1, d2, once, far, again]
    obtain ⟨z, e⟩ := key
    exact ⟨z % n, a, c + 1, e, Int.emod_nonneg _ (by omega), Int.emod_lt_of_pos _ hn, by omega, by omega⟩
/-- _law_cells: one number -/
theorem cells_loop {s0 : Option Sv} {x1 : Option Sv} : ∀ (ns : List Int) (k : Nat) (v : Int) (x3 x4 x5 : Option Sv), x1 = some (.imm (.int 1)) → k + ns.length ≤ 1000 → ∃ w y3 y4 y5,
    loop (mGtup 2 (mGcons (mN 3) (mGcons (mN 4) mGnil))) (mSeq (mSet 5 (bin dMod (un dInt (mVar 3)) (mVar 1))) (mStore 2 (mVar 5) (bin dAdd (bin dIx (mVar 2) (mVar 5)) (bin dMul (mVar 4) (bin dAdd (mVar 3) (mC (.int 2))))))) (enumD k (ns.map .int)) [s0, x1, some (.own false [.int v]), x3, x4, x5] = some (.next, [s0, x1, some (.own false [.int w]), y3, y4, y5])
  | [], k, v, x3, x4, x5, _, _ => ⟨v, x3, x4, x5, rfl⟩
  | n :: ns, k, v, x3, x4, x5, h, hk => by
    simp only [List.length_cons] at hk
    subst h
    obtain ⟨w, y3, y4, y5, e⟩ := cells_loop (s0 := s0) (x1 := some (.imm (.int 1))) ns (k + 1) (v + n * (k + 2)) (some (.imm (.int k))) (some (.imm (.int n))) (some (.imm (.int 0))) rfl (by omega)
    refine ⟨w, y3, y4, y5, ?_⟩
    have hm : mulOk n ((k : Int) + 2) = true := mul_small (by omega)
    have i0 : L2.ixN 1 0 = some 0 := rfl
    have a0 : L2.atI [(.int v : D)] 0 = some (.int v) := rfl
    have hmod : (k : Int) % 1 = 0 := by omega
    simp [fits_of, mFn, mSeq, mSet, put, take, frz, peek, mVar, mC, bin, un, mIfS, mNotT, mTru, mRet, mNext, mLst, mNil, mCons, mTup, mFor, mISeq, mN, mDrop, mApp, mCall, rVal, rNil, argsOf, slotsOf, nodupB, Vi.backTo, give, outsOf, Sv.toD, itemsOf, dTru, dIsi2, dIsi, tyN, isT, dTuple, dList, mGtup, mGcons, mGnil, mYes, mComp, mComp2, wipeA, restA, vsOk, dSort, dAdd, dIx, dLen, mIf, mB, dCmpI, dNeg, mAndT, mIEnum, mStore, rSlot, dInt, dMod, dMul, dDiv, dAbs, dPow, mSl, mPart, mNoPart, dCut, mOr, enumD, loop, hmod, a0, hm, i0, e]
theorem cut_ints (ns : List Int) (lo hi : Option Int) : ∃ ms : List Int, Vi.cutD (ns.map .int) lo hi = ms.map .int ∧ ms.length ≤ ns.length := by
  refine ⟨(ns.drop (HT.sIx ns.length 0 lo)).take (HT.sIx ns.length ns.length hi - HT.sIx ns.length 0 lo), ?_, ?_⟩
  · unfold Vi.cutD
    rw [List.length_map, ← List.map_drop, ← List.map_take]
  · rw [List.length_take, List.length_drop]; omega
theorem cells_ok {K : Nat} (ns : List Int) (h : ns.length ≤ 63) : ∃ s : Int, run (K + 1) 11 [.imm (.dict (ns.map fun n => (.int n, .none))), .imm (.int 1)] = some (.own false [.int s], [none, none]) := by
  have hk : (ns.map fun n => ((.int n : D), (.none : D))).map Prod.fst = ns.map .int := by rw [List.map_map]; rfl
  obtain ⟨ms, e1, hl⟩ := cut_ints ns (some 1) (some 63)
  have hstart : ∃ v : Int, mOr (un dList (mSl (mVar 0) mNoPart (mPart (mVar 1)))) (mLst (mCons (mC (.int 0)) mNil)) [some (.imm (.dict (ns.map fun n => (.int n, .none)))), some (.imm (.int 1)), none, none, none, none] = some (.val (.own false [.int v]), [some (.imm (.dict (ns.map fun n => (.int n, .none)))), some (.imm (.int 1)), none, none, none, none]) := by
    cases ns with
    | nil => exact ⟨0, rfl⟩
    | cons n ns =>
      refine ⟨n, ?_⟩
      have hc : Vi.cutD ((n :: ns).map .int) none (some 1) = [.int n] := by
        unfold Vi.cutD
        rw [HT.sIx_none, show (some (1 : Int)) = some ((1 : Nat) : Int) from rfl, HT.sIx_nat]
        have : min 1 ((n :: ns).map PyData.int).length = 1 := by simp [fits_of, mFn, mSeq, mSet, put, take, frz, peek, mVar, mC, bin, un, mIfS, mNotT, mTru, mRet, mNext, mLst, mNil, mCons, mTup, mFor, mISeq, mN, mDrop, mApp, mCall, rVal, rNil, argsOf, slotsOf, nodupB, Vi.backTo, give, outsOf, Sv.toD, itemsOf, dTru, dIsi2, dIsi, tyN, isT, dTuple, dList, mGtup, mGcons, mGnil, mYes, mComp, mComp2, wipeA, restA, vsOk, dSort, dAdd, dIx, dLen, mIf, mB, dCmpI, dNeg, mAndT, mIEnum, mStore, rSlot, dInt, dMod, dMul, dDiv, dAbs, dPow, mSl, mPart, mNoPart, dCut, mOr]
        rw [this]
        rfl
      simp only [List.map_cons] at hc hk
      simp [fits_of, mFn, mSeq, mSet, put, take, frz, peek, mVar, mC, bin, un, mIfS, mNotT, mTru, mRet, mNext, mLst, mNil, mCons, mTup, mFor, mISeq, mN, mDrop, mApp, mCall, rVal, rNil, argsOf, slotsOf, nodupB, Vi.backTo, give, outsOf, Sv.toD, itemsOf, dTru, dIsi2, dIsi, tyN, isT, dTuple, dList, mGtup, mGcons, mGnil, mYes, mComp, mComp2, wipeA, restA, vsOk, dSort, dAdd, dIx, dLen, mIf, mB, dCmpI, dNeg, mAndT, mIEnum, mStore, rSlot, dInt, dMod, dMul, dDiv, dAbs, dPow, mSl, mPart, mNoPart, dCut, mOr, hk, hc]
      rw [← hk] at hc
      simp [fits_of, mFn, mSeq, mSet, put, take, frz, peek, mVar, mC, bin, un, mIfS, mNotT, mTru, mRet, mNext, mLst, mNil, mCons, mTup, mFor, mISeq, mN, mDrop, mApp, mCall, rVal, rNil, argsOf, slotsOf, nodupB, Vi.backTo, give, outsOf, Sv.toD, itemsOf, dTru, dIsi2, dIsi, tyN, isT, dTuple, dList, mGtup, mGcons, mGnil, mYes, mComp, mComp2, wipeA, restA, vsOk, dSort, dAdd, dIx, dLen, mIf, mB, dCmpI, dNeg, mAndT, mIEnum, mStore, rSlot, dInt, dMod, dMul, dDiv, dAbs, dPow, mSl, mPart, mNoPart, dCut, mOr] at hc
      simp [fits_of, mFn, mSeq, mSet, put, take, frz, peek, mVar, mC, bin, un, mIfS, mNotT, mTru, mRet, mNext, mLst, mNil, mCons, mTup, mFor, mISeq, mN, mDrop, mApp, mCall, rVal, rNil, argsOf, slotsOf, nodupB, Vi.backTo, give, outsOf, Sv.toD, itemsOf, dTru, dIsi2, dIsi, tyN, isT, dTuple, dList, mGtup, mGcons, mGnil, mYes, mComp, mComp2, wipeA, restA, vsOk, dSort, dAdd, dIx, dLen, mIf, mB, dCmpI, dNeg, mAndT, mIEnum, mStore, rSlot, dInt, dMod, dMul, dDiv, dAbs, dPow, mSl, mPart, mNoPart, dCut, mOr, hc]
  obtain ⟨v, e2⟩ := hstart
  obtain ⟨w, y3, y4, y5, e3⟩ := cells_loop (s0 := some (.imm (.dict (ns.map fun n => (.int n, .none))))) (x1 := some (.imm (.int 1))) ms 0 v none none none rfl (by omega)
  refine ⟨w, ?_⟩
  show fn11 (run K) _ = _
  have ei : mIEnum (mCons (mSl (mVar 0) (mPart (mVar 1)) (mPart (mC (.int 63)))) mNil) [some (.imm (.dict (ns.map fun n => (.int n, .none)))), some (.imm (.int 1)), some (.own false [.int v]), none, none, none] = some (enumD 0 (ms.map .int), [some (.imm (.dict (ns.map fun n => (.int n, .none)))), some (.imm (.int 1)), some (.own false [.int v]), none, none, none]) := by
    have e1' : Vi.cutD ((ns.map fun n => ((.int n : D), (.none : D))).map Prod.fst) (some 1) (some 63) = ms.map .int := by rw [hk]; exact e1
    generalize (ns.map fun n => ((.int n : D), (.none : D))) = kv at e1' ⊢
    simp [fits_of, mFn, mSeq, mSet, put, take, frz, peek, mVar, mC, bin, un, mIfS, mNotT, mTru, mRet, mNext, mLst, mNil, mCons, mTup, mFor, mISeq, mN, mDrop, mApp, mCall, rVal, rNil, argsOf, slotsOf, nodupB, Vi.backTo, give, outsOf, Sv.toD, itemsOf, dTru, dIsi2, dIsi, tyN, isT, dTuple, dList, mGtup, mGcons, mGnil, mYes, mComp, mComp2, wipeA, restA, vsOk, dSort, dAdd, dIx, dLen, mIf, mB, dCmpI, dNeg, mAndT, mIEnum, mStore, rSlot, dInt, dMod, dMul, dDiv, dAbs, dPow, mSl, mPart, mNoPart, dCut, mOr, e1']
  generalize (ns.map fun n => ((.int n : D), (.none : D))) = kv at e2 e3 ei ⊢
  have hm : mSet 2 (mOr (un dList (mSl (mVar 0) mNoPart (mPart (mVar 1)))) (mLst (mCons (mC (.int 0)) mNil))) [some (.imm (.dict kv)), some (.imm (.int 1)), none, none, none, none] = some (.next, [some (.imm (.dict kv)), some (.imm (.int 1)), some (.own false [.int v]), none, none, none]) := by
    unfold mSet
    rw [e2]
    rfl
  unfold fn11 mFn
  rw [if_pos (show [Sv.imm (.dict kv), Sv.imm (.int 1)].length = 2 from rfl)]
  show (match mSeq _ _ [some (.imm (.dict kv)), some (.imm (.int 1)), none, none, none, none] with | some (.ret r, ρ) => (match outsOf [Sv.imm (.dict kv), Sv.imm (.int 1)] ρ with | some os => some (r, os) | none => none) | some (.next, ρ) => (match outsOf [Sv.imm (.dict kv), Sv.imm (.int 1)] ρ with | some os => some (.imm .none, os) | none => none) | _ => none) = _
  rw [seq_next hm, seq_next ((for_next ei).trans e3)]
  rfl
theorem dGe_int (i j : Int) : dGe (.int i) (.int j) = some (.imm (.bool (decide (j ≤ i)))) := rfl
theorem dLt_int (i j : Int) : dLt (.int i) (.int j) = some (.imm (.bool (decide (i < j)))) := rfl
theorem box_ok {K : Nat} (s : Int) : ∃ a b : Int, run (K + 1) 9 [.imm (.list [.int s]), .imm (.int 0)] = some (.own false (bx a b 0), [none, none]) := by
  have a0 : L2.atI [(.int s : D)] 0 = some (.int s) := rfl
  have p1 : powOk 10 18 = true := rfl
  have m1 : ∀ (z : Int) (q : Bool), mulOk z (if q = true then 1 else 0) = true := fun z q => mul_small (by cases q <;> decide)
  have m2 : mulOk 39373 0 = true := rfl
  have habs : dAbs (.int s) = some (.imm (.int (if s < 0 then -s else s))) := rfl
  have hpow : dPow (.int 10) (.int 18) = some (.imm (.int 1000000000000000000)) := by simp [fits_of, mFn, mSeq, mSet, put, take, frz, peek, mVar, mC, bin, un, mIfS, mNotT, mTru, mRet, mNext, mLst, mNil, mCons, mTup, mFor, mISeq, mN, mDrop, mApp, mCall, rVal, rNil, argsOf, slotsOf, nodupB, Vi.backTo, give, outsOf, Sv.toD, itemsOf, dTru, dIsi2, dIsi, tyN, isT, dTuple, dList, mGtup, mGcons, mGnil, mYes, mComp, mComp2, wipeA, restA, vsOk, dSort, dAdd, dIx, dLen, mIf, mB, dCmpI, dNeg, mAndT, mIEnum, mStore, rSlot, dInt, dMod, dMul, dDiv, dAbs, dPow, mSl, mPart, mNoPart, dCut, mOr, p1]
  generalize (if s < 0 then -s else s) = z at habs
  have m3 := m1 z (decide (1000000000000000000 ≤ z))
  generalize hq : decide (1000000000000000000 ≤ z) = q at m3
  refine ⟨z * (if q = true then 1 else 0), s % 2305843009213693951 + 13799, ?_⟩
  have hge : dGe (.int z) (.int 1000000000000000000) = some (.imm (.bool q)) := by rw [dGe_int, hq]
  have hmul : dMul (.int z) (.int (if q = true then 1 else 0)) = some (.imm (.int (z * (if q = true then 1 else 0)))) := by
    show (if mulOk z _ = true then _ else _) = _
    rw [m3]; rfl
  have hmul2 : dMul (.int 39373) (.int 0) = some (.imm (.int 0)) := rfl
  have hmod : dMod (.int s) (.int 2305843009213693951) = some (.imm (.int (s % 2305843009213693951))) := rfl
  have hadd : dAdd (.int (s % 2305843009213693951)) (.int 0) = some (.imm (.int (s % 2305843009213693951))) := by show some (Sv.imm (.int _)) = _; rw [Int.add_zero]
  show fn9 (run K) _ = _
  have hi : dInt (.bool q) = some (.imm (.int (if q = true then 1 else 0))) := rfl
  have hj : dInt (.int s) = some (.imm (.int s)) := rfl
  have e1 : mSet 2 (mIf (mB (bin dLt (mVar 1) (un dLen (mVar 0)))) (bin dIx (mVar 0) (mVar 1)) (mC (.int 0))) [some (.imm (.list [.int s])), some (.imm (.int 0)), none] = some (.next, [some (.imm (.list [.int s])), some (.imm (.int 0)), some (.imm (.int s))]) := rfl
  unfold fn9 mFn
  rw [if_pos (show [Sv.imm (.list [.int s]), Sv.imm (.int 0)].length = 2 from rfl)]
  have hst : List.map some [Sv.imm (.list [.int s]), Sv.imm (.int 0)] ++ List.replicate (3 - 2) none = [some (.imm (.list [.int s])), some (.imm (.int 0)), none] := rfl
  rw [hst, seq_next e1]
  simp only [mRet, mLst, mCons, bin, un, mVar, List.getElem?_cons_zero, List.getElem?_cons_succ, peek, Sv.toD, habs, hpow, mC, hge, hi, hj, hmul, hmul2, hmod, hadd, frz, mNil, List.length_cons, List.length_nil, fits_of (show 0 + 1 + 1 + 1 ≤ 10000 by omega), if_true, give, outsOf]
  rfl
end K30

namespace K30
open PySem Vi PyProof.Rows
def smD : Nat → D → Bool
  | 0, .int _ => true
  | 0, .bool _ => true
  | k + 1, .list xs => decide (xs.length ≤ 10000) && xs.all (smD k)
  | k + 1, .tuple xs => decide (xs.length ≤ 10000) && xs.all (smD k)
  | k + 1, .int _ => true
  | k + 1, .bool _ => true
  | _, _ => false
def cSa (cl : Nat → Fn) : ME := mCall (cl 12) (rVal (mVar 2) (rVal (mVar 3) rNil))
theorem zip_self : ∀ ds : List D, zipD ds ds = ds.map fun d => .tuple [d, d]
  | [] => rfl
  | d :: ds => by rw [zipD, zip_self ds]; rfl
theorem cloop_same {cl : Nat → Fn} : ∀ (ds : List D) (g d : Option Sv), (∀ x ∈ ds, cl 12 [.imm x, .imm x] = some (.imm (.bool true), [none, none])) →
    cloop (mGtup 2 (mGcons (mN 2) (mGcons (mN 3) mGnil))) mYes (cSa cl) [2, 3] (ds.map fun d => .tuple [d, d]) [g, d, none, none] = some (ds.map fun _ => .bool true, [g, d, none, none])
  | [], _, _, _ => rfl
  | x :: ds, g, d, h => by
    have h0 := h x (List.mem_cons_self ..)
    have ih := cloop_same ds g d fun y hy => h y (List.mem_cons_of_mem _ hy)
    unfold cSa at ih ⊢
    simp [fits_of, mFn, mSeq, mSet, put, take, frz, peek, mVar, mC, bin, un, mIfS, mNotT, mTru, mRet, mNext, mLst, mNil, mCons, mTup, mFor, mISeq, mN, mDrop, mApp, mCall, rVal, rNil, argsOf, slotsOf, nodupB, Vi.backTo, give, outsOf, Sv.toD, itemsOf, dTru, dIsi2, dIsi, tyN, isT, dTuple, dList, mGtup, mGcons, mGnil, mYes, mComp, mComp2, wipeA, restA, vsOk, dSort, dAdd, dIx, dLen, mIf, mB, dCmpI, dNeg, mAndT, mIEnum, cloop, h0, ih]
theorem bools_true : ∀ ds : List D, boolsOf (ds.map fun _ => .bool true) = some (ds.map fun _ => true)
  | [] => rfl
  | d :: ds => by rw [List.map_cons, boolsOf, bools_true ds]; rfl
theorem okD_bool (b : Bool) : okD (.bool b) = true := rfl
theorem eqv_bool (a b : Bool) : PyData.eqv (.bool a) (.bool b) = (a == b) := by rw [PyData.eqv]
theorem all_true (ds : List D) : dAll (.list (ds.map fun _ => .bool true)) = some (.imm (.bool true)) := by
  show (boolsOf (ds.map fun _ => .bool true)).map _ = _
  rw [bools_true]
  simp [fits_of, mFn, mSeq, mSet, put, take, frz, peek, mVar, mC, bin, un, mIfS, mNotT, mTru, mRet, mNext, mLst, mNil, mCons, mTup, mFor, mISeq, mN, mDrop, mApp, mCall, rVal, rNil, argsOf, slotsOf, nodupB, Vi.backTo, give, outsOf, Sv.toD, itemsOf, dTru, dIsi2, dIsi, tyN, isT, dTuple, dList, mGtup, mGcons, mGnil, mYes, mComp, mComp2, wipeA, restA, vsOk, dSort, dAdd, dIx, dLen, mIf, mB, dCmpI, dNeg, mAndT, mIEnum]
theorem same_int {K : Nat} (i : Int) : run (K + 1) 12 [.imm (.int i), .imm (.int i)] = some (.imm (.bool true), [none, none]) := by
  show fn12 (run K) _ = _
  simp [fits_of, mFn, mSeq, mSet, put, take, frz, peek, mVar, mC, bin, un, mIfS, mNotT, mTru, mRet, mNext, mLst, mNil, mCons, mTup, mFor, mISeq, mN, mDrop, mApp, mCall, rVal, rNil, argsOf, slotsOf, nodupB, Vi.backTo, give, outsOf, Sv.toD, itemsOf, dTru, dIsi2, dIsi, tyN, isT, dTuple, dList, mGtup, mGcons, mGnil, mYes, mComp, mComp2, wipeA, restA, vsOk, dSort, dAdd, dIx, dLen, mIf, mB, dCmpI, dNeg, mAndT, mIEnum, fn12, mOrT, dIs, isNon, dEq, okD_int, eqv_int, mAnd, dNot]
theorem same_bool {K : Nat} (b : Bool) : run (K + 1) 12 [.imm (.bool b), .imm (.bool b)] = some (.imm (.bool true), [none, none]) := by
  cases b <;> kernel_rfl
theorem same_ok : ∀ (k : Nat) (d : D), smD k d = true → run (k + 1) 12 [.imm d, .imm d] = some (.imm (.bool true), [none, none])
  | 0, .int i, _ => same_int i
  | k + 1, .int i, _ => same_int i
  | 0, .bool i, _ => same_bool i
  | k + 1, .bool i, _ => same_bool i
  | k + 1, .list xs, h => by
    unfold smD at h
    simp only [Bool.and_eq_true, decide_eq_true_eq, List.all_eq_true] at h
    have e := cloop_same (cl := run (k + 1)) xs (some (.imm (.list xs))) (some (.imm (.list xs))) fun x hx => same_ok k x (h.2 x hx)
    have hf : fits xs.length = true := fits_of h.1
    have hz := zip_self xs
    show fn12 (run (k + 1)) _ = _
    unfold cSa at e
    try simp [fits_of, mFn, mSeq, mSet, put, take, frz, peek, mVar, mC, bin, un, mIfS, mNotT, mTru, mRet, mNext, mLst, mNil, mCons, mTup, mFor, mISeq, mN, mDrop, mApp, mCall, rVal, rNil, argsOf, slotsOf, nodupB, Vi.backTo, give, outsOf, Sv.toD, itemsOf, dTru, dIsi2, dIsi, tyN, isT, dTuple, dList, mGtup, mGcons, mGnil, mYes, mComp, mComp2, wipeA, restA, vsOk, dSort, dAdd, dIx, dLen, mIf, mB, dCmpI, dNeg, mAndT, mIEnum] at e
    simp [fits_of, mFn, mSeq, mSet, put, take, frz, peek, mVar, mC, bin, un, mIfS, mNotT, mTru, mRet, mNext, mLst, mNil, mCons, mTup, mFor, mISeq, mN, mDrop, mApp, mCall, rVal, rNil, argsOf, slotsOf, nodupB, Vi.backTo, give, outsOf, Sv.toD, itemsOf, dTru, dIsi2, dIsi, tyN, isT, dTuple, dList, mGtup, mGcons, mGnil, mYes, mComp, mComp2, wipeA, restA, vsOk, dSort, dAdd, dIx, dLen, mIf, mB, dCmpI, dNeg, mAndT, mIEnum, fn12, dEq, dNe, okD_int, eqv_int, okD_bool, eqv_bool, mAnd, mIZip, hz, e, hf, all_true]
  | k + 1, .tuple xs, h => by
    unfold smD at h
    simp only [Bool.and_eq_true, decide_eq_true_eq, List.all_eq_true] at h
    have e := cloop_same (cl := run (k + 1)) xs (some (.imm (.tuple xs))) (some (.imm (.tuple xs))) fun x hx => same_ok k x (h.2 x hx)
    have hf : fits xs.length = true := fits_of h.1
    have hz := zip_self xs
    show fn12 (run (k + 1)) _ = _
    unfold cSa at e
    try simp [fits_of, mFn, mSeq, mSet, put, take, frz, peek, mVar, mC, bin, un, mIfS, mNotT, mTru, mRet, mNext, mLst, mNil, mCons, mTup, mFor, mISeq, mN, mDrop, mApp, mCall, rVal, rNil, argsOf, slotsOf, nodupB, Vi.backTo, give, outsOf, Sv.toD, itemsOf, dTru, dIsi2, dIsi, tyN, isT, dTuple, dList, mGtup, mGcons, mGnil, mYes, mComp, mComp2, wipeA, restA, vsOk, dSort, dAdd, dIx, dLen, mIf, mB, dCmpI, dNeg, mAndT, mIEnum] at e
    simp [fits_of, mFn, mSeq, mSet, put, take, frz, peek, mVar, mC, bin, un, mIfS, mNotT, mTru, mRet, mNext, mLst, mNil, mCons, mTup, mFor, mISeq, mN, mDrop, mApp, mCall, rVal, rNil, argsOf, slotsOf, nodupB, Vi.backTo, give, outsOf, Sv.toD, itemsOf, dTru, dIsi2, dIsi, tyN, isT, dTuple, dList, mGtup, mGcons, mGnil, mYes, mComp, mComp2, wipeA, restA, vsOk, dSort, dAdd, dIx, dLen, mIf, mB, dCmpI, dNeg, mAndT, mIEnum, fn12, dEq, dNe, okD_int, eqv_int, okD_bool, eqv_bool, mAnd, mIZip, hz, e, hf, all_true]
end K30

namespace K30
open PySem Vi PyProof.Rows
def words : Nat → List (List Int)
  | 1 => [[0]]
  | 2 => [[0], [1], [0, 1], [0, 0, 1], [0, 1, 1], [0, 0, 0, 1], [0, 0, 1, 1], [0, 1, 1, 1], [0, 0, 0, 0, 1], [0, 0, 0, 1, 1], [0, 0, 1, 0, 1], [0, 0, 1, 1, 1], [0, 1, 0, 1, 1], [0, 1, 1, 1, 1], [0, 0, 0, 0, 0, 1], [0, 0, 0, 0, 1, 1], [0, 0, 0, 1, 0, 1], [0, 0, 0, 1, 1, 1], [0, 0, 1, 0, 1, 1], [0, 0, 1, 1, 0, 1], [0, 0, 1, 1, 1, 1], [0, 1, 0, 1, 1, 1], [0, 1, 1, 1, 1, 1]]
  | 3 => [[0], [1], [2], [0, 1], [0, 2], [1, 2], [0, 0, 1], [0, 0, 2], [0, 1, 1], [0, 1, 2], [0, 2, 1], [0, 2, 2], [1, 1, 2], [1, 2, 2], [0, 0, 0, 1], [0, 0, 0, 2], [0, 0, 1, 1], [0, 0, 1, 2], [0, 0, 2, 1], [0, 0, 2, 2], [0, 1, 0, 2], [0, 1, 1, 1], [0, 1, 1, 2], [0, 1, 2, 1], [0, 1, 2, 2], [0, 2, 1, 1], [0, 2, 1, 2], [0, 2, 2, 1], [0, 2, 2, 2], [1, 1, 1, 2], [1, 1, 2, 2], [1, 2, 2, 2]]
  | 4 => [[0], [1], [2], [3], [0, 1], [0, 2], [0, 3], [1, 2], [1, 3], [2, 3], [0, 0, 1], [0, 0, 2], [0, 0, 3], [0, 1, 1], [0, 1, 2], [0, 1, 3], [0, 2, 1], [0, 2, 2], [0, 2, 3], [0, 3, 1], [0, 3, 2], [0, 3, 3], [1, 1, 2], [1, 1, 3], [1, 2, 2], [1, 2, 3], [1, 3, 2], [1, 3, 3], [2, 2, 3], [2, 3, 3]]
  | _ => []
def counts : Nat → List Int
  | 1 => [1, 0, 0, 0, 0, 0, 0, 0, 0, 0, 0, 0, 0, 0, 0, 0, 0, 0, 0, 0, 0, 0, 0, 0, 0, 0, 0, 0, 0, 0]
  | 2 => [2, 1, 2, 3, 6, 9, 18, 30, 56, 99, 186, 335, 630, 1161, 2182, 4080, 7710, 14532, 27594, 52377, 99858, 190557, 364722, 698870, 1342176, 2580795, 4971008, 9586395, 18512790, 35790267]
  | 3 => [3, 3, 8, 18, 48, 116, 312, 810, 2184, 5880, 16104, 44220, 122640, 341484, 956576, 2690010, 7596480, 21522228, 61171656, 174336264, 498111952, 1426403748, 4093181688, 11767874940, 33891544368, 97764009000, 282429535752, 817028131140, 2366564736720, 6863037256208]
  | 4 => [4, 6, 20, 60, 204, 670, 2340, 8160, 29120, 104754, 381300, 1397740, 5162220, 19172790, 71582716, 268431360, 1010580540, 3817733920, 14467258260, 54975528948, 209430785460, 799644629550, 3059510616420, 11728123327840, 45035996273664, 173215367702370, 667199944785920, 2573485491767580, 9938978487990060, 38430716784401786]
  | _ => []
def tp (xs : List Int) : D := .tuple (xs.map .int)
def OWN (p : Nat × Nat) : List D := ((words p.1).filter fun x => x.length ≤ p.2).map tp
def CN (p : Nat × Nat) : List D := ((counts p.1).take p.2).map .int
def pairs : List (Nat × Nat) := [(1, 1), (1, 2), (1, 3), (1, 4), (1, 5), (1, 6), (2, 1), (2, 2), (2, 3), (2, 4), (2, 5), (2, 6), (3, 1), (3, 2), (3, 3), (3, 4), (4, 1), (4, 2), (4, 3)]
def sizes : List (Nat × Nat) := (List.range 4).flatMap fun w => (List.range 30).map fun l => (w + 1, l + 1)
def sB (cl : Nat → Fn) : MS := mSeq (mSet 3 (mCall (cl 15) (rVal (mVar 1) (rVal (mVar 2) rNil)))) (mSeq (mSet 4 (mLst (mCons (mCall (cl 6) (rVal (mVar 1) (rVal (mVar 2) rNil))) (mCons (mComp (mIRng2 (mCons (mC (.int 1)) (mCons (bin dAdd (mVar 2) (mC (.int 1))) mNil))) (mN 8) mYes (mCall (cl 7) (rVal (mVar 1) (rVal (mVar 8) rNil))) [8]) mNil)))) (mSet 5 (mLst (mCons (mVar 3) (mCons (mComp (mIRng2 (mCons (mC (.int 1)) (mCons (bin dAdd (mVar 2) (mC (.int 1))) mNil))) (mN 8) mYes (un dLen (mComp (mISeq (mVar 3)) (mN 13) (mB (bin dEq (un dLen (mVar 13)) (mVar 8))) (mVar 13) [13])) [8]) mNil)))))
def sC (cl : Nat → Fn) : MS := (mSeq (mFor (mIRng2 (mCons (mC (.int 1)) (mCons (bin dAdd (mVar 6) (mC (.int 1))) mNil))) (mN 8) (mIfS (mB (bin dEq (bin dMod (mVar 6) (mVar 8)) (mC (.int 0)))) (mSet 7 (bin dAdd (mVar 7) (bin dMul (mVar 8) (mCall (cl 7) (rVal (mVar 1) (rVal (mVar 8) rNil)))))) mNext)) (mSeq (mSet 9 (mC (.int 1))) (mSeq (mFor (mIRng1 (mCons (mVar 6) mNil)) (mN 8) (mSet 9 (bin dMul (mVar 9) (mVar 1)))) (mSeq (mDrop (mApp 4 (mVar 7))) (mDrop (mApp 5 (mVar 9)))))))
abbrev iv (n : Nat) : Option Sv := some (.imm (.int ((n : Int))))
theorem words6 : (pairs.map fun p => run 58 6 [.imm (.int (Int.ofNat p.1)), .imm (.int (Int.ofNat p.2))]) = pairs.map fun p => some (.own false (OWN p), [none, none]) := by kernel_rfl
end K30

namespace K30
open PySem Vi PyProof.Rows
abbrev il (xs : List Int) : List D := xs.map .int
theorem lay_ints : ∀ xs : List Int, PyData.canLayAll0 (il xs) = true
  | [] => by rw [show il [] = [] from rfl, PyData.canLayAll0]
  | x :: xs => by rw [show il (x :: xs) = .int x :: il xs from rfl, PyData.canLayAll0, lay_ints xs, PyData.canLay0]; rfl
theorem dep_ints : ∀ xs : List Int, PyData.depthAll (il xs) = 0
  | [] => by rw [show il [] = [] from rfl, PyData.depthAll]
  | x :: xs => by rw [show il (x :: xs) = .int x :: il xs from rfl, PyData.depthAll, dep_ints xs, PyData.depth]; rfl
theorem alike_ints : ∀ xs ys : List Int, W.alikeAll (il xs) (il ys) = true
  | [], _ => by rw [show il [] = [] from rfl, W.alikeAll]
  | _ :: _, [] => by rw [show il [] = [] from rfl, show il (_ :: _) = .int _ :: il _ from rfl, W.alikeAll]
  | x :: xs, y :: ys => by rw [show il (x :: xs) = .int x :: il xs from rfl, show il (y :: ys) = .int y :: il ys from rfl, W.alikeAll, alike_ints xs ys, W.alike]; rfl
theorem ok_tp (xs : List Int) : okD (.tuple (il xs)) = true := by
  show (PyData.canLay0 (.tuple (il xs)) && decide (PyData.depth (.tuple (il xs)) ≤ 64)) = true
  rw [PyData.canLay0, PyData.depth, lay_ints, dep_ints]; rfl
theorem ok_ls (xs : List Int) : okD (.list (il xs)) = true := by
  show (PyData.canLay0 (.list (il xs)) && decide (PyData.depth (.list (il xs)) ≤ 64)) = true
  rw [PyData.canLay0, PyData.depth, lay_ints, dep_ints]; rfl
def ltB (xs ys : List Int) : Bool := W.dataLt (.tuple (il xs)) (.tuple (il ys))
theorem lt_tp (xs ys : List Int) : dLtA (.tuple (il xs)) (.tuple (il ys)) = some (.imm (.bool (ltB xs ys))) := by
  show (if (okD _ && okD _ && W.alike (.tuple (il xs)) (.tuple (il ys)) && !isNon (.tuple (il xs))) = true then _ else _) = _
  rw [ok_tp, ok_tp, W.alike, alike_ints]; rfl
theorem lt_ls (xs ys : List Int) : dLtA (.list (il xs)) (.list (il ys)) = some (.imm (.bool (ltB xs ys))) := by
  show (if (okD _ && okD _ && W.alike (.list (il xs)) (.list (il ys)) && !isNon (.list (il xs))) = true then _ else _) = _
  rw [ok_ls, ok_ls, W.alike, alike_ints]
  have : W.dataLt (.list (il xs)) (.list (il ys)) = ltB xs ys := by
    unfold ltB W.dataLt
    rw [W.keyToks, W.keyToks, W.keyToks, W.keyToks]
  show some (Sv.imm (PyData.bool (W.dataLt (.list (il xs)) (.list (il ys))))) = _
  rw [this]
theorem cut_from (xs : List Int) (k : Nat) : Vi.cutD (il xs) (some (k : Int)) none = il (xs.drop k) := by
  unfold Vi.cutD
  rw [HT.sIx_nat, HT.sIx_none, List.length_map]
  rw [← List.map_drop]
  by_cases h : k ≤ xs.length
  · rw [Nat.min_eq_left h, List.take_of_length_le (by simp [fits_of, mFn, mSeq, mSet, put, take, frz, peek, mVar, mC, bin, un, mIfS, mNotT, mTru, mRet, mNext, mLst, mNil, mCons, mTup, mFor, mISeq, mN, mDrop, mApp, mCall, rVal, rNil, argsOf, slotsOf, nodupB, Vi.backTo, give, outsOf, Sv.toD, itemsOf, dTru, dIsi2, dIsi, tyN, isT, dTuple, dList, mGtup, mGcons, mGnil, mYes, mComp, mComp2, wipeA, restA, vsOk, dSort, dAdd, dIx, dLen, mIf, mB, dCmpI, dNeg, mAndT, mIEnum, mStore, rSlot, dInt, dMod, dMul, dDiv, dAbs, dPow, mSl, mPart, mNoPart, dCut, mOr, mAnd, dNot])]
  · rw [Nat.min_eq_right (by omega), List.drop_of_length_le (Nat.le_refl _), List.drop_of_length_le (by omega)]
    simp [fits_of, mFn, mSeq, mSet, put, take, frz, peek, mVar, mC, bin, un, mIfS, mNotT, mTru, mRet, mNext, mLst, mNil, mCons, mTup, mFor, mISeq, mN, mDrop, mApp, mCall, rVal, rNil, argsOf, slotsOf, nodupB, Vi.backTo, give, outsOf, Sv.toD, itemsOf, dTru, dIsi2, dIsi, tyN, isT, dTuple, dList, mGtup, mGcons, mGnil, mYes, mComp, mComp2, wipeA, restA, vsOk, dSort, dAdd, dIx, dLen, mIf, mB, dCmpI, dNeg, mAndT, mIEnum, mStore, rSlot, dInt, dMod, dMul, dDiv, dAbs, dPow, mSl, mPart, mNoPart, dCut, mOr, mAnd, dNot]
def ksOf (n : Nat) : List Nat := (List.range (n - 1)).map (1 + ·)
abbrev kl (ks : List Nat) : List D := ks.map fun k : Nat => PyData.int (k : Int)
theorem rng_ks (n : Nat) : rngD 1 (n - 1) = kl (ksOf n) := by
  unfold rngD ksOf kl
  rw [List.map_map]
  congr 1
def lynB (xs : List Int) : Bool := (!xs.isEmpty) && (ksOf xs.length).all fun k => ltB xs (xs.drop k)
def bl (f : Nat → Bool) (ks : List Nat) : List D := ks.map fun k => PyData.bool (f k)
theorem cl_ok {d : D} {f : Nat → Bool} {g : Nat → Sv} (hc : ∀ k : Nat, dCut (some (k : Int)) none d = some (g k)) (hl : ∀ k : Nat, dLtA d (g k).toD = some (.imm (.bool (f k)))) : ∀ (ks : List Nat), cloop (mN 1) mYes (bin dLtA (mVar 0) (mSl (mVar 0) (mPart (mVar 1)) mNoPart)) [1] (kl ks) [some (.imm d), none] = some (bl f ks, [some (.imm d), none])
  | [] => rfl
  | k :: ks => by
    have ih := cl_ok hc hl ks
    have h1 := hc k
    have h2 := hl k
    simp only [kl, List.map_cons] at ih ⊢
    cases hg : g k with
    | imm e =>
      rw [hg] at h1 h2
      simp only [Sv.toD] at h2
      simp [fits_of, mFn, mSeq, mSet, put, take, frz, peek, mVar, mC, bin, un, mIfS, mNotT, mTru, mRet, mNext, mLst, mNil, mCons, mTup, mFor, mISeq, mN, mDrop, mApp, mCall, rVal, rNil, argsOf, slotsOf, nodupB, Vi.backTo, give, outsOf, Sv.toD, itemsOf, dTru, dIsi2, dIsi, tyN, isT, dTuple, dList, mGtup, mGcons, mGnil, mYes, mComp, mComp2, wipeA, restA, vsOk, dSort, dAdd, dIx, dLen, mIf, mB, dCmpI, dNeg, mAndT, mIEnum, mStore, rSlot, dInt, dMod, dMul, dDiv, dAbs, dPow, mSl, mPart, mNoPart, mOr, mAnd, dNot, cloop, h1, h2, ih, bl]
    | own b e =>
      rw [hg] at h1 h2
      simp only [Sv.toD] at h2
      simp [fits_of, mFn, mSeq, mSet, put, take, frz, peek, mVar, mC, bin, un, mIfS, mNotT, mTru, mRet, mNext, mLst, mNil, mCons, mTup, mFor, mISeq, mN, mDrop, mApp, mCall, rVal, rNil, argsOf, slotsOf, nodupB, Vi.backTo, give, outsOf, Sv.toD, itemsOf, dTru, dIsi2, dIsi, tyN, isT, dTuple, dList, mGtup, mGcons, mGnil, mYes, mComp, mComp2, wipeA, restA, vsOk, dSort, dAdd, dIx, dLen, mIf, mB, dCmpI, dNeg, mAndT, mIEnum, mStore, rSlot, dInt, dMod, dMul, dDiv, dAbs, dPow, mSl, mPart, mNoPart, mOr, mAnd, dNot, cloop, h1, h2, ih, bl]
theorem bools_bl (f : Nat → Bool) : ∀ ks, boolsOf (bl f ks) = some (ks.map f)
  | [] => rfl
  | k :: ks => by rw [show bl f (k :: ks) = .bool (f k) :: bl f ks from rfl, boolsOf, bools_bl f ks]; rfl
theorem all_bl (f : Nat → Bool) (ks : List Nat) : dAll (.list (bl f ks)) = some (.imm (.bool (ks.all f))) := by
  show (boolsOf (bl f ks)).map _ = _
  rw [bools_bl]
  simp [fits_of, mFn, mSeq, mSet, put, take, frz, peek, mVar, mC, bin, un, mIfS, mNotT, mTru, mRet, mNext, mLst, mNil, mCons, mTup, mFor, mISeq, mN, mDrop, mApp, mCall, rVal, rNil, argsOf, slotsOf, nodupB, Vi.backTo, give, outsOf, Sv.toD, itemsOf, dTru, dIsi2, dIsi, tyN, isT, dTuple, dList, mGtup, mGcons, mGnil, mYes, mComp, mComp2, wipeA, restA, vsOk, dSort, dAdd, dIx, dLen, mIf, mB, dCmpI, dNeg, mAndT, mIEnum, mStore, rSlot, dInt, dMod, dMul, dDiv, dAbs, dPow, mSl, mPart, mNoPart, dCut, mOr, mAnd, dNot]
theorem len_ks (n : Nat) : (ksOf n).length = n - 1 := by unfold ksOf; simp [fits_of, mFn, mSeq, mSet, put, take, frz, peek, mVar, mC, bin, un, mIfS, mNotT, mTru, mRet, mNext, mLst, mNil, mCons, mTup, mFor, mISeq, mN, mDrop, mApp, mCall, rVal, rNil, argsOf, slotsOf, nodupB, Vi.backTo, give, outsOf, Sv.toD, itemsOf, dTru, dIsi2, dIsi, tyN, isT, dTuple, dList, mGtup, mGcons, mGnil, mYes, mComp, mComp2, wipeA, restA, vsOk, dSort, dAdd, dIx, dLen, mIf, mB, dCmpI, dNeg, mAndT, mIEnum, mStore, rSlot, dInt, dMod, dMul, dDiv, dAbs, dPow, mSl, mPart, mNoPart, dCut, mOr, mAnd, dNot]
theorem lyn_of {K : Nat} {d : D} {n : Nat} {f : Nat → Bool} {g : Nat → Sv} (hlen : dLen d = some (.imm (.int (n : Int)))) (hn : n ≤ 1000) (hc : ∀ k : Nat, dCut (some (k : Int)) none d = some (g k)) (hl : ∀ k : Nat, dLtA d (g k).toD = some (.imm (.bool (f k)))) :
    run (K + 1) 5 [.imm d] = some (.imm (.bool (decide (0 < n) && (ksOf n).all f)), [none]) := by
  have e := cl_ok hc hl (ksOf n)
  have ha := all_bl f (ksOf n)
  have hr := rng_ks n
  have hk := len_ks n
  have r1 : rngOk (n : Int) = true := decide_eq_true (by constructor <;> omega)
  have r2 : rngOk 1 = true := rfl
  have hz : ((n : Int) - 1).toNat = n - 1 := by omega
  have hf : fits (bl f (ksOf n)).length = true := fits_of (by unfold bl; rw [List.length_map, hk]; omega)
  show fn5 (run K) _ = _
  by_cases h0 : 0 < n
  · simp [fits_of, mFn, mSeq, mSet, put, take, frz, peek, mVar, mC, bin, un, mIfS, mNotT, mTru, mRet, mNext, mLst, mNil, mCons, mTup, mFor, mISeq, mN, mDrop, mApp, mCall, rVal, rNil, argsOf, slotsOf, nodupB, Vi.backTo, give, outsOf, Sv.toD, itemsOf, dTru, dIsi2, dIsi, tyN, isT, dTuple, dList, mGtup, mGcons, mGnil, mYes, mComp, mComp2, wipeA, restA, vsOk, dSort, dAdd, dIx, mIf, mB, dCmpI, dNeg, mAndT, mIEnum, mStore, rSlot, dInt, dMod, dMul, dDiv, dAbs, dPow, mSl, mPart, mNoPart, mOr, mAnd, dNot, fn5, hlen, h0, mIRng2, r1, r2, hz, hr, e, hf, ha]
  · simp [fits_of, mFn, mSeq, mSet, put, take, frz, peek, mVar, mC, bin, un, mIfS, mNotT, mTru, mRet, mNext, mLst, mNil, mCons, mTup, mFor, mISeq, mN, mDrop, mApp, mCall, rVal, rNil, argsOf, slotsOf, nodupB, Vi.backTo, give, outsOf, Sv.toD, itemsOf, dTru, dIsi2, dIsi, tyN, isT, dTuple, dList, mGtup, mGcons, mGnil, mYes, mComp, mComp2, wipeA, restA, vsOk, dSort, dAdd, dIx, mIf, mB, dCmpI, dNeg, mAndT, mIEnum, mStore, rSlot, dInt, dMod, dMul, dDiv, dAbs, dPow, mSl, mPart, mNoPart, mOr, mAnd, dNot, fn5, hlen, h0]
theorem lyn_tp {K : Nat} (xs : List Int) (h : xs.length ≤ 1000) : run (K + 1) 5 [.imm (.tuple (il xs))] = some (.imm (.bool (lynB xs)), [none]) := by
  have e := lyn_of (K := K) (d := .tuple (il xs)) (n := xs.length) (f := fun k => ltB xs (xs.drop k)) (g := fun k => .imm (.tuple (il (xs.drop k)))) (by show some (Sv.imm (.int _)) = _; rw [List.length_map]) h (fun k => by show some (Sv.imm (.tuple _)) = _; rw [cut_from]) (fun k => lt_tp xs _)
  rw [e]
  unfold lynB
  cases xs <;> simp [fits_of, mFn, mSeq, mSet, put, take, frz, peek, mVar, mC, bin, un, mIfS, mNotT, mTru, mRet, mNext, mLst, mNil, mCons, mTup, mFor, mISeq, mN, mDrop, mApp, mCall, rVal, rNil, argsOf, slotsOf, nodupB, Vi.backTo, give, outsOf, Sv.toD, itemsOf, dTru, dIsi2, dIsi, tyN, isT, dTuple, dList, mGtup, mGcons, mGnil, mYes, mComp, mComp2, wipeA, restA, vsOk, dSort, dAdd, dIx, dLen, mIf, mB, dCmpI, dNeg, mAndT, mIEnum, mStore, rSlot, dInt, dMod, dMul, dDiv, dAbs, dPow, mSl, mPart, mNoPart, dCut, mOr, mAnd, dNot]
theorem lyn_ls {K : Nat} (xs : List Int) (h : xs.length ≤ 1000) : run (K + 1) 5 [.imm (.list (il xs))] = some (.imm (.bool (lynB xs)), [none]) := by
  have e := lyn_of (K := K) (d := .list (il xs)) (n := xs.length) (f := fun k => ltB xs (xs.drop k)) (g := fun k => .own false (il (xs.drop k))) (by show some (Sv.imm (.int _)) = _; rw [List.length_map]) h (fun k => by show some (Sv.own false _) = _; rw [cut_from]) (fun k => lt_ls xs _)
  rw [e]
  unfold lynB
  cases xs <;> simp [fits_of, mFn, mSeq, mSet, put, take, frz, peek, mVar, mC, bin, un, mIfS, mNotT, mTru, mRet, mNext, mLst, mNil, mCons, mTup, mFor, mISeq, mN, mDrop, mApp, mCall, rVal, rNil, argsOf, slotsOf, nodupB, Vi.backTo, give, outsOf, Sv.toD, itemsOf, dTru, dIsi2, dIsi, tyN, isT, dTuple, dList, mGtup, mGcons, mGnil, mYes, mComp, mComp2, wipeA, restA, vsOk, dSort, dAdd, dIx, dLen, mIf, mB, dCmpI, dNeg, mAndT, mIEnum, mStore, rSlot, dInt, dMod, dMul, dDiv, dAbs, dPow, mSl, mPart, mNoPart, dCut, mOr, mAnd, dNot]
/-! the law's own -/
theorem cl2_ok {d : D} {f : Nat → Bool} {g : Nat → Sv} (hc : ∀ k : Nat, dCut (some (k : Int)) none d = some (g k)) (hl : ∀ k : Nat, dLtA d (g k).toD = some (.imm (.bool (f k)))) : ∀ (ks : List Nat), cloop (mN 1) (mNotT (mB (bin dLtA (mVar 0) (mSl (mVar 0) (mPart (mVar 1)) mNoPart)))) (mVar 1) [1] (kl ks) [some (.imm d), none] = some (kl (ks.filter fun k => !f k), [some (.imm d), none])
  | [] => rfl
  | k :: ks => by
    have ih := cl2_ok hc hl ks
    have h1 := hc k
    have h2 := hl k
    simp only [kl, List.map_cons] at ih ⊢
    cases hg : g k with
    | imm e =>
      rw [hg] at h1 h2
      simp only [Sv.toD] at h2
      cases hk : f k <;> simp [fits_of, mFn, mSeq, mSet, put, take, frz, peek, mVar, mC, bin, un, mIfS, mNotT, mTru, mRet, mNext, mLst, mNil, mCons, mTup, mFor, mISeq, mN, mDrop, mApp, mCall, rVal, rNil, argsOf, slotsOf, nodupB, Vi.backTo, give, outsOf, Sv.toD, itemsOf, dTru, dIsi2, dIsi, tyN, isT, dTuple, dList, mGtup, mGcons, mGnil, mYes, mComp, mComp2, wipeA, restA, vsOk, dSort, dAdd, dIx, dLen, mIf, mB, dCmpI, dNeg, mAndT, mIEnum, mStore, rSlot, dInt, dMod, dMul, dDiv, dAbs, dPow, mSl, mPart, mNoPart, mOr, mAnd, dNot, cloop, h1, h2, hk, ih]
    | own b e =>
      rw [hg] at h1 h2
      simp only [Sv.toD] at h2
      cases hk : f k <;> simp [fits_of, mFn, mSeq, mSet, put, take, frz, peek, mVar, mC, bin, un, mIfS, mNotT, mTru, mRet, mNext, mLst, mNil, mCons, mTup, mFor, mISeq, mN, mDrop, mApp, mCall, rVal, rNil, argsOf, slotsOf, nodupB, Vi.backTo, give, outsOf, Sv.toD, itemsOf, dTru, dIsi2, dIsi, tyN, isT, dTuple, dList, mGtup, mGcons, mGnil, mYes, mComp, mComp2, wipeA, restA, vsOk, dSort, dAdd, dIx, dLen, mIf, mB, dCmpI, dNeg, mAndT, mIEnum, mStore, rSlot, dInt, dMod, dMul, dDiv, dAbs, dPow, mSl, mPart, mNoPart, mOr, mAnd, dNot, cloop, h1, h2, hk, ih]
theorem all_filter (f : Nat → Bool) : ∀ ks : List Nat, ks.all f = (ks.filter fun k => !f k).isEmpty
  | [] => rfl
  | k :: ks => by
    have ih := all_filter f ks
    rw [List.all_cons, List.filter_cons]
    cases hk : f k
    · rfl
    · exact ih
theorem eqv_tp_nil (xs : List Int) : PyData.eqv (.tuple (il xs)) (.tuple []) = xs.isEmpty := by cases xs <;> simp [fits_of, mFn, mSeq, mSet, put, take, frz, peek, mVar, mC, bin, un, mIfS, mNotT, mTru, mRet, mNext, mLst, mNil, mCons, mTup, mFor, mISeq, mN, mDrop, mApp, mCall, rVal, rNil, argsOf, slotsOf, nodupB, Vi.backTo, give, outsOf, Sv.toD, itemsOf, dTru, dIsi2, dIsi, tyN, isT, dTuple, dList, mGtup, mGcons, mGnil, mYes, mComp, mComp2, wipeA, restA, vsOk, dSort, dAdd, dIx, dLen, mIf, mB, dCmpI, dNeg, mAndT, mIEnum, mStore, rSlot, dInt, dMod, dMul, dDiv, dAbs, dPow, mSl, mPart, mNoPart, dCut, mOr, mAnd, dNot, PyData.eqv, PyData.eqvAll]
theorem eqv_ls_nil (fl : List Nat) : PyData.eqv (.list (kl fl)) (.list []) = fl.isEmpty := by cases fl <;> simp [fits_of, mFn, mSeq, mSet, put, take, frz, peek, mVar, mC, bin, un, mIfS, mNotT, mTru, mRet, mNext, mLst, mNil, mCons, mTup, mFor, mISeq, mN, mDrop, mApp, mCall, rVal, rNil, argsOf, slotsOf, nodupB, Vi.backTo, give, outsOf, Sv.toD, itemsOf, dTru, dIsi2, dIsi, tyN, isT, dTuple, dList, mGtup, mGcons, mGnil, mYes, mComp, mComp2, wipeA, restA, vsOk, dSort, dAdd, dIx, dLen, mIf, mB, dCmpI, dNeg, mAndT, mIEnum, mStore, rSlot, dInt, dMod, dMul, dDiv, dAbs, dPow, mSl, mPart, mNoPart, dCut, mOr, mAnd, dNot, PyData.eqv, PyData.eqvAll]
theorem ne_tp_nil (xs : List Int) : dNe (.tuple (il xs)) (.tuple []) = some (.imm (.bool (!xs.isEmpty))) := by
  unfold dNe
  rw [ok_tp, show okD (.tuple []) = true from rfl, eqv_tp_nil]; rfl
theorem eq_ls_nil (fl : List Nat) : dEq (.list (kl fl)) (.list []) = some (.imm (.bool fl.isEmpty)) := by
  have hok3 : okD (.list (kl fl)) = true := by
    have := ok_ls (fl.map fun k : Nat => (k : Int))
    unfold il at this; rw [List.map_map] at this; exact this
  unfold dEq
  rw [hok3, show okD (.list []) = true from rfl, eqv_ls_nil]; rfl
theorem and_ret {ma mb : ME} {ρ : Fm} {a b : Bool} (ha : ma ρ = some (.val (.imm (.bool a)), ρ)) (hb : a = true → mb ρ = some (.val (.imm (.bool b)), ρ)) : mRet (mAnd ma mb) ρ = some (.ret (.imm (.bool (a && b))), ρ) := by
  cases a
  · simp [fits_of, mFn, mSeq, mSet, put, take, frz, peek, mVar, mC, bin, un, mIfS, mNotT, mTru, mRet, mNext, mLst, mNil, mCons, mTup, mFor, mISeq, mN, mDrop, mApp, mCall, rVal, rNil, argsOf, slotsOf, nodupB, Vi.backTo, give, outsOf, Sv.toD, itemsOf, dTru, dIsi2, dIsi, tyN, isT, dTuple, dList, mGtup, mGcons, mGnil, mYes, mComp, mComp2, wipeA, restA, vsOk, dSort, dAdd, dIx, dLen, mIf, mB, dCmpI, dNeg, mAndT, mIEnum, mStore, rSlot, dInt, dMod, dMul, dDiv, dAbs, dPow, mSl, mPart, mNoPart, dCut, mOr, mAnd, dNot, ha]
  · simp [fits_of, mFn, mSeq, mSet, put, take, frz, peek, mVar, mC, bin, un, mIfS, mNotT, mTru, mRet, mNext, mLst, mNil, mCons, mTup, mFor, mISeq, mN, mDrop, mApp, mCall, rVal, rNil, argsOf, slotsOf, nodupB, Vi.backTo, give, outsOf, Sv.toD, itemsOf, dTru, dIsi2, dIsi, tyN, isT, dTuple, dList, mGtup, mGcons, mGnil, mYes, mComp, mComp2, wipeA, restA, vsOk, dSort, dAdd, dIx, dLen, mIf, mB, dCmpI, dNeg, mAndT, mIEnum, mStore, rSlot, dInt, dMod, dMul, dDiv, dAbs, dPow, mSl, mPart, mNoPart, dCut, mOr, mAnd, dNot, ha, hb rfl]
theorem bin_val {f : D → D → Option Sv} {ma mb : ME} {ρ : Fm} {s t r : Sv} (ha : ma ρ = some (.val s, ρ)) (hb : mb ρ = some (.val t, ρ)) (hf : f s.toD t.toD = some r) : bin f ma mb ρ = some (.val r, ρ) := by
  unfold bin
  rw [ha]
  simp only [hb, peek, hf]
theorem comp_ok {mi : MI} {mg : MG} {mt : MT} {me : ME} {vs : List Nat} {ρ ρ1 ρ2 : Fm} {ds es : List D} (h1 : mi ρ = some (ds, ρ1)) (h2 : vsOk ρ1 vs = true) (h3 : cloop mg mt me vs ds (wipeA ρ1 vs) = some (es, ρ2)) (h4 : fits es.length = true) : mComp mi mg mt me vs ρ = some (.val (.own false es), restA ρ2 ρ1 vs) := by
  show (match mi ρ with
    | some (ds, ρ1) => if vsOk ρ1 vs = true then match cloop mg mt me vs ds (wipeA ρ1 vs) with
      | some (es, ρ2) => if fits es.length = true then some (PR.val (.own false es), restA ρ2 ρ1 vs) else none
      | none => none
      else none
    | none => none) = _
  rw [h1]
  show (if vsOk ρ1 vs = true then _ else _) = _
  rw [if_pos h2, h3]
  show (if fits es.length = true then _ else _) = _
  rw [if_pos h4]
theorem own_c1 {L : List D} {n : Nat} {fl : List Nat} (hn : n ≤ 1000) (hlen : dLen (.tuple L) = some (.imm (.int (n : Int)))) (hf : fits fl.length = true) (e : cloop (mN 1) (mNotT (mB (bin dLtA (mVar 0) (mSl (mVar 0) (mPart (mVar 1)) mNoPart)))) (mVar 1) [1] (kl (ksOf n)) [some (.imm (.tuple L)), none] = some (kl fl, [some (.imm (.tuple L)), none])) :
    mComp (mIRng2 (mCons (mC (.int 1)) (mCons (un dLen (mVar 0)) mNil))) (mN 1) (mNotT (mB (bin dLtA (mVar 0) (mSl (mVar 0) (mPart (mVar 1)) mNoPart)))) (mVar 1) [1] [some (.imm (.tuple L)), none] = some (.val (.own false (kl fl)), [some (.imm (.tuple L)), none]) := by
  have hr := rng_ks n
  have r1 : rngOk (n : Int) = true := decide_eq_true (by constructor <;> omega)
  have r2 : rngOk 1 = true := rfl
  have hz : ((n : Int) - 1).toNat = n - 1 := by omega
  have i1 : mIRng2 (mCons (mC (.int 1)) (mCons (un dLen (mVar 0)) mNil)) [some (.imm (.tuple L)), none] = some (kl (ksOf n), [some (.imm (.tuple L)), none]) := by
    rw [← hr]
    simp [fits_of, mFn, mSeq, mSet, put, take, frz, peek, mVar, mC, bin, un, mIfS, mNotT, mTru, mRet, mNext, mLst, mNil, mCons, mTup, mFor, mISeq, mN, mDrop, mApp, mCall, rVal, rNil, argsOf, slotsOf, nodupB, Vi.backTo, give, outsOf, Sv.toD, itemsOf, dTru, dIsi2, dIsi, tyN, isT, dTuple, dList, mGtup, mGcons, mGnil, mYes, mComp, mComp2, wipeA, restA, vsOk, dSort, dAdd, dIx, mIf, mB, dCmpI, dNeg, mAndT, mIEnum, mStore, rSlot, dInt, dMod, dMul, dDiv, dAbs, dPow, mSl, mPart, mNoPart, dCut, mOr, mAnd, dNot, hlen, mIRng2, r1, r2, hz]
  exact comp_ok i1 rfl e (by rw [List.length_map]; exact hf)
theorem own_c2 (xs : List Int) : bin dNe (mVar 0) (mTup mNil) [some (.imm (.tuple (il xs))), none] = some (.val (.imm (.bool (!xs.isEmpty))), [some (.imm (.tuple (il xs))), none]) := by
  have := ne_tp_nil xs
  generalize il xs = L at *
  simp [fits_of, mFn, mSeq, mSet, put, take, frz, peek, mVar, mC, bin, un, mIfS, mNotT, mTru, mRet, mNext, mLst, mNil, mCons, mTup, mFor, mISeq, mN, mDrop, mApp, mCall, rVal, rNil, argsOf, slotsOf, nodupB, Vi.backTo, give, outsOf, Sv.toD, itemsOf, dTru, dIsi2, dIsi, tyN, isT, dTuple, dList, mGtup, mGcons, mGnil, mYes, mComp, mComp2, wipeA, restA, vsOk, dSort, dAdd, dIx, dLen, mIf, mB, dCmpI, dNeg, mAndT, mIEnum, mStore, rSlot, dInt, dMod, dMul, dDiv, dAbs, dPow, mSl, mPart, mNoPart, dCut, mOr, mAnd, dNot, this]
theorem own_fin {K : Nat} {d : D} {b : Bool} (c4 : mRet (mAnd (bin dNe (mVar 0) (mTup mNil)) (bin dEq (mComp (mIRng2 (mCons (mC (.int 1)) (mCons (un dLen (mVar 0)) mNil))) (mN 1) (mNotT (mB (bin dLtA (mVar 0) (mSl (mVar 0) (mPart (mVar 1)) mNoPart)))) (mVar 1) [1]) (mLst mNil))) [some (.imm d), none] = some (.ret (.imm (.bool b)), [some (.imm d), none])) : run (K + 1) 14 [.imm d] = some (.imm (.bool b), [none]) := by
  show fn14 (run K) _ = _
  unfold fn14 mFn
  rw [if_pos (show [Sv.imm d].length = 1 from rfl)]
  show (match mRet _ [some (.imm d), none] with | some (.ret r, ρ) => (match outsOf [Sv.imm d] ρ with | some os => some (r, os) | none => none) | some (.next, ρ) => (match outsOf [Sv.imm d] ρ with | some os => some (.imm .none, os) | none => none) | _ => none) = _
  rw [c4]
  rfl
theorem own_tp {K : Nat} (xs : List Int) (h : xs.length ≤ 1000) : run (K + 1) 14 [.imm (.tuple (il xs))] = some (.imm (.bool (lynB xs)), [none]) := by
  have e := cl2_ok (d := .tuple (il xs)) (f := fun k => ltB xs (xs.drop k)) (g := fun k => .imm (.tuple (il (xs.drop k)))) (fun k => by show some (Sv.imm (.tuple _)) = _; rw [cut_from]) (fun k => lt_tp xs _) (ksOf xs.length)
  have hk := len_ks xs.length
  have hlen : dLen (.tuple (il xs)) = some (.imm (.int (xs.length : Int))) := by show some (Sv.imm (.int _)) = _; rw [List.length_map]
  generalize hfl : (ksOf xs.length).filter (fun k => !ltB xs (xs.drop k)) = fl at e
  have hfl2 : fl.length ≤ 1000 := by rw [← hfl]; exact Nat.le_trans (List.length_filter_le _ _) (by omega)
  have q3 : lynB xs = (!xs.isEmpty && fl.isEmpty) := by
    rw [← hfl, ← all_filter]
    rfl
  rw [q3]
  exact own_fin (and_ret (own_c2 xs) fun _ => bin_val (f := dEq) (mb := mLst mNil) (t := .own false []) (r := .imm (.bool fl.isEmpty)) (own_c1 h hlen (fits_of (by omega)) e) rfl (eq_ls_nil fl))
end K30

namespace K30
open PySem Vi PyProof.Rows
def nextW (w : Nat) (ws : List (List Int)) : List (List Int) := ws.flatMap fun x => (List.range w).map fun k => x ++ [((k : Nat) : Int)]
def lastW (w : Nat) : Nat → List (List Int)
  | 0 => [[]]
  | l + 1 => nextW w (lastW w l)
def allW (w : Nat) : Nat → List (List Int)
  | 0 => [[]]
  | l + 1 => allW w l ++ lastW w (l + 1)
theorem filt : (pairs.map fun p => (allW p.1 p.2).filter lynB) = pairs.map fun p => (words p.1).filter fun x => x.length ≤ p.2 := by kernel_rfl
def cW : ME := bin dAdd (mVar 6) (mTup (mCons (mVar 7) mNil))
theorem one_w {w l x2 x3 x4 x5 : Option Sv} {x : List Int} (k : Nat) (hx : x.length ≤ 100) : cW [w, l, x2, x3, x4, x5, some (.imm (tp x)), some (.imm (.int (k : Int)))] = some (.val (.imm (tp (x ++ [(k : Int)]))), [w, l, x2, x3, x4, x5, some (.imm (tp x)), some (.imm (.int (k : Int)))]) := by
  have hf : fits (x.length + 1) = true := fits_of (by omega)
  unfold cW tp
  simp [fits_of, mFn, mSeq, mSet, put, take, frz, peek, mVar, mC, bin, un, mIfS, mNotT, mTru, mRet, mNext, mLst, mNil, mCons, mTup, mFor, mISeq, mN, mDrop, mApp, mCall, rVal, rNil, argsOf, slotsOf, nodupB, Vi.backTo, give, outsOf, Sv.toD, itemsOf, dTru, dIsi2, dIsi, tyN, isT, dTuple, dList, mGtup, mGcons, mGnil, mYes, mComp, mComp2, wipeA, restA, vsOk, dSort, dAdd, dIx, dLen, mIf, mB, dCmpI, dNeg, mAndT, mIEnum, mStore, rSlot, dInt, dMod, dMul, dDiv, dAbs, dPow, mSl, mPart, mNoPart, dCut, mOr, mAnd, dNot, hf]
theorem cloop_w {w l x2 x3 x4 x5 : Option Sv} {x : List Int} (hx : x.length ≤ 100) : ∀ ks : List Nat, cloop (mN 7) mYes cW [7] (kl ks) [w, l, x2, x3, x4, x5, some (.imm (tp x)), none] = some ((ks.map fun k : Nat => x ++ [(k : Int)]).map tp, [w, l, x2, x3, x4, x5, some (.imm (tp x)), none])
  | [] => rfl
  | k :: ks => by
    have ih := cloop_w (w := w) (l := l) (x2 := x2) (x3 := x3) (x4 := x4) (x5 := x5) (x := x) hx ks
    have h1 := one_w (w := w) (l := l) (x2 := x2) (x3 := x3) (x4 := x4) (x5 := x5) (x := x) k hx
    simp only [kl, List.map_cons] at ih ⊢
    simp [fits_of, mFn, mSeq, mSet, put, take, frz, peek, mVar, mC, bin, un, mIfS, mNotT, mTru, mRet, mNext, mLst, mNil, mCons, mTup, mFor, mISeq, mN, mDrop, mApp, mCall, rVal, rNil, argsOf, slotsOf, nodupB, Vi.backTo, give, outsOf, Sv.toD, itemsOf, dTru, dIsi2, dIsi, tyN, isT, dTuple, dList, mGtup, mGcons, mGnil, mYes, mComp, mComp2, wipeA, restA, vsOk, dSort, dAdd, dIx, dLen, mIf, mB, dCmpI, dNeg, mAndT, mIEnum, mStore, rSlot, dInt, dMod, dMul, dDiv, dAbs, dPow, mSl, mPart, mNoPart, dCut, mOr, mAnd, dNot, cloop, h1, ih]
theorem rng0 (w : Nat) : rngD 0 w = kl (List.range w) := by
  unfold rngD kl
  congr 1
  funext k
  congr 1
  omega
theorem i1_w {w : Nat} (hw : w ≤ 1000) {l x2 x3 x4 x5 x6 x7 : Option Sv} : mIRng1 (mCons (mVar 0) mNil) [iv w, l, x2, x3, x4, x5, x6, x7] = some (kl (List.range w), [iv w, l, x2, x3, x4, x5, x6, x7]) := by
  have r1 : rngOk (w : Int) = true := decide_eq_true (by constructor <;> omega)
  rw [← rng0]
  simp [fits_of, mFn, mSeq, mSet, put, take, frz, peek, mVar, mC, bin, un, mIfS, mNotT, mTru, mRet, mNext, mLst, mNil, mCons, mTup, mFor, mISeq, mN, mDrop, mApp, mCall, rVal, rNil, argsOf, slotsOf, nodupB, Vi.backTo, give, outsOf, Sv.toD, itemsOf, dTru, dIsi2, dIsi, tyN, isT, dTuple, dList, mGtup, mGcons, mGnil, mYes, mComp, mComp2, wipeA, restA, vsOk, dSort, dAdd, dIx, dLen, mIf, mB, dCmpI, dNeg, mAndT, mIEnum, mStore, rSlot, dInt, dMod, dMul, dDiv, dAbs, dPow, mSl, mPart, mNoPart, dCut, mOr, mAnd, dNot, mIRng1, r1]
end K30

namespace K30
open PySem Vi PyProof.Rows
def bW : MS := mSet 5 (bin dAdd (mVar 5) (mComp (mIRng1 (mCons (mVar 0) mNil)) (mN 7) mYes cW [7]))
def rowW (w : Nat) (x : List Int) : List D := ((List.range w).map fun k : Nat => x ++ [(k : Int)]).map tp
theorem rowW_len (w : Nat) (x : List Int) : (rowW w x).length = w := by unfold rowW; simp [fits_of, mFn, mSeq, mSet, put, take, frz, peek, mVar, mC, bin, un, mIfS, mNotT, mTru, mRet, mNext, mLst, mNil, mCons, mTup, mFor, mISeq, mN, mDrop, mApp, mCall, rVal, rNil, argsOf, slotsOf, nodupB, Vi.backTo, give, outsOf, Sv.toD, itemsOf, dTru, dIsi2, dIsi, tyN, isT, dTuple, dList, mGtup, mGcons, mGnil, mYes, mComp, mComp2, wipeA, restA, vsOk, dSort, dAdd, dIx, dLen, mIf, mB, dCmpI, dNeg, mAndT, mIEnum, mStore, rSlot, dInt, dMod, dMul, dDiv, dAbs, dPow, mSl, mPart, mNoPart, dCut, mOr, mAnd, dNot]
theorem comp_w {w : Nat} {l x2 x3 x4 x5 : Option Sv} {x : List Int} (hw : w ≤ 1000) (hx : x.length ≤ 100) : mComp (mIRng1 (mCons (mVar 0) mNil)) (mN 7) mYes cW [7] [iv w, l, x2, x3, x4, x5, some (.imm (tp x)), none] = some (.val (.own false (rowW w x)), [iv w, l, x2, x3, x4, x5, some (.imm (tp x)), none]) := by
  have e := cloop_w (w := iv w) (l := l) (x2 := x2) (x3 := x3) (x4 := x4) (x5 := x5) (x := x) hx (List.range w)
  have hl := rowW_len w x
  unfold rowW at hl ⊢
  exact comp_ok (i1_w hw) rfl e (fits_of (by omega))
theorem bin_set {i : Nat} {f : D → D → Option Sv} {ma mb : ME} {ρ : Fm} {s t : D} {r : Sv} {p1 p2 : PR} (ha : ma ρ = some (p1, ρ)) (hb : mb ρ = some (p2, ρ)) (h1 : peek ρ p1 = some s) (h2 : peek ρ p2 = some t) (hf : f s t = some r) {ρ2 : Fm} (hp : put i (.val r) ρ = some ρ2) : mSet i (bin f ma mb) ρ = some (.next, ρ2) := by
  unfold mSet bin
  rw [ha]
  simp only [hb, h1, h2, hf, hp]
theorem add_own {acc L : List D} (h : acc.length + L.length ≤ 10000) : dAdd (.list acc) (.list L) = some (.own false (acc ++ L)) := by
  have hf : fits (acc.length + L.length) = true := fits_of h
  unfold dAdd
  simp only [hf, if_true]
theorem body_w {w : Nat} {l x2 x3 x4 : Option Sv} {x : List Int} {acc : List D} (hw : w ≤ 1000) (hx : x.length ≤ 100) (ha : acc.length + w ≤ 10000) : bW [iv w, l, x2, x3, x4, some (.own false acc), some (.imm (tp x)), none] = some (.next, [iv w, l, x2, x3, x4, some (.own false (acc ++ rowW w x)), some (.imm (tp x)), none]) :=
  bin_set (s := .list acc) (t := .list (rowW w x)) rfl (comp_w hw hx) rfl rfl (add_own (by rw [rowW_len]; exact ha)) rfl
theorem loop_cons {mg : MG} {mb : MS} {d : D} {ds : List D} {ρ ρ1 ρ2 : Fm} (h1 : mg d ρ = some ρ1) (h2 : mb ρ1 = some (.next, ρ2)) : loop mg mb (d :: ds) ρ = loop mg mb ds ρ2 := by
  rw [loop, h1]
  simp only [h2]
theorem next_cons (w : Nat) (x : List Int) (ws : List (List Int)) : (nextW w (x :: ws)).map tp = rowW w x ++ (nextW w ws).map tp := by
  unfold nextW rowW
  rw [List.flatMap_cons, List.map_append]
theorem next_len (w : Nat) : ∀ ws, (nextW w ws).length = w * ws.length
  | [] => rfl
  | x :: ws => by
    have := next_len w ws
    have h := congrArg List.length (next_cons w x ws)
    rw [List.length_append, List.length_map, List.length_map, rowW_len, this] at h
    rw [h, List.length_cons, Nat.mul_succ]; omega
theorem loop_w {w : Nat} {l x2 x3 x4 : Option Sv} (hw : w ≤ 1000) : ∀ (ws : List (List Int)) (acc : List D) (x6 : Option Sv), (∀ x ∈ ws, x.length ≤ 100) → acc.length + (nextW w ws).length ≤ 10000 →
    ∃ y6, loop (mN 6) bW (ws.map tp) [iv w, l, x2, x3, x4, some (.own false acc), x6, none] = some (.next, [iv w, l, x2, x3, x4, some (.own false (acc ++ (nextW w ws).map tp)), y6, none]) := by
  intro ws
  induction ws with
  | nil => intro acc x6 _ _; exact ⟨x6, by rw [show nextW w [] = [] from rfl, List.map_nil, List.append_nil]; rfl⟩
  | cons x ws ih =>
    intro acc x6 hx h
    have hn := congrArg List.length (next_cons w x ws)
    rw [List.length_append, List.length_map, List.length_map, rowW_len] at hn
    have b := body_w (l := l) (x2 := x2) (x3 := x3) (x4 := x4) (x := x) (acc := acc) hw (hx x (List.mem_cons_self ..)) (by omega)
    obtain ⟨y6, e⟩ := ih (acc ++ rowW w x) (some (.imm (tp x))) (fun y hy => hx y (List.mem_cons_of_mem _ hy)) (by rw [List.length_append, rowW_len]; omega)
    refine ⟨y6, ?_⟩
    rw [List.map_cons, loop_cons (ρ1 := [iv w, l, x2, x3, x4, some (.own false acc), some (.imm (tp x)), none]) rfl b, e, next_cons, List.append_assoc]
end K30

namespace K30
open PySem Vi PyProof.Rows
theorem seq_ok {m n : MS} {ρ ρ1 : Fm} {r : Option (Fl × Fm)} (h : m ρ = some (.next, ρ1)) (h2 : n ρ1 = r) : mSeq m n ρ = r := by unfold mSeq; rw [h]; exact h2
theorem for_ok {mi : MI} {mg : MG} {mb : MS} {ρ ρ1 : Fm} {ds : List D} {r : Option (Fl × Fm)} (h : mi ρ = some (ds, ρ1)) (h2 : loop mg mb ds ρ1 = r) : mFor mi mg mb ρ = r := by unfold mFor; rw [h]; exact h2
def oB : MS := mSeq (mSet 5 (mLst mNil)) (mSeq (mFor (mISeq (mVar 3)) (mN 6) bW) (mSeq (mSet 3 (mVar 5)) (mSet 2 (bin dAdd (mVar 2) (mVar 3)))))
def S3 (ws : List (List Int)) (s : Option Sv) : Prop := s = some (.imm (.list (ws.map tp))) ∨ s = some (.own false (ws.map tp))
theorem obody {w : Nat} {l x4 x5 x6 s3 : Option Sv} {ws : List (List Int)} {acc : List D} (hw : w ≤ 1000) (hs : S3 ws s3) (hx : ∀ x ∈ ws, x.length ≤ 100) (hn : (nextW w ws).length ≤ 10000) (ha : acc.length + (nextW w ws).length ≤ 10000) :
    ∃ y6 y3 y5, oB [iv w, l, some (.own false acc), s3, x4, x5, x6, none] = some (.next, [iv w, l, some (.own false (acc ++ (nextW w ws).map tp)), y3, x4, y5, y6, none]) ∧ S3 (nextW w ws) y3 := by
  obtain ⟨y6, e⟩ := loop_w (l := l) (x2 := some (.own false acc)) (x3 := some (.imm (.list (ws.map tp)))) (x4 := x4) hw ws [] x6 hx (by rw [List.length_nil, Nat.zero_add]; exact hn)
  rw [List.nil_append] at e
  have hi : mISeq (mVar 3) [iv w, l, some (.own false acc), s3, x4, some (.own false []), x6, none] = some (ws.map tp, [iv w, l, some (.own false acc), some (.imm (.list (ws.map tp))), x4, some (.own false []), x6, none]) := by
    rcases hs with rfl | rfl <;> rfl
  have ha' : acc.length + ((nextW w ws).map tp).length ≤ 10000 := by rw [List.length_map]; exact ha
  have hb := add_own (acc := acc) (L := (nextW w ws).map tp) ha'
  refine ⟨y6, some (.imm (.list ((nextW w ws).map tp))), some (.imm (.list ((nextW w ws).map tp))), ?_, .inl rfl⟩
  generalize (nextW w ws).map tp = L at e hb ⊢
  unfold oB
  refine seq_ok (ρ1 := [iv w, l, some (.own false acc), s3, x4, some (.own false []), x6, none]) rfl (seq_ok (for_ok hi e) (seq_ok (ρ1 := [iv w, l, some (.own false acc), some (.imm (.list L)), x4, some (.imm (.list L)), y6, none]) rfl ?_))
  exact bin_set (s := .list acc) (t := .list L) rfl rfl rfl rfl hb rfl
theorem lastW_ok (w : Nat) : ∀ l, ∀ x ∈ lastW w l, x.length = l
  | 0, x, hx => by
    rw [show lastW w 0 = [[]] from rfl] at hx
    rw [List.mem_singleton.mp hx]; rfl
  | l + 1, x, hx => by
    have ih := lastW_ok w l
    obtain ⟨y, hy, hz⟩ := List.mem_flatMap.mp (show x ∈ (lastW w l).flatMap _ from hx)
    obtain ⟨k, _, rfl⟩ := List.mem_map.mp hz
    rw [List.length_append, ih y hy]; rfl
theorem allW_map (w l : Nat) : (allW w (l + 1)).map tp = (allW w l).map tp ++ (nextW w (lastW w l)).map tp := by
  show (allW w l ++ nextW w (lastW w l)).map tp = _
  rw [List.map_append]
theorem oloop {w N : Nat} {l : Option Sv} (hw : w ≤ 1000) (hN : N ≤ 100) (hb : ∀ k, k ≤ N → (allW w k).length ≤ 10000 ∧ (lastW w k).length ≤ 10000) : ∀ (ks : List D) (k : Nat) (x4 x5 x6 s3 : Option Sv), k + ks.length = N → S3 (lastW w k) s3 →
    ∃ y3 y4 y5 y6, loop (mN 4) oB ks [iv w, l, some (.own false ((allW w k).map tp)), s3, x4, x5, x6, none] = some (.next, [iv w, l, some (.own false ((allW w N).map tp)), y3, y4, y5, y6, none]) := by
  intro ks
  induction ks with
  | nil => intro k x4 x5 x6 s3 h hs; rw [List.length_nil, Nat.add_zero] at h; subst h; exact ⟨s3, x4, x5, x6, rfl⟩
  | cons d ks ih =>
    intro k x4 x5 x6 s3 h hs
    rw [List.length_cons] at h
    have h1 := hb (k + 1) (by omega)
    have hlen : ((allW w k).map tp).length + (nextW w (lastW w k)).length ≤ 10000 := by
      have := congrArg List.length (allW_map w k)
      rw [List.length_append, List.length_map, List.length_map, List.length_map] at this
      rw [List.length_map]; omega
    obtain ⟨y6, y3, y5, e, hs'⟩ := obody (l := l) (x4 := some (.imm d)) (x5 := x5) (x6 := x6) (acc := (allW w k).map tp) hw hs (fun x hx => by rw [lastW_ok w k x hx]; omega) h1.2 hlen
    rw [← allW_map] at e
    obtain ⟨z3, z4, z5, z6, e2⟩ := ih (k + 1) (some (.imm d)) y5 y6 y3 (by omega) hs'
    exact ⟨z3, z4, z5, z6, (loop_cons (ρ1 := [iv w, l, some (.own false ((allW w k).map tp)), s3, some (.imm d), x5, x6, none]) rfl e).trans e2⟩
theorem fn_ret {n m : Nat} {ms : MS} {us : List Sv} {r : Sv} {ρ0 ρ : Fm} {os : List (Option (List D))} (hn : us.length = m) (h0 : us.map some ++ List.replicate (n - m) none = ρ0) (h : ms ρ0 = some (.ret r, ρ)) (ho : outsOf us ρ = some os) : mFn n m ms us = some (r, os) := by
  unfold mFn
  rw [if_pos hn, h0, h]
  simp only [ho]
end K30

namespace K30
open PySem Vi PyProof.Rows
theorem i1_o {N : Nat} {x0 x2 x3 x4 x5 x6 x7 : Option Sv} (hN : N ≤ 100) : mIRng1 (mCons (mVar 1) mNil) [x0, iv N, x2, x3, x4, x5, x6, x7] = some (rngD 0 N, [x0, iv N, x2, x3, x4, x5, x6, x7]) := by
  have r1 : rngOk (N : Int) = true := decide_eq_true (by constructor <;> omega)
  simp [mIRng1, r1, mCons, mVar, mNil, frz, Sv.toD]
theorem i2_o {w N : Nat} : mPar 2 3 (mLst (mCons (mTup mNil) mNil)) (mLst (mCons (mTup mNil) mNil)) [iv w, iv N, none, none, none, none, none, none] = some (.next, [iv w, iv N, some (.own false [tp []]), some (.own false [tp []]), none, none, none, none]) := rfl
theorem i3_o {K : Nat} : fn13 (run K) = mFn 8 2 (mSeq (mPar 2 3 (mLst (mCons (mTup mNil) mNil)) (mLst (mCons (mTup mNil) mNil))) (mSeq (mFor (mIRng1 (mCons (mVar 1) mNil)) (mN 4) oB) (mRet (mVar 2)))) := rfl
theorem rs13 (K : Nat) : run (K + 1) 13 = fn13 (run K) := rfl
theorem words_ok {K w N : Nat} (hw : w ≤ 1000) (hN : N ≤ 100) (hb : ∀ k, k ≤ N → (allW w k).length ≤ 10000 ∧ (lastW w k).length ≤ 10000) : run (K + 1) 13 [.imm (.int (w : Int)), .imm (.int (N : Int))] = some (.own false ((allW w N).map tp), [none, none]) := by
  have hl : (rngD 0 N).length = N := rngD_len 0 N
  obtain ⟨y3, y4, y5, y6, e⟩ := oloop (l := iv N) hw hN hb (rngD 0 N) 0 none none none (some (.own false [tp []])) (by omega) (.inr rfl)
  rw [rs13, i3_o]
  generalize (allW w N).map tp = L at e ⊢
  exact fn_ret (ρ0 := [iv w, iv N, none, none, none, none, none, none]) rfl rfl (r := .own false L) (ρ := [iv w, iv N, some (.own false L), y3, y4, y5, y6, none]) (seq_ok i2_o (seq_ok (for_ok (i1_o hN) e) rfl)) rfl
end K30

namespace K30
open PySem Vi PyProof.Rows
theorem rs15 (K : Nat) : run (K + 1) 15 = fn15 (run K) := rfl
theorem rs17 (K : Nat) : run (K + 1) 17 = fn17 (run K) := rfl
theorem rs18 (K : Nat) : run (K + 1) 18 = fn18 (run K) := rfl
theorem rs4 (K : Nat) : run (K + 1) 4 = fn4 (run K) := rfl
theorem rs2 (K : Nat) : run (K + 1) 2 = fn2 (run K) := rfl
theorem rs1 (K : Nat) : run (K + 1) 1 = fn1 (run K) := rfl
theorem cloop_f {cl : Nat → Fn} {x0 x1 : Option Sv} : ∀ ws : List (List Int), (∀ x ∈ ws, cl 14 [.imm (tp x)] = some (.imm (.bool (lynB x)), [none])) → cloop (mN 2) (mTru (mCall (cl 14) (rVal (mVar 2) rNil))) (mVar 2) [2] (ws.map tp) [x0, x1, none] = some ((ws.filter lynB).map tp, [x0, x1, none]) := by
  intro ws
  induction ws with
  | nil => intro _; rfl
  | cons x ws ih =>
    intro h
    have h1 := h x (List.mem_cons_self ..)
    have h2 := ih fun y hy => h y (List.mem_cons_of_mem _ hy)
    have hc : mCall (cl 14) (rVal (mVar 2) rNil) [x0, x1, some (.imm (tp x))] = some (.val (.imm (.bool (lynB x))), [x0, x1, some (.imm (tp x))]) := c_call rfl rfl rfl h1 rfl
    rw [List.map_cons, List.filter_cons]
    cases hb : lynB x
    · rw [hb] at hc
      exact c_cskip rfl (c_tru hc rfl rfl) h2
    · rw [hb] at hc
      exact c_ccons rfl (c_tru hc rfl rfl) rfl rfl h2
theorem lyn_hi {cl : Nat → Fn} {w N : Nat} {L : List D} (e1 : cl 13 [.imm (.int (w : Int)), .imm (.int (N : Int))] = some (.own false L, [none, none])) : mISeq (mCall (cl 13) (rVal (mVar 0) (rVal (mVar 1) rNil))) [iv w, iv N, none] = some (L, [iv w, iv N, none]) := by
  have hc : mCall (cl 13) (rVal (mVar 0) (rVal (mVar 1) rNil)) [iv w, iv N, none] = some (.val (.own false L), [iv w, iv N, none]) := c_call rfl rfl rfl e1 rfl
  unfold mISeq
  rw [hc]
  rfl
theorem lyn_gen {cl : Nat → Fn} {w N : Nat} {L L2 : List D} (e1 : cl 13 [.imm (.int (w : Int)), .imm (.int (N : Int))] = some (.own false L, [none, none])) (e2 : cloop (mN 2) (mTru (mCall (cl 14) (rVal (mVar 2) rNil))) (mVar 2) [2] L [iv w, iv N, none] = some (L2, [iv w, iv N, none])) (hf : fits L2.length = true) : fn15 cl [.imm (.int (w : Int)), .imm (.int (N : Int))] = some (.own false L2, [none, none]) := by
  unfold fn15
  exact c_fn (ρ0 := [iv w, iv N, none]) rfl rfl (c_ret (c_comp (lyn_hi e1) rfl e2 hf rfl) rfl) rfl
theorem lyndons_ok {K w N : Nat} (hw : w ≤ 1000) (hN : N ≤ 100) (hb : ∀ k, k ≤ N → (allW w k).length ≤ 10000 ∧ (lastW w k).length ≤ 10000) (hx : ∀ x ∈ allW w N, x.length ≤ 1000) : run (K + 2) 15 [.imm (.int (w : Int)), .imm (.int (N : Int))] = some (.own false (((allW w N).filter lynB).map tp), [none, none]) := by
  have e1 := words_ok (K := K) hw hN hb
  have e2 := cloop_f (cl := run (K + 1)) (x0 := iv w) (x1 := iv N) (allW w N) fun x h => own_tp x (hx x h)
  have hf : fits (((allW w N).filter lynB).map tp).length = true := c_fits (by
    rw [List.length_map]
    exact Nat.le_trans (List.length_filter_le _ _) (hb N (Nat.le_refl _)).1)
  have e3 := lyn_gen e1 e2 hf
  rw [← rs15] at e3
  exact e3
theorem pair_small : ∀ p ∈ pairs, p.1 ≤ 1000 ∧ p.2 ≤ 100 ∧ (∀ k, k ≤ p.2 → (allW p.1 k).length ≤ 10000 ∧ (lastW p.1 k).length ≤ 10000) ∧ ∀ x ∈ allW p.1 p.2, x.length ≤ 1000 := by decide +kernel
theorem map_same {α β : Type} {f g : α → β} : ∀ {l : List α}, l.map f = l.map g → ∀ x ∈ l, f x = g x
  | [], _, x, hx => by cases hx
  | y :: l, h, x, hx => by
    rw [List.map_cons, List.map_cons] at h
    injection h with h1 h2
    rcases List.mem_cons.mp hx with rfl | hx
    · exact h1
    · exact map_same h2 x hx
theorem own_at {K : Nat} {p : Nat × Nat} (h : p ∈ pairs) : run (K + 2) 15 [.imm (.int (p.1 : Int)), .imm (.int (p.2 : Int))] = some (.own false (OWN p), [none, none]) := by
  obtain ⟨h1, h2, h3, h4⟩ := pair_small p h
  have := map_same filt p h
  have e := lyndons_ok (K := K) h1 h2 h3 h4
  rw [this] at e
  exact e
def sB2 (cl : Nat → Fn) : MS := (mSeq (mSet 4 (mLst (mCons (mCall (cl 6) (rVal (mVar 1) (rVal (mVar 2) rNil))) (mCons (mComp (mIRng2 (mCons (mC (.int 1)) (mCons (bin dAdd (mVar 2) (mC (.int 1))) mNil))) (mN 8) mYes (mCall (cl 7) (rVal (mVar 1) (rVal (mVar 8) rNil))) [8]) mNil)))) (mSet 5 (mLst (mCons (mVar 3) (mCons (mComp (mIRng2 (mCons (mC (.int 1)) (mCons (bin dAdd (mVar 2) (mC (.int 1))) mNil))) (mN 8) mYes (un dLen (mComp (mISeq (mVar 3)) (mN 13) (mB (bin dEq (un dLen (mVar 13)) (mVar 8))) (mVar 13) [13])) [8]) mNil)))))
theorem sB2_ok (b : Option Sv) : (pairs.map fun p => sB2 (run 58) [b, iv p.1, iv p.2, some (.own false (OWN p)), none, none, none, none, none, none, none, none, none, none]) = pairs.map fun p => some (.next, [b, iv p.1, iv p.2, some (.imm (.list (OWN p))), some (.own false [.list (OWN p), .list (CN p)]), some (.own false [.list (OWN p), .list (CN p)]), none, none, none, none, none, none, none, none]) := by kernel_rfl
theorem words_at {p : Nat × Nat} (h : p ∈ pairs) : run 58 6 [.imm (.int (p.1 : Int)), .imm (.int (p.2 : Int))] = some (.own false (OWN p), [none, none]) := map_same words6 p h
end K30

namespace K30
open PySem Vi PyProof.Rows
theorem c_lst {ma : MA} {ρ ρ1 : Fm} {ds : List D} (h : ma ρ = some (ds, ρ1)) (hf : fits ds.length = true) : mLst ma ρ = some (.val (.own false ds), ρ1) := by
  unfold mLst
  rw [h]
  simp only [hf, if_true]
theorem c_acons {me : ME} {m : MA} {ρ ρ1 ρ2 ρ3 : Fm} {pr : PR} {d : D} {ds : List D} (h1 : me ρ = some (pr, ρ1)) (h2 : frz ρ1 pr = some (d, ρ2)) (h3 : m ρ2 = some (ds, ρ3)) : mCons me m ρ = some (d :: ds, ρ3) := by
  unfold mCons
  rw [h1]
  simp only [h2, h3]
theorem c_seqA {a b n : MS} {ρ : Fm} {x : Option (Fl × Fm)} (h : mSeq (mSeq a b) n ρ = x) : mSeq a (mSeq b n) ρ = x := by
  rw [← h]
  unfold mSeq
  cases a ρ with
  | none => rfl
  | some r => obtain ⟨f, ρ1⟩ := r; cases f <;> rfl
/-! is_word -/
theorem cnt_ok {K : Nat} (x : Int) : run (K + 2) 2 [.imm (.int x)] = some (.imm (.bool (decide (0 ≤ x))), [none]) := by
  have e1 : run (K + 1) 1 [.imm (.int x)] = some (.imm (.bool true), [none]) := rfl
  rw [rs2]
  unfold fn2
  exact c_fn (ρ0 := [some (.imm (.int x))]) rfl rfl (c_ret (c_andT (c_call rfl rfl rfl e1 rfl) rfl rfl (c_bin rfl rfl rfl rfl rfl)) rfl) rfl
def okW (w x : Int) : Bool := decide (0 ≤ x) && decide (x < w)
def cI (cl : Nat → Fn) : ME := mAnd (mCall (cl 2) (rVal (mVar 2) rNil)) (bin dLtA (mVar 2) (mVar 1))
theorem isw_loop {cl : Nat → Fn} (hc : ∀ x : Int, cl 2 [.imm (.int x)] = some (.imm (.bool (decide (0 ≤ x))), [none])) {x0 : Option Sv} {w : Int} : ∀ xs : List Int, cloop (mN 2) mYes (cI cl) [2] (il xs) [x0, some (.imm (.int w)), none] = some (xs.map fun x => .bool (okW w x), [x0, some (.imm (.int w)), none])
  | [] => rfl
  | x :: xs => by
    have e : cI cl [x0, some (.imm (.int w)), some (.imm (.int x))] = some (.val (.imm (.bool (okW w x))), [x0, some (.imm (.int w)), some (.imm (.int x))]) := c_andB (c_call rfl rfl rfl (hc x) rfl) fun _ => c_bin rfl rfl rfl rfl rfl
    exact c_ccons rfl rfl e rfl (isw_loop hc xs)
theorem bools_f (f : Int → Bool) : ∀ xs : List Int, boolsOf (xs.map fun x => .bool (f x)) = some (xs.map f)
  | [] => rfl
  | x :: xs => by rw [List.map_cons, boolsOf, bools_f f xs]; rfl
theorem isw_gen {cl : Nat → Fn} (hc : ∀ x : Int, cl 2 [.imm (.int x)] = some (.imm (.bool (decide (0 ≤ x))), [none])) (w : Int) (xs : List Int) (hl : xs.length ≤ 1000) : fn4 cl [.imm (.tuple (il xs)), .imm (.int w)] = some (.imm (.bool (xs.all (okW w))), [none, none]) := by
  have e := isw_loop hc (x0 := some (.imm (.tuple (il xs)))) (w := w) xs
  have hd : dAll (.list (xs.map fun x => .bool (okW w x))) = some (.imm (.bool (xs.all (okW w)))) := by
    show (boolsOf _).map _ = _
    rw [bools_f]
    simp
  unfold fn4
  refine c_fn (ρ0 := [some (.imm (.tuple (il xs))), some (.imm (.int w)), none]) rfl rfl (c_ret (c_andT (d := .bool true) (c_un (s := .tuple (il xs)) (r := .imm (.bool true)) rfl rfl rfl) rfl rfl (c_un (c_comp (ρ1 := [some (.imm (.tuple (il xs))), some (.imm (.int w)), none]) (ds := il xs) rfl rfl e (c_fits (by rw [List.length_map]; omega)) rfl) rfl hd)) rfl) rfl
theorem isw_ok {K : Nat} (w : Int) (xs : List Int) (hl : xs.length ≤ 1000) : run (K + 3) 4 [.imm (.tuple (il xs)), .imm (.int w)] = some (.imm (.bool (xs.all (okW w))), [none, none]) := by
  rw [rs4]
  exact isw_gen (fun x => cnt_ok x) w xs hl
/-! drawn words -/
def TakeP (cl : Nat → Fn) (b : Int) : Prop := ∀ a c n : Int, 0 < n → n < 1000000 → 0 ≤ c → c < 1000000 → ∃ v a' c' : Int, cl 10 [.own true (bx a b c), .imm (.int n)] = some (.imm (.int v), [some (bx a' b c'), none]) ∧ 0 ≤ v ∧ v < n ∧ 0 ≤ c' ∧ c' ≤ c + 1
theorem take_P (K : Nat) (b : Int) : TakeP (run (K + 1)) b := fun a c n h1 h2 h3 h4 => take_ok h1 h2 h3 h4
def cT (cl : Nat → Fn) : ME := mCall (cl 10) (rSlot 0 (rVal (mVar 1) rNil))
theorem draw_loop {cl : Nat → Fn} {b : Int} (T : TakeP cl b) {w : Nat} (hw : 0 < w) (hw2 : w < 1000) {x2 x3 x4 x5 x6 x7 x9 x10 x11 x12 x13 : Option Sv} : ∀ (ds : List D) (a c : Int), 0 ≤ c → c + ds.length < 100000 →
    ∃ (xs : List Int) (a' c' : Int), cloop (mN 8) mYes (cT cl) [8] ds [some (.own true (bx a b c)), iv w, x2, x3, x4, x5, x6, x7, none, x9, x10, x11, x12, x13] = some (il xs, [some (.own true (bx a' b c')), iv w, x2, x3, x4, x5, x6, x7, none, x9, x10, x11, x12, x13]) ∧ xs.length = ds.length ∧ (∀ x ∈ xs, okW w x = true) ∧ 0 ≤ c' ∧ c' ≤ c + ds.length := by
  intro ds
  induction ds with
  | nil => intro a c h1 _; exact ⟨[], a, c, rfl, rfl, (fun x hx => by cases hx), h1, by simp⟩
  | cons d ds ih =>
    intro a c h1 h2
    simp only [List.length_cons] at h2
    obtain ⟨v, a1, c1, e, v1, v2, c2, c3⟩ := T a c w (by omega) (by omega) h1 (by omega)
    obtain ⟨xs, a', c', e2, k1, k2, k3, k4⟩ := ih a1 c1 c2 (by omega)
    refine ⟨v :: xs, a', c', c_ccons (ρ1 := [some (.own true (bx a b c)), iv w, x2, x3, x4, x5, x6, x7, some (.imm d), x9, x10, x11, x12, x13]) rfl rfl (c_call rfl rfl rfl e rfl) rfl e2, by rw [List.length_cons, List.length_cons, k1], fun x hx => ?_, k3, by rw [List.length_cons]; omega⟩
    rcases List.mem_cons.mp hx with rfl | hx
    · unfold okW
      rw [decide_eq_true v1, decide_eq_true v2]; rfl
    · exact k2 x hx
end K30

namespace K30
open PySem Vi PyProof.Rows
def bG (cl : Nat → Fn) : MS := (mSeq (mSet 11 (un dTuple (mComp (mIRng1 (mCons (mCall (cl 10) (rSlot 0 (rVal (mC (.int 8)) rNil))) mNil)) (mN 8) mYes (cT cl) [8]))) (mSeq (mSet 4 (bin dAdd (mVar 4) (mLst (mCons (mCall (cl 5) (rVal (mVar 11) rNil)) (mCons (mCall (cl 5) (rVal (un dList (mVar 11)) rNil)) (mCons (mCall (cl 4) (rVal (mVar 11) (rVal (mVar 1) rNil))) (mCons (mCall (cl 4) (rVal (bin dAdd (mVar 11) (mTup (mCons (mVar 1) mNil))) (rVal (mVar 1) rNil))) mNil))))))) (mSet 5 (bin dAdd (mVar 5) (mLst (mCons (mCall (cl 14) (rVal (mVar 11) rNil)) (mCons (mCall (cl 14) (rVal (mVar 11) rNil)) (mCons (mC (.bool true)) (mCons (mC (.bool false)) mNil)))))))))
structure CallP (cl : Nat → Fn) : Prop where
  lynT : ∀ xs : List Int, xs.length ≤ 1000 → cl 5 [.imm (.tuple (il xs))] = some (.imm (.bool (lynB xs)), [none])
  lynL : ∀ xs : List Int, xs.length ≤ 1000 → cl 5 [.imm (.list (il xs))] = some (.imm (.bool (lynB xs)), [none])
  isw : ∀ (w : Int) (xs : List Int), xs.length ≤ 1000 → cl 4 [.imm (.tuple (il xs)), .imm (.int w)] = some (.imm (.bool (xs.all (okW w))), [none, none])
  own : ∀ xs : List Int, xs.length ≤ 1000 → cl 14 [.imm (.tuple (il xs))] = some (.imm (.bool (lynB xs)), [none])
theorem call_P (K : Nat) : CallP (run (K + 3)) := ⟨fun xs h => lyn_tp xs h, fun xs h => lyn_ls xs h, fun w xs h => isw_ok w xs h, fun xs h => own_tp xs h⟩
abbrev Fr (a b c : Int) (w : Nat) (x2 x3 x4 x5 x6 x7 x8 x9 x10 x11 : Option Sv) : Fm := [some (.own true (bx a b c)), iv w, x2, x3, x4, x5, x6, x7, x8, x9, x10, x11, none, none]
def four (v : Bool) : List D := [.bool v, .bool v, .bool true, .bool false]
theorem go_body {cl : Nat → Fn} {b : Int} (T : TakeP cl b) (C : CallP cl) {w : Nat} (hw : 0 < w) (hw2 : w < 1000) {x2 x3 x6 x7 x8 x9 x10 x11 : Option Sv} {X : List D} (hX : X.length ≤ 5000) {a c : Int} (h1 : 0 ≤ c) (h2 : c ≤ 50000) (v8 : ∀ q d, x8 ≠ some (.own q d)) :
    ∃ (v : Bool) (a' c' : Int) (y11 : Option Sv), bG cl (Fr a b c w x2 x3 (some (.own false X)) (some (.own false X)) x6 x7 x8 x9 x10 x11) = some (.next, Fr a' b c' w x2 x3 (some (.own false (X ++ four v))) (some (.own false (X ++ four v))) x6 x7 x8 x9 x10 y11) ∧ 0 ≤ c' ∧ c' ≤ c + 8 := by
  obtain ⟨n, a1, c1, e1, n1, n2, c2, c3⟩ := T a c 8 (by omega) (by omega) h1 (by omega)
  obtain ⟨N, rfl⟩ : ∃ N : Nat, n = N := ⟨n.toNat, by omega⟩
  have hlen : (rngD 0 N).length = N := rngD_len 0 N
  obtain ⟨xs, a2, c4, e2, k1, k2, k3, k4⟩ := draw_loop T hw hw2 (x2 := x2) (x3 := x3) (x4 := some (.own false X)) (x5 := some (.own false X)) (x6 := x6) (x7 := x7) (x9 := x9) (x10 := x10) (x11 := x11) (x12 := none) (x13 := none) (rngD 0 N) a1 c1 c2 (by omega)
  rw [hlen] at k1 k4
  have hxl : xs.length ≤ 999 := by omega
  have hfx : fits (il xs).length = true := c_fits (by rw [List.length_map]; omega)
  refine ⟨lynB xs, a2, c4, some (.imm (.tuple (il xs))), ?_, k3, by omega⟩
  have i1 : mIRng1 (mCons (mCall (cl 10) (rSlot 0 (rVal (mC (.int 8)) rNil))) mNil) (Fr a b c w x2 x3 (some (.own false X)) (some (.own false X)) x6 x7 x8 x9 x10 x11) = some (rngD 0 N, Fr a1 b c1 w x2 x3 (some (.own false X)) (some (.own false X)) x6 x7 x8 x9 x10 x11) :=
    c_rng1 (c_acons (c_call rfl rfl rfl e1 rfl) rfl rfl) (by omega)
  have hv : vsOk (Fr a1 b c1 w x2 x3 (some (.own false X)) (some (.own false X)) x6 x7 x8 x9 x10 x11) [8] = true := by
    match x8, v8 with
    | none, _ => rfl
    | some (.imm d), _ => rfl
    | some (.own q d), h => exact absurd rfl (h q d)
  have s1 : mSet 11 (un dTuple (mComp (mIRng1 (mCons (mCall (cl 10) (rSlot 0 (rVal (mC (.int 8)) rNil))) mNil)) (mN 8) mYes (cT cl) [8])) (Fr a b c w x2 x3 (some (.own false X)) (some (.own false X)) x6 x7 x8 x9 x10 x11) = some (.next, Fr a2 b c4 w x2 x3 (some (.own false X)) (some (.own false X)) x6 x7 x8 x9 x10 (some (.imm (.tuple (il xs))))) :=
    c_set (c_un (c_comp i1 hv e2 hfx rfl) rfl (by show (some (Sv.imm (.tuple (il xs)))) = _; rfl)) rfl
  have q1 := C.lynT xs (by omega)
  have q2 := C.lynL xs (by omega)
  have q3 := C.isw w xs (by omega)
  have q4 := C.isw w (xs ++ [(w : Int)]) (by rw [List.length_append]; simp; omega)
  have q5 := C.own xs (by omega)
  have t3 : xs.all (okW w) = true := List.all_eq_true.mpr k2
  have t4 : (xs ++ [(w : Int)]).all (okW w) = false := by
    rw [List.all_append, t3]
    show (true && (okW w w && true)) = false
    unfold okW
    simp
  rw [t3] at q3
  rw [t4] at q4
  have t5 : il (xs ++ [(w : Int)]) = il xs ++ [.int (w : Int)] := by simp
  rw [t5] at q4
  have f4 : fits (four (lynB xs)).length = true := rfl
  have hadd : dAdd (.list X) (.list (four (lynB xs))) = some (.own false (X ++ four (lynB xs))) := c_addL (by show X.length + 4 ≤ _; omega)
  have hT : mTup (mCons (mVar 1) mNil) (Fr a2 b c4 w x2 x3 (some (.own false X)) (some (.own false X)) x6 x7 x8 x9 x10 (some (.imm (.tuple (il xs))))) = some (.val (.imm (.tuple [.int (w : Int)])), Fr a2 b c4 w x2 x3 (some (.own false X)) (some (.own false X)) x6 x7 x8 x9 x10 (some (.imm (.tuple (il xs))))) := rfl
  have haT : dAdd (.tuple (il xs)) (.tuple [.int (w : Int)]) = some (.imm (.tuple (il xs ++ [.int (w : Int)]))) := c_addT (by rw [List.length_map]; show xs.length + 1 ≤ _; omega)
  generalize il xs = L at *
  have m3 : ∀ z5, mLst (mCons (mCall (cl 5) (rVal (mVar 11) rNil)) (mCons (mCall (cl 5) (rVal (un dList (mVar 11)) rNil)) (mCons (mCall (cl 4) (rVal (mVar 11) (rVal (mVar 1) rNil))) (mCons (mCall (cl 4) (rVal (bin dAdd (mVar 11) (mTup (mCons (mVar 1) mNil))) (rVal (mVar 1) rNil))) mNil)))) (Fr a2 b c4 w x2 x3 (some (.own false X)) z5 x6 x7 x8 x9 x10 (some (.imm (.tuple L)))) = some (.val (.own false (four (lynB xs))), Fr a2 b c4 w x2 x3 (some (.own false X)) z5 x6 x7 x8 x9 x10 (some (.imm (.tuple L)))) := fun z5 => by
    have hb : bin dAdd (mVar 11) (mTup (mCons (mVar 1) mNil)) (Fr a2 b c4 w x2 x3 (some (.own false X)) z5 x6 x7 x8 x9 x10 (some (.imm (.tuple L)))) = some (.val (.imm (.tuple (L ++ [.int (w : Int)]))), Fr a2 b c4 w x2 x3 (some (.own false X)) z5 x6 x7 x8 x9 x10 (some (.imm (.tuple L)))) := c_bin rfl rfl rfl rfl haT
    have hr : rVal (bin dAdd (mVar 11) (mTup (mCons (mVar 1) mNil))) (rVal (mVar 1) rNil) (Fr a2 b c4 w x2 x3 (some (.own false X)) z5 x6 x7 x8 x9 x10 (some (.imm (.tuple L)))) = some ([.v (.tuple (L ++ [.int (w : Int)])), .v (.int (w : Int))], Fr a2 b c4 w x2 x3 (some (.own false X)) z5 x6 x7 x8 x9 x10 (some (.imm (.tuple L)))) := by
      unfold rVal
      rw [hb]
      rfl
    exact c_lst (c_acons (c_call rfl rfl rfl q1 rfl) rfl (c_acons (c_call rfl rfl rfl q2 rfl) rfl (c_acons (c_call rfl rfl rfl q3 rfl) rfl (c_acons (c_call hr rfl rfl q4 rfl) rfl rfl)))) f4
  have m4 : ∀ z4, mLst (mCons (mCall (cl 14) (rVal (mVar 11) rNil)) (mCons (mCall (cl 14) (rVal (mVar 11) rNil)) (mCons (mC (.bool true)) (mCons (mC (.bool false)) mNil)))) (Fr a2 b c4 w x2 x3 z4 (some (.own false X)) x6 x7 x8 x9 x10 (some (.imm (.tuple L)))) = some (.val (.own false (four (lynB xs))), Fr a2 b c4 w x2 x3 z4 (some (.own false X)) x6 x7 x8 x9 x10 (some (.imm (.tuple L)))) := fun z4 =>
    c_lst (c_acons (c_call rfl rfl rfl q5 rfl) rfl (c_acons (c_call rfl rfl rfl q5 rfl) rfl (c_acons rfl rfl (c_acons rfl rfl rfl)))) f4
  unfold bG
  exact c_seq s1 (c_seq (c_set (c_bin rfl (m3 _) rfl rfl hadd) rfl) (c_set (c_bin rfl (m4 _) rfl rfl hadd) rfl))
end K30

namespace K30
open PySem Vi PyProof.Rows
theorem hand_ok : run 59 16 [] = some (.imm (.bool true), []) := by kernel_rfl
end K30

namespace K30
open PySem Vi PyProof.Rows
def SL (b x2 x3 : Option Sv) (d1 d2 : D) (w n : Nat) := sC (run 58) [b, iv w, x2, x3, some (.own false [d1, d2]), some (.own false [d1, d2]), iv n, iv 0, none, none, none, none, none, none]
def SR (b x2 x3 : Option Sv) (d1 d2 : D) (w n : Nat) : Option (Fl × Fm) := some (.next, [b, iv w, x2, x3, some (.own false [d1, d2, .int ((w ^ n : Nat) : Int)]), some (.own false [d1, d2, .int ((w ^ n : Nat) : Int)]), iv n, iv (w ^ n), iv (n - 1), iv (w ^ n), none, none, none, none])
section
variable (b x2 x3 : Option Sv) (d1 d2 : D)
theorem s1_1 : SL b x2 x3 d1 d2 1 1 = SR b x2 x3 d1 d2 1 1 := by kernel_rfl
theorem s1_2 : SL b x2 x3 d1 d2 1 2 = SR b x2 x3 d1 d2 1 2 := by kernel_rfl
theorem s1_3 : SL b x2 x3 d1 d2 1 3 = SR b x2 x3 d1 d2 1 3 := by kernel_rfl
theorem s1_4 : SL b x2 x3 d1 d2 1 4 = SR b x2 x3 d1 d2 1 4 := by kernel_rfl
theorem s1_5 : SL b x2 x3 d1 d2 1 5 = SR b x2 x3 d1 d2 1 5 := by kernel_rfl
theorem s1_6 : SL b x2 x3 d1 d2 1 6 = SR b x2 x3 d1 d2 1 6 := by kernel_rfl
theorem s1_7 : SL b x2 x3 d1 d2 1 7 = SR b x2 x3 d1 d2 1 7 := by kernel_rfl
theorem s1_8 : SL b x2 x3 d1 d2 1 8 = SR b x2 x3 d1 d2 1 8 := by kernel_rfl
theorem s1_9 : SL b x2 x3 d1 d2 1 9 = SR b x2 x3 d1 d2 1 9 := by kernel_rfl
theorem s1_10 : SL b x2 x3 d1 d2 1 10 = SR b x2 x3 d1 d2 1 10 := by kernel_rfl
theorem s1_11 : SL b x2 x3 d1 d2 1 11 = SR b x2 x3 d1 d2 1 11 := by kernel_rfl
theorem s1_12 : SL b x2 x3 d1 d2 1 12 = SR b x2 x3 d1 d2 1 12 := by kernel_rfl
theorem s1_13 : SL b x2 x3 d1 d2 1 13 = SR b x2 x3 d1 d2 1 13 := by kernel_rfl
theorem s1_14 : SL b x2 x3 d1 d2 1 14 = SR b x2 x3 d1 d2 1 14 := by kernel_rfl
theorem s1_15 : SL b x2 x3 d1 d2 1 15 = SR b x2 x3 d1 d2 1 15 := by kernel_rfl
theorem s1_16 : SL b x2 x3 d1 d2 1 16 = SR b x2 x3 d1 d2 1 16 := by kernel_rfl
theorem s1_17 : SL b x2 x3 d1 d2 1 17 = SR b x2 x3 d1 d2 1 17 := by kernel_rfl
theorem s1_18 : SL b x2 x3 d1 d2 1 18 = SR b x2 x3 d1 d2 1 18 := by kernel_rfl
theorem s1_19 : SL b x2 x3 d1 d2 1 19 = SR b x2 x3 d1 d2 1 19 := by kernel_rfl
theorem s1_20 : SL b x2 x3 d1 d2 1 20 = SR b x2 x3 d1 d2 1 20 := by kernel_rfl
theorem s1_21 : SL b x2 x3 d1 d2 1 21 = SR b x2 x3 d1 d2 1 21 := by kernel_rfl
theorem s1_22 : SL b x2 x3 d1 d2 1 22 = SR b x2 x3 d1 d2 1 22 := by kernel_rfl
theorem s1_23 : SL b x2 x3 d1 d2 1 23 = SR b x2 x3 d1 d2 1 23 := by kernel_rfl
theorem s1_24 : SL b x2 x3 d1 d2 1 24 = SR b x2 x3 d1 d2 1 24 := by kernel_rfl
theorem s1_25 : SL b x2 x3 d1 d2 1 25 = SR b x2 x3 d1 d2 1 25 := by kernel_rfl
theorem s1_26 : SL b x2 x3 d1 d2 1 26 = SR b x2 x3 d1 d2 1 26 := by kernel_rfl
theorem s1_27 : SL b x2 x3 d1 d2 1 27 = SR b x2 x3 d1 d2 1 27 := by kernel_rfl
theorem s1_28 : SL b x2 x3 d1 d2 1 28 = SR b x2 x3 d1 d2 1 28 := by kernel_rfl
theorem s1_29 : SL b x2 x3 d1 d2 1 29 = SR b x2 x3 d1 d2 1 29 := by kernel_rfl
theorem s1_30 : SL b x2 x3 d1 d2 1 30 = SR b x2 x3 d1 d2 1 30 := by kernel_rfl
theorem s1 : ∀ n, 1 ≤ n → n ≤ 30 → SL b x2 x3 d1 d2 1 n = SR b x2 x3 d1 d2 1 n
  | 0, h, _ => absurd h (by decide)
  | 1, _, _ => s1_1 b x2 x3 d1 d2
  | 2, _, _ => s1_2 b x2 x3 d1 d2
  | 3, _, _ => s1_3 b x2 x3 d1 d2
  | 4, _, _ => s1_4 b x2 x3 d1 d2
  | 5, _, _ => s1_5 b x2 x3 d1 d2
  | 6, _, _ => s1_6 b x2 x3 d1 d2
  | 7, _, _ => s1_7 b x2 x3 d1 d2
  | 8, _, _ => s1_8 b x2 x3 d1 d2
  | 9, _, _ => s1_9 b x2 x3 d1 d2
  | 10, _, _ => s1_10 b x2 x3 d1 d2
  | 11, _, _ => s1_11 b x2 x3 d1 d2
  | 12, _, _ => s1_12 b x2 x3 d1 d2
  | 13, _, _ => s1_13 b x2 x3 d1 d2
  | 14, _, _ => s1_14 b x2 x3 d1 d2
  | 15, _, _ => s1_15 b x2 x3 d1 d2
  | 16, _, _ => s1_16 b x2 x3 d1 d2
  | 17, _, _ => s1_17 b x2 x3 d1 d2
  | 18, _, _ => s1_18 b x2 x3 d1 d2
  | 19, _, _ => s1_19 b x2 x3 d1 d2
  | 20, _, _ => s1_20 b x2 x3 d1 d2
  | 21, _, _ => s1_21 b x2 x3 d1 d2
  | 22, _, _ => s1_22 b x2 x3 d1 d2
  | 23, _, _ => s1_23 b x2 x3 d1 d2
  | 24, _, _ => s1_24 b x2 x3 d1 d2
  | 25, _, _ => s1_25 b x2 x3 d1 d2
  | 26, _, _ => s1_26 b x2 x3 d1 d2
  | 27, _, _ => s1_27 b x2 x3 d1 d2
  | 28, _, _ => s1_28 b x2 x3 d1 d2
  | 29, _, _ => s1_29 b x2 x3 d1 d2
  | 30, _, _ => s1_30 b x2 x3 d1 d2
  | n + 31, _, h => absurd h (by omega)
theorem s2_1 : SL b x2 x3 d1 d2 2 1 = SR b x2 x3 d1 d2 2 1 := by kernel_rfl
theorem s2_2 : SL b x2 x3 d1 d2 2 2 = SR b x2 x3 d1 d2 2 2 := by kernel_rfl
theorem s2_3 : SL b x2 x3 d1 d2 2 3 = SR b x2 x3 d1 d2 2 3 := by kernel_rfl
theorem s2_4 : SL b x2 x3 d1 d2 2 4 = SR b x2 x3 d1 d2 2 4 := by kernel_rfl
theorem s2_5 : SL b x2 x3 d1 d2 2 5 = SR b x2 x3 d1 d2 2 5 := by kernel_rfl
theorem s2_6 : SL b x2 x3 d1 d2 2 6 = SR b x2 x3 d1 d2 2 6 := by kernel_rfl
theorem s2_7 : SL b x2 x3 d1 d2 2 7 = SR b x2 x3 d1 d2 2 7 := by kernel_rfl
theorem s2_8 : SL b x2 x3 d1 d2 2 8 = SR b x2 x3 d1 d2 2 8 := by kernel_rfl
theorem s2_9 : SL b x2 x3 d1 d2 2 9 = SR b x2 x3 d1 d2 2 9 := by kernel_rfl
theorem s2_10 : SL b x2 x3 d1 d2 2 10 = SR b x2 x3 d1 d2 2 10 := by kernel_rfl
theorem s2_11 : SL b x2 x3 d1 d2 2 11 = SR b x2 x3 d1 d2 2 11 := by kernel_rfl
theorem s2_12 : SL b x2 x3 d1 d2 2 12 = SR b x2 x3 d1 d2 2 12 := by kernel_rfl
theorem s2_13 : SL b x2 x3 d1 d2 2 13 = SR b x2 x3 d1 d2 2 13 := by kernel_rfl
theorem s2_14 : SL b x2 x3 d1 d2 2 14 = SR b x2 x3 d1 d2 2 14 := by kernel_rfl
theorem s2_15 : SL b x2 x3 d1 d2 2 15 = SR b x2 x3 d1 d2 2 15 := by kernel_rfl
theorem s2_16 : SL b x2 x3 d1 d2 2 16 = SR b x2 x3 d1 d2 2 16 := by kernel_rfl
theorem s2_17 : SL b x2 x3 d1 d2 2 17 = SR b x2 x3 d1 d2 2 17 := by kernel_rfl
theorem s2_18 : SL b x2 x3 d1 d2 2 18 = SR b x2 x3 d1 d2 2 18 := by kernel_rfl
theorem s2_19 : SL b x2 x3 d1 d2 2 19 = SR b x2 x3 d1 d2 2 19 := by kernel_rfl
theorem s2_20 : SL b x2 x3 d1 d2 2 20 = SR b x2 x3 d1 d2 2 20 := by kernel_rfl
theorem s2_21 : SL b x2 x3 d1 d2 2 21 = SR b x2 x3 d1 d2 2 21 := by kernel_rfl
theorem s2_22 : SL b x2 x3 d1 d2 2 22 = SR b x2 x3 d1 d2 2 22 := by kernel_rfl
theorem s2_23 : SL b x2 x3 d1 d2 2 23 = SR b x2 x3 d1 d2 2 23 := by kernel_rfl
theorem s2_24 : SL b x2 x3 d1 d2 2 24 = SR b x2 x3 d1 d2 2 24 := by kernel_rfl
theorem s2_25 : SL b x2 x3 d1 d2 2 25 = SR b x2 x3 d1 d2 2 25 := by kernel_rfl
theorem s2_26 : SL b x2 x3 d1 d2 2 26 = SR b x2 x3 d1 d2 2 26 := by kernel_rfl
theorem s2_27 : SL b x2 x3 d1 d2 2 27 = SR b x2 x3 d1 d2 2 27 := by kernel_rfl
theorem s2_28 : SL b x2 x3 d1 d2 2 28 = SR b x2 x3 d1 d2 2 28 := by kernel_rfl
theorem s2_29 : SL b x2 x3 d1 d2 2 29 = SR b x2 x3 d1 d2 2 29 := by kernel_rfl
theorem s2_30 : SL b x2 x3 d1 d2 2 30 = SR b x2 x3 d1 d2 2 30 := by kernel_rfl
theorem s2 : ∀ n, 1 ≤ n → n ≤ 30 → SL b x2 x3 d1 d2 2 n = SR b x2 x3 d1 d2 2 n
  | 0, h, _ => absurd h (by decide)
  | 1, _, _ => s2_1 b x2 x3 d1 d2
  | 2, _, _ => s2_2 b x2 x3 d1 d2
  | 3, _, _ => s2_3 b x2 x3 d1 d2
  | 4, _, _ => s2_4 b x2 x3 d1 d2
  | 5, _, _ => s2_5 b x2 x3 d1 d2
  | 6, _, _ => s2_6 b x2 x3 d1 d2
  | 7, _, _ => s2_7 b x2 x3 d1 d2
  | 8, _, _ => s2_8 b x2 x3 d1 d2
  | 9, _, _ => s2_9 b x2 x3 d1 d2
  | 10, _, _ => s2_10 b x2 x3 d1 d2
  | 11, _, _ => s2_11 b x2 x3 d1 d2
  | 12, _, _ => s2_12 b x2 x3 d1 d2
  | 13, _, _ => s2_13 b x2 x3 d1 d2
  | 14, _, _ => s2_14 b x2 x3 d1 d2
  | 15, _, _ => s2_15 b x2 x3 d1 d2
  | 16, _, _ => s2_16 b x2 x3 d1 d2
  | 17, _, _ => s2_17 b x2 x3 d1 d2
  | 18, _, _ => s2_18 b x2 x3 d1 d2
  | 19, _, _ => s2_19 b x2 x3 d1 d2
  | 20, _, _ => s2_20 b x2 x3 d1 d2
  | 21, _, _ => s2_21 b x2 x3 d1 d2
  | 22, _, _ => s2_22 b x2 x3 d1 d2
  | 23, _, _ => s2_23 b x2 x3 d1 d2
  | 24, _, _ => s2_24 b x2 x3 d1 d2
  | 25, _, _ => s2_25 b x2 x3 d1 d2
  | 26, _, _ => s2_26 b x2 x3 d1 d2
  | 27, _, _ => s2_27 b x2 x3 d1 d2
  | 28, _, _ => s2_28 b x2 x3 d1 d2
  | 29, _, _ => s2_29 b x2 x3 d1 d2
  | 30, _, _ => s2_30 b x2 x3 d1 d2
  | n + 31, _, h => absurd h (by omega)
theorem s3_1 : SL b x2 x3 d1 d2 3 1 = SR b x2 x3 d1 d2 3 1 := by kernel_rfl
theorem s3_2 : SL b x2 x3 d1 d2 3 2 = SR b x2 x3 d1 d2 3 2 := by kernel_rfl
theorem s3_3 : SL b x2 x3 d1 d2 3 3 = SR b x2 x3 d1 d2 3 3 := by kernel_rfl
theorem s3_4 : SL b x2 x3 d1 d2 3 4 = SR b x2 x3 d1 d2 3 4 := by kernel_rfl
theorem s3_5 : SL b x2 x3 d1 d2 3 5 = SR b x2 x3 d1 d2 3 5 := by kernel_rfl
theorem s3_6 : SL b x2 x3 d1 d2 3 6 = SR b x2 x3 d1 d2 3 6 := by kernel_rfl
theorem s3_7 : SL b x2 x3 d1 d2 3 7 = SR b x2 x3 d1 d2 3 7 := by kernel_rfl
theorem s3_8 : SL b x2 x3 d1 d2 3 8 = SR b x2 x3 d1 d2 3 8 := by kernel_rfl
theorem s3_9 : SL b x2 x3 d1 d2 3 9 = SR b x2 x3 d1 d2 3 9 := by kernel_rfl
theorem s3_10 : SL b x2 x3 d1 d2 3 10 = SR b x2 x3 d1 d2 3 10 := by kernel_rfl
theorem s3_11 : SL b x2 x3 d1 d2 3 11 = SR b x2 x3 d1 d2 3 11 := by kernel_rfl
theorem s3_12 : SL b x2 x3 d1 d2 3 12 = SR b x2 x3 d1 d2 3 12 := by kernel_rfl
theorem s3_13 : SL b x2 x3 d1 d2 3 13 = SR b x2 x3 d1 d2 3 13 := by kernel_rfl
theorem s3_14 : SL b x2 x3 d1 d2 3 14 = SR b x2 x3 d1 d2 3 14 := by kernel_rfl
theorem s3_15 : SL b x2 x3 d1 d2 3 15 = SR b x2 x3 d1 d2 3 15 := by kernel_rfl
theorem s3_16 : SL b x2 x3 d1 d2 3 16 = SR b x2 x3 d1 d2 3 16 := by kernel_rfl
theorem s3_17 : SL b x2 x3 d1 d2 3 17 = SR b x2 x3 d1 d2 3 17 := by kernel_rfl
theorem s3_18 : SL b x2 x3 d1 d2 3 18 = SR b x2 x3 d1 d2 3 18 := by kernel_rfl
theorem s3_19 : SL b x2 x3 d1 d2 3 19 = SR b x2 x3 d1 d2 3 19 := by kernel_rfl
theorem s3_20 : SL b x2 x3 d1 d2 3 20 = SR b x2 x3 d1 d2 3 20 := by kernel_rfl
theorem s3_21 : SL b x2 x3 d1 d2 3 21 = SR b x2 x3 d1 d2 3 21 := by kernel_rfl
theorem s3_22 : SL b x2 x3 d1 d2 3 22 = SR b x2 x3 d1 d2 3 22 := by kernel_rfl
theorem s3_23 : SL b x2 x3 d1 d2 3 23 = SR b x2 x3 d1 d2 3 23 := by kernel_rfl
theorem s3_24 : SL b x2 x3 d1 d2 3 24 = SR b x2 x3 d1 d2 3 24 := by kernel_rfl
theorem s3_25 : SL b x2 x3 d1 d2 3 25 = SR b x2 x3 d1 d2 3 25 := by kernel_rfl
theorem s3_26 : SL b x2 x3 d1 d2 3 26 = SR b x2 x3 d1 d2 3 26 := by kernel_rfl
theorem s3_27 : SL b x2 x3 d1 d2 3 27 = SR b x2 x3 d1 d2 3 27 := by kernel_rfl
theorem s3_28 : SL b x2 x3 d1 d2 3 28 = SR b x2 x3 d1 d2 3 28 := by kernel_rfl
theorem s3_29 : SL b x2 x3 d1 d2 3 29 = SR b x2 x3 d1 d2 3 29 := by kernel_rfl
theorem s3_30 : SL b x2 x3 d1 d2 3 30 = SR b x2 x3 d1 d2 3 30 := by kernel_rfl
theorem s3 : ∀ n, 1 ≤ n → n ≤ 30 → SL b x2 x3 d1 d2 3 n = SR b x2 x3 d1 d2 3 n
  | 0, h, _ => absurd h (by decide)
  | 1, _, _ => s3_1 b x2 x3 d1 d2
  | 2, _, _ => s3_2 b x2 x3 d1 d2
  | 3, _, _ => s3_3 b x2 x3 d1 d2
  | 4, _, _ => s3_4 b x2 x3 d1 d2
  | 5, _, _ => s3_5 b x2 x3 d1 d2
  | 6, _, _ => s3_6 b x2 x3 d1 d2
  | 7, _, _ => s3_7 b x2 x3 d1 d2
  | 8, _, _ => s3_8 b x2 x3 d1 d2
  | 9, _, _ => s3_9 b x2 x3 d1 d2
  | 10, _, _ => s3_10 b x2 x3 d1 d2
  | 11, _, _ => s3_11 b x2 x3 d1 d2
  | 12, _, _ => s3_12 b x2 x3 d1 d2
  | 13, _, _ => s3_13 b x2 x3 d1 d2
  | 14, _, _ => s3_14 b x2 x3 d1 d2
  | 15, _, _ => s3_15 b x2 x3 d1 d2
  | 16, _, _ => s3_16 b x2 x3 d1 d2
  | 17, _, _ => s3_17 b x2 x3 d1 d2
  | 18, _, _ => s3_18 b x2 x3 d1 d2
  | 19, _, _ => s3_19 b x2 x3 d1 d2
  | 20, _, _ => s3_20 b x2 x3 d1 d2
  | 21, _, _ => s3_21 b x2 x3 d1 d2
  | 22, _, _ => s3_22 b x2 x3 d1 d2
  | 23, _, _ => s3_23 b x2 x3 d1 d2
  | 24, _, _ => s3_24 b x2 x3 d1 d2
  | 25, _, _ => s3_25 b x2 x3 d1 d2
  | 26, _, _ => s3_26 b x2 x3 d1 d2
  | 27, _, _ => s3_27 b x2 x3 d1 d2
  | 28, _, _ => s3_28 b x2 x3 d1 d2
  | 29, _, _ => s3_29 b x2 x3 d1 d2
  | 30, _, _ => s3_30 b x2 x3 d1 d2
  | n + 31, _, h => absurd h (by omega)
theorem s4_1 : SL b x2 x3 d1 d2 4 1 = SR b x2 x3 d1 d2 4 1 := by kernel_rfl
theorem s4_2 : SL b x2 x3 d1 d2 4 2 = SR b x2 x3 d1 d2 4 2 := by kernel_rfl
theorem s4_3 : SL b x2 x3 d1 d2 4 3 = SR b x2 x3 d1 d2 4 3 := by kernel_rfl
theorem s4_4 : SL b x2 x3 d1 d2 4 4 = SR b x2 x3 d1 d2 4 4 := by kernel_rfl
theorem s4_5 : SL b x2 x3 d1 d2 4 5 = SR b x2 x3 d1 d2 4 5 := by kernel_rfl
theorem s4_6 : SL b x2 x3 d1 d2 4 6 = SR b x2 x3 d1 d2 4 6 := by kernel_rfl
theorem s4_7 : SL b x2 x3 d1 d2 4 7 = SR b x2 x3 d1 d2 4 7 := by kernel_rfl
theorem s4_8 : SL b x2 x3 d1 d2 4 8 = SR b x2 x3 d1 d2 4 8 := by kernel_rfl
theorem s4_9 : SL b x2 x3 d1 d2 4 9 = SR b x2 x3 d1 d2 4 9 := by kernel_rfl
theorem s4_10 : SL b x2 x3 d1 d2 4 10 = SR b x2 x3 d1 d2 4 10 := by kernel_rfl
theorem s4_11 : SL b x2 x3 d1 d2 4 11 = SR b x2 x3 d1 d2 4 11 := by kernel_rfl
theorem s4_12 : SL b x2 x3 d1 d2 4 12 = SR b x2 x3 d1 d2 4 12 := by kernel_rfl
theorem s4_13 : SL b x2 x3 d1 d2 4 13 = SR b x2 x3 d1 d2 4 13 := by kernel_rfl
theorem s4_14 : SL b x2 x3 d1 d2 4 14 = SR b x2 x3 d1 d2 4 14 := by kernel_rfl
theorem s4_15 : SL b x2 x3 d1 d2 4 15 = SR b x2 x3 d1 d2 4 15 := by kernel_rfl
theorem s4_16 : SL b x2 x3 d1 d2 4 16 = SR b x2 x3 d1 d2 4 16 := by kernel_rfl
theorem s4_17 : SL b x2 x3 d1 d2 4 17 = SR b x2 x3 d1 d2 4 17 := by kernel_rfl
theorem s4_18 : SL b x2 x3 d1 d2 4 18 = SR b x2 x3 d1 d2 4 18 := by kernel_rfl
theorem s4_19 : SL b x2 x3 d1 d2 4 19 = SR b x2 x3 d1 d2 4 19 := by kernel_rfl
theorem s4_20 : SL b x2 x3 d1 d2 4 20 = SR b x2 x3 d1 d2 4 20 := by kernel_rfl
theorem s4_21 : SL b x2 x3 d1 d2 4 21 = SR b x2 x3 d1 d2 4 21 := by kernel_rfl
theorem s4_22 : SL b x2 x3 d1 d2 4 22 = SR b x2 x3 d1 d2 4 22 := by kernel_rfl
theorem s4_23 : SL b x2 x3 d1 d2 4 23 = SR b x2 x3 d1 d2 4 23 := by kernel_rfl
theorem s4_24 : SL b x2 x3 d1 d2 4 24 = SR b x2 x3 d1 d2 4 24 := by kernel_rfl
theorem s4_25 : SL b x2 x3 d1 d2 4 25 = SR b x2 x3 d1 d2 4 25 := by kernel_rfl
theorem s4_26 : SL b x2 x3 d1 d2 4 26 = SR b x2 x3 d1 d2 4 26 := by kernel_rfl
theorem s4_27 : SL b x2 x3 d1 d2 4 27 = SR b x2 x3 d1 d2 4 27 := by kernel_rfl
theorem s4_28 : SL b x2 x3 d1 d2 4 28 = SR b x2 x3 d1 d2 4 28 := by kernel_rfl
theorem s4_29 : SL b x2 x3 d1 d2 4 29 = SR b x2 x3 d1 d2 4 29 := by kernel_rfl
theorem s4_30 : SL b x2 x3 d1 d2 4 30 = SR b x2 x3 d1 d2 4 30 := by kernel_rfl
theorem s4 : ∀ n, 1 ≤ n → n ≤ 30 → SL b x2 x3 d1 d2 4 n = SR b x2 x3 d1 d2 4 n
  | 0, h, _ => absurd h (by decide)
  | 1, _, _ => s4_1 b x2 x3 d1 d2
  | 2, _, _ => s4_2 b x2 x3 d1 d2
  | 3, _, _ => s4_3 b x2 x3 d1 d2
  | 4, _, _ => s4_4 b x2 x3 d1 d2
  | 5, _, _ => s4_5 b x2 x3 d1 d2
  | 6, _, _ => s4_6 b x2 x3 d1 d2
  | 7, _, _ => s4_7 b x2 x3 d1 d2
  | 8, _, _ => s4_8 b x2 x3 d1 d2
  | 9, _, _ => s4_9 b x2 x3 d1 d2
  | 10, _, _ => s4_10 b x2 x3 d1 d2
  | 11, _, _ => s4_11 b x2 x3 d1 d2
  | 12, _, _ => s4_12 b x2 x3 d1 d2
  | 13, _, _ => s4_13 b x2 x3 d1 d2
  | 14, _, _ => s4_14 b x2 x3 d1 d2
  | 15, _, _ => s4_15 b x2 x3 d1 d2
  | 16, _, _ => s4_16 b x2 x3 d1 d2
  | 17, _, _ => s4_17 b x2 x3 d1 d2
  | 18, _, _ => s4_18 b x2 x3 d1 d2
  | 19, _, _ => s4_19 b x2 x3 d1 d2
  | 20, _, _ => s4_20 b x2 x3 d1 d2
  | 21, _, _ => s4_21 b x2 x3 d1 d2
  | 22, _, _ => s4_22 b x2 x3 d1 d2
  | 23, _, _ => s4_23 b x2 x3 d1 d2
  | 24, _, _ => s4_24 b x2 x3 d1 d2
  | 25, _, _ => s4_25 b x2 x3 d1 d2
  | 26, _, _ => s4_26 b x2 x3 d1 d2
  | 27, _, _ => s4_27 b x2 x3 d1 d2
  | 28, _, _ => s4_28 b x2 x3 d1 d2
  | 29, _, _ => s4_29 b x2 x3 d1 d2
  | 30, _, _ => s4_30 b x2 x3 d1 d2
  | n + 31, _, h => absurd h (by omega)
theorem sums_ok {w n : Nat} (hw : 1 ≤ w ∧ w ≤ 4) (hn : 1 ≤ n ∧ n ≤ 30) : SL b x2 x3 d1 d2 w n = SR b x2 x3 d1 d2 w n := by
  have : w = 1 ∨ w = 2 ∨ w = 3 ∨ w = 4 := by omega
  rcases this with rfl | rfl | rfl | rfl
  · exact s1 b x2 x3 d1 d2 n hn.1 hn.2
  · exact s2 b x2 x3 d1 d2 n hn.1 hn.2
  · exact s3 b x2 x3 d1 d2 n hn.1 hn.2
  · exact s4 b x2 x3 d1 d2 n hn.1 hn.2
end
end K30

namespace K30
open PySem Vi PyProof.Rows
def Sm (X : List D) : Prop := ∀ x ∈ X, smD 56 x = true
theorem sm_four (v : Bool) : Sm (four v) := by
  intro x hx
  simp only [four, List.mem_cons, List.not_mem_nil, or_false] at hx
  rcases hx with rfl | rfl | rfl | rfl <;> rfl
theorem go_loop {cl : Nat → Fn} {b : Int} (T : TakeP cl b) (C : CallP cl) {w : Nat} (hw : 0 < w) (hw2 : w < 1000) {x2 x3 x6 x7 x8 x9 : Option Sv} (v8 : ∀ q d, x8 ≠ some (.own q d)) : ∀ (ds : List D) (X : List D) (a c : Int) (x10 x11 : Option Sv), X.length + 4 * ds.length ≤ 4000 → 0 ≤ c → c + 8 * ds.length ≤ 40000 → Sm X →
    ∃ (Y : List D) (a' c' : Int) (y10 y11 : Option Sv), loop (mN 10) (bG cl) ds (Fr a b c w x2 x3 (some (.own false X)) (some (.own false X)) x6 x7 x8 x9 x10 x11) = some (.next, Fr a' b c' w x2 x3 (some (.own false Y)) (some (.own false Y)) x6 x7 x8 x9 y10 y11) ∧ Y.length ≤ 4000 ∧ Sm Y := by
  intro ds
  induction ds with
  | nil => intro X a c x10 x11 h1 h2 h3 h4; exact ⟨X, a, c, x10, x11, rfl, by omega, h4⟩
  | cons d ds ih =>
    intro X a c x10 x11 h1 h2 h3 h4
    simp only [List.length_cons] at h1 h3
    obtain ⟨v, a1, c1, y11, e, c2, c3⟩ := go_body T C hw hw2 (x2 := x2) (x3 := x3) (x6 := x6) (x7 := x7) (x8 := x8) (x9 := x9) (x10 := some (.imm d)) (x11 := x11) (X := X) (by omega) (a := a) h2 (by omega) v8
    have h5 : Sm (X ++ four v) := fun x hx => by
      rcases List.mem_append.mp hx with hx | hx
      · exact h4 x hx
      · exact sm_four v x hx
    obtain ⟨Y, a2, c4, z10, z11, e2, k1, k2⟩ := ih (X ++ four v) a1 c1 (some (.imm d)) y11 (by rw [List.length_append]; show X.length + 4 + _ ≤ _; omega) c2 (by omega) h5
    exact ⟨Y, a2, c4, z10, z11, c_cons (ρ1 := Fr a b c w x2 x3 (some (.own false X)) (some (.own false X)) x6 x7 x8 x9 (some (.imm d)) x11) rfl e e2, k1, k2⟩
theorem same_list {X : List D} (hl : X.length ≤ 10000) (h : Sm X) : run 58 12 [.imm (.list X), .imm (.list X)] = some (.imm (.bool true), [none, none]) := by
  refine same_ok 57 _ ?_
  unfold smD
  rw [decide_eq_true hl, Bool.true_and]
  exact List.all_eq_true.mpr h
theorem pair_sm : ∀ p ∈ pairs, smD 56 (.list (OWN p)) = true ∧ smD 56 (.list (CN p)) = true ∧ (OWN p).length ≤ 100 := by decide +kernel
def A1 (cl : Nat → Fn) : MS := mSet 1 (bin dAdd (mC (.int 1)) (mCall (cl 10) (rSlot 0 (rVal (mC (.int 4)) rNil))))
def A2 (cl : Nat → Fn) : MS := mSet 2 (bin dAdd (mC (.int 1)) (mCall (cl 10) (rSlot 0 (rVal (bin dIx (mTup (mCons (mC (.int 6)) (mCons (mC (.int 6)) (mCons (mC (.int 4)) (mCons (mC (.int 3)) mNil))))) (bin dSub (mVar 1) (mC (.int 1)))) rNil))))
def A3 (cl : Nat → Fn) : MS := mSet 3 (mCall (cl 15) (rVal (mVar 1) (rVal (mVar 2) rNil)))
def A4 (cl : Nat → Fn) : MS := mPar 6 7 (bin dAdd (mC (.int 1)) (mCall (cl 10) (rSlot 0 (rVal (mC (.int 30)) rNil)))) (mC (.int 0))
def A5 (cl : Nat → Fn) : MS := mFor (mIRng1 (mCons (mC (.int 6)) mNil)) (mN 10) (bG cl)
def A6 (cl : Nat → Fn) : MS := mSet 12 (mCall (cl 6) (rVal (mVar 1) (rVal (mVar 2) rNil)))
def A7 : MS := mDrop (mApp 12 (mC .none))
def A8 (cl : Nat → Fn) : MS := mDrop (mApp 4 (mCall (cl 6) (rVal (mVar 1) (rVal (mVar 2) rNil))))
def A9 (cl : Nat → Fn) : MS := mRet (mCall (cl 12) (rVal (mVar 4) (rVal (bin dAdd (mVar 5) (mLst (mCons (mVar 3) mNil))) rNil)))
theorem seq_assoc (m n k : MS) : mSeq (mSeq m n) k = mSeq m (mSeq n k) := by
  funext ρ
  unfold mSeq
  cases m ρ with
  | none => rfl
  | some r => obtain ⟨fl, ρ1⟩ := r; cases fl <;> rfl
theorem f17 (cl : Nat → Fn) : fn17 cl = mFn 14 1 (mSeq (A1 cl) (mSeq (A2 cl) (mSeq (A3 cl) (mSeq (sB2 cl) (mSeq (A4 cl) (mSeq (sC cl) (mSeq (A5 cl) (mSeq (A6 cl) (mSeq A7 (mSeq (A8 cl) (A9 cl))))))))))) := by
  unfold sB2 sC
  simp only [seq_assoc]
  rfl
def LW : Nat → Nat
  | 1 => 6
  | 2 => 6
  | 3 => 4
  | _ => 3
theorem in_pairs {w l : Nat} (hw : 1 ≤ w ∧ w ≤ 4) (hl : 1 ≤ l ∧ l ≤ LW w) : (w, l) ∈ pairs := by
  have h : (List.range 5).all (fun w => (List.range 7).all fun l => decide (w = 0) || (decide (l = 0) || (decide (LW w < l) || pairs.contains (w, l)))) = true := by decide +kernel
  have hL : LW w ≤ 6 := by
    have : w = 1 ∨ w = 2 ∨ w = 3 ∨ w = 4 := by omega
    rcases this with rfl | rfl | rfl | rfl <;> decide
  have h2 := List.all_eq_true.mp (List.all_eq_true.mp h w (List.mem_range.mpr (by omega))) l (List.mem_range.mpr (by omega))
  rw [decide_eq_false (by omega), decide_eq_false (by omega), decide_eq_false (by omega)] at h2
  simpa using h2
abbrev F0 (a b c : Int) (x1 x2 x3 x4 x5 x6 x7 : Option Sv) : Fm := [some (.own true (bx a b c)), x1, x2, x3, x4, x5, x6, x7, none, none, none, none, none, none]
theorem add1 {v : Int} {w : Nat} (h : 1 + v = (w : Int)) : dAdd (.int 1) (.int v) = some (.imm (.int (w : Int))) := by
  show some (Sv.imm (.int (1 + v))) = _
  rw [h]
theorem step1 {cl : Nat → Fn} {b : Int} (T : TakeP cl b) (a : Int) : ∃ (w : Nat) (a' c' : Int), A1 cl (F0 a b 0 none none none none none none none) = some (.next, F0 a' b c' (iv w) none none none none none none) ∧ (1 ≤ w ∧ w ≤ 4) ∧ 0 ≤ c' ∧ c' ≤ 1 := by
  obtain ⟨v, a1, c1, e, v1, v2, c2, c3⟩ := T a 0 4 (by omega) (by omega) (by omega) (by omega)
  obtain ⟨w, hw⟩ : ∃ w : Nat, 1 + v = (w : Int) := ⟨(1 + v).toNat, by omega⟩
  refine ⟨w, a1, c1, ?_, by omega, c2, by omega⟩
  have h := add1 hw
  unfold A1
  exact c_set (c_bin rfl (c_call rfl rfl rfl e rfl) rfl rfl h) rfl
theorem step2 {cl : Nat → Fn} {b : Int} (T : TakeP cl b) {a c : Int} {w : Nat} (hw : 1 ≤ w ∧ w ≤ 4) (hc : 0 ≤ c) (hc2 : c ≤ 1) : ∃ (l : Nat) (a' c' : Int), A2 cl (F0 a b c (iv w) none none none none none none) = some (.next, F0 a' b c' (iv w) (iv l) none none none none none) ∧ (1 ≤ l ∧ l ≤ LW w) ∧ 0 ≤ c' ∧ c' ≤ 2 := by
  have hL : 0 < LW w ∧ LW w ≤ 6 := by
    have : w = 1 ∨ w = 2 ∨ w = 3 ∨ w = 4 := by omega
    rcases this with rfl | rfl | rfl | rfl <;> decide
  obtain ⟨v, a1, c1, e, v1, v2, c2, c3⟩ := T a c (LW w : Int) (by omega) (by omega) hc (by omega)
  obtain ⟨l, hl⟩ : ∃ l : Nat, 1 + v = (l : Int) := ⟨(1 + v).toNat, by omega⟩
  refine ⟨l, a1, c1, ?_, by omega, c2, by omega⟩
  have h := add1 hl
  have hi : rSlot 0 (rVal (bin dIx (mTup (mCons (mC (.int 6)) (mCons (mC (.int 6)) (mCons (mC (.int 4)) (mCons (mC (.int 3)) mNil))))) (bin dSub (mVar 1) (mC (.int 1)))) rNil) (F0 a b c (iv w) none none none none none none) = some ([.s 0, .v (.int (LW w : Int))], F0 a b c (iv w) none none none none none none) := by
    have : w = 1 ∨ w = 2 ∨ w = 3 ∨ w = 4 := by omega
    rcases this with rfl | rfl | rfl | rfl <;> rfl
  unfold A2
  exact c_set (c_bin rfl (c_call hi rfl rfl e rfl) rfl rfl h) rfl
theorem step4 {cl : Nat → Fn} {b : Int} (T : TakeP cl b) {a c : Int} (hc : 0 ≤ c) (hc2 : c ≤ 2) {x1 x2 x3 x4 x5 : Option Sv} : ∃ (n : Nat) (a' c' : Int), A4 cl (F0 a b c x1 x2 x3 x4 x5 none none) = some (.next, F0 a' b c' x1 x2 x3 x4 x5 (iv n) (iv 0)) ∧ (1 ≤ n ∧ n ≤ 30) ∧ 0 ≤ c' ∧ c' ≤ 3 := by
  obtain ⟨v, a1, c1, e, v1, v2, c2, c3⟩ := T a c 30 (by omega) (by omega) hc (by omega)
  obtain ⟨n, hn⟩ : ∃ n : Nat, 1 + v = (n : Int) := ⟨(1 + v).toNat, by omega⟩
  refine ⟨n, a1, c1, ?_, by omega, c2, by omega⟩
  have h := add1 hn
  have hb : bin dAdd (mC (.int 1)) (mCall (cl 10) (rSlot 0 (rVal (mC (.int 30)) rNil))) (F0 a b c x1 x2 x3 x4 x5 none none) = some (.val (.imm (.int (n : Int))), F0 a1 b c1 x1 x2 x3 x4 x5 none none) := c_bin rfl (c_call rfl rfl rfl e rfl) rfl rfl h
  unfold A4 mPar
  rw [hb]
  rfl
structure Calls (cl : Nat → Fn) (b : Int) : Prop where
  T : TakeP cl b
  C : CallP cl
  own : ∀ p ∈ pairs, cl 15 [.imm (.int (p.1 : Int)), .imm (.int (p.2 : Int))] = some (.own false (OWN p), [none, none])
  words : ∀ p ∈ pairs, cl 6 [.imm (.int (p.1 : Int)), .imm (.int (p.2 : Int))] = some (.own false (OWN p), [none, none])
  sB : ∀ p ∈ pairs, ∀ x : Option Sv, sB2 cl [x, iv p.1, iv p.2, some (.own false (OWN p)), none, none, none, none, none, none, none, none, none, none] = some (.next, [x, iv p.1, iv p.2, some (.imm (.list (OWN p))), some (.own false [.list (OWN p), .list (CN p)]), some (.own false [.list (OWN p), .list (CN p)]), none, none, none, none, none, none, none, none])
  sums : ∀ (x x2 x3 : Option Sv) (d1 d2 : D) (w n : Nat), 1 ≤ w ∧ w ≤ 4 → 1 ≤ n ∧ n ≤ 30 → sC cl [x, iv w, x2, x3, some (.own false [d1, d2]), some (.own false [d1, d2]), iv n, iv 0, none, none, none, none, none, none] = SR x x2 x3 d1 d2 w n
  same : ∀ X : List D, X.length ≤ 10000 → Sm X → cl 12 [.imm (.list X), .imm (.list X)] = some (.imm (.bool true), [none, none])
theorem calls_ok (b : Int) : Calls (run 58) b := ⟨take_P 57 b, call_P 55, fun p h => own_at (K := 56) h, fun p h => words_at h, fun p h x => map_same (sB2_ok x) p h, fun x x2 x3 d1 d2 w n h1 h2 => sums_ok x x2 x3 d1 d2 h1 h2, fun X h1 h2 => same_list h1 h2⟩
theorem right_gen {cl : Nat → Fn} {b : Int} (Q : Calls cl b) (a : Int) : ∃ o, fn17 cl [.own true (bx a b 0)] = some (.imm (.bool true), [some o]) := by
  obtain ⟨w, a1, c1, s1, hw, p1, p2⟩ := step1 Q.T a
  obtain ⟨l, a2, c2, s2, hl, p3, p4⟩ := step2 Q.T hw p1 p2 (a := a1)
  have hp := in_pairs hw hl
  have s3 : A3 cl (F0 a2 b c2 (iv w) (iv l) none none none none none) = some (.next, F0 a2 b c2 (iv w) (iv l) (some (.own false (OWN (w, l)))) none none none none) := by
    unfold A3
    exact c_set (c_call rfl rfl rfl (Q.own (w, l) hp) rfl) rfl
  have s4 := Q.sB (w, l) hp (some (.own true (bx a2 b c2)))
  obtain ⟨n, a3, c3, s5, hn, p5, p6⟩ := step4 Q.T p3 p4 (a := a2) (x1 := iv w) (x2 := iv l) (x3 := some (.imm (.list (OWN (w, l))))) (x4 := some (.own false [.list (OWN (w, l)), .list (CN (w, l))])) (x5 := some (.own false [.list (OWN (w, l)), .list (CN (w, l))]))
  have s6 := Q.sums (some (.own true (bx a3 b c3))) (iv l) (some (.imm (.list (OWN (w, l))))) (.list (OWN (w, l))) (.list (CN (w, l))) w n hw hn
  have hO := pair_sm (w, l) hp
  have hOl := hO.2.2
  unfold SR at s6
  have hw6 := Q.words (w, l) hp
  generalize OWN (w, l) = OW at *
  generalize CN (w, l) = CW at *
  generalize w ^ n = pw at *
  have hX : Sm [.list OW, .list CW, .int ((pw : Nat) : Int)] := fun x hx => by
    simp only [List.mem_cons, List.not_mem_nil, or_false] at hx
    rcases hx with rfl | rfl | rfl
    · exact hO.1
    · exact hO.2.1
    · rfl
  have hl6 : (rngD 0 6).length = 6 := rngD_len 0 6
  obtain ⟨Y, a4, c4, y10, y11, e7, hY, hYs⟩ := go_loop Q.T Q.C (w := w) (by omega) (by omega) (x2 := iv l) (x3 := some (.imm (.list OW))) (x6 := iv n) (x7 := iv pw) (x8 := iv (n - 1)) (x9 := iv pw) (fun q d z => by cases z) (rngD 0 6) [.list OW, .list CW, .int ((pw : Nat) : Int)] a3 c3 none none (by rw [hl6]; show 3 + 4 * 6 ≤ 4000; decide) p5 (by rw [hl6]; omega) hX
  have hf1 : fits (OW.length + 1) = true := c_fits (by omega)
  have hf2 : fits (Y.length + 1) = true := c_fits (by omega)
  have s7 : A5 cl (Fr a3 b c3 w (iv l) (some (.imm (.list OW))) (some (.own false [.list OW, .list CW, .int ((pw : Nat) : Int)])) (some (.own false [.list OW, .list CW, .int ((pw : Nat) : Int)])) (iv n) (iv pw) (iv (n - 1)) (iv pw) none none) = some (.next, Fr a4 b c4 w (iv l) (some (.imm (.list OW))) (some (.own false Y)) (some (.own false Y)) (iv n) (iv pw) (iv (n - 1)) (iv pw) y10 y11) := by
    unfold A5
    exact c_for (c_rng1 (n := 6) rfl (by omega)) e7
  have s8 : A6 cl (Fr a4 b c4 w (iv l) (some (.imm (.list OW))) (some (.own false Y)) (some (.own false Y)) (iv n) (iv pw) (iv (n - 1)) (iv pw) y10 y11) = some (.next, [some (.own true (bx a4 b c4)), iv w, iv l, some (.imm (.list OW)), some (.own false Y), some (.own false Y), iv n, iv pw, iv (n - 1), iv pw, y10, y11, some (.own false OW), none]) := by
    unfold A6
    exact c_set (c_call rfl rfl rfl hw6 rfl) rfl
  have s9 : A7 [some (.own true (bx a4 b c4)), iv w, iv l, some (.imm (.list OW)), some (.own false Y), some (.own false Y), iv n, iv pw, iv (n - 1), iv pw, y10, y11, some (.own false OW), none] = some (.next, [some (.own true (bx a4 b c4)), iv w, iv l, some (.imm (.list OW)), some (.own false Y), some (.own false Y), iv n, iv pw, iv (n - 1), iv pw, y10, y11, some (.own false (OW ++ [.none])), none]) := by
    unfold A7
    refine c_drop (pr := .val (.imm .none)) ?_
    show (if fits (OW.length + 1) = true then some _ else none) = _
    rw [if_pos hf1]; rfl
  have s10 : A8 cl [some (.own true (bx a4 b c4)), iv w, iv l, some (.imm (.list OW)), some (.own false Y), some (.own false Y), iv n, iv pw, iv (n - 1), iv pw, y10, y11, some (.own false (OW ++ [.none])), none] = some (.next, [some (.own true (bx a4 b c4)), iv w, iv l, some (.imm (.list OW)), some (.own false (Y ++ [.list OW])), some (.own false Y), iv n, iv pw, iv (n - 1), iv pw, y10, y11, some (.own false (OW ++ [.none])), none]) := by
    have hc : mCall (cl 6) (rVal (mVar 1) (rVal (mVar 2) rNil)) [some (.own true (bx a4 b c4)), iv w, iv l, some (.imm (.list OW)), some (.own false Y), some (.own false Y), iv n, iv pw, iv (n - 1), iv pw, y10, y11, some (.own false (OW ++ [.none])), none] = some (.val (.own false OW), [some (.own true (bx a4 b c4)), iv w, iv l, some (.imm (.list OW)), some (.own false Y), some (.own false Y), iv n, iv pw, iv (n - 1), iv pw, y10, y11, some (.own false (OW ++ [.none])), none]) := c_call rfl rfl rfl hw6 rfl
    unfold A8
    refine c_drop (pr := .val (.imm .none)) ?_
    unfold mApp
    simp only [List.getElem?_cons_zero, List.getElem?_cons_succ, hc, frz, Sv.toD, hf2, if_true]
    rfl
  have hsm : Sm (Y ++ [.list OW]) := fun x hx => by
    rcases List.mem_append.mp hx with hx | hx
    · exact hYs x hx
    · rw [List.mem_singleton.mp hx]; exact hO.1
  have hsame := Q.same (Y ++ [.list OW]) (by rw [List.length_append]; simp; omega) hsm
  have hadd : dAdd (.list Y) (.list [.list OW]) = some (.own false (Y ++ [.list OW])) := c_addL (by simp; omega)
  refine ⟨bx a4 b c4, ?_⟩
  rw [f17]
  generalize hZ : Y ++ [.list OW] = Z at *
  have s11 : A9 cl [some (.own true (bx a4 b c4)), iv w, iv l, some (.imm (.list OW)), some (.own false Z), some (.own false Y), iv n, iv pw, iv (n - 1), iv pw, y10, y11, some (.own false (OW ++ [.none])), none] = some (.ret (.imm (.bool true)), [some (.own true (bx a4 b c4)), iv w, iv l, some (.imm (.list OW)), some (.imm (.list Z)), some (.own false Y), iv n, iv pw, iv (n - 1), iv pw, y10, y11, some (.own false (OW ++ [.none])), none]) := by
    have hb : bin dAdd (mVar 5) (mLst (mCons (mVar 3) mNil)) [some (.own true (bx a4 b c4)), iv w, iv l, some (.imm (.list OW)), some (.imm (.list Z)), some (.own false Y), iv n, iv pw, iv (n - 1), iv pw, y10, y11, some (.own false (OW ++ [.none])), none] = some (.val (.own false Z), [some (.own true (bx a4 b c4)), iv w, iv l, some (.imm (.list OW)), some (.imm (.list Z)), some (.own false Y), iv n, iv pw, iv (n - 1), iv pw, y10, y11, some (.own false (OW ++ [.none])), none]) := c_bin rfl (c_lst (c_acons rfl rfl rfl) rfl) rfl rfl hadd
    have hr : rVal (mVar 4) (rVal (bin dAdd (mVar 5) (mLst (mCons (mVar 3) mNil))) rNil) [some (.own true (bx a4 b c4)), iv w, iv l, some (.imm (.list OW)), some (.own false Z), some (.own false Y), iv n, iv pw, iv (n - 1), iv pw, y10, y11, some (.own false (OW ++ [.none])), none] = some ([.v (.list Z), .v (.list Z)], [some (.own true (bx a4 b c4)), iv w, iv l, some (.imm (.list OW)), some (.imm (.list Z)), some (.own false Y), iv n, iv pw, iv (n - 1), iv pw, y10, y11, some (.own false (OW ++ [.none])), none]) := by
      unfold rVal
      show (match (match bin dAdd (mVar 5) (mLst (mCons (mVar 3) mNil)) [some (.own true (bx a4 b c4)), iv w, iv l, some (.imm (.list OW)), some (.imm (.list Z)), some (.own false Y), iv n, iv pw, iv (n - 1), iv pw, y10, y11, some (.own false (OW ++ [.none])), none] with | some (pr, ρ1) => (match frz ρ1 pr with | some (d, ρ2) => (match rNil ρ2 with | some (as, ρ3) => some (AR.v d :: as, ρ3) | none => none) | none => none) | none => none) with | some (as, ρ3) => some (AR.v (.list Z) :: as, ρ3) | none => none) = _
      rw [hb]
      rfl
    unfold A9
    exact c_ret (c_call hr rfl rfl hsame rfl) rfl
  exact c_fn (ρ0 := F0 a b 0 none none none none none none none) rfl rfl (c_seq s1 (c_seq s2 (c_seq s3 (c_seq s4 (c_seq s5 (c_seq s6 (c_seq s7 (c_seq s8 (c_seq s9 (c_seq s10 s11)))))))))) rfl
theorem law_true (ns : List Int) (hl : ns.length ≤ 63) : ∃ os, run 60 18 [.imm (.dict (ns.map fun n => (.int n, .none)))] = some (.imm (.bool true), os) := by
  obtain ⟨s, e1⟩ := cells_ok (K := 58) ns hl
  obtain ⟨a, b, e2⟩ := box_ok (K := 58) s
  obtain ⟨o, e3⟩ := right_gen (calls_ok b) a
  rw [← rs17] at e3
  have e0 := hand_ok
  refine ⟨[none], ?_⟩
  rw [rs18]
  generalize run 59 = cl at e0 e1 e2 e3
  generalize (ns.map fun n => ((.int n : D), (.none : D))) = kv at e1 ⊢
  unfold fn18
  have h1 : mCallO (cl 17) (mCall (cl 9) (rVal (mCall (cl 11) (rVal (mVar 0) (rVal (mC (.int 1)) rNil))) (rVal (mC (.int 0)) rNil))) [some (.imm (.dict kv))] = some (.val (.imm (.bool true)), [some (.imm (.dict kv))]) := by
    have hc : mCall (cl 11) (rVal (mVar 0) (rVal (mC (.int 1)) rNil)) [some (.imm (.dict kv))] = some (.val (.own false [.int s]), [some (.imm (.dict kv))]) := c_call rfl rfl rfl e1 rfl
    have hr : rVal (mCall (cl 11) (rVal (mVar 0) (rVal (mC (.int 1)) rNil))) (rVal (mC (.int 0)) rNil) [some (.imm (.dict kv))] = some ([.v (.list [.int s]), .v (.int 0)], [some (.imm (.dict kv))]) := by
      unfold rVal
      show (match mCall (cl 11) (rVal (mVar 0) (rVal (mC (.int 1)) rNil)) [some (.imm (.dict kv))] with | some (pr, ρ1) => (match frz ρ1 pr with | some (d, ρ2) => (match rVal (mC (.int 0)) rNil ρ2 with | some (as, ρ3) => some (AR.v d :: as, ρ3) | none => none) | none => none) | none => none) = _
      rw [hc]
      rfl
    have hd : mCall (cl 9) (rVal (mCall (cl 11) (rVal (mVar 0) (rVal (mC (.int 1)) rNil))) (rVal (mC (.int 0)) rNil)) [some (.imm (.dict kv))] = some (.val (.own false (bx a b 0)), [some (.imm (.dict kv))]) := c_call hr rfl rfl e2 rfl
    unfold mCallO
    rw [hd]
    simp only [e3]
  have h2 : mCall (cl 16) rNil [some (.imm (.dict kv))] = some (.val (.imm (.bool true)), [some (.imm (.dict kv))]) := c_call rfl rfl rfl e0 rfl
  have h3 : mNotT (mTru (mCall (cl 16) rNil)) [some (.imm (.dict kv))] = some (false, [some (.imm (.dict kv))]) := by
    unfold mNotT
    rw [c_tru h2 rfl rfl]
    rfl
  exact c_fn (ρ0 := [some (.imm (.dict kv))]) rfl rfl (c_seq (c_ifF h3 rfl) (c_ret h1 rfl)) rfl
end K30

open PySem PySem.W PyProof.Rows
set_option maxHeartbeats 0 in
theorem PySem.Challenge.cw_everychange_k30_lyndon_words_among_all_holds : PySem.Challenge.rw_everychange_k30_lyndon_words_among_all.Holds := by
  w_on; o_law; k_head; (case hw => w_witness2)
  k_fill
  refine L2.walk_of (l := PySem.Challenge.rw_everychange_k30_lyndon_words_among_all) (n := 63) (k := 60) (x := "script") (CX := fun _ => L2.CX0) (sp := fun w => Vi.spD _ 1 (K30.run 60 18)) rfl (by decide) rfl ⟨rfl, by decide, by decide⟩ (fun w h Y => PySem.W.kIn_of Y) ?F (fun _ _ a ns hl _ hS => Vi.law_sp hS (K30.law_true ns hl)) (fun _ _ _ _ _ h => h)
  case F =>
    intro w mg fa h KX G hmg
    refine' K30.all_mk KX G hmg ?a1 ?l1 ?c1 ?k1 ?a2 ?l2 ?c2 ?k2 ?a4 ?l4 ?c4 ?k4 ?a5 ?l5 ?c5 ?k5 ?a6 ?l6 ?c6 ?k6 ?a7 ?l7 ?c7 ?k7 ?a9 ?l9 ?c9 ?k9 ?a10 ?l10 ?c10 ?k10 ?a11 ?l11 ?c11 ?k11 ?a12 ?l12 ?c12 ?k12 ?a13 ?l13 ?c13 ?k13 ?a14 ?l14 ?c14 ?k14 ?a15 ?l15 ?c15 ?k15 ?a16 ?l16 ?c16 ?k16 ?a17 ?l17 ?c17 ?k17 ?a18 ?l18 ?c18 ?k18 ?z_abs ?z_all ?z_bool ?z_enumerate ?z_int ?z_isinstance ?z_len ?z_list ?z_range ?z_sorted ?z_str ?z_sum ?z_tuple ?z_zip
    (case a1 => k_is); (case l1 => k_is); (case c1 => k_is); (case k1 => k_is); (case a2 => k_is); (case l2 => k_is); (case c2 => k_is); (case k2 => k_is); (case a4 => k_is); (case l4 => k_is); (case c4 => k_is); (case k4 => k_is); (case a5 => k_is); (case l5 => k_is); (case c5 => k_is); (case k5 => k_is); (case a6 => k_is); (case l6 => k_is); (case c6 => k_is); (case k6 => k_is); (case a7 => k_is); (case l7 => k_is); (case c7 => k_is); (case k7 => k_is); (case a9 => k_is); (case l9 => k_is); (case c9 => k_is); (case k9 => k_is); (case a10 => k_is); (case l10 => k_is); (case c10 => k_is); (case k10 => k_is); (case a11 => k_is); (case l11 => k_is); (case c11 => k_is); (case k11 => k_is); (case a12 => k_is); (case l12 => k_is); (case c12 => k_is); (case k12 => k_is); (case a13 => k_is); (case l13 => k_is); (case c13 => k_is); (case k13 => k_is); (case a14 => k_is); (case l14 => k_is); (case c14 => k_is); (case k14 => k_is); (case a15 => k_is); (case l15 => k_is); (case c15 => k_is); (case k15 => k_is); (case a16 => k_is); (case l16 => k_is); (case c16 => k_is); (case k16 => k_is); (case a17 => k_is); (case l17 => k_is); (case c17 => k_is); (case k17 => k_is); (case a18 => k_is); (case l18 => k_is); (case c18 => k_is); (case k18 => k_is); (case z_abs => k_is); (case z_all => k_is); (case z_bool => k_is); (case z_enumerate => k_is); (case z_int => k_is); (case z_isinstance => k_is); (case z_len => k_is); (case z_list => k_is); (case z_range => k_is); (case z_sorted => k_is); (case z_str => k_is); (case z_sum => k_is); (case z_tuple => k_is); (case z_zip => k_is)

