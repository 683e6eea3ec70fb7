import PyProof.Rows.All
import Wide.All
import OpenK.AllK
import Wide.FinOn
import HandS.ForMost
import HandS.Deep
import HandS.TupAny
import HandS.IsInst
import HandS.Flow
import HandS.Zip
import HandS.Wide
import HandS.Walk
import HandS.TupMul
import KE.SortData
import KE.DataCmp
import KE.GoesMore
import HandS.Style
import HandS.Gcd
import HandS.Rev
import HandS.Iter
import KE.DataMinMax
import PyProof.Claim2Refuses
import HandS.Conv
import HandS.TupSets
import HandS.Sort
import HandS.SetFor
import HandS.Strs
import KE.KMathGC
import PySem.Challenge.RW_everychange_k46_whole_form_rows_alike_fo
set_option Elab.async false
set_option linter.all false
set_option maxRecDepth 100000
set_option maxHeartbeats 4000000
namespace Vi
open PySem PySem.Spec PyProof.Rows L2

abbrev D := PyData
abbrev Mset := Addr → Prop
abbrev St := L2.St

/-- a tuple that stays -/
def TupAt (K : PySem.W.Frag) (H : Hp) (M : Mset) (a : Addr) (xs : List V) : Prop :=
  (Rd H a (.tup xs) ∧ ¬ M a) ∨
    ∃ (o : Obj) (its : Array Value) (n : Nat), K.lookup a = some o ∧ o.cls = .type "tuple" ∧ o.data = .seq its n ∧ its.size ≤ sizeLine ∧ Vals xs its.toList
theorem TupAt.sq {K : PySem.W.Frag} {H : Hp} {M : Mset} {a : Addr} {xs : List V} (h : TupAt K H M a xs) : SqT K H a xs := by
  rcases h with ⟨h, _⟩ | h
  · exact .inl h
  · exact .inr h

/-- a list that stays, of the module's own too (the script) -/
def LstAt (K : PySem.W.Frag) (H : Hp) (M : Mset) (a : Addr) (xs : List V) : Prop :=
  (Rd H a (.lst xs) ∧ ¬ M a) ∨
    ∃ (o : Obj) (its : Array Value) (n : Nat), K.lookup a = some o ∧ o.cls = .type "list" ∧ o.dict = none ∧ o.data = .seq its n ∧ its.size ≤ sizeLine ∧ Vals xs its.toList
theorem LstAt.sq {K : PySem.W.Frag} {H : Hp} {M : Mset} {a : Addr} {xs : List V} (h : LstAt K H M a xs) : SqL K H a xs := by
  rcases h with ⟨h, _⟩ | h
  · exact .inl h
  · exact .inr h

mutual
inductive Rep (K : PySem.W.Frag) (H : Hp) (M : Mset) : V → D → Prop
  | non : Rep K H M .non .none
  | bl (b : Bool) : Rep K H M (.bl b) (.bool b)
  | int (i : Int) : Rep K H M (.int i) (.int i)
  | str (x : Str) : Rep K H M (.str x) (.str x)
  | lst {a : Addr} {xs : List V} {ds : List D} : Rd H a (.lst xs) → ¬ M a → Reps K H M xs ds → Rep K H M (.ref a) (.list ds)
  | tup {a : Addr} {xs : List V} {ds : List D} : TupAt K H M a xs → Reps K H M xs ds → Rep K H M (.ref a) (.tuple ds)
  | scr {a : Addr} {xs : List V} {kvs : List (D × D)} : LstAt K H M a xs → Reps K H M xs (kvs.map Prod.fst) → Rep K H M (.ref a) (.dict kvs)
inductive Reps (K : PySem.W.Frag) (H : Hp) (M : Mset) : List V → List D → Prop
  | nil : Reps K H M [] []
  | cons {v : V} {vs : List V} {d : D} {ds : List D} : Rep K H M v d → Reps K H M vs ds → Reps K H M (v :: vs) (d :: ds)
end

section
variable {K : PySem.W.Frag} {H H' : Hp} {M M' : Mset}
mutual
theorem Rep.tr (t : ∀ a u, Rd H a u → ¬ M a → Rd H' a u ∧ ¬ M' a) : ∀ {v : V} {d : D}, Rep K H M v d → Rep K H' M' v d
  | _, _, .non => .non
  | _, _, .bl b => .bl b
  | _, _, .int i => .int i
  | _, _, .str x => .str x
  | _, _, .lst h n r => .lst (t _ _ h n).1 (t _ _ h n).2 (Reps.tr t r)
  | _, _, .tup h r => .tup (by
      rcases h with ⟨h, n⟩ | h
      · exact .inl (t _ _ h n)
      · exact .inr h) (Reps.tr t r)
  | _, _, .scr h r => .scr (by
      rcases h with ⟨h, n⟩ | h
      · exact .inl (t _ _ h n)
      · exact .inr h) (Reps.tr t r)
theorem Reps.tr (t : ∀ a u, Rd H a u → ¬ M a → Rd H' a u ∧ ¬ M' a) : ∀ {vs : List V} {ds : List D}, Reps K H M vs ds → Reps K H' M' vs ds
  | _, _, .nil => .nil
  | _, _, .cons h r => .cons (Rep.tr t h) (Reps.tr t r)
end
mutual
theorem Rep.dp : ∀ {v : V} {d : D}, Rep K H M v d → d.canLay0 = true → Dp K H v d
  | _, _, .non, _ => .non
  | _, _, .bl b, _ => .bl b
  | _, _, .int i, _ => .int i
  | _, _, .str x, _ => .str x
  | _, _, .lst h n r, c => .lst (.inl h) (Reps.dp r (by simpa [PyData.canLay0] using c))
  | _, _, .tup h r, c => .tup h.sq (Reps.dp r (by simpa [PyData.canLay0] using c))
  | _, _, .scr h r, c => by simp [PyData.canLay0] at c
theorem Reps.dp : ∀ {vs : List V} {ds : List D}, Reps K H M vs ds → PyData.canLayAll0 ds = true → DpAll K H vs ds
  | _, _, .nil, _ => .nil
  | _, _, .cons h r, c => .cons (Rep.dp h (by simp [PyData.canLayAll0] at c; exact c.1)) (Reps.dp r (by simp [PyData.canLayAll0] at c; exact c.2))
end
theorem Rep.smaller (h : ∀ a, M' a → M a) {v : V} {d : D} (r : Rep K H M v d) : Rep K H M' v d := r.tr fun a u q n => ⟨q, fun z => n (h a z)⟩
theorem Reps.smaller (h : ∀ a, M' a → M a) {v : List V} {d : List D} (r : Reps K H M v d) : Reps K H M' v d := r.tr fun a u q n => ⟨q, fun z => n (h a z)⟩
theorem Reps.length : ∀ {vs : List V} {ds : List D}, Reps K H M vs ds → vs.length = ds.length
  | _, _, .nil => rfl
  | _, _, .cons _ r => by rw [List.length_cons, List.length_cons, Reps.length r]
theorem Reps.append : ∀ {vs ws : List V} {ds es : List D}, Reps K H M vs ds → Reps K H M ws es → Reps K H M (vs ++ ws) (ds ++ es)
  | _, _, _, _, .nil, s => s
  | _, _, _, _, .cons h r, s => .cons h (Reps.append r s)
theorem Reps.get : ∀ {vs : List V} {ds : List D} {i : Nat} {d : D}, Reps K H M vs ds → ds[i]? = some d → ∃ v, vs[i]? = some v ∧ Rep K H M v d
  | _, _, _, _, .nil, e => by simp at e
  | _, _, 0, _, .cons h r, e => by simp at e; subst e; exact ⟨_, rfl, h⟩
  | _, _, i + 1, d, .cons h r, e => by
    obtain ⟨v, h1, h2⟩ := Reps.get (i := i) (d := d) r (by simpa using e)
    exact ⟨v, by simpa using h1, h2⟩
theorem Reps.getV : ∀ {vs : List V} {ds : List D} {i : Nat} {v : V}, Reps K H M vs ds → vs[i]? = some v → ∃ d, ds[i]? = some d ∧ Rep K H M v d
  | _, _, _, _, .nil, e => by simp at e
  | _, _, 0, _, .cons h r, e => by simp at e; subst e; exact ⟨_, rfl, h⟩
  | _, _, i + 1, v, .cons h r, e => by
    obtain ⟨d, h1, h2⟩ := Reps.getV (i := i) (v := v) r (by simpa using e)
    exact ⟨d, by simpa using h1, h2⟩
theorem Reps.take : ∀ {vs : List V} {ds : List D} (n : Nat), Reps K H M vs ds → Reps K H M (vs.take n) (ds.take n)
  | _, _, 0, _ => by simp; exact .nil
  | _, _, _ + 1, .nil => .nil
  | _, _, n + 1, .cons h r => .cons h (Reps.take n r)
theorem Reps.drop : ∀ {vs : List V} {ds : List D} (n : Nat), Reps K H M vs ds → Reps K H M (vs.drop n) (ds.drop n)
  | _, _, 0, r => r
  | _, _, _ + 1, .nil => .nil
  | _, _, n + 1, .cons h r => Reps.drop n r
theorem Reps.set : ∀ {vs : List V} {ds : List D} (i : Nat) {v : V} {d : D}, Reps K H M vs ds → Rep K H M v d → Reps K H M (vs.set i v) (ds.set i d)
  | _, _, _, _, _, .nil, _ => .nil
  | _, _, 0, _, _, .cons _ r, q => .cons q r
  | _, _, i + 1, _, _, .cons h r, q => .cons h (Reps.set i r q)
theorem Reps.erase : ∀ {vs : List V} {ds : List D} (i : Nat), Reps K H M vs ds → Reps K H M (vs.eraseIdx i) (ds.eraseIdx i)
  | _, _, _, .nil => .nil
  | _, _, 0, .cons _ r => r
  | _, _, i + 1, .cons h r => .cons h (Reps.erase i r)
theorem Reps.rep {vs : List V} {ds : List D} (h : Reps K H M vs ds) : ∀ k : Nat, Reps K H M (List.replicate k vs).flatten (List.replicate k ds).flatten
  | 0 => .nil
  | k + 1 => by
    rw [List.replicate_succ, List.replicate_succ, List.flatten_cons, List.flatten_cons]
    exact Reps.append h (Reps.rep h k)
end

/-! ### what a def's names hold -/
inductive Sv where
  | imm (d : D)
  | own (pin : Bool) (ds : List D)
abbrev Fm := List (Option Sv)

/-- from one world to a later one: what is fixed stays -/
structure Ext (O : Mset) (H : Hp) (M : Mset) (H' : Hp) (M' : Mset) : Prop where
  keep : ∀ a o, H a = some o → (O a ∨ ¬ M a) → H' a = some o
  sub : ∀ a, O a → M' a
  new : ∀ a, M' a → M a ∨ H a = none
theorem Ext.trans {O : Mset} {H H1 H2 : Hp} {M M1 M2 : Mset} (a : Ext O H M H1 M1) (b : Ext O H1 M1 H2 M2) : Ext O H M H2 M2 := by
  refine ⟨fun x o e h => ?_, b.sub, fun x h => ?_⟩
  · have e1 := a.keep x o e h
    refine b.keep x o e1 ?_
    rcases h with h | h
    · exact .inl h
    · refine .inr fun z => ?_
      rcases a.new x z with q | q
      · exact h q
      · rw [e] at q; cases q
  · rcases b.new x h with q | q
    · exact a.new x q
    · cases e : H x with
      | none => exact .inr rfl
      | some o =>
        refine .inl (Classical.byContradiction fun n => ?_)
        have := a.keep x o e (.inr n)
        rw [this] at q; cases q
theorem Ext.less {O O' : Mset} {H H1 : Hp} {M M1 : Mset} (a : Ext O H M H1 M1) (h : ∀ x, O' x → O x) : Ext O' H M H1 M1 :=
  ⟨fun x o e q => a.keep x o e (q.imp (h x) id), fun x q => a.sub x (h x q), a.new⟩
theorem Ext.tr {O : Mset} {H H' : Hp} {M M' : Mset} (x : Ext O H M H' M') : ∀ a u, Rd H a u → ¬ M a → Rd H' a u ∧ ¬ M' a := fun a u h n => by
  refine ⟨?_, fun z => ?_⟩
  · rcases h with h | ⟨o, h⟩
    · exact .inl (x.keep a _ h (.inr n))
    · exact .inr ⟨o, x.keep a _ h (.inr n)⟩
  · rcases x.new a z with q | q
    · exact n q
    · rcases h with h | ⟨o, h⟩ <;> (rw [h] at q; cases q)

structure SR (K : PySem.W.Frag) (H : Hp) (M O : Mset) (π : Nat → Option Addr) (ρ : Fm) (σ : St) : Prop where
  len : ρ.length = σ.length
  sub : ∀ a, O a → M a
  live : ∀ a, M a → H a ≠ none
  imm : ∀ (i : Nat) (d : D), ρ[i]? = some (some (.imm d)) → ∃ v, σ[i]? = some (some v) ∧ Rep K H M v d
  own : ∀ (i : Nat) (b : Bool) (ds : List D), ρ[i]? = some (some (.own b ds)) → ∃ a vs, σ[i]? = some (some (.ref a)) ∧ H a = some (.lst vs) ∧ M a ∧ ¬ O a ∧ Reps K H M vs ds ∧ (b = true → π i = some a)
  uniq : ∀ (i j : Nat) (b c : Bool) (ds es : List D) (a : Addr), i ≠ j → ρ[i]? = some (some (.own b ds)) → ρ[j]? = some (some (.own c es)) → σ[i]? = some (some (.ref a)) → σ[j]? ≠ some (some (.ref a))

theorem Ext.refl {K : PySem.W.Frag} {H : Hp} {M O : Mset} {π : Nat → Option Addr} {ρ : Fm} {σ : St} (h : SR K H M O π ρ σ) : Ext O H M H M := ⟨fun _ _ e _ => e, h.sub, fun _ q => .inl q⟩

section
variable {K : PySem.W.Frag} {H H' : Hp} {M M' O : Mset} {π : Nat → Option Addr} {ρ ρ' : Fm} {σ : St}
/-- a new object, not owned by a name -/
theorem SR.alloc (h : SR K H M O π ρ σ) {p : Addr} {o : HO} (hp : H p = none) : SR K (upd H p o) M O π ρ σ := by
  have ne : ∀ a, M a → a ≠ p := fun a q z => h.live a q (by rw [z]; exact hp)
  have ne2 : ∀ {a : Addr} {u : HO}, H a = some u → a ≠ p := fun e z => by rw [z, hp] at e; cases e
  have t : ∀ a u, Rd H a u → ¬ M a → Rd (upd H p o) a u ∧ ¬ M a := fun a u q n => by
    refine ⟨?_, n⟩
    rcases q with q | ⟨o', q⟩
    · exact .inl (by rw [upd_ne (ne2 q)]; exact q)
    · exact .inr ⟨o', by rw [upd_ne (ne2 q)]; exact q⟩
  refine ⟨h.len, h.sub, fun a q => by rw [upd_ne (ne a q)]; exact h.live a q, fun i d e => ?_, fun i b ds e => ?_, h.uniq⟩
  · obtain ⟨v, e1, r⟩ := h.imm i d e
    exact ⟨v, e1, r.tr t⟩
  · obtain ⟨a, vs, e1, e2, e3, e4, r, e5⟩ := h.own i b ds e
    exact ⟨a, vs, e1, by rw [upd_ne (ne2 e2)]; exact e2, e3, e4, r.tr t, e5⟩
theorem Ext.alloc (h : SR K H M O π ρ σ) {p : Addr} {o : HO} (hp : H p = none) : Ext O H M (upd H p o) M :=
  ⟨fun a u e _ => by rw [upd_ne (fun z => by rw [z, hp] at e; cases e)]; exact e, h.sub, fun _ q => .inl q⟩
/-- M with p -/
def wth (M : Mset) (p : Addr) : Mset := fun a => M a ∨ a = p
/-- M without p -/
def wo (M : Mset) (p : Addr) : Mset := fun a => M a ∧ a ≠ p
theorem SR.allocOwn (h : SR K H M O π ρ σ) {p : Addr} {o : HO} (hp : H p = none) : SR K (upd H p o) (wth M p) O π ρ σ := by
  have ne2 : ∀ {a : Addr} {u : HO}, H a = some u → a ≠ p := fun e z => by rw [z, hp] at e; cases e
  have t : ∀ a u, Rd H a u → ¬ M a → Rd (upd H p o) a u ∧ ¬ wth M p a := fun a u q n => by
    rcases q with q | ⟨o', q⟩
    · exact ⟨.inl (by rw [upd_ne (ne2 q)]; exact q), fun z => z.elim n (ne2 q)⟩
    · exact ⟨.inr ⟨o', by rw [upd_ne (ne2 q)]; exact q⟩, fun z => z.elim n (ne2 q)⟩
  refine ⟨h.len, fun a q => .inl (h.sub a q), fun a q => ?_, fun i d e => ?_, fun i b ds e => ?_, h.uniq⟩
  · rcases q with q | rfl
    · rw [upd_ne (fun z => h.live a q (by rw [z]; exact hp))]; exact h.live a q
    · rw [upd_same]; intro z; cases z
  · obtain ⟨v, e1, r⟩ := h.imm i d e
    exact ⟨v, e1, r.tr t⟩
  · obtain ⟨a, vs, e1, e2, e3, e4, r, e5⟩ := h.own i b ds e
    exact ⟨a, vs, e1, by rw [upd_ne (ne2 e2)]; exact e2, .inl e3, e4, r.tr t, e5⟩
theorem Ext.allocOwn (h : SR K H M O π ρ σ) {p : Addr} {o : HO} (hp : H p = none) : Ext O H M (upd H p o) (wth M p) :=
  ⟨fun a u e _ => by rw [upd_ne (fun z => by rw [z, hp] at e; cases e)]; exact e, fun a q => .inl (h.sub a q), fun a q => q.imp id (fun z => by rw [z]; exact hp)⟩
theorem SR.less (h : SR K H M O π ρ σ) {O' : Mset} (q : ∀ a, O' a → O a) : SR K H M O' π ρ σ :=
  ⟨h.len, fun a z => h.sub a (q a z), h.live, h.imm, fun i b ds e => let ⟨a, vs, e1, e2, e3, e4, r⟩ := h.own i b ds e; ⟨a, vs, e1, e2, e3, fun z => e4 (q a z), r⟩, h.uniq⟩
/-- one more that is held -/
theorem SR.more (h : SR K H M O π ρ σ) {O' : Mset} (q : ∀ a, O' a → M a) (n : ∀ (i : Nat) (b : Bool) (ds : List D) (a : Addr), ρ[i]? = some (some (.own b ds)) → σ[i]? = some (some (.ref a)) → ¬ O' a) : SR K H M O' π ρ σ :=
  ⟨h.len, q, h.live, h.imm, fun i b ds e => let ⟨a, vs, e1, e2, e3, e4, r⟩ := h.own i b ds e; ⟨a, vs, e1, e2, e3, n i b ds a e e1, r⟩, h.uniq⟩
end

/-! ### what an expression hands on -/
inductive PR where
  | val (s : Sv)
  | slot (i : Nat)
def Apart (ρ : Fm) (σ : St) (p : Addr) : Prop := ∀ (i : Nat) (b : Bool) (ds : List D), ρ[i]? = some (some (.own b ds)) → σ[i]? ≠ some (some (.ref p))
def RP (K : PySem.W.Frag) (H : Hp) (M O : Mset) (ρ : Fm) (σ : St) : PR → V → Prop
  | .val (.imm d), v => Rep K H M v d
  | .val (.own _ ds), v => ∃ p vs, v = .ref p ∧ H p = some (.lst vs) ∧ M p ∧ ¬ O p ∧ Reps K H M vs ds ∧ Apart ρ σ p
  | .slot i, v => σ[i]? = some (some v)
/-- what is held of it while something else is reckoned -/
def hold (O : Mset) : PR → V → Mset
  | .val (.own _ _), .ref p => wth O p
  | _, _ => O
theorem hold_le (O : Mset) (pr : PR) (v : V) : ∀ a, O a → hold O pr v a := fun a q => by
  unfold hold
  split
  · exact .inl q
  · exact q
section
variable {K : PySem.W.Frag} {H H' : Hp} {M M' O O' : Mset} {π : Nat → Option Addr} {ρ ρ' : Fm} {σ : St} {pr : PR} {v : V}
theorem SR.hold (h : SR K H M O π ρ σ) (r : RP K H M O ρ σ pr v) : SR K H M (hold O pr v) π ρ σ := by
  unfold Vi.hold
  split
  · obtain ⟨p, vs, e, e1, e2, e3, e4, e5⟩ := r
    cases e
    refine h.more (fun a q => ?_) fun i b ds a e6 e7 z => ?_
    · rcases q with q | rfl
      · exact h.sub a q
      · exact e2
    · rcases z with z | rfl
      · obtain ⟨a', _, f1, _, _, f2, _⟩ := h.own i b ds e6
        rw [e7] at f1; cases f1; exact f2 z
      · exact e5 i b ds e6 e7
  · exact h
theorem RP.held (r : RP K H M O ρ σ pr v) (x : Ext (hold O pr v) H M H' M') (h : SR K H' M' (hold O pr v) π ρ' σ) : RP K H' M' O ρ' σ pr v := by
  match pr, v, r with
  | .val (.imm d), v, r => exact Rep.tr x.tr r
  | .slot i, v, r => exact r
  | .val (.own b ds), v, ⟨p, vs, e, e1, e2, e3, e4, e5⟩ =>
    subst e
    refine ⟨p, vs, rfl, x.keep p _ e1 (.inl (.inr rfl)), x.sub p (.inr rfl), e3, Reps.tr x.tr e4, fun i b ds e6 e7 => ?_⟩
    obtain ⟨a, _, f1, _, _, f2, _⟩ := h.own i b ds e6
    rw [e7] at f1; cases f1
    exact f2 (.inr rfl)
theorem RP.less (r : RP K H M O ρ σ pr v) (q : ∀ a, O' a → O a) : RP K H M O' ρ σ pr v := by
  match pr, v, r with
  | .val (.imm d), v, r => exact r
  | .slot i, v, r => exact r
  | .val (.own b ds), v, ⟨p, vs, e, e1, e2, e3, e4, e5⟩ => exact ⟨p, vs, e, e1, e2, fun z => e3 (q p z), e4, e5⟩
end

/-- how a value is looked at -/
def VW (K : PySem.W.Frag) (H : Hp) (M : Mset) (v : V) (d : D) : Prop :=
  match d with
  | .list ds => ∃ a vs, v = .ref a ∧ Rd H a (.lst vs) ∧ Reps K H M vs ds
  | d => Rep K H M v d
def Sv.toD : Sv → D
  | .imm d => d
  | .own _ ds => .list ds
def peek (ρ : Fm) : PR → Option D
  | .val s => some s.toD
  | .slot i => match ρ[i]? with
    | some (some s) => some s.toD
    | _ => none
def frz (ρ : Fm) : PR → Option (D × Fm)
  | .val s => some (s.toD, ρ)
  | .slot i => match ρ[i]? with
    | some (some (.imm d)) => some (d, ρ)
    | some (some (.own false ds)) => some (.list ds, ρ.set i (some (.imm (.list ds))))
    | _ => none
section
variable {K : PySem.W.Frag} {H H' : Hp} {M M' O O' : Mset} {π : Nat → Option Addr} {ρ ρ' : Fm} {σ : St} {pr : PR} {v : V} {d : D}
theorem VW.of (r : Rep K H M v d) : VW K H M v d := by
  cases r with
  | lst h n r => exact ⟨_, _, rfl, h, r⟩
  | non => exact .non
  | bl b => exact .bl b
  | int i => exact .int i
  | str x => exact .str x
  | tup h r => exact .tup h r
  | scr h r => exact .scr h r
theorem VW.dp (r : VW K H M v d) (c : d.canLay0 = true) : Dp K H v d := by
  unfold VW at r
  split at r
  · obtain ⟨a, vs, rfl, h, r⟩ := r
    exact .lst (.inl h) (r.dp (by simpa [PyData.canLay0] using c))
  · exact r.dp c
theorem VW.lst {a : Addr} {vs : List V} {ds : List D} (h : H a = some (.lst vs)) (r : Reps K H M vs ds) : VW K H M (.ref a) (.list ds) := ⟨a, vs, rfl, .inl h, r⟩
theorem peek_vw (h : SR K H M O π ρ σ) (r : RP K H M O ρ σ pr v) (e : peek ρ pr = some d) : VW K H M v d := by
  match pr, v, r, e with
  | .val (.imm d'), v, r, e => cases e; exact .of r
  | .val (.own b ds), v, ⟨p, vs, e1, e2, _, _, e4, _⟩, e =>
    cases e; subst e1; exact .lst e2 e4
  | .slot i, v, r, e =>
    have r' : σ[i]? = some (some v) := r
    unfold peek at e
    simp only at e
    split at e
    · rename_i s hs
      cases e
      cases s with
      | imm d' =>
        obtain ⟨w, f1, f2⟩ := h.imm i d' hs
        rw [r'] at f1; cases f1; exact .of f2
      | own b ds =>
        obtain ⟨a, vs, f1, f2, f3, f4, f5, f6⟩ := h.own i b ds hs
        rw [r'] at f1; cases f1; exact .lst f2 f5
    · cases e
/-- M loses p, nobody's own -/
theorem SR.forget (h : SR K H M O π ρ σ) {p : Addr} (hp : ¬ O p) (ha : Apart ρ σ p) : SR K H (wo M p) O π ρ σ := by
  have sm : ∀ a, wo M p a → M a := fun a q => q.1
  refine ⟨h.len, fun a q => ⟨h.sub a q, fun z => hp (z ▸ q)⟩, fun a q => h.live a q.1, fun i d e => ?_, fun i b ds e => ?_, h.uniq⟩
  · obtain ⟨v, e1, r⟩ := h.imm i d e
    exact ⟨v, e1, r.smaller sm⟩
  · obtain ⟨a, vs, e1, e2, e3, e4, r, e5⟩ := h.own i b ds e
    exact ⟨a, vs, e1, e2, ⟨e3, fun z => ha i b ds e (z ▸ e1)⟩, e4, r.smaller sm, e5⟩
theorem Ext.forget (h : SR K H M O π ρ σ) {p : Addr} (hp : ¬ O p) : Ext O H M H (wo M p) :=
  ⟨fun _ _ e _ => e, fun a q => ⟨h.sub a q, fun z => hp (z ▸ q)⟩, fun _ q => .inl q.1⟩
theorem get_set {α : Type} {l : List α} {i j : Nat} {x y : α} (h : (l.set i x)[j]? = some y) : (j = i ∧ y = x) ∨ (j ≠ i ∧ l[j]? = some y) := by
  by_cases e : j = i
  · subst e
    rw [List.getElem?_set] at h
    split at h
    · split at h
      · cases h; exact .inl ⟨rfl, rfl⟩
      · cases h
    · exact absurd rfl (by assumption)
  · exact .inr ⟨e, by rw [List.getElem?_set_ne (Ne.symm e)] at h; exact h⟩
/-- a name's own list becomes fixed -/
theorem SR.freeze (h : SR K H M O π ρ σ) {i : Nat} {ds : List D} {a : Addr} {vs : List V} (e : ρ[i]? = some (some (.own false ds))) (e1 : σ[i]? = some (some (.ref a))) (e2 : H a = some (.lst vs)) (r : Reps K H M vs ds) (hO : ¬ O a) :
    SR K H (wo M a) O π (ρ.set i (some (.imm (.list ds)))) σ := by
  have sm : ∀ b, wo M a b → M b := fun b q => q.1
  refine ⟨by rw [List.length_set]; exact h.len, fun b q => ⟨h.sub b q, fun z => hO (z ▸ q)⟩, fun b q => h.live b q.1, fun j d f => ?_, fun j b es f => ?_, fun j k b c es fs x hjk f g => ?_⟩
  · rcases get_set f with ⟨hj, g⟩ | ⟨_, f⟩
    · subst hj
      cases g
      exact ⟨.ref a, e1, .lst (.inl e2) (fun z => z.2 rfl) (r.smaller sm)⟩
    · obtain ⟨v, g1, g2⟩ := h.imm j d f
      exact ⟨v, g1, g2.smaller sm⟩
  · rcases get_set f with ⟨_, g⟩ | ⟨hj, f⟩
    · cases g
    · obtain ⟨x, ws, g1, g2, g3, g4, g5, g6⟩ := h.own j b es f
      refine ⟨x, ws, g1, g2, ⟨g3, fun z => ?_⟩, g4, g5.smaller sm, g6⟩
      subst z
      exact h.uniq i j _ _ _ _ x (Ne.symm hj) e f e1 g1
  · rcases get_set f with ⟨_, z⟩ | ⟨_, f⟩
    · cases z
    · rcases get_set g with ⟨_, z⟩ | ⟨_, g⟩
      · cases z
      · exact h.uniq j k b c es fs x hjk f g
theorem frz_ok (h : SR K H M O π ρ σ) (r : RP K H M O ρ σ pr v) (e : frz ρ pr = some (d, ρ')) : ∃ M', Ext O H M H M' ∧ SR K H M' O π ρ' σ ∧ Rep K H M' v d := by
  match pr, v, r, e with
  | .val (.imm d'), v, r, e =>
    unfold frz at e; simp only [Option.some.injEq, Prod.mk.injEq] at e
    obtain ⟨rfl, rfl⟩ := e
    exact ⟨M, .refl h, h, r⟩
  | .val (.own b ds), v, ⟨p, vs, e1, e2, e3, e4, e5, e6⟩, e =>
    unfold frz at e; simp only [Option.some.injEq, Prod.mk.injEq] at e
    obtain ⟨rfl, rfl⟩ := e
    subst e1
    exact ⟨_, .forget h e4, h.forget e4 e6, .lst (.inl e2) (fun z => z.2 rfl) (e5.smaller fun a q => q.1)⟩
  | .slot i, v, r, e =>
    have r' : σ[i]? = some (some v) := r
    unfold frz at e
    simp only at e
    split at e
    · rename_i d' hs
      simp only [Option.some.injEq, Prod.mk.injEq] at e
      obtain ⟨rfl, rfl⟩ := e
      obtain ⟨w, f1, f2⟩ := h.imm i _ hs
      rw [r'] at f1; cases f1; exact ⟨M, .refl h, h, f2⟩
    · rename_i ds hs
      simp only [Option.some.injEq, Prod.mk.injEq] at e
      obtain ⟨rfl, rfl⟩ := e
      obtain ⟨a, vs, f1, f2, f3, f4, f5, f6⟩ := h.own i _ ds hs
      rw [r'] at f1; cases f1
      exact ⟨_, .forget h f4, h.freeze hs r' f2 f5 f4, .lst (.inl f2) (fun z => z.2 rfl) (f5.smaller fun a q => q.1)⟩
    · cases e
end

/-! ### expressions -/
abbrev ME := Fm → Option (PR × Fm)
def tE (K : PySem.W.Frag) (m : ME) : TE := fun σ H Q => ∃ ρ M O π pr ρ', SR K H M O π ρ σ ∧ m ρ = some (pr, ρ') ∧ ∀ v H' M', Ext O H M H' M' → SR K H' M' O π ρ' σ → RP K H' M' O ρ' σ pr v → Q v H'
def DE (X : Cx) (e : Expr) (m : ME) : Prop := PE X e (tE X.K m)
theorem _root_.L2.PE.imp {X : Cx} {e : Expr} {t t' : TE} (h : PE X e t) (i : ∀ σ H Q, t' σ H Q → t σ H Q) : PE X e t' := ⟨fun pins s σ H Q I q => h.run pins s σ H Q I (i σ H Q q)⟩
theorem _root_.L2.PT.imp {X : Cx} {e : Expr} {t t' : TT} (h : PT X e t) (i : ∀ σ H Q, t' σ H Q → t σ H Q) : PT X e t' := ⟨fun pins s σ H Q I q => h.run pins s σ H Q I (i σ H Q q)⟩
theorem _root_.L2.PA.imp {X : Cx} {e : List Expr} {t t' : TA} (h : PA X e t) (i : ∀ σ H Q, t' σ H Q → t σ H Q) : PA X e t' := ⟨fun pos pins s σ H Q I q => h.run pos pins s σ H Q I (i σ H Q q)⟩
theorem _root_.L2.PS.imp {X : Cx} {e : Stmt} {t t' : TS} (h : PS X e t) (i : ∀ D σ H, t' D σ H → t D σ H) : PS X e t' := ⟨fun pins s σ H D I q => h.run pins s σ H D I (i D σ H q)⟩
theorem _root_.L2.PSs.imp {X : Cx} {e : List Stmt} {t t' : TS} (h : PSs X e t) (i : ∀ D σ H, t' D σ H → t D σ H) : PSs X e t' := ⟨fun pins s σ H D I q => h.run pins s σ H D I (i D σ H q)⟩

section
variable {X : Cx} {a b : Expr} {ma mb : ME} {pos : Pos}
/-- a name -/
def mVar (i : Nat) : ME := fun ρ => match ρ[i]? with
  | some (some _) => some (.slot i, ρ)
  | _ => none
theorem SR.at {K : PySem.W.Frag} {H : Hp} {M O : Mset} {π : Nat → Option Addr} {ρ : Fm} {σ : St} (h : SR K H M O π ρ σ) {i : Nat} {s : Sv} (e : ρ[i]? = some (some s)) : ∃ v, σ[i]? = some (some v) := by
  cases s with
  | imm d => obtain ⟨v, e1, _⟩ := h.imm i d e; exact ⟨v, e1⟩
  | own b ds => obtain ⟨a, vs, e1, _⟩ := h.own i b ds e; exact ⟨_, e1⟩
theorem de_var {i : Nat} {x : Str} (h : PE X (.Name x pos) (tVar i)) : DE X (.Name x pos) (mVar i) := by
  refine PE.imp h fun σ H Q ⟨ρ, M, O, π, pr, ρ', hs, e, q⟩ => ?_
  unfold mVar at e
  split at e
  · rename_i s hs'
    simp only [Option.some.injEq, Prod.mk.injEq] at e
    obtain ⟨rfl, rfl⟩ := e
    obtain ⟨v, e1⟩ := hs.at hs'
    exact ⟨v, e1, q v H M (.refl hs) hs e1⟩
  · cases e
def mC (d : D) : ME := fun ρ => some (.val (.imm d), ρ)
/-- what is always the same value -/
theorem de_c {v : V} {d : D} {e : Expr} (h : PE X e (tC v)) (r : ∀ H M, Rep X.K H M v d) : DE X e (mC d) := by
  refine PE.imp h fun σ H Q ⟨ρ, M, O, π, pr, ρ', hs, e, q⟩ => ?_
  cases e
  exact q v H M (.refl hs) hs (r H M)
theorem de_int {i : Int} {j} : DE X (.Constant (.int i) j pos) (mC (.int i)) := de_c pe_int fun _ _ => .int i
theorem de_bl {i : Bool} {j} : DE X (.Constant (.bool i) j pos) (mC (.bool i)) := de_c pe_bl fun _ _ => .bl i
theorem de_non {j} : DE X (.Constant .none j pos) (mC .none) := de_c pe_non fun _ _ => .non
theorem de_str {x : Str} {j} : DE X (.Constant (.str x) j pos) (mC (.str x)) := de_c pe_str fun _ _ => .str x

/-! ### two-place and one-place operations -/
def bin (f : D → D → Option Sv) (ma mb : ME) : ME := fun ρ =>
  match ma ρ with
  | some (a, ρ1) => match mb ρ1 with
    | some (b, ρ2) => match peek ρ2 a, peek ρ2 b with
      | some x, some y => match f x y with
        | some r => some (.val r, ρ2)
        | none => none
      | _, _ => none
    | none => none
  | none => none
/-- the operation's rule answers to f -/
def OpS (X : Cx) (r : R2) (f : D → D → Option Sv) : Prop := ∀ {H : Hp} {M O : Mset} {π : Nat → Option Addr} {ρ : Fm} {σ : St} {v1 v2 : V} {d1 d2 : D} {res : Sv} {Q : VK}, SR X.K H M O π ρ σ → VW X.K H M v1 d1 → VW X.K H M v2 d2 → f d1 d2 = some res →
  (∀ v H' M', Ext O H M H' M' → SR X.K H' M' O π ρ σ → RP X.K H' M' O ρ σ (.val res) v → Q v H') → r v1 v2 H Q
theorem tE_bin {K : PySem.W.Frag} {f : D → D → Option Sv} {r : R2} (hs : ∀ {H : Hp} {M O : Mset} {π : Nat → Option Addr} {ρ : Fm} {σ : St} {v1 v2 : V} {d1 d2 : D} {res : Sv} {Q : VK}, SR K H M O π ρ σ → VW K H M v1 d1 → VW K H M v2 d2 → f d1 d2 = some res →
  (∀ v H' M', Ext O H M H' M' → SR K H' M' O π ρ σ → RP K H' M' O ρ σ (.val res) v → Q v H') → r v1 v2 H Q) {σ : St} {H : Hp} {Q : VK} (h : tE K (bin f ma mb) σ H Q) : tOp r (tE K ma) (tE K mb) σ H Q := by
  obtain ⟨ρ, M, O, π, pr, ρ', h0, e, q⟩ := h
  unfold bin at e
  split at e
  · rename_i a ρ1 ea
    split at e
    · rename_i b ρ2 eb
      split at e
      · rename_i x y ex ey
        split at e
        · rename_i res er
          simp only [Option.some.injEq, Prod.mk.injEq] at e
          obtain ⟨rfl, rfl⟩ := e
          refine ⟨ρ, M, O, π, a, ρ1, h0, ea, fun v1 H1 M1 x1 s1 r1 => ?_⟩
          refine ⟨ρ1, M1, Vi.hold O a v1, π, b, ρ2, s1.hold r1, eb, fun v2 H2 M2 x2 s2 r2 => ?_⟩
          have s2' := s2.less (hold_le O a v1)
          exact hs s2' (peek_vw s2' (r1.held x2 s2) ex) (peek_vw s2' (r2.less (hold_le O a v1)) ey) er fun v H' M' x3 s3 r3 => q v H' M' ((x1.trans (x2.less (hold_le O a v1))).trans x3) s3 r3
        · cases e
      · cases e
    · cases e
  · cases e
theorem de_op {op : Operator} {r : R2} {f : D → D → Option Sv} (ho : OpR X (binaryOp op) r) (hs : OpS X r f) (ha : DE X a ma) (hb : DE X b mb) : DE X (.BinOp a op b pos) (bin f ma mb) :=
  PE.imp (pe_op ho ha hb) fun σ H Q h => tE_bin hs h
theorem de_cmp {op : CmpOp} {r : R2} {f : D → D → Option Sv} (ho : OpR X (compareOp op) r) (hs : OpS X r f) (ha : DE X a ma) (hb : DE X b mb) (hm : behindInMarks op b = false) : DE X (.Compare a [op] [b] pos) (bin f ma mb) :=
  PE.imp (pe_cmpR ho ha hb hm) fun σ H Q h => tE_bin hs h
theorem de_ix {r : R2} {f : D → D → Option Sv} (ho : IxR X r) (hs : OpS X r f) (ha : DE X a ma) (hb : DE X b mb) (hp : PlainIx b) : DE X (.Subscript a b pos) (bin f ma mb) :=
  PE.imp (pe_ix ho ha hb hp) fun σ H Q h => tE_bin hs h
def un (f : D → Option Sv) (ma : ME) : ME := fun ρ =>
  match ma ρ with
  | some (a, ρ1) => match peek ρ1 a with
    | some x => match f x with
      | some r => some (.val r, ρ1)
      | none => none
    | none => none
  | none => none
def UnS (X : Cx) (r : V → Hp → VK → Prop) (f : D → Option Sv) : Prop := ∀ {H : Hp} {M O : Mset} {π : Nat → Option Addr} {ρ : Fm} {σ : St} {v1 : V} {d1 : D} {res : Sv} {Q : VK}, SR X.K H M O π ρ σ → VW X.K H M v1 d1 → f d1 = some res →
  (∀ v H' M', Ext O H M H' M' → SR X.K H' M' O π ρ σ → RP X.K H' M' O ρ σ (.val res) v → Q v H') → r v1 H Q
theorem tE_un {f : D → Option Sv} {r : V → Hp → VK → Prop} (hs : UnS X r f) {σ : St} {H : Hp} {Q : VK} (h : tE X.K (un f ma) σ H Q) : tE X.K ma σ H fun v H1 => r v H1 Q := by
  obtain ⟨ρ, M, O, π, pr, ρ', h0, e, q⟩ := h
  unfold un at e
  split at e
  · rename_i a ρ1 ea
    split at e
    · rename_i x ex
      split at e
      · rename_i res er
        simp only [Option.some.injEq, Prod.mk.injEq] at e
        obtain ⟨rfl, rfl⟩ := e
        exact ⟨ρ, M, O, π, a, ρ1, h0, ea, fun v1 H1 M1 x1 s1 r1 => hs s1 (peek_vw s1 r1 ex) er fun v H' M' x3 s3 r3 => q v H' M' (x1.trans x3) s3 r3⟩
      · cases e
    · cases e
  · cases e
theorem de_un {op : UnaryOp} {r : V → Hp → VK → Prop} {f : D → Option Sv} (ho : UnR X (unaryOp op) r) (hs : UnS X r f) (ha : DE X a ma) : DE X (.UnaryOp op a pos) (un f ma) :=
  PE.imp (pe_un ho ha) fun σ H Q h => tE_un hs h
/-- a built-in of one argument, by its name -/
theorem de_call1 {id : String} {x : Str} {p : Pos} {r : List V → Hp → VK → Prop} {f : D → Option Sv} (hc : CallR X (.builtin id) r) (hs : UnS X (fun v H Q => r [v] H Q) f) (hg : Gl X x) (hm : X.mg x = none) (hv : bootBuiltins x = some (.builtin id)) (ha : DE X a ma)
    (hn : x ≠ "__name__" := by decide) (hd : (x == ("__debug__" : Str)) = false := by decide) (he : starEach (a :: []) X.env = (false, eval a X.env) :: starEach [] X.env := by rfl) (hpl : (backTo pos (starEach [] X.env)).any (·.1) = false := by rfl) : DE X (.Call (.Name x p) [a] [] pos) (un f ma) :=
  PE.imp (pe_callB hc hg hm hv (pa_cons ha pa_nil he) hn hd he hpl) fun σ H Q h => tE_un hs h
theorem de_callT1 {T : String} {x : Str} {p : Pos} {r : List V → Hp → VK → Prop} {f : D → Option Sv} (hc : CallR X (.type T) r) (hs : UnS X (fun v H Q => r [v] H Q) f) (hg : Gl X x) (hm : X.mg x = none) (hv : bootBuiltins x = some (.type T)) (ha : DE X a ma)
    (hn : x ≠ "__name__" := by decide) (hd : (x == ("__debug__" : Str)) = false := by decide) (he : starEach (a :: []) X.env = (false, eval a X.env) :: starEach [] X.env := by rfl) (hpl : (backTo pos (starEach [] X.env)).any (·.1) = false := by rfl) : DE X (.Call (.Name x p) [a] [] pos) (un f ma) :=
  PE.imp (pe_callTy hc hg hm hv (pa_cons ha pa_nil he) hn hd he hpl) fun σ H Q h => tE_un hs h
end
end Vi

namespace Vi
open PySem PySem.Spec PyProof.Rows L2

/-! ### what stands behind an operation -/
section
variable {K : PySem.W.Frag} {H : Hp} {M O : Mset} {π : Nat → Option Addr} {ρ : Fm} {σ : St} {v : V} {Q : VK}
theorem alloc_tr (h : SR K H M O π ρ σ) {p : Addr} {o : HO} (hp : H p = none) : ∀ a u, Rd H a u → ¬ M a → Rd (upd H p o) a u ∧ ¬ M a := fun a u q n => by
  have ne2 : ∀ {a : Addr} {u : HO}, H a = some u → a ≠ p := fun e z => by rw [z, hp] at e; cases e
  refine ⟨?_, n⟩
  rcases q with q | ⟨o', q⟩
  · exact .inl (by rw [upd_ne (ne2 q)]; exact q)
  · exact .inr ⟨o', by rw [upd_ne (ne2 q)]; exact q⟩
theorem alloc_tr_own (h : SR K H M O π ρ σ) {p : Addr} {o : HO} (hp : H p = none) : ∀ a u, Rd H a u → ¬ M a → Rd (upd H p o) a u ∧ ¬ wth M p a := fun a u q n => by
  refine ⟨(alloc_tr h hp a u q n).1, fun z => z.elim n fun e => ?_⟩
  rcases q with q | ⟨o', q⟩ <;> (rw [e, hp] at q; cases q)
abbrev Post (K : PySem.W.Frag) (H : Hp) (M O : Mset) (π : Nat → Option Addr) (ρ : Fm) (σ : St) (res : Sv) (Q : VK) : Prop :=
  ∀ v H' M', Ext O H M H' M' → SR K H' M' O π ρ σ → RP K H' M' O ρ σ (.val res) v → Q v H'
theorem Post.now {d : D} (q : Post K H M O π ρ σ (.imm d) Q) (h : SR K H M O π ρ σ) (r : Rep K H M v d) : Q v H := q v H M (.refl h) h r
theorem Post.tup {ds : List D} {vs : List V} (q : Post K H M O π ρ σ (.imm (.tuple ds)) Q) (h : SR K H M O π ρ σ) (r : Reps K H M vs ds) {p : Addr} (hp : H p = none) : Q (.ref p) (upd H p (.tup vs)) :=
  q _ _ M (.alloc h hp) (h.alloc hp) (.tup (.inl ⟨.inl upd_same, fun z => h.live p z hp⟩) (r.tr (alloc_tr h hp)))
theorem Post.lst {ds : List D} {vs : List V} {b : Bool} (q : Post K H M O π ρ σ (.own b ds) Q) (h : SR K H M O π ρ σ) (r : Reps K H M vs ds) {p : Addr} (hp : H p = none) : Q (.ref p) (upd H p (.lst vs)) := by
  refine q _ _ (wth M p) (.allocOwn h hp) (h.allocOwn hp) ⟨p, vs, rfl, upd_same, .inr rfl, fun z => h.live p (h.sub p z) hp, r.tr (alloc_tr_own h hp), fun i b ds e e1 => ?_⟩
  obtain ⟨a, ws, f1, f2, _⟩ := h.own i b ds e
  rw [e1] at f1; cases f1
  rw [hp] at f2; cases f2
theorem VW.inI {i : Int} (r : VW K H M v (.int i)) : v = .int i := by cases (show Rep K H M v (.int i) from r); rfl
theorem VW.inB {i : Bool} (r : VW K H M v (.bool i)) : v = .bl i := by cases (show Rep K H M v (.bool i) from r); rfl
theorem VW.inS {i : Str} (r : VW K H M v (.str i)) : v = .str i := by cases (show Rep K H M v (.str i) from r); rfl
theorem VW.inN (r : VW K H M v .none) : v = .non := by cases (show Rep K H M v .none from r); rfl
theorem VW.inT {ds : List D} (r : VW K H M v (.tuple ds)) : ∃ a vs, v = .ref a ∧ TupAt K H M a vs ∧ Reps K H M vs ds := by
  cases (show Rep K H M v (.tuple ds) from r) with
  | tup h r => exact ⟨_, _, rfl, h, r⟩
theorem VW.inScr {kvs : List (D × D)} (r : VW K H M v (.dict kvs)) : ∃ a vs, v = .ref a ∧ LstAt K H M a vs ∧ Reps K H M vs (kvs.map Prod.fst) := by
  cases (show Rep K H M v (.dict kvs) from r) with
  | scr h r => exact ⟨_, _, rfl, h, r⟩
theorem VW.inL {ds : List D} (r : VW K H M v (.list ds)) : ∃ a vs, v = .ref a ∧ Rd H a (.lst vs) ∧ Reps K H M vs ds := r
/-- a list or a tuple -/
theorem VW.seq {d : D} {ds : List D} (r : VW K H M v d) (e : d = .list ds ∨ d = .tuple ds) : ∃ a vs, v = .ref a ∧ (SqL K H a vs ∨ SqT K H a vs) ∧ Reps K H M vs ds := by
  rcases e with rfl | rfl
  · obtain ⟨a, vs, e, h, r⟩ := r.inL
    exact ⟨a, vs, e, .inl (.inl h), r⟩
  · obtain ⟨a, vs, e, h, r⟩ := r.inT
    exact ⟨a, vs, e, .inr h.sq, r⟩
theorem rep_rep {v : V} {d : D} (r : VW K H M v d) (n : ∀ ds, d ≠ .list ds) : Rep K H M v d := by
  cases d with
  | list ds => exact absurd rfl (n ds)
  | _ => exact r
end

section
variable {X : Cx}
/-! ### + - * // % ** -/
def rCatR : R2 := fun x y H Q => ∃ l b xs zs, x = .ref l ∧ y = .ref b ∧ Rd H l (.lst xs) ∧ Rd H b (.lst zs) ∧ xs.length + zs.length ≤ sizeLine ∧ ∀ p, H p = none → Q (.ref p) (upd H p (.lst (xs ++ zs)))
theorem op_catR : OpR X (binaryOp .Add) rCatR := by
  intro pins s σ H x y v u Q I rx ry h
  obtain ⟨l, b, xs, zs, rfl, rfl, hH, hB, hz, q⟩ := h
  cases rx
  cases ry
  obtain ⟨z, its, n, r, e⟩ := hH.ok I.hok
  obtain ⟨z2, its2, n2, r2, e2⟩ := hB.ok I.hok
  have hl := r.length
  have hl2 := r2.length
  refine PySem.P.add_list e e2 ?_ (by rw [List.size_toArray, List.size_toArray]; omega)
  have ea : its.toArray ++ its2.toArray = (its ++ its2).toArray := by simp
  rw [ea]
  exact ⟨.ref _, _, I.lnew (t' := s.toks) (r.append r2) (by rw [List.length_append]; omega), rfl, q _ I.fresh⟩
def fits (n : Nat) : Bool := decide (n ≤ sizeLine)
theorem fits_le {n : Nat} (h : fits n = true) : n ≤ sizeLine := of_decide_eq_true h
def dAdd : D → D → Option Sv
  | .int i, .int j => some (.imm (.int (i + j)))
  | .tuple xs, .tuple ys => if fits (xs.length + ys.length) = true then some (.imm (.tuple (xs ++ ys))) else none
  | .list xs, .list ys => if fits (xs.length + ys.length) = true then some (.own false (xs ++ ys)) else none
  | .str x, .str y => if fits (x.length + y.length) = true then some (.imm (.str (x ++ y))) else none
  | _, _ => none
abbrev rAdd (X : Cx) : R2 := fun x y H Q => rI0 (fun i j => .int (i + j)) x y H Q ∨ rCatA X.K x y H Q ∨ rCatR x y H Q ∨ ∃ i j, x = .str i ∧ y = .str j ∧ i.length + j.length ≤ sizeLine ∧ Q (.str (i ++ j)) H
theorem op_addA : OpR X (binaryOp .Add) (rAdd X) := op_add.or (op_catA.or (op_catR.or op_add_str))
theorem os_add : OpS X (rAdd X) dAdd := by
  intro H M O π ρ σ v1 v2 d1 d2 res Q h r1 r2 e q
  unfold dAdd at e
  split at e
  · cases e
    cases r1.inI; cases r2.inI
    exact .inl ⟨_, _, rfl, rfl, Post.now q h (.int _)⟩
  · split at e
    · rename_i hz
      cases e
      obtain ⟨a, xs, rfl, ta, ra⟩ := r1.inT
      obtain ⟨b, ys, rfl, tb, rb⟩ := r2.inT
      refine .inr (.inl ⟨a, b, xs, ys, rfl, rfl, ta.sq, tb.sq, by rw [ra.length, rb.length]; exact fits_le hz, fun ex => ?_, fun _ ey => ?_, fun _ _ p hp => ?_⟩)
      · subst ex; cases ra; exact Post.now q h r2
      · subst ey; cases rb; exact Post.now q h (by rw [List.append_nil]; exact r1)
      · exact Post.tup q h (ra.append rb) hp
    · cases e
  · split at e
    · rename_i hz
      cases e
      obtain ⟨a, xs, rfl, ta, ra⟩ := r1.inL
      obtain ⟨b, ys, rfl, tb, rb⟩ := r2.inL
      exact .inr (.inr (.inl ⟨a, b, xs, ys, rfl, rfl, ta, tb, by rw [ra.length, rb.length]; exact fits_le hz, fun p hp => Post.lst q h (ra.append rb) hp⟩))
    · cases e
  · split at e
    · rename_i hz
      cases e
      cases r1.inS; cases r2.inS
      exact .inr (.inr (.inr ⟨_, _, rfl, rfl, fits_le hz, Post.now q h (.str _)⟩))
    · cases e
  · cases e
def dSub : D → D → Option Sv
  | .int i, .int j => some (.imm (.int (i - j)))
  | _, _ => none
theorem os_sub : OpS X (rI0 fun i j => .int (i - j)) dSub := by
  intro H M O π ρ σ v1 v2 d1 d2 res Q h r1 r2 e q
  unfold dSub at e
  split at e
  · cases e
    cases r1.inI; cases r2.inI
    exact ⟨_, _, rfl, rfl, Post.now q h (.int _)⟩
  · cases e
/-- how far products go -/
def mulOk (i j : Int) : Bool := decide (-(2 ^ 64) < i ∧ i < 2 ^ 64) || decide (-(2 ^ 64) < j ∧ j < 2 ^ 64) || decide (i.natAbs.log2 + j.natAbs.log2 < 1000000)
def rRepR : R2 := fun x y H Q => ∃ l k xs, x = .ref l ∧ y = .int k ∧ H l = some (.lst xs) ∧ -(2 ^ 63) ≤ k ∧ k < 2 ^ 63 ∧ xs.length * k.toNat ≤ sizeLine ∧
  ∀ p, H p = none → Q (.ref p) (upd H p (.lst (List.replicate k.toNat xs).flatten))
def dMul : D → D → Option Sv
  | .int i, .int j => if mulOk i j = true then some (.imm (.int (i * j))) else none
  | _, _ => none
abbrev rMul : R2 := fun x y H Q => rI CMul (fun i j => .int (i * j)) x y H Q ∨ rI CMulW (fun i j => .int (i * j)) x y H Q
theorem op_mulA : OpR X (binaryOp .Mult) rMul := op_mul.or op_mulW
theorem os_mul : OpS X rMul dMul := by
  intro H M O π ρ σ v1 v2 d1 d2 res Q h r1 r2 e q
  unfold dMul at e
  split at e
  · split at e
    · rename_i hz
      cases e
      cases r1.inI; cases r2.inI
      unfold mulOk at hz
      rw [Bool.or_eq_true, Bool.or_eq_true] at hz
      rcases hz with (hz | hz) | hz
      · exact .inl ⟨_, _, rfl, rfl, .inl (of_decide_eq_true hz), Post.now q h (.int _)⟩
      · exact .inl ⟨_, _, rfl, rfl, .inr (of_decide_eq_true hz), Post.now q h (.int _)⟩
      · exact .inr ⟨_, _, rfl, rfl, (of_decide_eq_true hz : _ < 1000000), Post.now q h (.int _)⟩
    · cases e
  · cases e
def divOk (j : Int) : Bool := decide (0 < j ∧ j.natAbs.log2 < 9000)
def dDiv : D → D → Option Sv
  | .int i, .int j => if divOk j = true then some (.imm (.int (i / j))) else none
  | _, _ => none
theorem os_div : OpS X (rI CDivW fun i j => .int (i / j)) dDiv := by
  intro H M O π ρ σ v1 v2 d1 d2 res Q h r1 r2 e q
  unfold dDiv at e
  split at e
  · split at e
    · rename_i hz
      cases e
      cases r1.inI; cases r2.inI
      unfold divOk at hz
      have hz' := of_decide_eq_true hz
      exact ⟨_, _, rfl, rfl, hz', Post.now q h (.int _)⟩
    · cases e
  · cases e
def dMod : D → D → Option Sv
  | .int i, .int j => if decide (0 < j) = true then some (.imm (.int (i % j))) else none
  | _, _ => none
theorem os_mod : OpS X (rI (fun _ j => 0 < j) fun i j => .int (i % j)) dMod := by
  intro H M O π ρ σ v1 v2 d1 d2 res Q h r1 r2 e q
  unfold dMod at e
  split at e
  · split at e
    · rename_i hz
      cases e
      cases r1.inI; cases r2.inI
      exact ⟨_, _, rfl, rfl, of_decide_eq_true hz, Post.now q h (.int _)⟩
    · cases e
  · cases e
def powOk (i j : Int) : Bool := decide (0 ≤ j ∧ j ≤ 1000000 ∧ i.natAbs < 2 ^ 64)
def dPow : D → D → Option Sv
  | .int i, .int j => if powOk i j = true then some (.imm (.int (i ^ j.toNat))) else none
  | _, _ => none
theorem os_pow : OpS X (rI CPow fun i j => .int (i ^ j.toNat)) dPow := by
  intro H M O π ρ σ v1 v2 d1 d2 res Q h r1 r2 e q
  unfold dPow at e
  split at e
  · split at e
    · rename_i hz
      cases e
      cases r1.inI; cases r2.inI
      unfold powOk at hz
      have hz' := of_decide_eq_true hz
      exact ⟨_, _, rfl, rfl, hz', Post.now q h (.int _)⟩
    · cases e
  · cases e
def dNeg : D → Option Sv
  | .int i => some (.imm (.int (-i)))
  | _ => none
theorem us_neg : UnS X (rU fun i => .int (-i)) dNeg := by
  intro H M O π ρ σ v1 d1 res Q h r1 e q
  unfold dNeg at e
  split at e
  · cases e
    cases r1.inI
    exact ⟨_, rfl, Post.now q h (.int _)⟩
  · cases e

/-! ### comparisons -/
def okD (d : D) : Bool := SeqAt.shaped d
def dEq (a b : D) : Option Sv := if (okD a && okD b) = true then some (.imm (.bool (PyData.eqv a b))) else none
def dNe (a b : D) : Option Sv := if (okD a && okD b) = true then some (.imm (.bool (!PyData.eqv a b))) else none
theorem os_eq : OpS X (rEqD X.K) dEq := by
  intro H M O π ρ σ v1 v2 d1 d2 res Q h r1 r2 e q
  unfold dEq at e
  split at e
  · rename_i hz
    cases e
    rw [Bool.and_eq_true] at hz
    exact ⟨d1, d2, r1.dp (SeqAt.canLay_of_shaped hz.1), r2.dp (SeqAt.canLay_of_shaped hz.2), hz.1, hz.2, Post.now q h (.bl _)⟩
  · cases e
theorem os_ne : OpS X (rNeD X.K) dNe := by
  intro H M O π ρ σ v1 v2 d1 d2 res Q h r1 r2 e q
  unfold dNe at e
  split at e
  · rename_i hz
    cases e
    rw [Bool.and_eq_true] at hz
    exact ⟨d1, d2, r1.dp (SeqAt.canLay_of_shaped hz.1), r2.dp (SeqAt.canLay_of_shaped hz.2), hz.1, hz.2, Post.now q h (.bl _)⟩
  · cases e
def dCmpI (f : Int → Int → Bool) : D → D → Option Sv
  | .int i, .int j => some (.imm (.bool (f i j)))
  | _, _ => none
theorem os_cmpI {f : Int → Int → Bool} : OpS X (rI0 fun i j => .bl (f i j)) (dCmpI f) := by
  intro H M O π ρ σ v1 v2 d1 d2 res Q h r1 r2 e q
  unfold dCmpI at e
  split at e
  · cases e
    cases r1.inI; cases r2.inI
    exact ⟨_, _, rfl, rfl, Post.now q h (.bl _)⟩
  · cases e
abbrev dLt := dCmpI fun i j => decide (i < j)
abbrev dLe := dCmpI fun i j => decide (i ≤ j)
abbrev dGt := dCmpI fun i j => decide (j < i)
abbrev dGe := dCmpI fun i j => decide (j ≤ i)
def isNon : D → Bool
  | .none => true
  | _ => false
theorem VW.non_iff {K : PySem.W.Frag} {H : Hp} {M : Mset} {v : V} {d : D} (r : VW K H M v d) : decide (v = .non) = isNon d := by
  cases d with
  | none => cases r.inN; rfl
  | bool b => cases r.inB; rfl
  | int b => cases r.inI; rfl
  | str b => cases r.inS; rfl
  | list b => obtain ⟨a, vs, rfl, _⟩ := r.inL; rfl
  | tuple b => obtain ⟨a, vs, rfl, _⟩ := r.inT; rfl
  | dict b => cases (show Rep K H M v (.dict b) from r); rfl
def dIs : D → D → Option Sv
  | a, .none => some (.imm (.bool (isNon a)))
  | _, _ => none
def dIsNot : D → D → Option Sv
  | a, .none => some (.imm (.bool (!isNon a)))
  | _, _ => none
theorem os_is : OpS X (fun x y H Q => y = .non ∧ Q (.bl (decide (x = .non))) H) dIs := by
  intro H M O π ρ σ v1 v2 d1 d2 res Q h r1 r2 e q
  unfold dIs at e
  split at e
  · cases e
    cases r2.inN
    refine ⟨rfl, ?_⟩
    rw [r1.non_iff]
    exact Post.now q h (.bl _)
  · cases e
theorem os_isnot : OpS X (fun x y H Q => y = .non ∧ Q (.bl (!decide (x = .non))) H) dIsNot := by
  intro H M O π ρ σ v1 v2 d1 d2 res Q h r1 r2 e q
  unfold dIsNot at e
  split at e
  · cases e
    cases r2.inN
    refine ⟨rfl, ?_⟩
    rw [r1.non_iff]
    exact Post.now q h (.bl _)
  · cases e
def flatD : D → Bool
  | .none | .bool _ | .int _ | .str _ => true
  | _ => false
theorem rep_flat {K : PySem.W.Frag} {H : Hp} {M : Mset} {v : V} {d : D} (r : Rep K H M v d) : flatV v = flatD d := by cases r <;> rfl
theorem rep_eqV {K : PySem.W.Frag} {H : Hp} {M : Mset} {v w : V} {d e : D} (r : Rep K H M v d) (s : Rep K H M w e) (f : flatD d = true) (g : flatD e = true) : eqV v w = PyData.eqv d e := by
  cases r <;> first | (exact absurd (show false = true from f) Bool.false_ne_true) | (cases s <;> first | (exact absurd (show false = true from g) Bool.false_ne_true) | rfl | (simp [eqV, PyData.eqv]))
theorem reps_flat {K : PySem.W.Frag} {H : Hp} {M : Mset} : ∀ {vs : List V} {ds : List D}, Reps K H M vs ds → vs.all flatV = ds.all flatD
  | _, _, .nil => rfl
  | _, _, .cons h r => by rw [List.all_cons, List.all_cons, rep_flat h, reps_flat r]
theorem reps_inV {K : PySem.W.Frag} {H : Hp} {M : Mset} {v : V} {d : D} (s : Rep K H M v d) (g : flatD d = true) : ∀ {vs : List V} {ds : List D}, Reps K H M vs ds → ds.all flatD = true → inV v vs = ds.any fun z => PyData.eqv z d
  | _, _, .nil, _ => rfl
  | _, _, .cons h r, f => by
    rw [List.all_cons, Bool.and_eq_true] at f
    have ih := reps_inV s g r f.2
    unfold inV at ih ⊢
    rw [List.any_cons, List.any_cons, ih, rep_eqV h s f.1 g]
/-- x in ds -/
def hasD (x : D) (ds : List D) : Bool := ds.any fun z => PyData.eqv z x
def dIn (neg : Bool) (x : D) : D → Option Sv
  | .list ds => if (flatD x && ds.all flatD) = true then some (.imm (.bool (if neg then !hasD x ds else hasD x ds))) else if (!neg && okD x && okD (.list ds)) = true then some (.imm (.bool (hasD x ds))) else if (neg && okD x && okD (.list ds)) = true then some (.imm (.bool (!hasD x ds))) else none
  | .tuple ds => if (flatD x && ds.all flatD) = true then some (.imm (.bool (if neg then !hasD x ds else hasD x ds))) else none
  | _ => none
abbrev rInA (X : Cx) (neg : Bool) : R2 := fun x y H Q => rIn X.K neg x y H Q ∨ (if neg then rNotInD X.K x y H Q else rInD X.K x y H Q)
theorem op_inA (hu : X.A.units + 65 < cLine) : OpR X (compareOp .In) (rInA X false) := op_in_seq.or (op_inD hu)
theorem op_notInA (hu : X.A.units + 65 < cLine) : OpR X (compareOp .NotIn) (rInA X true) := op_notIn_seq.or (op_notInD hu)
theorem flat_not {d : D} (f : flatD d = true) (ds : List D) : d ≠ .list ds := fun e => by rw [e] at f; cases f
theorem os_in (neg : Bool) : OpS X (rInA X neg) (dIn neg) := by
  intro H M O π ρ σ v1 v2 d1 d2 res Q h r1 r2 e q
  unfold dIn at e
  split at e
  · rename_i ds
    split at e
    · rename_i hz
      cases e
      rw [Bool.and_eq_true] at hz
      obtain ⟨a, vs, rfl, rd, rs⟩ := r2.inL
      have rp := rep_rep r1 (flat_not hz.1)
      refine .inl ⟨a, vs, rfl, .inl (.inl rd), by rw [rep_flat rp]; exact hz.1, by rw [reps_flat rs]; exact hz.2, ?_⟩
      rw [reps_inV rp hz.1 rs hz.2]
      exact Post.now q h (.bl _)
    · split at e
      · rename_i hz
        cases e
        rw [Bool.and_eq_true, Bool.and_eq_true] at hz
        have hn : neg = false := by simpa using hz.1.1
        subst hn
        exact .inr (show rInD X.K v1 v2 H Q from ⟨d1, ds, r1.dp (SeqAt.canLay_of_shaped hz.1.2), r2.dp (SeqAt.canLay_of_shaped hz.2), hz.1.2, hz.2, Post.now q h (.bl _)⟩)
      · split at e
        · rename_i hz
          cases e
          rw [Bool.and_eq_true, Bool.and_eq_true] at hz
          have hn : neg = true := hz.1.1
          subst hn
          exact .inr (show rNotInD X.K v1 v2 H Q from ⟨d1, ds, r1.dp (SeqAt.canLay_of_shaped hz.1.2), r2.dp (SeqAt.canLay_of_shaped hz.2), hz.1.2, hz.2, Post.now q h (.bl _)⟩)
        · cases e
  · rename_i ds
    split at e
    · rename_i hz
      cases e
      rw [Bool.and_eq_true] at hz
      obtain ⟨a, vs, rfl, rd, rs⟩ := r2.inT
      have rp := rep_rep r1 (flat_not hz.1)
      refine .inl ⟨a, vs, rfl, .inr rd.sq, by rw [rep_flat rp]; exact hz.1, by rw [reps_flat rs]; exact hz.2, ?_⟩
      rw [reps_inV rp hz.1 rs hz.2]
      exact Post.now q h (.bl _)
    · cases e
  · cases e

/-! ### places -/
def dIx : D → D → Option Sv
  | .list ds, .int i => (atI ds i).map .imm
  | .tuple ds, .int i => (atI ds i).map .imm
  | .dict kvs, .int i => (atI (kvs.map Prod.fst) i).map .imm
  | _, _ => none
abbrev rIxA (X : Cx) : R2 := fun x y H Q => rIxL X.K x y H Q ∨ rIxT X.K x y H Q
theorem ix_A : IxR X (rIxA X) := ix_list.or ix_tup
theorem atI_rep {K : PySem.W.Frag} {H : Hp} {M : Mset} {vs : List V} {ds : List D} {i : Int} {d : D} (r : Reps K H M vs ds) (e : atI ds i = some d) : ∃ v, atI vs i = some v ∧ Rep K H M v d := by
  unfold atI at e ⊢
  rw [r.length]
  cases ei : ixN ds.length i with
  | none => rw [ei] at e; cases e
  | some j =>
    rw [ei] at e
    exact r.get e
theorem os_ix : OpS X (rIxA X) dIx := by
  intro H M O π ρ σ v1 v2 d1 d2 res Q h r1 r2 e q
  unfold dIx at e
  split at e
  · obtain ⟨d, ed, er⟩ := Option.map_eq_some_iff.mp e
    subst er
    cases r2.inI
    obtain ⟨a, vs, rfl, rd, rs⟩ := r1.inL
    obtain ⟨v, ev, rv⟩ := atI_rep rs ed
    exact .inl ⟨a, vs, _, v, rfl, rfl, .inl rd, ev, Post.now q h rv⟩
  · obtain ⟨d, ed, er⟩ := Option.map_eq_some_iff.mp e
    subst er
    cases r2.inI
    obtain ⟨a, vs, rfl, rd, rs⟩ := r1.inT
    obtain ⟨v, ev, rv⟩ := atI_rep rs ed
    exact .inr ⟨a, vs, _, v, rfl, rfl, rd.sq, ev, Post.now q h rv⟩
  · obtain ⟨d, ed, er⟩ := Option.map_eq_some_iff.mp e
    subst er
    cases r2.inI
    obtain ⟨a, vs, rfl, rd, rs⟩ := r1.inScr
    obtain ⟨v, ev, rv⟩ := atI_rep rs ed
    exact .inl ⟨a, vs, _, v, rfl, rfl, rd.sq, ev, Post.now q h rv⟩
  · cases e

/-! ### built-ins of one argument -/
def dLen : D → Option Sv
  | .list ds => some (.imm (.int ds.length))
  | .tuple ds => some (.imm (.int ds.length))
  | .dict kvs => some (.imm (.int kvs.length))
  | _ => none
theorem us_len : UnS X (fun v H Q => (fun xs H Q => ∃ p ys, xs = [V.ref p] ∧ (SqL X.K H p ys ∨ SqT X.K H p ys) ∧ Q (.int ys.length) H) [v] H Q) dLen := by
  intro H M O π ρ σ v1 d1 res Q h r1 e q
  unfold dLen at e
  split at e
  · cases e
    obtain ⟨a, vs, rfl, rd, rs⟩ := r1.inL
    refine ⟨a, vs, rfl, .inl (.inl rd), ?_⟩
    rw [rs.length]
    exact Post.now q h (.int _)
  · cases e
    obtain ⟨a, vs, rfl, rd, rs⟩ := r1.inT
    refine ⟨a, vs, rfl, .inr rd.sq, ?_⟩
    rw [rs.length]
    exact Post.now q h (.int _)
  · cases e
    obtain ⟨a, vs, rfl, rd, rs⟩ := r1.inScr
    refine ⟨a, vs, rfl, .inl rd.sq, ?_⟩
    rw [rs.length, List.length_map]
    exact Post.now q h (.int _)
  · cases e
def dList : D → Option Sv
  | .list ds => some (.own false ds)
  | .tuple ds => some (.own false ds)
  | _ => none
theorem us_list : UnS X (fun v H Q => (fun xs H Q => ∃ p ys, xs = [V.ref p] ∧ (SqL X.K H p ys ∨ SqT X.K H p ys) ∧ ∀ l, H l = none → Q (.ref l) (upd H l (.lst ys))) [v] H Q) dList := by
  intro H M O π ρ σ v1 d1 res Q h r1 e q
  unfold dList at e
  split at e
  · cases e
    obtain ⟨a, vs, rfl, rd, rs⟩ := r1.inL
    exact ⟨a, vs, rfl, .inl (.inl rd), fun p hp => Post.lst q h rs hp⟩
  · cases e
    obtain ⟨a, vs, rfl, rd, rs⟩ := r1.inT
    exact ⟨a, vs, rfl, .inr rd.sq, fun p hp => Post.lst q h rs hp⟩
  · cases e
def dTuple : D → Option Sv
  | .list ds => some (.imm (.tuple ds))
  | .tuple ds => some (.imm (.tuple ds))
  | _ => none
theorem us_tuple : UnS X (fun v H Q => (fun xs H Q => ∃ p ys, xs = [V.ref p] ∧ ((SqL X.K H p ys ∧ ∀ l, H l = none → Q (.ref l) (upd H l (.tup ys))) ∨ (SqT X.K H p ys ∧ Q (.ref p) H))) [v] H Q) dTuple := by
  intro H M O π ρ σ v1 d1 res Q h r1 e q
  unfold dTuple at e
  split at e
  · cases e
    obtain ⟨a, vs, rfl, rd, rs⟩ := r1.inL
    exact ⟨a, vs, rfl, .inl ⟨.inl rd, fun p hp => Post.tup q h rs hp⟩⟩
  · cases e
    have rr := r1
    obtain ⟨a, vs, rfl, rd, rs⟩ := r1.inT
    exact ⟨a, vs, rfl, .inr ⟨rd.sq, Post.now q h rr⟩⟩
  · cases e
def dInt : D → Option Sv
  | .int i => some (.imm (.int i))
  | .bool b => some (.imm (.int (if b then 1 else 0)))
  | _ => none
theorem us_int : UnS X (fun v H Q => (fun xs H Q => (∃ i, xs = [V.int i] ∧ Q (.int i) H) ∨ ∃ k, xs = [V.bl k] ∧ Q (.int (if k then 1 else 0)) H) [v] H Q) dInt := by
  intro H M O π ρ σ v1 d1 res Q h r1 e q
  unfold dInt at e
  split at e
  · cases e
    cases r1.inI
    exact .inl ⟨_, rfl, Post.now q h (.int _)⟩
  · cases e
    cases r1.inB
    exact .inr ⟨_, rfl, Post.now q h (.int _)⟩
  · cases e
def dAbs : D → Option Sv
  | .int i => some (.imm (.int (if i < 0 then -i else i)))
  | _ => none
theorem us_abs : UnS X (fun v H Q => (fun xs H Q => ∃ i, xs = [V.int i] ∧ Q (.int (if i < 0 then -i else i)) H) [v] H Q) dAbs := by
  intro H M O π ρ σ v1 d1 res Q h r1 e q
  unfold dAbs at e
  split at e
  · cases e
    cases r1.inI
    exact ⟨_, rfl, Post.now q h (.int _)⟩
  · cases e
def boolsOf : List D → Option (List Bool)
  | [] => some []
  | .bool b :: r => (boolsOf r).map (b :: ·)
  | _ :: _ => none
theorem bools_reps {K : PySem.W.Frag} {H : Hp} {M : Mset} : ∀ {vs : List V} {ds : List D} {bs : List Bool}, Reps K H M vs ds → boolsOf ds = some bs → vs = bs.map V.bl
  | _, _, _, .nil, e => by cases e; rfl
  | _, _, bs, .cons h r, e => by
    cases h with
    | bl b =>
      obtain ⟨cs, e1, rfl⟩ := Option.map_eq_some_iff.mp (show (boolsOf _).map (b :: ·) = some bs from e)
      rw [bools_reps r e1]; rfl
    | _ => cases e
def dAll : D → Option Sv
  | .list ds => (boolsOf ds).map fun bs => .imm (.bool (bs.all id))
  | _ => none
def dAny : D → Option Sv
  | .list ds => (boolsOf ds).map fun bs => .imm (.bool (bs.any id))
  | _ => none
theorem us_all : UnS X (fun v H Q => rAll X.K [v] H Q) dAll := by
  intro H M O π ρ σ v1 d1 res Q h r1 e q
  unfold dAll at e
  split at e
  · obtain ⟨bs, e1, rfl⟩ := Option.map_eq_some_iff.mp e
    obtain ⟨a, vs, rfl, rd, rs⟩ := r1.inL
    exact ⟨a, bs, rfl, .inl (by rw [← bools_reps rs e1]; exact rd), Post.now q h (.bl _)⟩
  · cases e
theorem us_any : UnS X (fun v H Q => rAny X.K [v] H Q) dAny := by
  intro H M O π ρ σ v1 d1 res Q h r1 e q
  unfold dAny at e
  split at e
  · obtain ⟨bs, e1, rfl⟩ := Option.map_eq_some_iff.mp e
    obtain ⟨a, vs, rfl, rd, rs⟩ := r1.inL
    exact ⟨a, bs, rfl, .inl (by rw [← bools_reps rs e1]; exact rd), Post.now q h (.bl _)⟩
  · cases e
end
end Vi

namespace Vi
open PySem PySem.Spec PyProof.Rows L2

/-! ### lists of expressions, each fixed as it comes -/
abbrev MA := Fm → Option (List D × Fm)
def tA (K : PySem.W.Frag) (m : MA) : TA := fun σ H Q => ∃ ρ M O π ds ρ', SR K H M O π ρ σ ∧ m ρ = some (ds, ρ') ∧ ∀ vs H' M', Ext O H M H' M' → SR K H' M' O π ρ' σ → Reps K H' M' vs ds → Q vs H'
def DA (X : Cx) (es : List Expr) (m : MA) : Prop := PA X es (tA X.K m)
def mNil : MA := fun ρ => some ([], ρ)
def mCons (me : ME) (ma : MA) : MA := fun ρ => match me ρ with
  | some (pr, ρ1) => match frz ρ1 pr with
    | some (d, ρ2) => match ma ρ2 with
      | some (ds, ρ3) => some (d :: ds, ρ3)
      | none => none
    | none => none
  | none => none
section
variable {X : Cx} {a b c e : Expr} {es rest : List Expr} {ma mb me : ME} {mes : MA} {pos : Pos}
theorem da_nil : DA X [] mNil := PA.imp pa_nil fun σ H Q ⟨ρ, M, O, π, ds, ρ', h, e, q⟩ => by
  cases e
  exact q [] H M (.refl h) h .nil
theorem da_cons (he : DE X e me) (hes : DA X es mes) (hs : starEach (e :: es) X.env = (false, eval e X.env) :: starEach es X.env := by rfl) : DA X (e :: es) (mCons me mes) :=
  PA.imp (pa_cons he hes hs) fun σ H Q ⟨ρ, M, O, π, ds, ρ', h, e, q⟩ => by
    unfold mCons at e
    split at e
    · rename_i pr ρ1 e1
      split at e
      · rename_i d ρ2 e2
        split at e
        · rename_i ds' ρ3 e3
          simp only [Option.some.injEq, Prod.mk.injEq] at e
          obtain ⟨rfl, rfl⟩ := e
          refine ⟨ρ, M, O, π, pr, ρ1, h, e1, fun v H1 M1 x1 s1 r1 => ?_⟩
          obtain ⟨M2, x2, s2, r2⟩ := frz_ok s1 r1 e2
          exact ⟨ρ2, M2, O, π, ds', ρ3, s2, e3, fun vs H3 M3 x3 s3 r3 => q (v :: vs) H3 M3 ((x1.trans x2).trans x3) s3 (.cons (r2.tr x3.tr) r3)⟩
        · cases e
      · cases e
    · cases e
def mTup (m : MA) : ME := fun ρ => match m ρ with
  | some (ds, ρ1) => if fits ds.length = true then some (.val (.imm (.tuple ds)), ρ1) else none
  | none => none
def mLst (m : MA) : ME := fun ρ => match m ρ with
  | some (ds, ρ1) => if fits ds.length = true then some (.val (.own false ds), ρ1) else none
  | none => none
theorem de_tup {k : Nat} (hes : DA X es mes) : DE X (.Tuple es k pos) (mTup mes) := PE.imp (pe_tup hes) fun σ H Q ⟨ρ, M, O, π, pr, ρ', h, e, q⟩ => by
  unfold mTup at e
  split at e
  · rename_i ds ρ1 e1
    split at e
    · rename_i hz
      simp only [Option.some.injEq, Prod.mk.injEq] at e
      obtain ⟨rfl, rfl⟩ := e
      exact ⟨ρ, M, O, π, ds, ρ1, h, e1, fun vs H1 M1 x1 s1 r1 => ⟨by rw [r1.length]; exact fits_le hz, fun p hp => Post.tup (Q := Q) (fun v H' M' x2 => q v H' M' (x1.trans x2)) s1 r1 hp⟩⟩
    · cases e
  · cases e
theorem de_lst (hes : DA X es mes) : DE X (.List es pos) (mLst mes) := PE.imp (pe_lst hes) fun σ H Q ⟨ρ, M, O, π, pr, ρ', h, e, q⟩ => by
  unfold mLst at e
  split at e
  · rename_i ds ρ1 e1
    split at e
    · rename_i hz
      simp only [Option.some.injEq, Prod.mk.injEq] at e
      obtain ⟨rfl, rfl⟩ := e
      exact ⟨ρ, M, O, π, ds, ρ1, h, e1, fun vs H1 M1 x1 s1 r1 => ⟨by rw [r1.length]; exact fits_le hz, fun p hp => Post.lst (Q := Q) (fun v H' M' x2 => q v H' M' (x1.trans x2)) s1 r1 hp⟩⟩
    · cases e
  · cases e

/-! ### truth, tests -/
def dTru : D → Option Bool
  | .none => some false
  | .bool b => some b
  | .int i => some (i != 0)
  | .str x => if fits x.length = true then some ((x.length : Int) != 0) else none
  | .list ds => some (!ds.isEmpty)
  | .tuple ds => some (!ds.isEmpty)
  | _ => none
theorem reps_empty {K : PySem.W.Frag} {H : Hp} {M : Mset} {vs : List V} {ds : List D} (r : Reps K H M vs ds) : vs.isEmpty = ds.isEmpty := by cases r <;> rfl
theorem tru_vw {K : PySem.W.Frag} {H : Hp} {M : Mset} {v : V} {d : D} {k : Bool} (r : VW K H M v d) (e : dTru d = some k) : TruV K v H k := by
  cases d with
  | none => cases e; cases r.inN; rfl
  | bool b => cases e; cases r.inB; rfl
  | int b => cases e; cases r.inI; rfl
  | str b =>
    unfold dTru at e
    simp only at e
    split at e
    · rename_i hz
      cases e; cases r.inS; exact ⟨fits_le hz, rfl⟩
    · cases e
  | list b =>
    cases e
    obtain ⟨a, vs, rfl, h, rs⟩ := r.inL
    exact .inl ⟨vs, .inl h, by rw [reps_empty rs]⟩
  | tuple b =>
    cases e
    obtain ⟨a, vs, rfl, h, rs⟩ := r.inT
    exact .inr (.inl ⟨vs, h.sq, by rw [reps_empty rs]⟩)
  | dict b => cases e
abbrev MT := Fm → Option (Bool × Fm)
def tT (K : PySem.W.Frag) (m : MT) : TT := fun σ H Q => ∃ ρ M O π b ρ', SR K H M O π ρ σ ∧ m ρ = some (b, ρ') ∧ ∀ H' M', Ext O H M H' M' → SR K H' M' O π ρ' σ → Q b H'
def DT (X : Cx) (e : Expr) (m : MT) : Prop := PT X e (tT X.K m)
def mTru (ma : ME) : MT := fun ρ => match ma ρ with
  | some (pr, ρ1) => match peek ρ1 pr with
    | some d => match dTru d with
      | some b => some (b, ρ1)
      | none => none
    | none => none
  | none => none
/-- a value of any kind as a test -/
theorem dt_tru (ha : DE X a ma) (he : ∀ whole, isTrue a X.env whole = (do let v ← whole; standAt a.pos; holding [v] (truthy v)) := by intro _; rfl) : DT X a (mTru ma) :=
  PT.imp (pt_truth ha he) fun σ H Q ⟨ρ, M, O, π, b, ρ', h, e, q⟩ => by
    unfold mTru at e
    split at e
    · rename_i pr ρ1 e1
      split at e
      · rename_i d e2
        split at e
        · rename_i k e3
          simp only [Option.some.injEq, Prod.mk.injEq] at e
          obtain ⟨rfl, rfl⟩ := e
          exact ⟨ρ, M, O, π, pr, ρ1, h, e1, fun v H1 M1 x1 s1 r1 => ⟨k, tru_vw (peek_vw s1 r1 e2) e3, q H1 M1 x1 s1⟩⟩
        · cases e
      · cases e
    · cases e
def mB (m : ME) : MT := fun ρ => match m ρ with
  | some (.val (.imm (.bool b)), ρ1) => some (b, ρ1)
  | _ => none
theorem tT_B {K : PySem.W.Frag} {m : ME} {σ : St} {H : Hp} {Q : Bool → Hp → Prop} (h : tT K (mB m) σ H Q) : tE K m σ H fun x H' => ∃ k, x = .bl k ∧ Q k H' := by
  obtain ⟨ρ, M, O, π, b, ρ', h, e, q⟩ := h
  unfold mB at e
  split at e
  · rename_i k ρ1 e1
    simp only [Option.some.injEq, Prod.mk.injEq] at e
    obtain ⟨rfl, rfl⟩ := e
    refine ⟨ρ, M, O, π, _, ρ1, h, e1, fun v H1 M1 x1 s1 r1 => ⟨k, ?_, q H1 M1 x1 s1⟩⟩
    cases (show Rep K H1 M1 v (.bool k) from r1)
    rfl
  · cases e
theorem dt_cmp {op : CmpOp} {r : R2} {f : D → D → Option Sv} (ho : OpR X (compareOp op) r) (hs : OpS X r f) (ha : DE X a ma) (hb : DE X b mb) (hm : behindInMarks op b = false) : DT X (.Compare a [op] [b] pos) (mB (bin f ma mb)) :=
  PT.imp (pt_cmpR ho ha hb hm) fun σ H Q h => tE_bin hs (tT_B h)
def mNotT (m : MT) : MT := fun ρ => match m ρ with
  | some (b, ρ1) => some (!b, ρ1)
  | none => none
variable {mt mu : MT}
theorem dt_not (ha : DT X a mt) : DT X (.UnaryOp .Not a pos) (mNotT mt) := PT.imp (pt_not ha) fun σ H Q ⟨ρ, M, O, π, b, ρ', h, e, q⟩ => by
  unfold mNotT at e
  split at e
  · rename_i k ρ1 e1
    simp only [Option.some.injEq, Prod.mk.injEq] at e
    obtain ⟨rfl, rfl⟩ := e
    exact ⟨ρ, M, O, π, k, ρ1, h, e1, q⟩
  · cases e
def DW (X : Cx) (e : Expr) (m : MT) : Prop := PW X e (tT X.K m)
theorem dt_w (h : DW X e mt) : DT X e mt := PW.pt h
theorem dw_and1 (h : DT X a mt) : DW X (.BoolOp .And [a] pos) mt := pw_and1 h
theorem dw_or1 (h : DT X a mt) : DW X (.BoolOp .Or [a] pos) mt := pw_or1 h
def mAndT (m n : MT) : MT := fun ρ => match m ρ with
  | some (true, ρ1) => n ρ1
  | some (false, ρ1) => some (false, ρ1)
  | none => none
def mOrT (m n : MT) : MT := fun ρ => match m ρ with
  | some (false, ρ1) => n ρ1
  | some (true, ρ1) => some (true, ρ1)
  | none => none
theorem _root_.L2.PW.imp {X : Cx} {e : Expr} {t t' : TT} (h : PW X e t) (i : ∀ σ H Q, t' σ H Q → t σ H Q) : PW X e t' := ⟨fun w pins s σ H Q I q => h.run w pins s σ H Q I (i σ H Q q)⟩
theorem dw_and (ha : DT X a mt) (hb : DW X (.BoolOp .And (b :: rest) pos) mu) : DW X (.BoolOp .And (a :: b :: rest) pos) (mAndT mt mu) := PW.imp (pw_and ha hb) fun σ H Q ⟨ρ, M, O, π, r, ρ', h, e, q⟩ => by
  unfold mAndT at e
  split at e
  · rename_i ρ1 e1
    exact ⟨ρ, M, O, π, true, ρ1, h, e1, fun H1 M1 x1 s1 => ⟨ρ1, M1, O, π, r, ρ', s1, e, fun H2 M2 x2 s2 => q H2 M2 (x1.trans x2) s2⟩⟩
  · rename_i ρ1 e1
    simp only [Option.some.injEq, Prod.mk.injEq] at e
    obtain ⟨rfl, rfl⟩ := e
    exact ⟨ρ, M, O, π, false, ρ1, h, e1, fun H1 M1 x1 s1 => q H1 M1 x1 s1⟩
  · cases e
theorem dw_or (ha : DT X a mt) (hb : DW X (.BoolOp .Or (b :: rest) pos) mu) : DW X (.BoolOp .Or (a :: b :: rest) pos) (mOrT mt mu) := PW.imp (pw_or ha hb) fun σ H Q ⟨ρ, M, O, π, r, ρ', h, e, q⟩ => by
  unfold mOrT at e
  split at e
  · rename_i ρ1 e1
    exact ⟨ρ, M, O, π, false, ρ1, h, e1, fun H1 M1 x1 s1 => ⟨ρ1, M1, O, π, r, ρ', s1, e, fun H2 M2 x2 s2 => q H2 M2 (x1.trans x2) s2⟩⟩
  · rename_i ρ1 e1
    simp only [Option.some.injEq, Prod.mk.injEq] at e
    obtain ⟨rfl, rfl⟩ := e
    exact ⟨ρ, M, O, π, true, ρ1, h, e1, fun H1 M1 x1 s1 => q H1 M1 x1 s1⟩
  · cases e

/-! ### a if c else b; and, or, not as values -/
def mIf (c : MT) (ma mb : ME) : ME := fun ρ => match c ρ with
  | some (true, ρ1) => ma ρ1
  | some (false, ρ1) => mb ρ1
  | none => none
theorem de_if (hc : DT X c mt) (ha : DE X a ma) (hb : DE X b mb) : DE X (.IfExp c a b pos) (mIf mt ma mb) := PE.imp (pe_ifExp hc ha hb) fun σ H Q ⟨ρ, M, O, π, r, ρ', h, e, q⟩ => by
  unfold mIf at e
  split at e
  · rename_i ρ1 e1
    exact ⟨ρ, M, O, π, true, ρ1, h, e1, fun H1 M1 x1 s1 => ⟨ρ1, M1, O, π, r, ρ', s1, e, fun v H2 M2 x2 s2 r2 => q v H2 M2 (x1.trans x2) s2 r2⟩⟩
  · rename_i ρ1 e1
    exact ⟨ρ, M, O, π, false, ρ1, h, e1, fun H1 M1 x1 s1 => ⟨ρ1, M1, O, π, r, ρ', s1, e, fun v H2 M2 x2 s2 r2 => q v H2 M2 (x1.trans x2) s2 r2⟩⟩
  · cases e
def mOr (ma mb : ME) : ME := fun ρ => match ma ρ with
  | some (pr, ρ1) => match peek ρ1 pr with
    | some d => match dTru d with
      | some true => some (pr, ρ1)
      | some false => mb ρ1
      | none => none
    | none => none
  | none => none
def mAnd (ma mb : ME) : ME := fun ρ => match ma ρ with
  | some (pr, ρ1) => match peek ρ1 pr with
    | some d => match dTru d with
      | some false => some (pr, ρ1)
      | some true => mb ρ1
      | none => none
    | none => none
  | none => none
theorem de_one {op} (h : DE X a ma) : DE X (.BoolOp op [a] pos) ma := pe_one h
theorem de_or (ha : DE X a ma) (hb : DE X (.BoolOp .Or (b :: rest) pos) mb) : DE X (.BoolOp .Or (a :: b :: rest) pos) (mOr ma mb) := PE.imp (pe_orT ha hb) fun σ H Q ⟨ρ, M, O, π, r, ρ', h, e, q⟩ => by
  unfold mOr at e
  split at e
  · rename_i pr ρ1 e1
    split at e
    · rename_i d e2
      split at e
      · rename_i e3
        simp only [Option.some.injEq, Prod.mk.injEq] at e
        obtain ⟨rfl, rfl⟩ := e
        exact ⟨ρ, M, O, π, pr, ρ1, h, e1, fun v H1 M1 x1 s1 r1 => ⟨true, tru_vw (peek_vw s1 r1 e2) e3, iteT (q v H1 M1 x1 s1 r1)⟩⟩
      · rename_i e3
        exact ⟨ρ, M, O, π, pr, ρ1, h, e1, fun v H1 M1 x1 s1 r1 => ⟨false, tru_vw (peek_vw s1 r1 e2) e3, iteF ⟨ρ1, M1, O, π, r, ρ', s1, e, fun v H2 M2 x2 s2 r2 => q v H2 M2 (x1.trans x2) s2 r2⟩⟩⟩
      · cases e
    · cases e
  · cases e
theorem de_and (ha : DE X a ma) (hb : DE X (.BoolOp .And (b :: rest) pos) mb) : DE X (.BoolOp .And (a :: b :: rest) pos) (mAnd ma mb) := PE.imp (pe_andT ha hb) fun σ H Q ⟨ρ, M, O, π, r, ρ', h, e, q⟩ => by
  unfold mAnd at e
  split at e
  · rename_i pr ρ1 e1
    split at e
    · rename_i d e2
      split at e
      · rename_i e3
        simp only [Option.some.injEq, Prod.mk.injEq] at e
        obtain ⟨rfl, rfl⟩ := e
        exact ⟨ρ, M, O, π, pr, ρ1, h, e1, fun v H1 M1 x1 s1 r1 => ⟨false, tru_vw (peek_vw s1 r1 e2) e3, iteF (q v H1 M1 x1 s1 r1)⟩⟩
      · rename_i e3
        exact ⟨ρ, M, O, π, pr, ρ1, h, e1, fun v H1 M1 x1 s1 r1 => ⟨true, tru_vw (peek_vw s1 r1 e2) e3, iteT ⟨ρ1, M1, O, π, r, ρ', s1, e, fun v H2 M2 x2 s2 r2 => q v H2 M2 (x1.trans x2) s2 r2⟩⟩⟩
      · cases e
    · cases e
  · cases e
def dNot (d : D) : Option Sv := (dTru d).map fun b => .imm (.bool (!b))
theorem de_not (ha : DE X a ma) : DE X (.UnaryOp .Not a pos) (un dNot ma) := PE.imp (pe_notT ha) fun σ H Q h =>
  tE_un (r := fun x H1 Q => ∃ k, TruV X.K x H1 k ∧ Q (.bl (!k)) H1) (by
    intro H M O π ρ σ v1 d1 res Q h r1 e q
    obtain ⟨b, e1, rfl⟩ := Option.map_eq_some_iff.mp e
    exact ⟨b, tru_vw r1 e1, Post.now q h (.bl _)⟩) h

/-! ### slices -/
abbrev MO := Fm → Option (Option Int × Fm)
def tO (K : PySem.W.Frag) (m : MO) : TO := fun σ H Q => ∃ ρ M O π i ρ', SR K H M O π ρ σ ∧ m ρ = some (i, ρ') ∧ ∀ H' M', Ext O H M H' M' → SR K H' M' O π ρ' σ → Q i H'
def DO (X : Cx) (e : Option Expr) (m : MO) : Prop := PO X e (tO X.K m)
theorem _root_.L2.PO.imp {X : Cx} {e : Option Expr} {t t' : TO} (h : PO X e t) (i : ∀ σ H Q, t' σ H Q → t σ H Q) : PO X e t' := ⟨fun pins s σ H Q I q => h.run pins s σ H Q I (i σ H Q q)⟩
def mNoPart : MO := fun ρ => some (none, ρ)
def mPart (ma : ME) : MO := fun ρ => match ma ρ with
  | some (pr, ρ1) => match peek ρ1 pr with
    | some (.int i) => some (some i, ρ1)
    | _ => none
  | none => none
theorem do_none : DO X none mNoPart := PO.imp po_none fun σ H Q ⟨ρ, M, O, π, i, ρ', h, e, q⟩ => by
  cases e
  exact q H M (.refl h) h
theorem do_some (ha : DE X a ma) : DO X (some a) (mPart ma) := PO.imp (po_some ha) fun σ H Q ⟨ρ, M, O, π, r, ρ', h, e, q⟩ => by
  unfold mPart at e
  split at e
  · rename_i pr ρ1 e1
    split at e
    · rename_i i e2
      simp only [Option.some.injEq, Prod.mk.injEq] at e
      obtain ⟨rfl, rfl⟩ := e
      exact ⟨ρ, M, O, π, pr, ρ1, h, e1, fun v H1 M1 x1 s1 r1 => ⟨i, (peek_vw s1 r1 e2).inI, q H1 M1 x1 s1⟩⟩
    · cases e
  · cases e
def cutD (ds : List D) (lo hi : Option Int) : List D := (ds.drop (HT.sIx ds.length 0 lo)).take (HT.sIx ds.length ds.length hi - HT.sIx ds.length 0 lo)
theorem cut_rep {K : PySem.W.Frag} {H : Hp} {M : Mset} {vs : List V} {ds : List D} (r : Reps K H M vs ds) (lo hi : Option Int) : Reps K H M (cutV vs lo hi) (cutD ds lo hi) := by
  unfold cutV cutD
  rw [r.length]
  exact (r.drop _).take _
theorem cutD_whole {ds : List D} {lo hi : Option Int} (h : HT.sIx ds.length 0 lo = 0 ∧ HT.sIx ds.length ds.length hi = ds.length) : cutD ds lo hi = ds := by
  unfold cutD
  rw [h.1, h.2]
  simp
def dCut (lo hi : Option Int) : D → Option Sv
  | .list ds => some (.own false (cutD ds lo hi))
  | .tuple ds => some (.imm (.tuple (cutD ds lo hi)))
  | .dict kvs => some (.own false (cutD (kvs.map Prod.fst) lo hi))
  | _ => none
def mSl (me : ME) (ml mh : MO) : ME := fun ρ => match me ρ with
  | some (pr, ρ1) => match ml ρ1 with
    | some (lo, ρ2) => match mh ρ2 with
      | some (hi, ρ3) => match peek ρ3 pr with
        | some d => match dCut lo hi d with
          | some s => some (.val s, ρ3)
          | none => none
        | none => none
      | none => none
    | none => none
  | none => none
theorem de_sl {lo hi : Option Expr} {ml mh : MO} {p2 : Pos} (he : DE X e me) (hl : DO X lo ml) (hh : DO X hi mh) : DE X (.Subscript e (.Slice lo hi none p2) pos) (mSl me ml mh) :=
  PE.imp (pe_slice (sl_list.or sl_tupA) he hl hh) fun σ H Q ⟨ρ, M, O, π, r, ρ', h, e, q⟩ => by
    unfold mSl at e
    split at e
    · rename_i pr ρ1 e1
      split at e
      · rename_i lo ρ2 e2
        split at e
        · rename_i hi ρ3 e3
          split at e
          · rename_i d e4
            split at e
            · rename_i s e5
              simp only [Option.some.injEq, Prod.mk.injEq] at e
              obtain ⟨rfl, rfl⟩ := e
              refine ⟨ρ, M, O, π, pr, ρ1, h, e1, fun v H1 M1 x1 s1 r1 => ⟨ρ1, M1, hold O pr v, π, lo, ρ2, s1.hold r1, e2, fun H2 M2 x2 s2 => ⟨ρ2, M2, hold O pr v, π, hi, ρ3, s2, e3, fun H3 M3 x3 s3 => ?_⟩⟩⟩
              have s3' := s3.less (hold_le O pr v)
              have xx := x2.trans x3
              have vw := peek_vw s3' (r1.held xx s3) e4
              have q' : Post X.K H3 M3 O π ρ3 σ s Q := fun w H' M' x4 => q w H' M' ((x1.trans (xx.less (hold_le O pr v))).trans x4)
              unfold dCut at e5
              split at e5
              · cases e5
                obtain ⟨a, vs, rfl, rd, rs⟩ := vw.inL
                exact .inl ⟨a, vs, rfl, .inl rd, fun p hp => q'.lst s3' (cut_rep rs lo hi) hp⟩
              · cases e5
                have vw' := vw
                obtain ⟨a, vs, rfl, rd, rs⟩ := vw.inT
                refine .inr ⟨a, vs, rfl, rd.sq, fun hw => ?_, fun _ p hp => q'.tup s3' (cut_rep rs lo hi) hp⟩
                rw [rs.length] at hw
                rw [cutD_whole hw] at q'
                exact q'.now s3' vw'
              · cases e5
                obtain ⟨a, vs, rfl, rd, rs⟩ := vw.inScr
                exact .inl ⟨a, vs, rfl, rd.sq, fun p hp => q'.lst s3' (cut_rep rs lo hi) hp⟩
              · cases e5
            · cases e
          · cases e
        · cases e
      · cases e
    · cases e
end
end Vi

namespace Vi
open PySem PySem.Spec PyProof.Rows L2

/-! ### sorted -/
section
variable {prog : Program} {w : World} {A : Around} {E : Value → Shared → Prop} {s : Shared} {β : Type} {vs : List Value} {bs : List β} {enc : β → PyData} {R : Value → β → Prop}
theorem sorted_seq {l : Addr} {T : String} {o : Obj} {n : Nat} {Q : Value → Shared → Prop} (hT : T = "list" ∨ T = "tuple") (ho : s.heap.get? l = some o) (hc : o.cls = .type T) (hd : o.data = .seq vs.toArray n) (e : W.EachIs R vs bs)
    (er : W.EachIs (fun v b => ∃ as, Reads s.heap v (enc b) as) vs bs) (hal : W.AllAlike (bs.map enc)) (hk : W.Sortable (bs.map enc)) (hL : bs.length ≤ sizeLine) (hu : ∀ b, b ∈ bs → A.units + 2 + (enc b).depth < cLine)
    (h : ∀ (h' : Heap) (out : List Value), out.length = bs.length → (∀ b o', s.heap.get? b = some o' → h'.get? b = some o') → W.EachIs R out (bs.mergeSort (W.dataLe false enc)) → Q (.ref h'.objs.size) { s with heap := sortedHeap (h'.push (seqObj "list" vs.toArray 0)) h'.objs.size vs out.toArray }) :
    wpAny (model prog w) A (call (.builtin "sorted") [.ref l]) Q E s := by
  have hlen := e.length
  refine call_function_entry_kw kind_sorted plain_sorted entry_sorted (args_sorted1 _) ?_
  unfold Builtin.«sorted»
  refine wpAny_bind (m := checkCount "sorted" 1 1 _) (wpAny_pure ?_)
  refine wpAny_bind (wpAny_collect_seq l hT ho hc hd (fun h' kp => ?_) (by simp only [List.size_toArray]; omega))
  refine wpAny_bind (wpAny_newList ?_ (by show vs.length ≤ _; omega))
  have at_ : (h'.push (seqObj "list" vs.toArray 0)).get? h'.objs.size = some (seqObj "list" vs.toArray 0) := Heap.get?_push_size _ rfl
  have kp2 : ∀ b o', s.heap.get? b = some o' → (h'.push (seqObj "list" vs.toArray 0)).get? b = some o' := fun b o' q => Heap.get?_push_of_some _ (kp b o' q)
  have ne : ∀ b o', h'.get? b = some o' → b ≠ h'.objs.size := fun b o' q => Nat.ne_of_lt (Heap.lt_size q)
  have er' : W.EachIs (fun v b => ∃ as, Reads (W.sortingHeap (h'.push (seqObj "list" vs.toArray 0)) h'.objs.size vs) v (enc b) as) vs bs :=
    er.mono fun _ _ ⟨as, r⟩ => ⟨as, PyProof.Rows.Reads.keeps (fun b o' q => W.sortingHeap_old (ne b o' (kp b o' q)) (kp2 b o' q)) r⟩
  refine wpAny_bind (wpAny_holding (wpAny_call_entry_kw slot_list_sort ⟨_, at_, rfl⟩ entry_list_sort ?body (args_list_sort _)))
  case body =>
    show wpAny (model prog w) A.in1.in1 (Builtin.«list.sort» ⟨[.ref h'.objs.size], []⟩) _ _ { s with heap := h'.push (seqObj "list" vs.toArray 0) }
    refine wpAny_mono (W.list_sort_vals (κ := W.dataKind (W.sortingHeap (h'.push (seqObj "list" vs.toArray 0)) h'.objs.size vs) (bs.map enc)) (P := fun f s' => f = .done (.ret .none) ∧ Q (.ref h'.objs.size) s') at_ (W.SortsAt.data (s := { s with heap := W.sortingHeap (h'.push (seqObj "list" vs.toArray 0)) h'.objs.size vs }) (W.each_map (R := fun v d => ∃ as, Reads (W.sortingHeap (h'.push (seqObj "list" vs.toArray 0)) h'.objs.size vs) v d as) enc er') hal hk (W.bound_map hu)) (by omega) ⟨rfl, ?_⟩) (fun f s' hf => ?_) fun _ _ e => e
    · exact h h' _ (by rw [W.sortVals_length false rfl]; exact hlen) kp (W.sortVals_data false e er' hal)
    · obtain ⟨rfl, hq⟩ := hf
      exact ⟨_, rfl, wpAny_pure ⟨_, rfl, hq⟩⟩
end

/-- by insertion -/
def ins {β : Type} (le : β → β → Bool) (x : β) : List β → List β
  | [] => [x]
  | y :: ys => if le x y = true then x :: y :: ys else y :: ins le x ys
def isort {β : Type} (le : β → β → Bool) : List β → List β
  | [] => []
  | x :: xs => ins le x (isort le xs)
theorem ins_split {β : Type} {le : β → β → Bool} {x : β} : ∀ {l r : List β}, (∀ b ∈ l, le x b = false) → (∀ b, r.head? = some b → le x b = true) → ins le x (l ++ r) = l ++ x :: r
  | [], [], _, _ => rfl
  | [], y :: r, _, h => by
    show (if le x y = true then x :: y :: r else y :: ins le x r) = x :: y :: r
    rw [if_pos (h y rfl)]
  | b :: l, r, hl, hr => by
    show (if le x b = true then x :: b :: (l ++ r) else b :: ins le x (l ++ r)) = b :: (l ++ x :: r)
    rw [if_neg (by rw [hl b (List.mem_cons_self ..)]; decide), ins_split (fun c hc => hl c (List.mem_cons_of_mem _ hc)) hr]
theorem isort_eq {β : Type} {le : β → β → Bool} (T : W.TotalLe le) : ∀ l : List β, l.mergeSort le = isort le l
  | [] => by rw [List.mergeSort_nil]; rfl
  | x :: l => by
    have tr : ∀ a b c : β, le a b = true → le b c = true → le a c = true := T.trans
    have tt : ∀ a b : β, (le a b || le b a) = true := fun a b => Bool.or_eq_true_iff.mpr (T.total a b)
    obtain ⟨l1, l2, e1, e2, e3⟩ := List.mergeSort_cons (le := le) tr tt x l
    have hs := List.pairwise_mergeSort (le := le) tr tt (x :: l)
    rw [e1] at hs
    rw [e1]
    show l1 ++ x :: l2 = ins le x (isort le l)
    rw [← isort_eq T l, e2]
    refine (ins_split (fun b hb => by simpa using e3 b hb) fun b hb => ?_).symm
    have h2 := (List.pairwise_append.mp hs).2.1
    refine (List.pairwise_cons.mp h2).1 b ?_
    cases l2 with
    | nil => cases hb
    | cons y r => cases hb; exact List.mem_cons_self ..
theorem ins_map {β γ : Type} {le : γ → γ → Bool} (f : β → γ) (x : β) : ∀ l : List β, (ins (fun a b => le (f a) (f b)) x l).map f = ins le (f x) (l.map f)
  | [] => rfl
  | y :: l => by
    show (if le (f x) (f y) = true then x :: y :: l else y :: ins (fun a b => le (f a) (f b)) x l).map f = if le (f x) (f y) = true then f x :: f y :: l.map f else f y :: ins le (f x) (l.map f)
    split
    · rfl
    · rw [List.map_cons, ins_map f x l]
theorem isort_map {β γ : Type} {le : γ → γ → Bool} (f : β → γ) : ∀ l : List β, (isort (fun a b => le (f a) (f b)) l).map f = isort le (l.map f)
  | [] => rfl
  | x :: l => by
    show (ins (fun a b => le (f a) (f b)) x (isort (fun a b => le (f a) (f b)) l)).map f = ins le (f x) (isort le (l.map f))
    rw [ins_map, isort_map f l]
theorem ins_perm {β : Type} {le : β → β → Bool} {x : β} : ∀ l : List β, (ins le x l).Perm (x :: l)
  | [] => .refl _
  | y :: l => by
    show (if le x y = true then x :: y :: l else y :: ins le x l).Perm (x :: y :: l)
    split
    · exact .refl _
    · exact ((ins_perm l).cons y).trans (List.Perm.swap ..)
theorem isort_perm {β : Type} {le : β → β → Bool} : ∀ l : List β, (isort le l).Perm l
  | [] => .refl _
  | x :: l => (ins_perm _).trans ((isort_perm l).cons x)

/-- the order of data -/
def leD : D → D → Bool := W.dataLe false id
def sortD (ds : List D) : List D := isort leD ds
/-- what may be sorted -/
def alikeAllB (ds : List D) : Bool := ds.all fun d => ds.all fun e => W.alike d e
def headB : D → Bool
  | .tuple (_ :: _) => true
  | _ => false
def plainB : D → Bool
  | .none => false
  | .tuple _ => false
  | _ => true
def sortOk (ds : List D) : Bool := alikeAllB ds && (ds.all headB || ds.all plainB) && ds.all okD && fits ds.length
theorem sortOk_al {ds : List D} (h : sortOk ds = true) : W.AllAlike ds := fun d hd e he => by
  unfold sortOk alikeAllB at h
  rw [Bool.and_eq_true, Bool.and_eq_true, Bool.and_eq_true] at h
  exact List.all_eq_true.mp (List.all_eq_true.mp h.1.1.1 d hd) e he
theorem sortOk_so {ds : List D} (h : sortOk ds = true) : W.Sortable ds := by
  unfold sortOk at h
  rw [Bool.and_eq_true, Bool.and_eq_true, Bool.and_eq_true, Bool.or_eq_true] at h
  rcases h.1.1.2 with h | h
  · refine .inl fun d hd => ?_
    have q := List.all_eq_true.mp h d hd
    unfold headB at q
    split at q
    · exact ⟨_, _, rfl⟩
    · cases q
  · refine .inr fun d hd => ?_
    have q := List.all_eq_true.mp h d hd
    unfold plainB at q
    split at q
    · cases q
    · cases q
    · rename_i h1 h2
      exact ⟨fun e => h1 e, fun xs e => h2 xs e⟩
theorem sortOk_dp {ds : List D} (h : sortOk ds = true) : ∀ d ∈ ds, d.depth ≤ 64 := fun d hd => by
  unfold sortOk at h
  rw [Bool.and_eq_true, Bool.and_eq_true, Bool.and_eq_true] at h
  exact SeqAt.depth_of_shaped (List.all_eq_true.mp h.1.2 d hd)
theorem lay_all : ∀ {ds : List D}, (∀ d ∈ ds, d.canLay0 = true) → PyData.canLayAll0 ds = true
  | [], _ => by simp [PyData.canLayAll0]
  | d :: ds, h => by
    rw [PyData.canLayAll0, h d (List.mem_cons_self ..), lay_all fun e he => h e (List.mem_cons_of_mem _ he)]; rfl
theorem sortOk_lay {ds : List D} (h : sortOk ds = true) : PyData.canLayAll0 ds = true := lay_all fun d hd => by
  unfold sortOk at h
  rw [Bool.and_eq_true, Bool.and_eq_true, Bool.and_eq_true] at h
  exact SeqAt.canLay_of_shaped (List.all_eq_true.mp h.1.2 d hd)
theorem sortOk_len {ds : List D} (h : sortOk ds = true) : ds.length ≤ sizeLine := by
  unfold sortOk at h
  rw [Bool.and_eq_true] at h
  exact fits_le h.2
section
variable {X : Cx}
theorem each_zip {R : Value → V × D → Prop} : ∀ {us : List Value} {xs : List V} {ds : List D}, Vals xs us → xs.length = ds.length → (∀ (i : Nat) u x d, us[i]? = some u → xs[i]? = some x → ds[i]? = some d → RelV x u → R u (x, d)) → W.EachIs R us (xs.zip ds)
  | _, _, [], .nil, _, _ => .nil
  | _, _, d :: ds, .cons r t, hl, h => .cons (h 0 _ _ _ rfl rfl rfl r) (each_zip t (by simpa using hl) fun i u x d h1 h2 h3 => h (i + 1) u x d (by simpa using h1) (by simpa using h2) (by simpa using h3))
theorem each_vals : ∀ {us : List Value} {ps : List (V × D)}, W.EachIs (fun u (b : V × D) => RelV b.1 u) us ps → Vals (ps.map Prod.fst) us
  | _, _, .nil => .nil
  | _, _, .cons r t => .cons r (each_vals t)
theorem zip_snd : ∀ {xs : List V} {ds : List D}, xs.length = ds.length → (xs.zip ds).map Prod.snd = ds
  | [], [], _ => rfl
  | x :: xs, d :: ds, h => by rw [List.zip_cons_cons, List.map_cons, zip_snd (by simpa using h)]
theorem readsAll_get {h : Heap} : ∀ {ds : List D} {us : List Value} {as : List Addr} {i : Nat} {u : Value} {d : D}, ReadsAll h us ds as → us[i]? = some u → ds[i]? = some d → ∃ bs, Reads h u d bs
  | [], _, _, i, _, _, r, _, e => by simp at e
  | d :: ds, _, _, 0, _, _, .cons r1 r2, e1, e2 => by
    simp at e1 e2; subst e1; subst e2; exact ⟨_, r1⟩
  | d :: ds, _, _, i + 1, _, _, .cons r1 r2, e1, e2 => readsAll_get r2 (by simpa using e1) (by simpa using e2)
/-- sorted(x) of data: ps, the items with their data, in order -/
def rSortD (K : PySem.W.Frag) : List V → Hp → VK → Prop := fun vs H Q => ∃ (a : Addr) (xs : List V) (ds : List D), vs = [.ref a] ∧ (SqL K H a xs ∨ SqT K H a xs) ∧ xs.length = ds.length ∧ DpAll K H xs ds ∧ sortOk ds = true ∧
  ∀ p, H p = none → Q (.ref p) (upd H p (.lst ((isort (fun a b : V × D => leD a.2 b.2) (xs.zip ds)).map Prod.fst)))
theorem cr_sortD (hu : X.A.units + 70 < cLine) : CallR X (.builtin "sorted") (rSortD X.K) := by
  intro pins s σ H vs us Q I r h
  obtain ⟨a, xs, ds, rfl, hsq, hlen, hdp, hok, q⟩ := h
  rw [Vals.ref1 r]
  have core : ∀ {T : String} {o : Obj} {its : List Value} {n : Nat}, (T = "list" ∨ T = "tuple") → s.heap.get? a = some o → o.cls = .type T → o.data = .seq its.toArray n → Vals xs its → wpAny (model X.prog X.w) X.A (call (.builtin "sorted") [.ref a]) (EP X pins σ Q) X.xe s := by
    intro T o its n hT ho hc hd rv
    obtain ⟨as, hr⟩ := Dp.readsAll I ds xs its hdp rv
    have hzl : (xs.zip ds).length = ds.length := by rw [List.length_zip, hlen, Nat.min_self]
    have e : W.EachIs (fun u (b : V × D) => RelV b.1 u) its (xs.zip ds) := each_zip rv hlen fun i u x d _ _ _ r => r
    have er : W.EachIs (fun u (b : V × D) => ∃ as, Reads s.heap u (id (Prod.snd b)) as) its (xs.zip ds) := each_zip rv hlen fun i u x d h1 _ h3 _ => readsAll_get hr h1 h3
    have em : (xs.zip ds).map (fun b => id (Prod.snd b)) = ds := zip_snd hlen
    refine sorted_seq (enc := fun b : V × D => id b.2) (R := fun u (b : V × D) => RelV b.1 u) hT ho hc hd e er (by rw [em]; exact sortOk_al hok) (by rw [em]; exact sortOk_so hok) (by rw [hzl]; exact sortOk_len hok) (fun b hb => ?_) fun h' out hol kp ho2 => ?_
    · have hm : b.2 ∈ ds := by rw [← em]; exact List.mem_map.mpr ⟨b, hb, rfl⟩
      have := sortOk_dp hok _ hm
      show X.A.units + 2 + b.2.depth < cLine
      omega
    · rw [isort_eq (le := W.dataLe false fun b : V × D => id b.2) (W.sortLe_total _ _ _)] at ho2
      have I1 : Inv X pins σ H { s with heap := h' } := I.kept (t' := s.toks) kp
      have hz : ((isort (fun a b : V × D => leD a.2 b.2) (xs.zip ds)).map Prod.fst).length ≤ sizeLine := by
        rw [List.length_map, (isort_perm _).length_eq, hzl]; exact sortOk_len hok
      have hpush : (h'.push (seqObj "list" its.toArray 0)).get? h'.objs.size = some (seqObj "list" its.toArray 0) := Heap.get?_push_size _ rfl
      obtain ⟨e1, hat⟩ := sortedHeap_at (out := out.toArray) hpush
      refine ⟨.ref h'.objs.size, _, I1.laid (t' := s.toks) (o := .lst ((isort (fun a b : V × D => leD a.2 b.2) (xs.zip ds)).map Prod.fst)) (fun b u eb => ?_) (Nat.le_refl _) ⟨hz, out, e1, each_vals ho2, hat⟩, rfl, q _ I1.fresh⟩
      have hb : b < h'.objs.size := Heap.lt_size eb
      rw [sortedHeap_old (Nat.ne_of_lt hb) (by rw [size_push']; exact Nat.lt_succ_of_lt hb)]
      exact Heap.get?_push_of_some _ eb
  rcases hsq with hsq | hsq
  · obtain ⟨its, rv, ⟨o, n, ho, hc, _, hd⟩, _⟩ := I.list hsq
    exact core (.inl rfl) ho hc hd rv
  · obtain ⟨its, rv, ⟨o, ho, hc, n, hd⟩, _⟩ := I.tuple hsq
    exact core (.inr rfl) ho hc hd rv
def dSort : D → Option Sv
  | .list ds => if sortOk ds = true then some (.own false (sortD ds)) else none
  | .tuple ds => if sortOk ds = true then some (.own false (sortD ds)) else none
  | _ => none
theorem reps_sort {K : PySem.W.Frag} {H : Hp} {M : Mset} : ∀ {ps : List (V × D)}, (∀ b ∈ ps, Rep K H M b.1 b.2) → Reps K H M (ps.map Prod.fst) (ps.map Prod.snd)
  | [], _ => .nil
  | b :: ps, h => .cons (h b (List.mem_cons_self ..)) (reps_sort fun c hc => h c (List.mem_cons_of_mem _ hc))
theorem reps_zip {K : PySem.W.Frag} {H : Hp} {M : Mset} : ∀ {vs : List V} {ds : List D}, Reps K H M vs ds → ∀ b ∈ vs.zip ds, Rep K H M b.1 b.2
  | _, _, .nil, b, hb => by cases hb
  | _, _, .cons h r, b, hb => by
    rw [List.zip_cons_cons] at hb
    rcases List.mem_cons.mp hb with rfl | hb
    · exact h
    · exact reps_zip r b hb
theorem us_sort : UnS X (fun v H Q => rSortD X.K [v] H Q) dSort := by
  intro H M O π ρ σ v1 d1 res Q h r1 e q
  have fin : ∀ {vs : List V} {ds : List D} {p : Addr}, Reps X.K H M vs ds → Post X.K H M O π ρ σ (.own false (sortD ds)) Q → H p = none → Q (.ref p) (upd H p (.lst ((isort (fun a b : V × D => leD a.2 b.2) (vs.zip ds)).map Prod.fst))) := fun {vs ds p} rs q hp => by
    have e2 : sortD ds = (isort (fun a b : V × D => leD a.2 b.2) (vs.zip ds)).map Prod.snd := by
      rw [isort_map (le := leD) Prod.snd, zip_snd rs.length]; rfl
    rw [e2] at q
    exact q.lst h (reps_sort fun b hb => reps_zip rs b ((isort_perm _).mem_iff.mp hb)) hp
  unfold dSort at e
  split at e
  · split at e
    · rename_i hz
      cases e
      obtain ⟨a, vs, rfl, rd, rs⟩ := r1.inL
      exact ⟨a, vs, _, rfl, .inl (.inl rd), rs.length, rs.dp (sortOk_lay hz), hz, fun p hp => fin rs q hp⟩
    · cases e
  · split at e
    · rename_i hz
      cases e
      obtain ⟨a, vs, rfl, rd, rs⟩ := r1.inT
      exact ⟨a, vs, _, rfl, .inr rd.sq, rs.length, rs.dp (sortOk_lay hz), hz, fun p hp => fin rs q hp⟩
    · cases e
  · cases e

/-! ### isinstance -/
inductive Ty where
  | int | bool | str | list | tuple
def Ty.nm : Ty → String
  | .int => "int" | .bool => "bool" | .str => "str" | .list => "list" | .tuple => "tuple"
def tyN : D → Option String
  | .none => some "NoneType" | .bool _ => some "bool" | .int _ => some "int" | .str _ => some "str" | .list _ => some "list" | .tuple _ => some "tuple" | _ => none
def isT : Ty → D → Bool
  | .int, .int _ => true
  | .int, .bool _ => true
  | .bool, .bool _ => true
  | .str, .str _ => true
  | .list, .list _ => true
  | .tuple, .tuple _ => true
  | _, _ => false
theorem kit_is {K : PySem.W.Frag} {d : D} {n : String} (t : Ty) (e : tyN d = some n) : PySem.W.kitOne K (.type n) (.type t.nm) = some (isT t d) := by
  cases d <;> first | cases e | skip
  all_goals (cases t <;> first | exact kit_ty (r := true) (by decide +kernel) | exact kit_ty (r := false) (by decide +kernel))
theorem kit_is2 {K : PySem.W.Frag} {d : D} {n : String} (t u : Ty) (e : tyN d = some n) : PySem.W.kitAny K (.type n) [.type t.nm, .type u.nm] = some (isT t d || isT u d) := by
  cases h : isT t d with
  | true => exact kitAny_cons (kit_is t e) (fun z => by rw [h] at z; cases z) fun _ => rfl
  | false =>
    refine kitAny_cons (kit_is t e) (fun _ => ?_) fun z => by rw [h] at z; cases z
    cases h2 : isT u d with
    | true => exact kitAny_cons (kit_is u e) (fun z => by rw [h2] at z; cases z) fun _ => rfl
    | false => exact kitAny_cons (kit_is u e) (fun _ => kitAny_nil) fun z => by rw [h2] at z; cases z
theorem tyx_of {K : PySem.W.Frag} {H : Hp} {M : Mset} {v : V} {d : D} {n : String} (r : VW K H M v d) (e : tyN d = some n) : TyX K H v (.type n) := by
  cases d with
  | none => cases e; cases r.inN; exact .base .non
  | bool b => cases e; cases r.inB; exact .base (.bl b)
  | int b => cases e; cases r.inI; exact .base (.int b)
  | str b => cases e; cases r.inS; exact .base (.str b)
  | list b =>
    cases e
    obtain ⟨a, vs, rfl, h, rs⟩ := r.inL
    rcases h with h | ⟨o, h⟩
    · exact .base (.lst h)
    · exact .base (.frz h)
  | tuple b =>
    cases e
    obtain ⟨a, vs, rfl, h, rs⟩ := r.inT
    rcases h with ⟨h | ⟨o, h⟩, _⟩ | ⟨o, its, n, h1, h2, _⟩
    · exact .base (.tup h)
    · exact .fTuple h
    · exact .kTuple h1 h2
  | dict b => cases e
def dIsi (t : Ty) (d : D) : Option Sv := (tyN d).map fun _ => .imm (.bool (isT t d))
def dIsi2 (t u : Ty) (d : D) : Option Sv := (tyN d).map fun _ => .imm (.bool (isT t d || isT u d))
variable {a b : Expr} {ma : ME} {pos : Pos}
theorem tC_two {ta : TE} {v : V} {σ : St} {H : Hp} {Q : List V → Hp → Prop} (h : ta σ H fun x H1 => Q [x, v] H1) : tCons ta (tCons (tC v) tNil) σ H Q := h
theorem de_isi {t : Ty} {x : Str} {p : Pos} (hg : Gl X x) (hm : X.mg x = none) (hv : bootBuiltins x = some (.builtin "isinstance")) (ha : DE X a ma) (ht : PE X b (tC (.ty t.nm)))
    (hn : x ≠ "__name__" := by decide) (hd : (x == ("__debug__" : Str)) = false := by decide) (he : starEach [a, b] X.env = (false, eval a X.env) :: starEach [b] X.env := by rfl) (he2 : starEach [b] X.env = (false, eval b X.env) :: starEach [] X.env := by rfl) (hpl : (backTo pos (starEach [b] X.env)).any (·.1) = false := by rfl) :
    DE X (.Call (.Name x p) [a, b] [] pos) (un (dIsi t) ma) :=
  PE.imp (pe_callB call_isi hg hm hv (pa_cons ha (pa_cons ht pa_nil he2) he) hn hd he hpl) fun σ H Q h => tC_two (tE_un (r := fun v H Q => rIsi X.K [v, .ty t.nm] H Q) (by
    intro H M O π ρ σ v1 d1 res Q h r1 e q
    obtain ⟨n, e1, rfl⟩ := Option.map_eq_some_iff.mp e
    exact ⟨_, _, _, _, _, rfl, .ty _, tyx_of r1 e1, kit_is t e1, Post.now q h (.bl _)⟩) h)
/-- isinstance(x, (t, u)): the tuple is laid behind x -/
theorem de_isi2 {t u : Ty} {x : Str} {p p2 : Pos} {b1 b2 : Expr} {k : Nat} (hg : Gl X x) (hm : X.mg x = none) (hv : bootBuiltins x = some (.builtin "isinstance")) (ha : DE X a ma) (h1 : PE X b1 (tC (.ty t.nm))) (h2 : PE X b2 (tC (.ty u.nm)))
    (hn : x ≠ "__name__" := by decide) (hd : (x == ("__debug__" : Str)) = false := by decide) (he : starEach [a, .Tuple [b1, b2] k p2] X.env = (false, eval a X.env) :: starEach [.Tuple [b1, b2] k p2] X.env := by rfl)
    (he2 : starEach [.Tuple [b1, b2] k p2] X.env = (false, eval (.Tuple [b1, b2] k p2) X.env) :: starEach [] X.env := by rfl) (he3 : starEach [b1, b2] X.env = (false, eval b1 X.env) :: starEach [b2] X.env := by rfl) (he4 : starEach [b2] X.env = (false, eval b2 X.env) :: starEach [] X.env := by rfl)
    (hpl : (backTo pos (starEach [.Tuple [b1, b2] k p2] X.env)).any (·.1) = false := by rfl) :
    DE X (.Call (.Name x p) [a, .Tuple [b1, b2] k p2] [] pos) (un (dIsi2 t u) ma) :=
  PE.imp (pe_callB call_isiT hg hm hv (pa_cons ha (pa_cons (pe_tup (pa_cons h1 (pa_cons h2 pa_nil he4) he3)) pa_nil he2) he) hn hd he hpl) fun σ H Q h =>
    tE_un (r := fun v H Q => 2 ≤ sizeLine ∧ ∀ p, H p = none → rIsiT X.K [v, .ref p] (upd H p (.tup [.ty t.nm, .ty u.nm])) Q) (by
      intro H M O π ρ σ v1 d1 res Q h r1 e q
      obtain ⟨n, e1, rfl⟩ := Option.map_eq_some_iff.mp e
      refine ⟨by decide, fun p hp => ?_⟩
      have r1' : VW X.K (upd H p (.tup [.ty t.nm, .ty u.nm])) M v1 d1 := by
        cases d1 with
        | list ds =>
          obtain ⟨a, vs, e, hr, rs⟩ := r1.inL
          refine ⟨a, vs, e, ?_, rs.tr (alloc_tr h hp)⟩
          rcases hr with hr | ⟨o, hr⟩
          · exact .inl (by rw [upd_ne (fun z => by rw [z, hp] at hr; cases hr)]; exact hr)
          · exact .inr ⟨o, by rw [upd_ne (fun z => by rw [z, hp] at hr; cases hr)]; exact hr⟩
        | _ => exact Rep.tr (alloc_tr h hp) r1
      exact ⟨v1, p, _, _, _, _, rfl, upd_same, .cons (.ty _) (.cons (.ty _) .nil), tyx_of r1' e1, kit_is2 t u e1, q _ _ M (.alloc h hp) (h.alloc hp) (.bl _)⟩) h
end
end Vi

namespace Vi
open PySem PySem.Spec PyProof.Rows L2

inductive Fl where
  | next | brk | cont
  | ret (r : Sv)
abbrev MS := Fm → Option (Fl × Fm)
/-- what a def hands back -/
def RV (K : PySem.W.Frag) (H : Hp) (M O : Mset) (ρ : Fm) (σ : St) : Sv → V → Prop
  | .imm d, v => Rep K H M v d
  | .own _ ds, v => ∃ p vs, v = .ref p ∧ H p = some (.lst vs) ∧ M p ∧ ¬ O p ∧ Reps K H M vs ds ∧ ∀ (i : Nat) (es : List D), ρ[i]? = some (some (.own true es)) → σ[i]? ≠ some (some (.ref p))
def SPost (K : PySem.W.Frag) (H : Hp) (M O : Mset) (π : Nat → Option Addr) (D : Ends) (ρ' : Fm) : Fl → Prop
  | .next => ∀ σ' H' M', Ext O H M H' M' → SR K H' M' O π ρ' σ' → D.nx σ' H'
  | .brk => ∀ σ' H' M', Ext O H M H' M' → SR K H' M' O π ρ' σ' → D.bk σ' H'
  | .cont => ∀ σ' H' M', Ext O H M H' M' → SR K H' M' O π ρ' σ' → D.ct σ' H'
  | .ret r => ∀ v σ' H' M', Ext O H M H' M' → SR K H' M' O π ρ' σ' → RV K H' M' O ρ' σ' r v → D.rt v H'
def tS (K : PySem.W.Frag) (m : MS) : TS := fun D σ H => ∃ ρ M O π fl ρ', SR K H M O π ρ σ ∧ m ρ = some (fl, ρ') ∧ SPost K H M O π D ρ' fl
def DS (X : Cx) (s : Stmt) (m : MS) : Prop := PS X s (tS X.K m)
def DSs (X : Cx) (s : List Stmt) (m : MS) : Prop := PSs X s (tS X.K m)
theorem SPost.later {K : PySem.W.Frag} {H H1 : Hp} {M M1 O O1 : Mset} {π : Nat → Option Addr} {D : Ends} {ρ' : Fm} {fl : Fl} (q : SPost K H M O π D ρ' fl) (x : Ext O H M H1 M1) : SPost K H1 M1 O π D ρ' fl := by
  cases fl with
  | next => exact fun σ' H' M' x' => q σ' H' M' (x.trans x')
  | brk => exact fun σ' H' M' x' => q σ' H' M' (x.trans x')
  | cont => exact fun σ' H' M' x' => q σ' H' M' (x.trans x')
  | ret r => exact fun v σ' H' M' x' => q v σ' H' M' (x.trans x')

/-! ### states behind a store -/
section
variable {K : PySem.W.Frag} {H H' : Hp} {M M' O O' : Mset} {π : Nat → Option Addr} {ρ ρ' : Fm} {σ : St} {pr : PR} {v : V} {d : D} {i : Nat}
theorem SR.setImm (h : SR K H M O π ρ σ) (r : Rep K H M v d) : SR K H M O π (ρ.set i (some (.imm d))) (σ.set i (some v)) := by
  refine ⟨by rw [List.length_set, List.length_set]; exact h.len, h.sub, h.live, fun j e f => ?_, fun j b es f => ?_, fun j k b c es fs x hjk f g => ?_⟩
  · rcases get_set f with ⟨hj, g⟩ | ⟨hj, f⟩
    · subst hj
      have hl : j < ρ.length := by
        have := (List.getElem?_eq_some_iff.mp f).1
        rwa [List.length_set] at this
      cases g
      exact ⟨v, by rw [List.getElem?_set_self (by rw [← h.len]; exact hl)], r⟩
    · rw [List.getElem?_set_ne (Ne.symm hj)]; exact h.imm j e f
  · rcases get_set f with ⟨_, g⟩ | ⟨hj, f⟩
    · cases g
    · rw [List.getElem?_set_ne (Ne.symm hj)]; exact h.own j b es f
  · rcases get_set f with ⟨_, z⟩ | ⟨hj, f⟩
    · cases z
    · rcases get_set g with ⟨_, z⟩ | ⟨hk, g⟩
      · cases z
      · rw [List.getElem?_set_ne (Ne.symm hj), List.getElem?_set_ne (Ne.symm hk)]; exact h.uniq j k b c es fs x hjk f g
theorem SR.setOwn {p : Addr} {vs : List V} {ds : List D} (h : SR K H M O π ρ σ) (e1 : H p = some (.lst vs)) (e2 : M p) (e3 : ¬ O p) (r : Reps K H M vs ds) (ha : Apart ρ σ p) : SR K H M O π (ρ.set i (some (.own false ds))) (σ.set i (some (.ref p))) := by
  refine ⟨by rw [List.length_set, List.length_set]; exact h.len, h.sub, h.live, fun j e f => ?_, fun j b es f => ?_, fun j k b c es fs x hjk f g => ?_⟩
  · rcases get_set f with ⟨_, g⟩ | ⟨hj, f⟩
    · cases g
    · rw [List.getElem?_set_ne (Ne.symm hj)]; exact h.imm j e f
  · rcases get_set f with ⟨hj, g⟩ | ⟨hj, f⟩
    · subst hj
      have hl : j < ρ.length := by
        have := (List.getElem?_eq_some_iff.mp f).1
        rwa [List.length_set] at this
      cases g
      exact ⟨p, vs, by rw [List.getElem?_set_self (by rw [← h.len]; exact hl)], e1, e2, e3, r, fun z => by cases z⟩
    · rw [List.getElem?_set_ne (Ne.symm hj)]; exact h.own j b es f
  · rcases get_set f with ⟨hj, z⟩ | ⟨hj, f'⟩
    · cases z
      rcases get_set g with ⟨hk, z⟩ | ⟨hk, g'⟩
      · exact absurd (hj.trans hk.symm) hjk
      · subst hj
        intro q q2
        have hl : j < ρ.length := by
          have := (List.getElem?_eq_some_iff.mp f).1
          rwa [List.length_set] at this
        rw [List.getElem?_set_self (by rw [← h.len]; exact hl)] at q
        cases q
        rw [List.getElem?_set_ne (Ne.symm hk)] at q2
        exact ha k c fs g' q2
    · rcases get_set g with ⟨hk, z⟩ | ⟨hk, g'⟩
      · cases z
        subst hk
        rw [List.getElem?_set_ne (Ne.symm hj)]
        intro q q2
        have hl : k < ρ.length := by
          have := (List.getElem?_eq_some_iff.mp g).1
          rwa [List.length_set] at this
        rw [List.getElem?_set_self (by rw [← h.len]; exact hl)] at q2
        cases q2
        exact ha j b es f' q
      · rw [List.getElem?_set_ne (Ne.symm hj), List.getElem?_set_ne (Ne.symm hk)]; exact h.uniq j k b c es fs x hjk f' g'
theorem get_set_same {α : Type} {l : List α} {i : Nat} {x y : α} (h : l[i]? = some y) : (l.set i x)[i]? = some x := by
  rw [List.getElem?_set_self (List.getElem?_eq_some_iff.mp h).1]
/-- the list that a name owns is written -/
theorem SR.write {a : Addr} {b : Bool} {ws : List V} {ds es : List D} (h : SR K H M O π ρ σ) (e : ρ[i]? = some (some (.own b ds))) (e1 : σ[i]? = some (some (.ref a))) (r : Reps K H M ws es) :
    SR K (upd H a (.lst ws)) M O π (ρ.set i (some (.own b es))) σ ∧ Ext O H M (upd H a (.lst ws)) M ∧ ∀ x u, Rd H x u → ¬ M x → Rd (upd H a (.lst ws)) x u ∧ ¬ M x := by
  obtain ⟨a', vs', f1, f2, f3, f4, f5, f6⟩ := h.own i b ds e
  rw [e1] at f1; cases f1
  have t : ∀ x u, Rd H x u → ¬ M x → Rd (upd H a (.lst ws)) x u ∧ ¬ M x := fun x u q n => by
    have ne : x ≠ a := fun z => n (z ▸ f3)
    refine ⟨?_, n⟩
    rcases q with q | ⟨o, q⟩
    · exact .inl (by rw [upd_ne ne]; exact q)
    · exact .inr ⟨o, by rw [upd_ne ne]; exact q⟩
  refine ⟨⟨by rw [List.length_set]; exact h.len, h.sub, fun x q => ?_, fun j d f => ?_, fun j c fs f => ?_, fun j k b' c fs gs x hjk f g => ?_⟩, ⟨fun x o q z => ?_, h.sub, fun x q => .inl q⟩, t⟩
  · by_cases hx : x = a
    · subst hx; rw [upd_same]; intro z; cases z
    · rw [upd_ne hx]; exact h.live x q
  · rcases get_set f with ⟨_, z⟩ | ⟨hj, f⟩
    · cases z
    · obtain ⟨w, g1, g2⟩ := h.imm j d f
      exact ⟨w, g1, g2.tr t⟩
  · rcases get_set f with ⟨hj, z⟩ | ⟨hj, f⟩
    · cases z
      subst hj
      exact ⟨a, ws, e1, upd_same, f3, f4, r.tr t, f6⟩
    · obtain ⟨x, us, g1, g2, g3, g4, g5, g6⟩ := h.own j c fs f
      have ne : x ≠ a := fun z => by
        subst z
        exact h.uniq i j _ _ _ _ x (Ne.symm hj) e f e1 g1
      exact ⟨x, us, g1, by rw [upd_ne ne]; exact g2, g3, g4, g5.tr t, g6⟩
  · rcases get_set f with ⟨hj, z⟩ | ⟨hj, f'⟩
    · cases z
      rcases get_set g with ⟨hk, z⟩ | ⟨hk, g'⟩
      · exact absurd (hj.trans hk.symm) hjk
      · subst hj; exact h.uniq j k _ _ _ _ x hjk e g'
    · rcases get_set g with ⟨hk, z⟩ | ⟨hk, g'⟩
      · cases z; subst hk; exact h.uniq j k _ _ _ _ x hjk f' e
      · exact h.uniq j k _ _ _ _ x hjk f' g'
  · refine (upd_ne (fun hx => ?_)).trans q
    subst hx
    exact z.elim f4 fun n => n f3
/-- a value that a name is to hold -/
def take (ρ : Fm) : PR → Option (Sv × Fm)
  | .val (.imm d) => some (.imm d, ρ)
  | .val (.own _ ds) => some (.own false ds, ρ)
  | .slot j => match frz ρ (.slot j) with
    | some (d, ρ1) => some (.imm d, ρ1)
    | none => none
def put (i : Nat) (pr : PR) (ρ : Fm) : Option Fm := match take ρ pr with
  | some (sv, ρ1) => some (ρ1.set i (some sv))
  | none => none
theorem put_ok (h : SR K H M O π ρ σ) (r : RP K H M O ρ σ pr v) (e : put i pr ρ = some ρ') : ∃ M', Ext O H M H M' ∧ SR K H M' O π ρ' (σ.set i (some v)) := by
  unfold put at e
  match pr, v, r with
  | .val (.imm d), v, r =>
    cases e
    exact ⟨M, .refl h, h.setImm r⟩
  | .val (.own b ds), v, ⟨p, vs, e1, e2, e3, e4, e5, e6⟩ =>
    cases e
    subst e1
    exact ⟨M, .refl h, h.setOwn e2 e3 e4 e5 e6⟩
  | .slot j, v, r =>
    unfold take at e
    simp only at e
    cases ef : frz ρ (.slot j) with
    | none => rw [ef] at e; cases e
    | some dρ =>
      obtain ⟨d, ρ1⟩ := dρ
      rw [ef] at e
      cases e
      obtain ⟨M', x, s, rr⟩ := frz_ok h r ef
      exact ⟨M', x, s.setImm rr⟩
def give (ρ : Fm) : PR → Option Sv
  | .val s => some s
  | .slot i => match ρ[i]? with
    | some (some (.imm d)) => some (.imm d)
    | some (some (.own false ds)) => some (.own false ds)
    | _ => none
theorem give_ok {r : Sv} (h : SR K H M O π ρ σ) (q : RP K H M O ρ σ pr v) (e : give ρ pr = some r) : RV K H M O ρ σ r v := by
  match pr, v, q with
  | .val (.imm d), v, q => cases e; exact q
  | .val (.own b ds), v, ⟨p, vs, e1, e2, e3, e4, e5, e6⟩ => cases e; exact ⟨p, vs, e1, e2, e3, e4, e5, fun i es f => e6 i true es f⟩
  | .slot i, v, q =>
    have q' : σ[i]? = some (some v) := q
    unfold give at e
    simp only at e
    split at e
    · rename_i d hs
      cases e
      obtain ⟨w, f1, f2⟩ := h.imm i _ hs
      rw [q'] at f1; cases f1; exact f2
    · rename_i ds hs
      cases e
      obtain ⟨a, vs, f1, f2, f3, f4, f5, f6⟩ := h.own i _ ds hs
      rw [q'] at f1; cases f1
      exact ⟨a, vs, rfl, f2, f3, f4, f5, fun j es f g => by
        by_cases hij : i = j
        · subst hij; rw [hs] at f; cases f
        · exact h.uniq i j _ _ _ _ a hij hs f q' g⟩
    · cases e
end

section
variable {X : Cx} {st : Stmt} {rest sa sb : List Stmt} {e : Expr} {me : ME} {m n : MS} {mt : MT} {pos : Pos}
/-! ### blocks -/
def mNext : MS := fun ρ => some (.next, ρ)
def mSeq (m n : MS) : MS := fun ρ => match m ρ with
  | some (.next, ρ1) => n ρ1
  | some (.brk, ρ1) => some (.brk, ρ1)
  | some (.cont, ρ1) => some (.cont, ρ1)
  | some (.ret r, ρ1) => some (.ret r, ρ1)
  | none => none
theorem dss_nil : DSs X [] mNext := PSs.imp pss_nil fun D σ H ⟨ρ, M, O, π, fl, ρ', h, e, q⟩ => by
  cases e
  exact q σ H M (.refl h) h
theorem dss_one (h : DS X st m) : DSs X [st] m := pss_one h
theorem dss_cons (h1 : DS X st m) (h2 : DSs X rest n) : DSs X (st :: rest) (mSeq m n) := PSs.imp (pss_cons h1 h2) fun D σ H ⟨ρ, M, O, π, fl, ρ', h, e, q⟩ => by
  unfold mSeq at e
  split at e
  · rename_i ρ1 e1
    exact ⟨ρ, M, O, π, .next, ρ1, h, e1, fun σ1 H1 M1 x1 s1 => ⟨ρ1, M1, O, π, fl, ρ', s1, e, q.later (O1 := O) x1⟩⟩
  · rename_i ρ1 e1
    cases e
    exact ⟨ρ, M, O, π, .brk, _, h, e1, q⟩
  · rename_i ρ1 e1
    cases e
    exact ⟨ρ, M, O, π, .cont, _, h, e1, q⟩
  · rename_i r ρ1 e1
    cases e
    exact ⟨ρ, M, O, π, .ret r, _, h, e1, q⟩
  · cases e
def mBrk : MS := fun ρ => some (.brk, ρ)
def mCont : MS := fun ρ => some (.cont, ρ)
theorem ds_pass : DS X (.Pass pos) mNext := PS.imp ps_pass fun D σ H ⟨ρ, M, O, π, fl, ρ', h, e, q⟩ => by
  cases e
  exact q σ H M (.refl h) h
theorem ds_brk : DS X (.Break pos) mBrk := PS.imp ps_break fun D σ H ⟨ρ, M, O, π, fl, ρ', h, e, q⟩ => by
  cases e
  exact q σ H M (.refl h) h
theorem ds_cont : DS X (.Continue pos) mCont := PS.imp ps_continue fun D σ H ⟨ρ, M, O, π, fl, ρ', h, e, q⟩ => by
  cases e
  exact q σ H M (.refl h) h
/-- a raise (or whatever is never come to) -/
def mNever : MS := fun _ => none
theorem ds_never : DS X st mNever := PS.imp ps_never fun D σ H ⟨ρ, M, O, π, fl, ρ', h, e, q⟩ => by cases e
def mIfS (c : MT) (m n : MS) : MS := fun ρ => match c ρ with
  | some (true, ρ1) => m ρ1
  | some (false, ρ1) => n ρ1
  | none => none
theorem ds_if {c : Expr} (hc : DT X c mt) (ha : DSs X sa m) (hb : DSs X sb n) : DS X (.If c sa sb pos) (mIfS mt m n) := PS.imp (ps_if hc ha hb) fun D σ H ⟨ρ, M, O, π, fl, ρ', h, e, q⟩ => by
  unfold mIfS at e
  split at e
  · rename_i ρ1 e1
    exact ⟨ρ, M, O, π, true, ρ1, h, e1, fun H1 M1 x1 s1 => iteT ⟨ρ1, M1, O, π, fl, ρ', s1, e, q.later (O1 := O) x1⟩⟩
  · rename_i ρ1 e1
    exact ⟨ρ, M, O, π, false, ρ1, h, e1, fun H1 M1 x1 s1 => iteF ⟨ρ1, M1, O, π, fl, ρ', s1, e, q.later (O1 := O) x1⟩⟩
  · cases e
def mRet (me : ME) : MS := fun ρ => match me ρ with
  | some (pr, ρ1) => match give ρ1 pr with
    | some r => some (.ret r, ρ1)
    | none => none
  | none => none
theorem ds_ret (he : DE X e me) : DS X (.Return (some e) pos) (mRet me) := PS.imp (ps_ret he) fun D σ H ⟨ρ, M, O, π, fl, ρ', h, e, q⟩ => by
  unfold mRet at e
  split at e
  · rename_i pr ρ1 e1
    split at e
    · rename_i r e2
      cases e
      exact ⟨ρ, M, O, π, pr, _, h, e1, fun v H1 M1 x1 s1 r1 => q v σ H1 M1 x1 s1 (give_ok s1 r1 e2)⟩
    · cases e
  · cases e
def mRetN : MS := fun ρ => some (.ret (.imm .none), ρ)
theorem ds_retN : DS X (.Return none pos) mRetN := PS.imp ps_retN fun D σ H ⟨ρ, M, O, π, fl, ρ', h, e, q⟩ => by
  cases e
  exact q .non σ H M (.refl h) h .non
/-- x = e -/
def mSet (i : Nat) (me : ME) : MS := fun ρ => match me ρ with
  | some (pr, ρ1) => match put i pr ρ1 with
    | some ρ2 => some (.next, ρ2)
    | none => none
  | none => none
theorem ds_set {i : Nat} (h : ∀ te, PE X e te → PS X st (tAsg te (gName i))) (he : DE X e me) : DS X st (mSet i me) := PS.imp (h _ he) fun D σ H ⟨ρ, M, O, π, fl, ρ', h, e, q⟩ => by
  unfold mSet at e
  split at e
  · rename_i pr ρ1 e1
    split at e
    · rename_i ρ2 e2
      cases e
      refine ⟨ρ, M, O, π, pr, ρ1, h, e1, fun v H1 M1 x1 s1 r1 => ?_⟩
      obtain ⟨M2, x2, s2⟩ := put_ok s1 r1 e2
      exact q _ H1 M2 (x1.trans x2) s2
    · cases e
  · cases e
/-- an expression whose value is dropped -/
def mDrop (me : ME) : MS := fun ρ => match me ρ with
  | some (_, ρ1) => some (.next, ρ1)
  | none => none
theorem ds_expr (he : DE X e me) (hs : swapsWith e none pos.line X.env = pure false := by rfl) : DS X (.Expr e pos) (mDrop me) := PS.imp (ps_expr he hs) fun D σ H ⟨ρ, M, O, π, fl, ρ', h, e, q⟩ => by
  unfold mDrop at e
  split at e
  · rename_i pr ρ1 e1
    cases e
    exact ⟨ρ, M, O, π, pr, _, h, e1, fun v H1 M1 x1 s1 r1 => q σ H1 M1 x1 s1⟩
  · cases e
theorem ds_doc {x j pos'} : DS X (.Expr (.Constant (.str x) j pos) pos') mNext := PS.imp ps_doc fun D σ H ⟨ρ, M, O, π, fl, ρ', h, e, q⟩ => by
  cases e
  exact q σ H M (.refl h) h

/-! ### methods that change a name's list -/
/-- x.append(e), as an expression -/
def mApp (i : Nat) (me : ME) : ME := fun ρ => match ρ[i]? with
  | some (some (.own _ _)) => match me ρ with
    | some (pr, ρ1) => match frz ρ1 pr with
      | some (d, ρ2) => match ρ2[i]? with
        | some (some (.own b ds)) => if fits (ds.length + 1) = true then some (.val (.imm .none), ρ2.set i (some (.own b (ds ++ [d])))) else none
        | _ => none
      | none => none
    | none => none
  | _ => none
theorem de_app {i : Nat} (h : ∀ t, PA X [e] t → PE X st_e (tBM X.K "list" rAppend (tVar i) t)) (he : DE X e me) (hs : starEach (e :: []) X.env = (false, eval e X.env) :: starEach [] X.env := by rfl) : DE X st_e (mApp i me) :=
  PE.imp (h _ (pa_cons he pa_nil hs)) fun σ H Q ⟨ρ, M, O, π, fl, ρ', h, e, q⟩ => by
    unfold mApp at e
    split at e
    · rename_i b0 ds0 e0
      obtain ⟨a, vs, f1, f2, f3, f4, f5, f6⟩ := h.own i b0 ds0 e0
      refine ⟨.ref a, f1, .inl ⟨rfl, vs, .inl (.inl f2)⟩, ?_⟩
      split at e
      · rename_i pr ρ1 e1
        split at e
        · rename_i d ρ2 e2
          split at e
          · rename_i b ds e3
            split at e
            · rename_i hz
              cases e
              refine ⟨ρ, M, O, π, pr, ρ1, h, e1, fun v H1 M1 x1 s1 r1 => ?_⟩
              obtain ⟨M2, x2, s2, r2⟩ := frz_ok s1 r1 e2
              obtain ⟨a', ws, g1, g2, g3, g4, g5, g6⟩ := s2.own i b ds e3
              rw [f1] at g1; cases g1
              obtain ⟨s3, x3, t3⟩ := s2.write (ws := ws ++ [v]) (es := ds ++ [d]) e3 f1 (g5.append (.cons r2 .nil))
              exact ⟨a, ws, v, rfl, rfl, g2, by have := fits_le hz; rw [g5.length]; omega, q _ _ M2 ((x1.trans x2).trans x3) s3 .non⟩
            · cases e
          · cases e
        · cases e
      · cases e
    · cases e
/-- x.pop(k) -/
def mPopAt (i : Nat) (me : ME) : ME := fun ρ => match ρ[i]? with
  | some (some (.own _ _)) => match me ρ with
    | some (pr, ρ1) => match peek ρ1 pr with
      | some (.int k) => match ρ1[i]? with
        | some (some (.own b ds)) => match seqIndex? k ds.length with
          | some j => match ds[j]? with
            | some d => if decide (-(2 ^ 63) ≤ k ∧ k < 2 ^ 63) = true then some (.val (.imm d), ρ1.set i (some (.own b (ds.eraseIdx j)))) else none
            | none => none
          | none => none
        | _ => none
      | _ => none
    | none => none
  | _ => none
theorem de_popAt {i : Nat} (h : ∀ t, PA X [e] t → PE X st_e (tBM X.K "list" rPopAt (tVar i) t)) (he : DE X e me) (hs : starEach (e :: []) X.env = (false, eval e X.env) :: starEach [] X.env := by rfl) : DE X st_e (mPopAt i me) :=
  PE.imp (h _ (pa_cons he pa_nil hs)) fun σ H Q ⟨ρ, M, O, π, fl, ρ', h, e, q⟩ => by
    unfold mPopAt at e
    split at e
    · rename_i b0 ds0 e0
      obtain ⟨a, vs, f1, f2, f3, f4, f5, f6⟩ := h.own i b0 ds0 e0
      refine ⟨.ref a, f1, .inl ⟨rfl, vs, .inl (.inl f2)⟩, ?_⟩
      split at e
      · rename_i pr ρ1 e1
        split at e
        · rename_i k e2
          split at e
          · rename_i b ds e3
            split at e
            · rename_i j ej
              split at e
              · rename_i d ed
                split at e
                · rename_i hz
                  cases e
                  have hz' := of_decide_eq_true hz
                  refine ⟨ρ, M, O, π, pr, ρ1, h, e1, fun v H1 M1 x1 s1 r1 => ?_⟩
                  obtain ⟨a', ws, g1, g2, g3, g4, g5, g6⟩ := s1.own i b ds e3
                  rw [f1] at g1; cases g1
                  obtain ⟨w, hw, rw'⟩ := g5.get ed
                  obtain ⟨s3, x3, t3⟩ := s1.write (ws := ws.eraseIdx j) (es := ds.eraseIdx j) e3 f1 (g5.erase j)
                  exact ⟨a, ws, k, j, w, rfl, by rw [(peek_vw s1 r1 e2).inI], g2, hz'.1, hz'.2, by rw [g5.length]; exact ej, hw, q _ _ M1 (x1.trans x3) s3 (rw'.tr t3)⟩
                · cases e
              · cases e
            · cases e
          · cases e
        · cases e
      · cases e
    · cases e
/-- x[k] = e -/
def mStore (i : Nat) (mk me : ME) : MS := fun ρ => match me ρ with
  | some (pr, ρ1) => match frz ρ1 pr with
    | some (d, ρ2) => match ρ2[i]? with
      | some (some (.own _ _)) => match mk ρ2 with
        | some (pk, ρ3) => match peek ρ3 pk with
          | some (.int k) => match ρ3[i]? with
            | some (some (.own b ds)) => match ixN ds.length k with
              | some j => some (.next, ρ3.set i (some (.own b (ds.set j d))))
              | none => none
            | _ => none
          | _ => none
        | none => none
      | _ => none
    | none => none
  | none => none
theorem ds_store {i : Nat} {k : Expr} {mk : ME} (h : ∀ te tk, PE X e te → PE X k tk → PS X st (tAsg te (gSub (tVar i) tk rSetL))) (he : DE X e me) (hk : DE X k mk) : DS X st (mStore i mk me) :=
  PS.imp (h _ _ he hk) fun D σ H ⟨ρ, M, O, π, fl, ρ', h, e, q⟩ => by
    unfold mStore at e
    split at e
    · rename_i pr ρ1 e1
      split at e
      · rename_i d ρ2 e2
        split at e
        · rename_i b0 ds0 e0
          split at e
          · rename_i pk ρ3 e3
            split at e
            · rename_i k e4
              split at e
              · rename_i b ds e5
                split at e
                · rename_i j ej
                  cases e
                  refine ⟨ρ, M, O, π, pr, ρ1, h, e1, fun v H1 M1 x1 s1 r1 => ?_⟩
                  obtain ⟨M2, x2, s2, r2⟩ := frz_ok s1 r1 e2
                  obtain ⟨a, vs, f1, f2, f3, f4, f5, f6⟩ := s2.own i b0 ds0 e0
                  refine ⟨.ref a, f1, ρ2, M2, O, π, pk, ρ3, s2, e3, fun w H3 M3 x3 s3 r3 => ?_⟩
                  obtain ⟨a', ws, g1, g2, g3, g4, g5, g6⟩ := s3.own i b ds e5
                  rw [f1] at g1; cases g1
                  obtain ⟨s4, x4, t4⟩ := s3.write (ws := ws.set j v) (es := ds.set j d) e5 f1 (g5.set j (r2.tr x3.tr))
                  exact ⟨a, ws, k, j, rfl, (peek_vw s3 r3 e4).inI, g2, by rw [g5.length]; exact ej, q _ _ M3 (((x1.trans x2).trans x3).trans x4) s4⟩
                · cases e
              · cases e
            · cases e
          · cases e
        · cases e
      · cases e
    · cases e
end
end Vi

namespace Vi
open PySem PySem.Spec PyProof.Rows L2

/-- what was fixed stays -/
abbrev Lat (H0 : Hp) (M0 : Mset) (H : Hp) (M : Mset) : Prop := ∀ a u, Rd H0 a u → ¬ M0 a → Rd H a u ∧ ¬ M a
theorem Lat.trans {H0 H1 H2 : Hp} {M0 M1 M2 : Mset} (a : Lat H0 M0 H1 M1) (b : Lat H1 M1 H2 M2) : Lat H0 M0 H2 M2 := fun x u h n => b x u (a x u h n).1 (a x u h n).2

/-! ### targets -/
abbrev MG := D → Fm → Option Fm
def tG (K : PySem.W.Frag) (m : MG) (ts : List Nat) : TG := fun v σ H Q => ∃ ρ M O π d ρ', SR K H M O π ρ σ ∧ Rep K H M v d ∧ m d ρ = some ρ' ∧ ∀ σ', SR K H M O π ρ' σ' → (∀ j, j ∉ ts → σ'[j]? = σ[j]?) → σ'.length = σ.length → Q σ' H
def DG (X : Cx) (tg : Expr) (m : MG) (ts : List Nat) : Prop := PG X tg (tG X.K m ts)
theorem _root_.L2.PG.imp {X : Cx} {e : Expr} {t t' : TG} (h : PG X e t) (i : ∀ v σ H Q, t' v σ H Q → t v σ H Q) : PG X e t' := ⟨fun pins s σ H v u Q I r q => h.run pins s σ H v u Q I r (i v σ H Q q)⟩
theorem _root_.L2.PGs.imp {X : Cx} {e : List Expr} {t t' : TGs} (h : PGs X e t) (i : ∀ v σ H Q, t' v σ H Q → t v σ H Q) : PGs X e t' := ⟨fun pins s σ H v u Q I r q => h.run pins s σ H v u Q I r (i v σ H Q q)⟩
def mN (i : Nat) : MG := fun d ρ => some (ρ.set i (some (.imm d)))
section
variable {X : Cx} {tg e : Expr} {es : List Expr} {pos : Pos}
theorem dg_name {i : Nat} (h : PG X e (gName i)) : DG X e (mN i) [i] := PG.imp h fun v σ H Q ⟨ρ, M, O, π, d, ρ', hs, r, e, q⟩ => by
  cases e
  exact q _ (hs.setImm r) (fun j hj => List.getElem?_set_ne (fun z => hj (by simp [z]))) (List.length_set ..)
abbrev MGs := List D → Fm → Option Fm
def tGs (K : PySem.W.Frag) (m : MGs) (ts : List Nat) : TGs := fun vs σ H Q => ∃ ρ M O π ds ρ', SR K H M O π ρ σ ∧ Reps K H M vs ds ∧ m ds ρ = some ρ' ∧ ∀ σ', SR K H M O π ρ' σ' → (∀ j, j ∉ ts → σ'[j]? = σ[j]?) → σ'.length = σ.length → Q σ' H
def DGs (X : Cx) (tg : List Expr) (m : MGs) (ts : List Nat) : Prop := PGs X tg (tGs X.K m ts)
def mGnil : MGs := fun ds ρ => match ds with
  | [] => some ρ
  | _ :: _ => none
def mGcons (m : MG) (n : MGs) : MGs := fun ds ρ => match ds with
  | [] => none
  | d :: ds => match m d ρ with
    | some ρ1 => n ds ρ1
    | none => none
theorem dgs_nil : DGs X [] mGnil [] := PGs.imp pgs_nil fun vs σ H Q ⟨ρ, M, O, π, ds, ρ', hs, r, e, q⟩ => by
  unfold mGnil at e
  split at e
  · cases e
    cases r
    exact ⟨rfl, q σ hs (fun _ _ => rfl) rfl⟩
  · cases e
theorem dgs_cons {m : MG} {n : MGs} {ts us : List Nat} (h1 : DG X e m ts) (h2 : DGs X es n us) (hs : (assignEach (e :: es) X.env).map (·.2) = assign e X.env :: (assignEach es X.env).map (·.2) := by rfl) : DGs X (e :: es) (mGcons m n) (ts ++ us) :=
  PGs.imp (pgs_cons h1 h2 hs) fun vs σ H Q ⟨ρ, M, O, π, ds, ρ', hs, r, e, q⟩ => by
    unfold mGcons at e
    split at e
    · cases e
    · rename_i d ds
      cases r with
      | @cons v vs d ds rv rr =>
        split at e
        · rename_i ρ1 e1
          refine ⟨v, vs, rfl, ρ, M, O, π, d, ρ1, hs, rv, e1, fun σ1 s1 f1 l1 => ⟨ρ1, M, O, π, ds, ρ', s1, rr, e, fun σ2 s2 f2 l2 => q σ2 s2 (fun j hj => ?_) (l2.trans l1)⟩⟩
          rw [List.mem_append, not_or] at hj
          rw [f2 j hj.2, f1 j hj.1]
        · cases e
def mGtup (k : Nat) (n : MGs) : MG := fun d ρ => match d with
  | .tuple ds => if ds.length = k then n ds ρ else none
  | _ => none
theorem dg_tup {k : Nat} {n : MGs} {ts : List Nat} {kk : Nat} (hc : X.calm = true) (h : DGs X es n ts) (hn : (assignEach es X.env).length = k := by rfl) (hst : (assignEach es X.env).findIdx? (·.1) = none := by rfl) : DG X (.Tuple es kk pos) (mGtup k n) ts :=
  PG.imp (pg_tup hc h hn hst) fun v σ H Q ⟨ρ, M, O, π, d, ρ', hs, r, e, q⟩ => by
    unfold mGtup at e
    split at e
    · rename_i ds
      split at e
      · rename_i hl
        cases r with
        | tup ht rr => exact ⟨_, _, rfl, ht.sq, by rw [rr.length]; exact hl, ρ, M, O, π, ds, ρ', hs, rr, e, q⟩
      · cases e
    · cases e

/-! ### what is walked -/
def YD (K : PySem.W.Frag) (H : Hp) (M : Mset) (x : V) (H' : Hp) (d : D) : Prop :=
  (H' = H ∧ Rep K H M x d) ∨ ∃ T vs es, x = .ref T ∧ H T = none ∧ H' = upd H T (.tup vs) ∧ d = .tuple es ∧ Reps K H M vs es
structure Src (K : PySem.W.Frag) (J : It) (ds : List D) (H0 : Hp) (M0 : Mset) : Prop where
  go : ∀ H M, Lat H0 M0 H M → ∀ i, i < ds.length → J.go i H
  stop : ∀ H M, Lat H0 M0 H M → J.stop ds.length H
  yld : ∀ H M, Lat H0 M0 H M → ∀ (i : Nat) d x H', ds[i]? = some d → J.yld i H x H' → YD K H M x H' d
theorem YD.ok {K : PySem.W.Frag} {H : Hp} {M O : Mset} {π : Nat → Option Addr} {ρ : Fm} {σ : St} {x : V} {H' : Hp} {d : D} (y : YD K H M x H' d) (h : SR K H M O π ρ σ) : SR K H' M O π ρ σ ∧ Ext O H M H' M ∧ Rep K H' M x d := by
  rcases y with ⟨rfl, r⟩ | ⟨T, vs, es, rfl, hT, rfl, rfl, r⟩
  · exact ⟨h, .refl h, r⟩
  · exact ⟨h.alloc hT, .alloc h hT, .tup (.inl ⟨.inl upd_same, fun z => h.live T z hT⟩) (r.tr (alloc_tr h hT))⟩
abbrev MI := Fm → Option (List D × Fm)
def tI (K : PySem.W.Frag) (m : MI) : TI := fun σ H R => ∃ ρ M O π ds ρ', SR K H M O π ρ σ ∧ m ρ = some (ds, ρ') ∧ ∀ J H' M', Ext O H M H' M' → SR K H' M' O π ρ' σ → Src K J ds H' M' → R J H'
def DI (X : Cx) (tg iter : Expr) (m : MI) : Prop := PI X tg iter (tI X.K m)
theorem _root_.L2.PI.imp {X : Cx} {tg e : Expr} {t t' : TI} (h : PI X tg e t) (i : ∀ σ H Q, t' σ H Q → t σ H Q) : PI X tg e t' := ⟨fun pins s σ H Q I q => h.run pins s σ H Q I (i σ H Q q)⟩
def iSeq (K : PySem.W.Frag) (tl : TE) : TI := fun σ H R => tl σ H fun x H1 => ∃ a, x = .ref a ∧ (((∃ xs, SqL K H1 a xs) ∧ R (Itl K a) H1) ∨ ((∃ xs, SqT K H1 a xs) ∧ R (Itt K a) H1))
theorem pi_seq {l : Expr} {tl : TE} (hl : PE X l tl) : PI X tg l (iSeq X.K tl) := by
  refine ⟨fun pins s σ H R I h => ?_⟩
  refine thn (hl.run pins s σ H _ I h) fun v s1 ⟨x, H1, I1, r1, q1⟩ => ?_
  obtain ⟨a, e, q1⟩ := q1
  subst e
  cases r1
  rcases q1 with ⟨⟨xs, hq⟩, q⟩ | ⟨⟨xs, hq⟩, q⟩
  · obtain ⟨its, rv, p, hz⟩ := I1.list hq
    refine wpAny_pyIter_list p.isList ?_
    refine ⟨s1.heap.objs.size, [s1.heap.objs.size], _, _, H1, rfl, I1.kept (t' := s1.toks) fun b o e => Heap.get?_push_of_some _ e, turn_list a _, ⟨_, Heap.get?_push_size _ rfl, rfl, rfl⟩, fun b hb => ?_, q⟩
    have e : b = s1.heap.objs.size := by simpa using hb
    subst e
    exact I1.fpOk (Nat.le_refl _) (I1.hok.fresh (Nat.le_refl _))
  · obtain ⟨its, rv, p, hz⟩ := I1.tuple hq
    refine wpAny_pyIter_tuple (show s1.heap.IsTuple a its.toArray from p) ?_
    refine ⟨s1.heap.objs.size, [s1.heap.objs.size], _, _, H1, rfl, I1.kept (t' := s1.toks) fun b o e => Heap.get?_push_of_some _ e, turn_tuple a _, ⟨_, Heap.get?_push_size _ rfl, rfl, rfl⟩, fun b hb => ?_, q⟩
    have e : b = s1.heap.objs.size := by simpa using hb
    subst e
    exact I1.fpOk (Nat.le_refl _) (I1.hok.fresh (Nat.le_refl _))
theorem src_list {K : PySem.W.Frag} {H0 : Hp} {M0 : Mset} {a : Addr} {vs : List V} {ds : List D} (h : Rd H0 a (.lst vs)) (n : ¬ M0 a) (r : Reps K H0 M0 vs ds) : Src K (Itl K a) ds H0 M0 where
  go := fun H M l i hi => walk_list.goes i H (by rw [r.length]; exact hi) (.inl (l a _ h n).1)
  stop := fun H M l => by rw [← r.length]; exact walk_list.stops H (.inl (l a _ h n).1)
  yld := fun H M l i d x H' ed y => by
    obtain ⟨v, hv, rv⟩ := r.get ed
    obtain ⟨e1, e2⟩ := walk_list.yields i H x H' (by rw [r.length]; exact (List.getElem?_eq_some_iff.mp ed).1) (.inl (l a _ h n).1) y
    rw [hv] at e2; cases e2
    exact .inl ⟨e1, rv.tr l⟩
theorem tupAt_lat {K : PySem.W.Frag} {H0 H : Hp} {M0 M : Mset} {a : Addr} {vs : List V} (h : TupAt K H0 M0 a vs) (l : Lat H0 M0 H M) : SqT K H a vs := by
  rcases h with ⟨h, n⟩ | h
  · exact .inl (l a _ h n).1
  · exact .inr h
theorem src_tup {K : PySem.W.Frag} {H0 : Hp} {M0 : Mset} {a : Addr} {vs : List V} {ds : List D} (h : TupAt K H0 M0 a vs) (r : Reps K H0 M0 vs ds) : Src K (Itt K a) ds H0 M0 where
  go := fun H M l i hi => walk_tup.goes i H (by rw [r.length]; exact hi) (tupAt_lat h l)
  stop := fun H M l => by rw [← r.length]; exact walk_tup.stops H (tupAt_lat h l)
  yld := fun H M l i d x H' ed y => by
    obtain ⟨v, hv, rv⟩ := r.get ed
    obtain ⟨e1, e2⟩ := walk_tup.yields i H x H' (by rw [r.length]; exact (List.getElem?_eq_some_iff.mp ed).1) (tupAt_lat h l) y
    rw [hv] at e2; cases e2
    exact .inl ⟨e1, rv.tr l⟩
def itemsOf : D → Option (List D)
  | .list ds => some ds
  | .tuple ds => some ds
  | _ => none
def mISeq (me : ME) : MI := fun ρ => match me ρ with
  | some (pr, ρ1) => match frz ρ1 pr with
    | some (d, ρ2) => match itemsOf d with
      | some ds => some (ds, ρ2)
      | none => none
    | none => none
  | none => none
theorem di_seq {me : ME} (he : DE X e me) : DI X tg e (mISeq me) := PI.imp (pi_seq he) fun σ H R ⟨ρ, M, O, π, ds, ρ', h, e, q⟩ => by
  unfold mISeq at e
  split at e
  · rename_i pr ρ1 e1
    split at e
    · rename_i d ρ2 e2
      split at e
      · rename_i ds' e3
        cases e
        refine ⟨ρ, M, O, π, pr, ρ1, h, e1, fun v H1 M1 x1 s1 r1 => ?_⟩
        obtain ⟨M2, x2, s2, r2⟩ := frz_ok s1 r1 e2
        unfold itemsOf at e3
        split at e3
        · cases e3
          cases r2 with
          | lst hr n rr => exact ⟨_, rfl, .inl ⟨⟨_, .inl hr⟩, q _ H1 M2 (x1.trans x2) s2 (src_list hr n rr)⟩⟩
        · cases e3
          cases r2 with
          | tup ht rr => exact ⟨_, rfl, .inr ⟨⟨_, ht.sq⟩, q _ H1 M2 (x1.trans x2) s2 (src_tup ht rr)⟩⟩
        · cases e3
      · cases e
    · cases e
  · cases e
/-- range -/
def rngD (lo : Int) (n : Nat) : List D := (List.range n).map fun k => .int (lo + (k : Nat))
theorem rngD_len (lo : Int) (n : Nat) : (rngD lo n).length = n := by unfold rngD; simp
theorem src_rng {K : PySem.W.Frag} {H0 : Hp} {M0 : Mset} {lo : Int} {n : Nat} : Src K (Itr lo n) (rngD lo n) H0 M0 where
  go := fun H M l i hi => by rw [rngD_len] at hi; exact hi
  stop := fun H M l => by rw [rngD_len]; exact Nat.le_refl _
  yld := fun H M l i d x H' ed y => by
    obtain ⟨e1, e2⟩ := y
    subst e2
    refine .inl ⟨e1, ?_⟩
    unfold rngD at ed
    rw [List.getElem?_map] at ed
    obtain ⟨k, ek, rfl⟩ := Option.map_eq_some_iff.mp ed
    have hk : k = i := by
      obtain ⟨h1, h2⟩ := List.getElem?_eq_some_iff.mp ek
      simpa using h2.symm
    subst hk
    exact .int _
def rngOk (i : Int) : Bool := decide (-(2 ^ 62) ≤ i ∧ i < 2 ^ 62)
def mIRng1 (ma : MA) : MI := fun ρ => match ma ρ with
  | some ([.int j], ρ1) => if rngOk j = true then some (rngD 0 j.toNat, ρ1) else none
  | _ => none
def mIRng2 (ma : MA) : MI := fun ρ => match ma ρ with
  | some ([.int i, .int j], ρ1) => if (rngOk i && rngOk j) = true then some (rngD i (j - i).toNat, ρ1) else none
  | _ => none
theorem di_rng1 {a : Expr} {ma : MA} {p : Pos} (hg : Gl X "range") (hm : X.mg "range" = none) (ha : DA X [a] ma) (hs : starEach [a] X.env = [(false, eval a X.env)] := by rfl) : DI X tg (.Call (.Name "range" p) [a] [] pos) (mIRng1 ma) :=
  PI.imp (pi_range1 hg hm ha hs) fun σ H R ⟨ρ, M, O, π, ds, ρ', h, e, q⟩ => by
    unfold mIRng1 at e
    split at e
    · rename_i j ρ1 e1
      split at e
      · rename_i hz
        cases e
        have hz' := of_decide_eq_true hz
        refine ⟨ρ, M, O, π, _, _, h, e1, fun vs H1 M1 x1 s1 r1 => ?_⟩
        cases r1 with
        | cons rv rr =>
          cases rr
          cases rv
          exact ⟨j, rfl, hz'.1, hz'.2, q _ H1 M1 x1 s1 src_rng⟩
      · cases e
    · cases e
theorem di_rng2 {a b : Expr} {ma : MA} {p : Pos} (hg : Gl X "range") (hm : X.mg "range" = none) (ha : DA X [a, b] ma) (hs : starEach [a, b] X.env = [(false, eval a X.env), (false, eval b X.env)] := by rfl) (hs2 : starEach [b] X.env = [(false, eval b X.env)] := by rfl) : DI X tg (.Call (.Name "range" p) [a, b] [] pos) (mIRng2 ma) :=
  PI.imp (pi_range2 hg hm ha hs hs2) fun σ H R ⟨ρ, M, O, π, ds, ρ', h, e, q⟩ => by
    unfold mIRng2 at e
    split at e
    · rename_i i j ρ1 e1
      split at e
      · rename_i hz
        cases e
        rw [Bool.and_eq_true] at hz
        have hz1 := of_decide_eq_true hz.1
        have hz2 := of_decide_eq_true hz.2
        refine ⟨ρ, M, O, π, _, _, h, e1, fun vs H1 M1 x1 s1 r1 => ?_⟩
        cases r1 with
        | cons rv rr =>
          cases rr with
          | cons rw' rr =>
            cases rr
            cases rv
            cases rw'
            exact ⟨i, j, rfl, ⟨hz1.1, hz1.2, hz2.1, hz2.2⟩, q _ H1 M1 x1 s1 src_rng⟩
      · cases e
    · cases e
/-- zip, enumerate -/
def zipD : List D → List D → List D
  | x :: xs, y :: ys => .tuple [x, y] :: zipD xs ys
  | _, _ => []
theorem zipD_len : ∀ xs ys : List D, (zipD xs ys).length = min xs.length ys.length
  | [], _ => by simp [zipD]
  | _ :: _, [] => by simp [zipD]
  | x :: xs, y :: ys => by
    show (zipD xs ys).length + 1 = min (xs.length + 1) (ys.length + 1)
    rw [zipD_len xs ys]; omega
theorem zipD_get : ∀ {xs ys : List D} {i : Nat} {d : D}, (zipD xs ys)[i]? = some d → ∃ x y, xs[i]? = some x ∧ ys[i]? = some y ∧ d = .tuple [x, y]
  | [], _, _, _, h => by simp [zipD] at h
  | _ :: _, [], _, _, h => by simp [zipD] at h
  | x :: xs, y :: ys, 0, d, h => ⟨x, y, rfl, rfl, (Option.some.inj (show some (PyData.tuple [x, y]) = some d from h)).symm⟩
  | x :: xs, y :: ys, i + 1, d, h => by
    obtain ⟨a, b, h1, h2, h3⟩ := zipD_get (xs := xs) (ys := ys) (i := i) (d := d) (by simpa [zipD] using h)
    exact ⟨a, b, by simpa using h1, by simpa using h2, h3⟩
theorem yd_pair {K : PySem.W.Frag} {H : Hp} {M : Mset} {x : V} {H' : Hp} {f g : Nat → Option V} {i : Nat} {a b : D} {va vb : V} (y : YPair f g i H x H') (ha : f i = some va) (hb : g i = some vb) (ra : Rep K H M va a) (rb : Rep K H M vb b) : YD K H M x H' (.tuple [a, b]) := by
  obtain ⟨T, p, q, rfl, hT, rfl, h1, h2⟩ := y
  rw [ha] at h1; cases h1
  rw [hb] at h2; cases h2
  exact .inr ⟨T, _, _, rfl, hT, rfl, rfl, .cons ra (.cons rb .nil)⟩
theorem src_zipL {K : PySem.W.Frag} {H0 : Hp} {M0 : Mset} {a b : Addr} {vs ws : List V} {xs ys : List D} (h : Rd H0 a (.lst vs)) (n : ¬ M0 a) (r : Reps K H0 M0 vs xs) (h2 : Rd H0 b (.lst ws)) (n2 : ¬ M0 b) (r2 : Reps K H0 M0 ws ys) : Src K (Itz K a b) (zipD xs ys) H0 M0 := by
  have W := walk_zip (K := K) (a := a) (b := b) (xs := vs) (ys := ws) rfl
  have G : ∀ {H : Hp} {M : Mset}, Lat H0 M0 H M → SqL K H a vs ∧ SqL K H b ws := fun l => ⟨.inl (l a _ h n).1, .inl (l b _ h2 n2).1⟩
  refine ⟨fun H M l i hi => W.goes i H (by rw [r.length, r2.length, ← zipD_len]; exact hi) (G l), fun H M l => by rw [zipD_len, ← r.length, ← r2.length]; exact W.stops H (G l), fun H M l i d x H' ed y => ?_⟩
  obtain ⟨p, q, e1, e2, rfl⟩ := zipD_get ed
  obtain ⟨v, hv, rv⟩ := r.get e1
  obtain ⟨w, hw, rw'⟩ := r2.get e2
  exact yd_pair (W.yields i H x H' (by rw [r.length, r2.length, ← zipD_len]; exact (List.getElem?_eq_some_iff.mp ed).1) (G l) y) hv hw (rv.tr l) (rw'.tr l)
theorem src_zipT {K : PySem.W.Frag} {H0 : Hp} {M0 : Mset} {a b : Addr} {vs ws : List V} {xs ys : List D} (h : TupAt K H0 M0 a vs) (r : Reps K H0 M0 vs xs) (h2 : TupAt K H0 M0 b ws) (r2 : Reps K H0 M0 ws ys) : Src K (RZ.ItzT K a b) (zipD xs ys) H0 M0 := by
  refine ⟨fun H M l i hi => ?_, fun H M l => ⟨vs, ws, tupAt_lat h l, tupAt_lat h2 l, ?_⟩, fun H M l i d x H' ed y => ?_⟩
  · rw [zipD_len, ← r.length, ← r2.length] at hi
    have h1 : i < vs.length := by omega
    have h3 : i < ws.length := by omega
    exact ⟨vs, ws, vs[i], ws[i], tupAt_lat h l, tupAt_lat h2 l, by simp [h1], by simp [h3]⟩
  · rw [zipD_len, ← r.length, ← r2.length]; omega
  · obtain ⟨p, q, e1, e2, rfl⟩ := zipD_get ed
    obtain ⟨v, hv, rv⟩ := r.get e1
    obtain ⟨w, hw, rw'⟩ := r2.get e2
    obtain ⟨T, vx, vy, rfl, hT, rfl, f1, f2⟩ := y
    have g1 := f1 vs (tupAt_lat h l)
    have g2 := f2 ws (tupAt_lat h2 l)
    rw [hv] at g1; cases g1
    rw [hw] at g2; cases g2
    exact .inr ⟨T, _, _, rfl, hT, rfl, rfl, .cons (rv.tr l) (.cons (rw'.tr l) .nil)⟩
def mIZip (ma : MA) : MI := fun ρ => match ma ρ with
  | some ([.list xs, .list ys], ρ1) => some (zipD xs ys, ρ1)
  | some ([.tuple xs, .tuple ys], ρ1) => some (zipD xs ys, ρ1)
  | _ => none
theorem di_zip {a b : Expr} {ma : MA} {p tpos : Pos} {elts : List Expr} {kk : Nat} (hg : Gl X "zip") (hm : X.mg "zip" = none) (ha : DA X [a, b] ma)
    (hs : starEach [a, b] X.env = (false, eval a X.env) :: starEach [b] X.env := by rfl) (hpl : (backTo pos (starEach [b] X.env)).any (·.1) = false := by rfl) : DI X (.Tuple elts kk tpos) (.Call (.Name "zip" p) [a, b] [] pos) (mIZip ma) :=
  PI.imp (RZ.pi_zipA hg hm ha hs hpl) fun σ H R ⟨ρ, M, O, π, ds, ρ', h, e, q⟩ => by
    unfold mIZip at e
    split at e
    · rename_i xs ys ρ1 e1
      cases e
      refine ⟨ρ, M, O, π, _, _, h, e1, fun vs H1 M1 x1 s1 r1 => ?_⟩
      cases r1 with
      | cons rv rr =>
        cases rr with
        | cons rw' rr =>
          cases rr
          cases rv with
          | lst hr n rr => cases rw' with
            | lst hr2 n2 rr2 => exact ⟨_, _, _, _, rfl, .inl ⟨.inl hr, .inl hr2, q _ H1 M1 x1 s1 (src_zipL hr n rr hr2 n2 rr2)⟩⟩
    · rename_i xs ys ρ1 e1
      cases e
      refine ⟨ρ, M, O, π, _, _, h, e1, fun vs H1 M1 x1 s1 r1 => ?_⟩
      cases r1 with
      | cons rv rr =>
        cases rr with
        | cons rw' rr =>
          cases rr
          cases rv with
          | tup hr rr => cases rw' with
            | tup hr2 rr2 => exact ⟨_, _, _, _, rfl, .inr ⟨hr.sq, hr2.sq, q _ H1 M1 x1 s1 (src_zipT hr rr hr2 rr2)⟩⟩
    · cases e
def enumD (k : Nat) : List D → List D
  | [] => []
  | x :: xs => .tuple [.int (k : Nat), x] :: enumD (k + 1) xs
theorem enumD_len : ∀ (k : Nat) (xs : List D), (enumD k xs).length = xs.length
  | _, [] => rfl
  | k, x :: xs => by show (enumD (k + 1) xs).length + 1 = _; rw [enumD_len (k + 1) xs]; rfl
theorem enumD_get : ∀ {k : Nat} {xs : List D} {i : Nat} {d : D}, (enumD k xs)[i]? = some d → ∃ x, xs[i]? = some x ∧ d = .tuple [.int ((k + i : Nat) : Int), x]
  | _, [], _, _, h => by simp [enumD] at h
  | k, x :: xs, 0, d, h => ⟨x, rfl, (Option.some.inj (show some (PyData.tuple [.int (k : Nat), x]) = some d from h)).symm⟩
  | k, x :: xs, i + 1, d, h => by
    obtain ⟨a, h1, h2⟩ := enumD_get (k := k + 1) (xs := xs) (i := i) (d := d) (by simpa [enumD] using h)
    exact ⟨a, by simpa using h1, by rw [h2, show k + 1 + i = k + (i + 1) by omega]⟩
theorem src_enumL {K : PySem.W.Frag} {H0 : Hp} {M0 : Mset} {a : Addr} {vs : List V} {xs : List D} (h : Rd H0 a (.lst vs)) (n : ¬ M0 a) (r : Reps K H0 M0 vs xs) : Src K (Ite K a) (enumD 0 xs) H0 M0 := by
  have W := walk_enum (K := K) (a := a) (xs := vs)
  refine ⟨fun H M l i hi => W.goes i H (by rw [r.length, ← enumD_len 0]; exact hi) (.inl (l a _ h n).1), fun H M l => by rw [enumD_len, ← r.length]; exact W.stops H (.inl (l a _ h n).1), fun H M l i d x H' ed y => ?_⟩
  obtain ⟨p, e1, rfl⟩ := enumD_get ed
  obtain ⟨v, hv, rv⟩ := r.get e1
  rw [Nat.zero_add]
  exact yd_pair (W.yields i H x H' (by rw [r.length, ← enumD_len 0]; exact (List.getElem?_eq_some_iff.mp ed).1) (.inl (l a _ h n).1) y) rfl hv (.int _) (rv.tr l)
end

/-! ### for, while -/
section
variable {X : Cx} {tg iter c : Expr} {body : List Stmt} {pos : Pos} {mi : MI} {mg : MG} {mb : MS} {mt : MT} {ts : List Nat}
def loop (mg : MG) (mb : MS) : List D → Fm → Option (Fl × Fm)
  | [], ρ => some (.next, ρ)
  | d :: ds, ρ => match mg d ρ with
    | some ρ1 => match mb ρ1 with
      | some (.next, ρ2) => loop mg mb ds ρ2
      | some (.cont, ρ2) => loop mg mb ds ρ2
      | some (.brk, ρ2) => some (.next, ρ2)
      | some (.ret r, ρ2) => some (.ret r, ρ2)
      | none => none
    | none => none
def mFor (mi : MI) (mg : MG) (mb : MS) : MS := fun ρ => match mi ρ with
  | some (ds, ρ1) => loop mg mb ds ρ1
  | none => none
theorem ds_for (hp : PassesOwn (model X.prog X.w) X.A X.env X.xe) (hc : X.calm = true) (hi : DI X tg iter mi) (hg : DG X tg mg ts) (hb : DSs X body mb) (hs : ∀ x, foldedSetIterable iter X.env x = pure x := by intro _; rfl) : DS X (.For tg iter body [] pos) (mFor mi mg mb) :=
  PS.imp (ps_for hp hc hi hg hb hs) fun D σ H ⟨ρ, M, O, π, fl, ρ', h, e, q⟩ => by
    unfold mFor at e
    split at e
    · rename_i ds ρ1 e1
      refine ⟨ρ, M, O, π, ds, ρ1, h, e1, fun J H1 M1 x1 s1 src => ?_⟩
      have q1 := q.later (O1 := O) x1
      refine ⟨fun i m σ2 H2 => m = ds.length - i ∧ i ≤ ds.length ∧ ∃ ρ2 M2, SR X.K H2 M2 O π ρ2 σ2 ∧ Ext O H1 M1 H2 M2 ∧ loop mg mb (ds.drop i) ρ2 = some (fl, ρ'), ⟨_, rfl, Nat.zero_le _, ρ1, M1, s1, .refl s1, e⟩, ?_⟩
      rintro i m σ2 H2 ⟨rfl, hi2, ρ2, M2, s2, x2, e2⟩
      by_cases hlt : i < ds.length
      · rw [List.drop_eq_getElem_cons hlt] at e2
        have hd : ds[i]? = some ds[i] := List.getElem?_eq_getElem hlt
        refine .inr ⟨src.go H2 M2 x2.tr i hlt, fun σ3 H3 => ds.length - (i + 1) = ds.length - (i + 1) ∧ i + 1 ≤ ds.length ∧ ∃ ρ3 M3, SR X.K H3 M3 O π ρ3 σ3 ∧ Ext O H1 M1 H3 M3 ∧ loop mg mb (ds.drop (i + 1)) ρ3 = some (fl, ρ'), fun σ3 H3 w => ⟨_, by omega, w⟩, fun x H3 y => ?_⟩
        obtain ⟨s3, x3, r3⟩ := (src.yld H2 M2 x2.tr i _ x H3 hd y).ok s2
        unfold loop at e2
        split at e2
        · rename_i ρ3 e3
          refine ⟨ρ2, M2, O, π, _, ρ3, s3, r3, e3, fun σ4 s4 _ _ => ?_⟩
          have x23 := x2.trans x3
          split at e2
          · rename_i ρ5 e5
            exact ⟨ρ3, M2, O, π, .next, ρ5, s4, e5, fun σ5 H5 M5 x5 s5 => ⟨rfl, hlt, ρ5, M5, s5, x23.trans x5, e2⟩⟩
          · rename_i ρ5 e5
            exact ⟨ρ3, M2, O, π, .cont, ρ5, s4, e5, fun σ5 H5 M5 x5 s5 => ⟨rfl, hlt, ρ5, M5, s5, x23.trans x5, e2⟩⟩
          · rename_i ρ5 e5
            cases e2
            exact ⟨ρ3, M2, O, π, .brk, _, s4, e5, fun σ5 H5 M5 x5 s5 => q1 σ5 H5 M5 (x23.trans x5) s5⟩
          · rename_i r ρ5 e5
            cases e2
            exact ⟨ρ3, M2, O, π, .ret r, _, s4, e5, fun v σ5 H5 M5 x5 s5 rv => q1 v σ5 H5 M5 (x23.trans x5) s5 rv⟩
          · cases e2
        · cases e2
      · have ei : i = ds.length := by omega
        subst ei
        rw [List.drop_length] at e2
        cases e2
        exact .inl ⟨src.stop H2 M2 x2.tr, q1 σ2 H2 M2 x2 s2⟩
    · cases e
def whl (mt : MT) (mb : MS) : Nat → Fm → Option (Fl × Fm)
  | 0, _ => none
  | n + 1, ρ => match mt ρ with
    | some (false, ρ1) => some (.next, ρ1)
    | some (true, ρ1) => match mb ρ1 with
      | some (.next, ρ2) => whl mt mb n ρ2
      | some (.cont, ρ2) => whl mt mb n ρ2
      | some (.brk, ρ2) => some (.next, ρ2)
      | some (.ret r, ρ2) => some (.ret r, ρ2)
      | none => none
    | none => none
theorem ds_while {n : Nat} (hp : PassesOwn (model X.prog X.w) X.A X.env X.xe) (hc : DT X c mt) (hb : DSs X body mb) : DS X (.While c body [] pos) (whl mt mb n) :=
  PS.imp (ps_while hp hc hb) fun D σ H ⟨ρ, M, O, π, fl, ρ', h, e, q⟩ => by
    refine ⟨fun m σ2 H2 => ∃ ρ2 M2, SR X.K H2 M2 O π ρ2 σ2 ∧ Ext O H M H2 M2 ∧ whl mt mb m ρ2 = some (fl, ρ'), ⟨n, ρ, M, h, .refl h, e⟩, ?_⟩
    rintro m σ2 H2 ⟨ρ2, M2, s2, x2, e2⟩
    cases m with
    | zero => cases e2
    | succ m =>
      unfold whl at e2
      split at e2
      · rename_i ρ3 e3
        cases e2
        exact ⟨ρ2, M2, O, π, false, _, s2, e3, fun H3 M3 x3 s3 => iteF (q σ2 H3 M3 (x2.trans x3) s3)⟩
      · rename_i ρ3 e3
        refine ⟨ρ2, M2, O, π, true, ρ3, s2, e3, fun H3 M3 x3 s3 => iteT ?_⟩
        have x23 := x2.trans x3
        refine ⟨fun σ5 H5 => ∃ ρ5 M5, SR X.K H5 M5 O π ρ5 σ5 ∧ Ext O H M H5 M5 ∧ whl mt mb m ρ5 = some (fl, ρ'), fun σ5 H5 w => ⟨m, Nat.lt_succ_self m, w⟩, ?_⟩
        split at e2
        · rename_i ρ5 e5
          exact ⟨ρ3, M3, O, π, .next, ρ5, s3, e5, fun σ5 H5 M5 x5 s5 => ⟨ρ5, M5, s5, x23.trans x5, e2⟩⟩
        · rename_i ρ5 e5
          exact ⟨ρ3, M3, O, π, .cont, ρ5, s3, e5, fun σ5 H5 M5 x5 s5 => ⟨ρ5, M5, s5, x23.trans x5, e2⟩⟩
        · rename_i ρ5 e5
          cases e2
          exact ⟨ρ3, M3, O, π, .brk, _, s3, e5, fun σ5 H5 M5 x5 s5 => q σ5 H5 M5 (x23.trans x5) s5⟩
        · rename_i r ρ5 e5
          cases e2
          exact ⟨ρ3, M3, O, π, .ret r, _, s3, e5, fun v σ5 H5 M5 x5 s5 rv => q v σ5 H5 M5 (x23.trans x5) s5 rv⟩
        · cases e2
      · cases e2
end
end Vi

namespace Vi
open PySem PySem.Spec PyProof.Rows L2

/-! ### slots forgotten and brought back -/
section
variable {α : Type}
def wipeA (l : List (Option α)) : List Nat → List (Option α)
  | [] => l
  | v :: vs => (wipeA l vs).set v none
theorem wipeA_len (l : List (Option α)) : ∀ vs, (wipeA l vs).length = l.length
  | [] => rfl
  | v :: vs => by unfold wipeA; rw [List.length_set, wipeA_len l vs]
theorem wipeA_out {l : List (Option α)} {i : Nat} : ∀ {vs : List Nat}, i ∉ vs → (wipeA l vs)[i]? = l[i]?
  | [], _ => rfl
  | v :: vs, h => by
    rw [List.mem_cons, not_or] at h
    unfold wipeA
    rw [List.getElem?_set_ne (Ne.symm h.1), wipeA_out h.2]
theorem wipeA_in {l : List (Option α)} {i : Nat} : ∀ {vs : List Nat}, i ∈ vs → i < l.length → (wipeA l vs)[i]? = some none
  | [], h, _ => by cases h
  | v :: vs, h, hl => by
    unfold wipeA
    by_cases e : v = i
    · subst e
      rw [List.getElem?_set_self (by rw [wipeA_len]; exact hl)]
    · rw [List.getElem?_set_ne e]
      rcases List.mem_cons.mp h with z | z
      · exact absurd z.symm e
      · exact wipeA_in z hl
theorem wipeA_some {l : List (Option α)} {i : Nat} {x : α} {vs : List Nat} (h : (wipeA l vs)[i]? = some (some x)) : l[i]? = some (some x) ∧ i ∉ vs := by
  by_cases hi : i ∈ vs
  · by_cases hl : i < l.length
    · rw [wipeA_in hi hl] at h; cases h
    · rw [List.getElem?_eq_none (by rw [wipeA_len]; omega)] at h; cases h
  · rw [wipeA_out hi] at h; exact ⟨h, hi⟩
theorem wipeA_ext {l l' : List (Option α)} {vs : List Nat} (h : ∀ j, j ∉ vs → l[j]? = l'[j]?) (hl : l.length = l'.length) : wipeA l vs = wipeA l' vs := by
  apply List.ext_getElem?
  intro i
  by_cases hi : i ∈ vs
  · by_cases hn : i < l.length
    · rw [wipeA_in hi hn, wipeA_in hi (by omega)]
    · rw [List.getElem?_eq_none (by rw [wipeA_len]; omega), List.getElem?_eq_none (by rw [wipeA_len]; omega)]
  · rw [wipeA_out hi, wipeA_out hi, h i hi]
theorem wipe_eq (σ : St) : ∀ vs, wipe σ vs = wipeA σ vs
  | [] => rfl
  | v :: vs => by unfold wipe wipeA; rw [wipe_eq σ vs]
def restA (l l1 : List (Option α)) : List Nat → List (Option α)
  | [] => l
  | v :: vs => (restA l l1 vs).set v ((l1[v]?).getD none)
theorem restA_len (l l1 : List (Option α)) : ∀ vs, (restA l l1 vs).length = l.length
  | [] => rfl
  | v :: vs => by unfold restA; rw [List.length_set, restA_len l l1 vs]
theorem restA_out {l l1 : List (Option α)} {i : Nat} : ∀ {vs : List Nat}, i ∉ vs → (restA l l1 vs)[i]? = l[i]?
  | [], _ => rfl
  | v :: vs, h => by
    rw [List.mem_cons, not_or] at h
    unfold restA
    rw [List.getElem?_set_ne (Ne.symm h.1), restA_out h.2]
theorem restA_in {l l1 : List (Option α)} {i : Nat} : ∀ {vs : List Nat}, i ∈ vs → i < l.length → (restA l l1 vs)[i]? = some ((l1[i]?).getD none)
  | [], h, _ => by cases h
  | v :: vs, h, hl => by
    unfold restA
    by_cases e : v = i
    · subst e
      rw [List.getElem?_set_self (by rw [restA_len]; exact hl)]
    · rw [List.getElem?_set_ne e]
      rcases List.mem_cons.mp h with z | z
      · exact absurd z.symm e
      · exact restA_in z hl
end
section
variable {K : PySem.W.Frag} {H H' H1 : Hp} {M M' M1 O O' : Mset} {π : Nat → Option Addr} {ρ ρ1 ρ2 : Fm} {σ : St} {vs : List Nat} {p : Addr}
theorem SR.wipe (h : SR K H M O π ρ σ) (vs : List Nat) : SR K H M O π (wipeA ρ vs) (wipeA σ vs) := by
  refine ⟨by rw [wipeA_len, wipeA_len]; exact h.len, h.sub, h.live, fun i d e => ?_, fun i b ds e => ?_, fun i j b c ds es a hij e f g => ?_⟩
  · obtain ⟨e1, n⟩ := wipeA_some e
    rw [wipeA_out n]; exact h.imm i d e1
  · obtain ⟨e1, n⟩ := wipeA_some e
    rw [wipeA_out n]; exact h.own i b ds e1
  · obtain ⟨e1, n⟩ := wipeA_some e
    obtain ⟨f1, n2⟩ := wipeA_some f
    rw [wipeA_out n] at g
    rw [wipeA_out n2]; exact h.uniq i j b c ds es a hij e1 f1 g
def vsOk (ρ : Fm) (vs : List Nat) : Bool := vs.all fun i => match ρ[i]? with
  | some (some (.own _ _)) => false
  | _ => true
theorem vsOk_own (h : vsOk ρ vs = true) {i : Nat} (hi : i ∈ vs) {b : Bool} {ds : List D} (e : ρ[i]? = some (some (.own b ds))) : False := by
  have := List.all_eq_true.mp h i hi
  rw [e] at this
  cases this
theorem SR.unwipe (h1 : SR K H1 M1 O π ρ1 σ) (ok : vsOk ρ1 vs = true) (h2 : SR K H M O π ρ2 (wipeA σ vs)) (l : Lat H1 M1 H M) : SR K H M O π (restA ρ2 ρ1 vs) σ := by
  have len : ρ2.length = σ.length := by rw [h2.len, wipeA_len]
  have get : ∀ {i : Nat} {s : Sv}, (restA ρ2 ρ1 vs)[i]? = some (some s) → (i ∈ vs ∧ ρ1[i]? = some (some s)) ∨ (i ∉ vs ∧ ρ2[i]? = some (some s)) := fun {i s} e => by
    by_cases hi : i ∈ vs
    · by_cases hl : i < ρ2.length
      · rw [restA_in hi hl] at e
        refine .inl ⟨hi, ?_⟩
        cases q : ρ1[i]? with
        | none => rw [q] at e; cases e
        | some x => rw [q] at e; exact e
      · rw [List.getElem?_eq_none (by rw [restA_len]; omega)] at e; cases e
    · rw [restA_out hi] at e; exact .inr ⟨hi, e⟩
  refine ⟨by rw [restA_len]; exact len, h2.sub, h2.live, fun i d e => ?_, fun i b ds e => ?_, fun i j b c ds es a hij e f g => ?_⟩
  · rcases get e with ⟨hi, e⟩ | ⟨hi, e⟩
    · obtain ⟨v, f1, f2⟩ := h1.imm i d e
      exact ⟨v, f1, f2.tr l⟩
    · obtain ⟨v, f1, f2⟩ := h2.imm i d e
      rw [wipeA_out hi] at f1
      exact ⟨v, f1, f2⟩
  · rcases get e with ⟨hi, e⟩ | ⟨hi, e⟩
    · exact (vsOk_own ok hi e).elim
    · obtain ⟨x, vs', f1, f2⟩ := h2.own i b ds e
      rw [wipeA_out hi] at f1
      exact ⟨x, vs', f1, f2⟩
  · rcases get e with ⟨hi, e⟩ | ⟨hi, e⟩
    · exact (vsOk_own ok hi e).elim
    · rcases get f with ⟨hj, f⟩ | ⟨hj, f⟩
      · exact (vsOk_own ok hj f).elim
      · have := h2.uniq i j b c ds es a hij e f (by rw [wipeA_out hi]; exact g)
        rw [wipeA_out hj] at this
        exact this
/-- a held list is written -/
theorem upd_lat {o : HO} (hM : M p) : Lat H M (upd H p o) M := fun a u q n => by
  have ne : a ≠ p := fun z => n (z ▸ hM)
  refine ⟨?_, n⟩
  rcases q with q | ⟨o', q⟩
  · exact .inl (by rw [upd_ne ne]; exact q)
  · exact .inr ⟨o', by rw [upd_ne ne]; exact q⟩
theorem SR.writeO {o : HO} (h : SR K H M O π ρ σ) (hM : M p) (hO : O p) : SR K (upd H p o) M O π ρ σ := by
  refine ⟨h.len, h.sub, fun a q => ?_, fun i d e => ?_, fun i b ds e => ?_, h.uniq⟩
  · by_cases ha : a = p
    · subst ha; rw [upd_same]; intro z; cases z
    · rw [upd_ne ha]; exact h.live a q
  · obtain ⟨v, e1, r⟩ := h.imm i d e
    exact ⟨v, e1, r.tr (upd_lat hM)⟩
  · obtain ⟨a, ws, e1, e2, e3, e4, r, e5⟩ := h.own i b ds e
    exact ⟨a, ws, e1, by rw [upd_ne (fun z => e4 (by rw [z]; exact hO))]; exact e2, e3, e4, r.tr (upd_lat hM), e5⟩
theorem Ext.updM {o : HO} (x : Ext O H1 M1 H M) (hM : M1 p) (hO : ¬ O p) : Ext O H1 M1 (upd H p o) M :=
  ⟨fun a u e q => by rw [upd_ne (fun z => by subst z; exact q.elim hO fun n => n hM)]; exact x.keep a u e q, x.sub, x.new⟩
end

/-! ### comprehensions -/
section
variable {mg : MG} {mt : MT} {me : ME} {vs ts : List Nat}
def cloop (mg : MG) (mt : MT) (me : ME) (vs : List Nat) : List D → Fm → Option (List D × Fm)
  | [], ρ => some ([], ρ)
  | d :: ds, ρ => match mg d ρ with
    | some ρ1 => match mt ρ1 with
      | some (true, ρ2) => match me ρ2 with
        | some (pr, ρ3) => match frz ρ3 pr with
          | some (e, ρ4) => match cloop mg mt me vs ds (wipeA ρ4 vs) with
            | some (es, ρ5) => some (e :: es, ρ5)
            | none => none
          | none => none
        | none => none
      | some (false, ρ2) => cloop mg mt me vs ds (wipeA ρ2 vs)
      | none => none
    | none => none
theorem cread {K : PySem.W.Frag} (hts : ∀ i ∈ ts, i ∈ vs) {J : It} {ds : List D} {H0 Hs : Hp} {M0 Ms O : Mset} {π : Nat → Option Addr} {σ : St} {Dd : Addr} {ρa ρ2 : Fm} {es ea : List D} {acc : List V} {Qd : Hp → Prop}
    (src : Src K J ds H0 M0) (l : Lat H0 M0 Hs Ms) (s : SR K Hs Ms (wth O Dd) π ρa (wipeA σ vs)) (hO : ¬ O Dd) (hA : Hs Dd = some (.lst acc)) (hR : Reps K Hs Ms acc ea) (hz : ea.length + es.length ≤ sizeLine)
    (e : cloop mg mt me vs ds ρa = some (es, ρ2)) (hq : ∀ H M acc', Ext O Hs Ms H M → SR K H M (wth O Dd) π ρ2 (wipeA σ vs) → H Dd = some (.lst acc') → Reps K H M acc' (ea ++ es) → Qd H) :
    ∃ W : Nat → Nat → Hp → Prop, (∃ m, W 0 m Hs) ∧ ∀ i m H, W i m H →
      (J.stop i H ∧ Qd H) ∨ (J.go i H ∧ ∃ Nx : Hp → Prop, (∀ H', Nx H' → ∃ m', m' < m ∧ W (i + 1) m' H') ∧ ∀ x H', J.yld i H x H' → tG K mg ts x (wipe σ vs) H' fun σ2 H2 => wipe σ2 vs = wipe σ vs ∧ tT K mt σ2 H2 fun b H3 =>
        if b = true then tE K me σ2 H3 fun y H4 => ∃ acc, H4 Dd = some (.lst acc) ∧ acc.length < sizeLine ∧ Nx (upd H4 Dd (.lst (acc ++ [y]))) else Nx H3) := by
  have hMs : Ms Dd := s.sub Dd (.inr rfl)
  have less : ∀ a, O a → wth O Dd a := fun a q => .inl q
  refine ⟨fun i m H => m = ds.length - i ∧ i ≤ ds.length ∧ ∃ ρb M acc' eb es', SR K H M (wth O Dd) π ρb (wipeA σ vs) ∧ Ext O Hs Ms H M ∧ H Dd = some (.lst acc') ∧ Reps K H M acc' eb ∧ cloop mg mt me vs (ds.drop i) ρb = some (es', ρ2) ∧ ea ++ es = eb ++ es',
    ⟨_, rfl, Nat.zero_le _, ρa, Ms, acc, ea, es, s, .refl (s.less less), hA, hR, e, rfl⟩, ?_⟩
  rintro i m H ⟨rfl, hi, ρb, M, acc', eb, es', sb, xb, hAb, hRb, eb', eq⟩
  have lb : Lat H0 M0 H M := l.trans xb.tr
  by_cases hlt : i < ds.length
  · rw [List.drop_eq_getElem_cons hlt] at eb'
    have hd : ds[i]? = some ds[i] := List.getElem?_eq_getElem hlt
    refine .inr ⟨src.go H M lb i hlt, fun H' => ds.length - (i + 1) = ds.length - (i + 1) ∧ i + 1 ≤ ds.length ∧ ∃ ρb M acc' eb es', SR K H' M (wth O Dd) π ρb (wipeA σ vs) ∧ Ext O Hs Ms H' M ∧ H' Dd = some (.lst acc') ∧ Reps K H' M acc' eb ∧ cloop mg mt me vs (ds.drop (i + 1)) ρb = some (es', ρ2) ∧ ea ++ es = eb ++ es', fun H' w => ⟨_, by omega, w⟩, fun x H3 y => ?_⟩
    obtain ⟨s3, x3, r3⟩ := (src.yld H M lb i _ x H3 hd y).ok sb
    unfold cloop at eb'
    split at eb'
    · rename_i ρ3 e3
      rw [wipe_eq]
      refine ⟨ρb, M, wth O Dd, π, _, ρ3, s3, r3, e3, fun σ4 s4 fr ln => ?_⟩
      have hw : wipeA σ4 vs = wipeA σ vs := wipeA_ext (fun j hj => by rw [fr j (fun z => hj (hts j z)), wipeA_out hj]) (by rw [ln, wipeA_len])
      refine ⟨by rw [wipe_eq]; exact hw, ?_⟩
      split at eb'
      · rename_i ρ4 e4
        refine ⟨ρ3, M, wth O Dd, π, true, ρ4, s4, e4, fun H5 M5 x5 s5 => iteT ?_⟩
        split at eb'
        · rename_i pr ρ5 e5
          split at eb'
          · rename_i ee ρ6 e6
            split at eb'
            · rename_i es2 ρ7 e7
              cases eb'
              refine ⟨ρ4, M5, wth O Dd, π, pr, ρ5, s5, e5, fun v H6 M6 x6 s6 r6 => ?_⟩
              obtain ⟨M7, x7, s7, r7⟩ := frz_ok s6 r6 e6
              have xx : Ext (wth O Dd) H M H6 M7 := ((x3.trans x5).trans x6).trans x7
              have hA6 : H6 Dd = some (.lst acc') := xx.keep Dd _ hAb (.inl (.inr rfl))
              have hM7 : M7 Dd := s7.sub Dd (.inr rfl)
              have hl : acc'.length < sizeLine := by
                rw [hRb.length]
                have := congrArg List.length eq
                rw [List.length_append, List.length_append, List.length_cons] at this
                omega
              refine ⟨acc', hA6, hl, rfl, hlt, wipeA ρ6 vs, M7, acc' ++ [v], eb ++ [ee], es2, ?_, (xb.trans (xx.less less)).updM hMs hO, upd_same, ((hRb.tr xx.tr).append (.cons r7 .nil)).tr (upd_lat hM7), e7, ?_⟩
              · rw [← hw]; exact (s7.writeO hM7 (.inr rfl)).wipe vs
              · rw [eq, List.append_assoc]; rfl
            · cases eb'
          · cases eb'
        · cases eb'
      · rename_i ρ4 e4
        refine ⟨ρ3, M, wth O Dd, π, false, ρ4, s4, e4, fun H5 M5 x5 s5 => iteF ?_⟩
        have xx : Ext (wth O Dd) H M H5 M5 := x3.trans x5
        refine ⟨rfl, hlt, wipeA ρ4 vs, M5, acc', eb, es', ?_, xb.trans (xx.less less), xx.keep Dd _ hAb (.inl (.inr rfl)), hRb.tr xx.tr, eb', eq⟩
        rw [← hw]; exact s5.wipe vs
      · cases eb'
    · cases eb'
  · have ei : i = ds.length := by omega
    subst ei
    rw [List.drop_length] at eb'
    cases eb'
    rw [List.append_nil] at eq
    exact .inl ⟨src.stop H M lb, hq H M acc' xb sb hAb (by rw [eq]; exact hRb)⟩
def mComp (mi : MI) (mg : MG) (mt : MT) (me : ME) (vs : List Nat) : ME := fun ρ => match mi ρ with
  | some (ds, ρ1) => if vsOk ρ1 vs = true then match cloop mg mt me vs ds (wipeA ρ1 vs) with
    | some (es, ρ2) => if fits es.length = true then some (.val (.own false es), restA ρ2 ρ1 vs) else none
    | none => none
    else none
  | none => none
theorem comp_start {K : PySem.W.Frag} {H1 : Hp} {M1 O : Mset} {π : Nat → Option Addr} {ρ1 : Fm} {σ : St} {Dd : Addr} (s1 : SR K H1 M1 O π ρ1 σ) (hD : H1 Dd = none) (vs : List Nat) : SR K (upd H1 Dd (.lst [])) (wth M1 Dd) (wth O Dd) π (wipeA ρ1 vs) (wipeA σ vs) := by
  refine ((s1.allocOwn hD).wipe vs).more (fun a q => q.elim (fun z => .inl (s1.sub a z)) fun z => .inr z) fun i b ds a e1 e2 z => ?_
  obtain ⟨e3, hn⟩ := wipeA_some e1
  rw [wipeA_out hn] at e2
  obtain ⟨a', ws, f1, f2, f3, f4, _⟩ := s1.own i b ds e3
  rw [e2] at f1; cases f1
  rcases z with z | z
  · exact f4 z
  · rw [z, hD] at f2; cases f2
theorem comp_end {K : PySem.W.Frag} {H1 H : Hp} {M1 M O : Mset} {π : Nat → Option Addr} {ρ1 ρ2 : Fm} {σ : St} {Dd : Addr} {acc : List V} {es : List D} (s1 : SR K H1 M1 O π ρ1 σ) (hD : H1 Dd = none) (ok : vsOk ρ1 vs = true) (x : Ext O (upd H1 Dd (.lst [])) (wth M1 Dd) H M) (s : SR K H M (wth O Dd) π ρ2 (wipeA σ vs))
    (hA : H Dd = some (.lst acc)) (hR : Reps K H M acc es) : Ext O H1 M1 H M ∧ SR K H M O π (restA ρ2 ρ1 vs) σ ∧ RP K H M O (restA ρ2 ρ1 vs) σ (.val (.own false es)) (.ref Dd) := by
  have less : ∀ a, O a → wth O Dd a := fun a q => .inl q
  have x1 : Ext O H1 M1 H M := (Ext.allocOwn s1 hD).trans x
  have hO : ¬ O Dd := fun z => s1.live Dd (s1.sub Dd z) hD
  refine ⟨x1, s1.unwipe ok (s.less less) x1.tr, Dd, acc, rfl, hA, s.sub Dd (.inr rfl), hO, hR, fun i b ds e1 e2 => ?_⟩
  by_cases hi : i ∈ vs
  · by_cases hl : i < ρ2.length
    · rw [restA_in hi hl] at e1
      cases q : ρ1[i]? with
      | none => rw [q] at e1; cases e1
      | some z => rw [q] at e1; exact vsOk_own ok hi (q.trans e1)
    · rw [List.getElem?_eq_none (by rw [restA_len]; omega)] at e1; cases e1
  · rw [restA_out hi] at e1
    obtain ⟨a', ws, f1, f2, f3, f4, _⟩ := s.own i b ds e1
    rw [wipeA_out hi, e2] at f1; cases f1
    exact f4 (.inr rfl)
theorem lc_read {K : PySem.W.Frag} {mi : MI} (hts : ∀ i ∈ ts, i ∈ vs) {σ : St} {H : Hp} {Q : VK} (h : tE K (mComp mi mg mt me vs) σ H Q) : tLc (tI K mi) (tG K mg ts) (tT K mt) (tE K me) vs σ H Q := by
  obtain ⟨ρ, M, O, π, pr, ρ', h, e, q⟩ := h
  unfold mComp at e
  split at e
  · rename_i ds ρ1 e1
    split at e
    · rename_i ok
      split at e
      · rename_i es ρ2 e2
        split at e
        · rename_i hz
          cases e
          refine ⟨ρ, M, O, π, ds, ρ1, h, e1, fun J H1 M1 x1 s1 src Dd hD => ?_⟩
          have hO : ¬ O Dd := fun z => s1.live Dd (s1.sub Dd z) hD
          refine cread (ea := []) hts src (alloc_tr_own s1 hD) (comp_start s1 hD vs) hO upd_same .nil (by have := fits_le hz; simpa using this) e2 fun H2 M2 acc x2 s2 hA hR => ?_
          obtain ⟨y1, y2, y3⟩ := comp_end s1 hD ok x2 s2 hA hR
          exact q _ H2 M2 (x1.trans y1) y2 y3
        · cases e
      · cases e
    · cases e
  · cases e
/-! two clauses -/
variable {mi1 : MI} {mg1 : MG} {mt1 : MT} {vs1 ts1 : List Nat}
def c2loop (mg : MG) (mt : MT) (mi1 : MI) (mg1 : MG) (mt1 : MT) (me : ME) (vs vs1 : List Nat) : List D → Fm → Option (List D × Fm)
  | [], ρ => some ([], ρ)
  | d :: ds, ρ => match mg d ρ with
    | some ρ1 => match mt ρ1 with
      | some (true, ρ2) => match mi1 ρ2 with
        | some (ds1, ρ3) => match cloop mg1 mt1 me vs1 ds1 (wipeA ρ3 vs1) with
          | some (es1, ρ4) => match c2loop mg mt mi1 mg1 mt1 me vs vs1 ds (wipeA ρ4 vs) with
            | some (es, ρ5) => some (es1 ++ es, ρ5)
            | none => none
          | none => none
        | none => none
      | some (false, ρ2) => c2loop mg mt mi1 mg1 mt1 me vs vs1 ds (wipeA ρ2 vs)
      | none => none
    | none => none
def mComp2 (mi : MI) (mg : MG) (mt : MT) (mi1 : MI) (mg1 : MG) (mt1 : MT) (me : ME) (vs vs1 : List Nat) : ME := fun ρ => match mi ρ with
  | some (ds, ρ1) => if vsOk ρ1 vs = true then match c2loop mg mt mi1 mg1 mt1 me vs vs1 ds (wipeA ρ1 vs) with
    | some (es, ρ2) => if fits es.length = true then some (.val (.own false es), restA ρ2 ρ1 vs) else none
    | none => none
    else none
  | none => none
theorem lc2_read {K : PySem.W.Frag} {mi : MI} (hts : ∀ i ∈ ts, i ∈ vs) (hts1 : ∀ i ∈ ts1, i ∈ vs1) (hv : ∀ i ∈ vs1, i ∈ vs) {σ : St} {H : Hp} {Q : VK} (h : tE K (mComp2 mi mg mt mi1 mg1 mt1 me vs vs1) σ H Q) :
    tLc2 (tI K mi) (tG K mg ts) (tT K mt) (tI K mi1) (tG K mg1 ts1) (tT K mt1) (tE K me) vs vs1 σ H Q := by
  obtain ⟨ρ, M, O, π, pr, ρ', h, e, q⟩ := h
  unfold mComp2 at e
  split at e
  · rename_i ds ρ1 e1
    split at e
    · rename_i ok
      split at e
      · rename_i es ρ2 e2
        split at e
        · rename_i hz
          cases e
          refine ⟨ρ, M, O, π, ds, ρ1, h, e1, fun J H1 M1 x1 s1 src Dd hD => ?_⟩
          have hO : ¬ O Dd := fun z => s1.live Dd (s1.sub Dd z) hD
          have less : ∀ a, O a → wth O Dd a := fun a q => .inl q
          have s := comp_start s1 hD vs
          have hMs : wth M1 Dd Dd := .inr rfl
          refine ⟨fun i m H => m = ds.length - i ∧ i ≤ ds.length ∧ ∃ ρb M acc' eb es', SR K H M (wth O Dd) π ρb (wipeA σ vs) ∧ Ext O (upd H1 Dd (.lst [])) (wth M1 Dd) H M ∧ H Dd = some (.lst acc') ∧ Reps K H M acc' eb ∧ c2loop mg mt mi1 mg1 mt1 me vs vs1 (ds.drop i) ρb = some (es', ρ2) ∧ es = eb ++ es',
            ⟨_, rfl, Nat.zero_le _, _, _, [], [], es, s, .refl (s.less less), upd_same, .nil, e2, rfl⟩, ?_⟩
          rintro i m H ⟨rfl, hi, ρb, M, acc', eb, es', sb, xb, hAb, hRb, eb', eq⟩
          have lb : Lat H1 M1 H M := Lat.trans (alloc_tr_own s1 hD) xb.tr
          by_cases hlt : i < ds.length
          · rw [List.drop_eq_getElem_cons hlt] at eb'
            have hd : ds[i]? = some ds[i] := List.getElem?_eq_getElem hlt
            refine .inr ⟨src.go H M lb i hlt, fun H' => ds.length - (i + 1) = ds.length - (i + 1) ∧ i + 1 ≤ ds.length ∧ ∃ ρb M acc' eb es', SR K H' M (wth O Dd) π ρb (wipeA σ vs) ∧ Ext O (upd H1 Dd (.lst [])) (wth M1 Dd) H' M ∧ H' Dd = some (.lst acc') ∧ Reps K H' M acc' eb ∧ c2loop mg mt mi1 mg1 mt1 me vs vs1 (ds.drop (i + 1)) ρb = some (es', ρ2) ∧ es = eb ++ es', fun H' w => ⟨_, by omega, w⟩, fun x H3 y => ?_⟩
            obtain ⟨s3, x3, r3⟩ := (src.yld H M lb i _ x H3 hd y).ok sb
            unfold c2loop at eb'
            split at eb'
            · rename_i ρ3 e3
              rw [wipe_eq]
              refine ⟨ρb, M, wth O Dd, π, _, ρ3, s3, r3, e3, fun σ4 s4 fr ln => ?_⟩
              have hw : wipeA σ4 vs = wipeA σ vs := wipeA_ext (fun j hj => by rw [fr j (fun z => hj (hts j z)), wipeA_out hj]) (by rw [ln, wipeA_len])
              refine ⟨by rw [wipe_eq]; exact hw, ?_⟩
              split at eb'
              · rename_i ρ4 e4
                refine ⟨ρ3, M, wth O Dd, π, true, ρ4, s4, e4, fun H5 M5 x5 s5 => iteT ?_⟩
                split at eb'
                · rename_i ds1 ρ5 e5
                  split at eb'
                  · rename_i es1 ρ6 e6
                    split at eb'
                    · rename_i es2 ρ7 e7
                      cases eb'
                      refine ⟨ρ4, M5, wth O Dd, π, ds1, ρ5, s5, e5, fun J1 H6 M6 x6 s6 src1 => ?_⟩
                      have xx : Ext (wth O Dd) H M H6 M6 := (x3.trans x5).trans x6
                      have hA6 : H6 Dd = some (.lst acc') := xx.keep Dd _ hAb (.inl (.inr rfl))
                      have hl : eb.length + es1.length ≤ sizeLine := by
                        have h1 := fits_le hz
                        have := congrArg List.length eq
                        rw [List.length_append, List.length_append] at this
                        omega
                      refine cread hts1 src1 (fun _ _ h n => ⟨h, n⟩) (s6.wipe vs1) hO hA6 (hRb.tr xx.tr) hl e6 fun H8 M8 acc8 x8 s8 hA8 hR8 => ?_
                      refine ⟨rfl, hlt, wipeA ρ6 vs, M8, acc8, eb ++ es1, es2, ?_, (xb.trans (xx.less less)).trans x8, hA8, hR8, e7, by rw [eq, List.append_assoc]⟩
                      have hw2 : wipeA (wipeA σ4 vs1) vs = wipeA σ vs := by
                        rw [← hw]
                        exact wipeA_ext (fun j hj => wipeA_out fun z => hj (hv j z)) (wipeA_len _ _)
                      rw [← hw2]
                      exact s8.wipe vs
                    · cases eb'
                  · cases eb'
                · cases eb'
              · rename_i ρ4 e4
                refine ⟨ρ3, M, wth O Dd, π, false, ρ4, s4, e4, fun H5 M5 x5 s5 => iteF ?_⟩
                have xx : Ext (wth O Dd) H M H5 M5 := x3.trans x5
                refine ⟨rfl, hlt, wipeA ρ4 vs, M5, acc', eb, es', ?_, xb.trans (xx.less less), xx.keep Dd _ hAb (.inl (.inr rfl)), hRb.tr xx.tr, eb', eq⟩
                rw [← hw]; exact s5.wipe vs
              · cases eb'
            · cases eb'
          · have ei : i = ds.length := by omega
            subst ei
            rw [List.drop_length] at eb'
            cases eb'
            rw [List.append_nil] at eq
            obtain ⟨y1, y2, y3⟩ := comp_end s1 hD ok xb sb hAb (by rw [← eq] at hRb; exact hRb)
            exact .inl ⟨src.stop H M lb, q _ H M (x1.trans y1) y2 y3⟩
        · cases e
      · cases e
    · cases e
  · cases e
end
section
variable {X : Cx} {elt tg iter tg1 iter1 : Expr} {ifs ifs1 : List Expr} {scope : Scope} {own : List (Str × Nat)} {pos : Pos} {mi mi1 : MI} {mg mg1 : MG} {mt mt1 : MT} {me : ME} {ts ts1 vs1 : List Nat}
def DTs (X : Cx) (es : List Expr) (m : MT) : Prop := PTs X es (tT X.K m)
def mYes : MT := fun ρ => some (true, ρ)
theorem dts_nil : DTs X [] mYes := ⟨fun pins s σ H Q I ⟨ρ, M, O, π, b, ρ', h, e, q⟩ => by
  cases e
  exact pts_nil.run pins s σ H Q I (q H M (.refl h) h)⟩
theorem dts_one {c : Expr} (h : DT X c mt) : DTs X [c] mt := pts_one h
/-- a block's context -/
abbrev Bk (X : Cx) (scope : Scope) (P : Cx → Prop) : Prop := ∀ (s : Shared) (H : Hp) (C : Addr) (cl : List (Str × Addr)) (fp : List Addr), P (X.blk s H scope (compEnvC scope cl C X.env) fp)
theorem de_lc (hc : X.calm = true) (hN : X.N.Nodup) (hi : DI X tg iter mi) (ok : BlkOk X.N X.env.scope scope own) (hg : Bk X scope fun Y => DG Y tg mg ts) (ht : Bk X scope fun Y => DTs Y ifs mt) (he : Bk X scope fun Y => DE Y elt me)
    (hts : ∀ i ∈ ts, i ∈ own.map (·.2)) (hs : ∀ x, foldedSetIterable iter X.env x = pure x := by intro _; rfl) : DE X (.ListComp elt [⟨tg, iter, ifs, 0⟩] scope pos) (mComp mi mg mt me (own.map (·.2))) :=
  PE.imp (pe_lc (wi := tI X.K mi) (g := tG X.K mg ts) (tt := tT X.K mt) (te := tE X.K me) hc hN hi ok hg ht he hs) fun σ H Q h => lc_read hts h
theorem ds_setLc {i : Nat} {y : Str} {py spos : Pos} (hc : X.calm = true) (hN : X.N.Nodup) (hy : X.N[i]? = some y) (hyl : X.env.scope.names.lookup y = some .local)
    (hsw : swapsWith (.ListComp elt [⟨tg, iter, ifs, 0⟩] scope pos) (some (.Name y py)) spos.line X.env = pure true) (hi : DI X tg iter mi) (ok : BlkOk X.N X.env.scope scope own) (hg : Bk X scope fun Y => DG Y tg mg ts) (ht : Bk X scope fun Y => DTs Y ifs mt) (he : Bk X scope fun Y => DE Y elt me)
    (hts : ∀ i ∈ ts, i ∈ own.map (·.2)) (hs : ∀ x, foldedSetIterable iter X.env x = pure x := by intro _; rfl) : DS X (.Assign [.Name y py] (.ListComp elt [⟨tg, iter, ifs, 0⟩] scope pos) spos) (mSet i (mComp mi mg mt me (own.map (·.2)))) :=
  PS.imp (ps_setLc (wi := tI X.K mi) (g := tG X.K mg ts) (tt := tT X.K mt) (te := tE X.K me) hc hN hy hyl hsw hi ok hg ht he hs) fun D σ H ⟨ρ, M, O, π, fl, ρ', h, e, q⟩ => by
    unfold mSet at e
    split at e
    · rename_i pr ρ1 e1
      split at e
      · rename_i ρ2 e2
        cases e
        refine lc_read (K := X.K) hts ⟨ρ, M, O, π, pr, ρ1, h, e1, fun v H1 M1 x1 s1 r1 => ?_⟩
        obtain ⟨M2, x2, s2⟩ := put_ok s1 r1 e2
        exact q _ H1 M2 (x1.trans x2) s2
      · cases e
    · cases e
theorem de_lc2 (hc : X.calm = true) (hN : X.N.Nodup) (hi : DI X tg iter mi) (ok : BlkOk X.N X.env.scope scope own) (hv : ∀ i ∈ vs1, i ∈ own.map (·.2)) (hg : Bk X scope fun Y => DG Y tg mg ts) (ht : Bk X scope fun Y => DTs Y ifs mt) (hi1 : Bk X scope fun Y => DI Y tg1 iter1 mi1) (hg1 : Bk X scope fun Y => DG Y tg1 mg1 ts1) (ht1 : Bk X scope fun Y => DTs Y ifs1 mt1) (he : Bk X scope fun Y => DE Y elt me)
    (hts : ∀ i ∈ ts, i ∈ own.map (·.2)) (hts1 : ∀ i ∈ ts1, i ∈ vs1) (hs : ∀ x, foldedSetIterable iter X.env x = pure x := by intro _; rfl) (hs1 : ∀ env x, foldedSetIterable iter1 env x = pure x := by intro _ _; rfl) :
    DE X (.ListComp elt [⟨tg, iter, ifs, 0⟩, ⟨tg1, iter1, ifs1, 0⟩] scope pos) (mComp2 mi mg mt mi1 mg1 mt1 me (own.map (·.2)) vs1) :=
  PE.imp (pe_lc2 (wi := tI X.K mi) (g := tG X.K mg ts) (tt := tT X.K mt) (wi1 := tI X.K mi1) (g1 := tG X.K mg1 ts1) (tt1 := tT X.K mt1) (te := tE X.K me) hc hN hi ok hv hg ht hi1 hg1 ht1 he hs hs1) fun σ H Q h => lc2_read hts hts1 hv h
theorem ds_setLc2 {i : Nat} {y : Str} {py spos : Pos} (hc : X.calm = true) (hN : X.N.Nodup) (hy : X.N[i]? = some y) (hyl : X.env.scope.names.lookup y = some .local)
    (hsw : swapsWith (.ListComp elt [⟨tg, iter, ifs, 0⟩, ⟨tg1, iter1, ifs1, 0⟩] scope pos) (some (.Name y py)) spos.line X.env = pure true) (hi : DI X tg iter mi) (ok : BlkOk X.N X.env.scope scope own) (hv : ∀ i ∈ vs1, i ∈ own.map (·.2)) (hg : Bk X scope fun Y => DG Y tg mg ts) (ht : Bk X scope fun Y => DTs Y ifs mt) (hi1 : Bk X scope fun Y => DI Y tg1 iter1 mi1) (hg1 : Bk X scope fun Y => DG Y tg1 mg1 ts1) (ht1 : Bk X scope fun Y => DTs Y ifs1 mt1) (he : Bk X scope fun Y => DE Y elt me)
    (hts : ∀ i ∈ ts, i ∈ own.map (·.2)) (hts1 : ∀ i ∈ ts1, i ∈ vs1) (hs : ∀ x, foldedSetIterable iter X.env x = pure x := by intro _; rfl) (hs1 : ∀ env x, foldedSetIterable iter1 env x = pure x := by intro _ _; rfl) :
    DS X (.Assign [.Name y py] (.ListComp elt [⟨tg, iter, ifs, 0⟩, ⟨tg1, iter1, ifs1, 0⟩] scope pos) spos) (mSet i (mComp2 mi mg mt mi1 mg1 mt1 me (own.map (·.2)) vs1)) :=
  PS.imp (ps_setLc2 (wi := tI X.K mi) (g := tG X.K mg ts) (tt := tT X.K mt) (wi1 := tI X.K mi1) (g1 := tG X.K mg1 ts1) (tt1 := tT X.K mt1) (te := tE X.K me) hc hN hy hyl hsw hi ok hv hg ht hi1 hg1 ht1 he hs hs1) fun D σ H ⟨ρ, M, O, π, fl, ρ', h, e, q⟩ => by
    unfold mSet at e
    split at e
    · rename_i pr ρ1 e1
      split at e
      · rename_i ρ2 e2
        cases e
        refine lc2_read (K := X.K) hts hts1 hv ⟨ρ, M, O, π, pr, ρ1, h, e1, fun v H1 M1 x1 s1 r1 => ?_⟩
        obtain ⟨M2, x2, s2⟩ := put_ok s1 r1 e2
        exact q _ H1 M2 (x1.trans x2) s2
      · cases e
    · cases e
end
end Vi

namespace Vi
open PySem PySem.Spec PyProof.Rows L2

/-! ### what a def does, over data -/
/-- the names' values, what is handed back and the lists that were handed in to be changed -/
abbrev Out := Sv × List (Option (List D))
abbrev Fn := List Sv → Option Out
def outsOf : List Sv → Fm → Option (List (Option (List D)))
  | [], _ => some []
  | .imm _ :: as, _ :: ρ => match outsOf as ρ with
    | some os => some (none :: os)
    | none => none
  | .own _ _ :: as, some (.own true ds) :: ρ => match outsOf as ρ with
    | some os => some (some ds :: os)
    | none => none
  | _, _ => none
def pinned : List Sv → Bool
  | [] => true
  | .imm _ :: as => pinned as
  | .own b _ :: as => b && pinned as
/-- nN: how many names, np: how many parameters -/
def mFn (nN np : Nat) (body : MS) : Fn := fun args =>
  if args.length = np then match body (args.map some ++ List.replicate (nN - np) none) with
    | some (.ret r, ρ) => match outsOf args ρ with
      | some os => some (r, os)
      | none => none
    | some (.next, ρ) => match outsOf args ρ with
      | some os => some (.imm .none, os)
      | none => none
    | _ => none
  else none
def OutR (K : PySem.W.Frag) (H : Hp) (M : Mset) (π : Nat → Option Addr) (os : List (Option (List D))) : Prop :=
  ∀ (i : Nat) (ds : List D), os[i]? = some (some ds) → ∃ a ws, π i = some a ∧ H a = some (.lst ws) ∧ M a ∧ Reps K H M ws ds
def RetR (K : PySem.W.Frag) (H : Hp) (M O : Mset) (π : Nat → Option Addr) (os : List (Option (List D))) : Sv → V → Prop
  | .imm d, v => Rep K H M v d
  | .own _ ds, v => ∃ p vs, v = .ref p ∧ H p = some (.lst vs) ∧ M p ∧ ¬ O p ∧ Reps K H M vs ds ∧ ∀ (i : Nat) (es : List D), os[i]? = some (some es) → π i ≠ some p
def spD (K : PySem.W.Frag) (n : Nat) (f : Fn) : Sp := fun vs H Q _ => ∃ M O π args r os, vs.length = n ∧ SR K H M O π (args.map some) (vs.map some) ∧ f args = some (r, os) ∧
  ∀ v H' M', (∀ a, M' a → H' a ≠ none) → Ext O H M H' M' → OutR K H' M' π os → RetR K H' M' O π os r v → Q v H'
theorem outs_len : ∀ {as : List Sv} {ρ : Fm} {os : List (Option (List D))}, outsOf as ρ = some os → os.length = as.length
  | [], _, _, e => by cases e; rfl
  | .imm _ :: as, [], _, e => by cases e
  | .imm d :: as, x :: ρ, os, e => by
    unfold outsOf at e
    split at e
    · rename_i o e1
      cases e
      rw [List.length_cons, List.length_cons, outs_len e1]
    · cases e
  | .own _ _ :: as, [], _, e => by cases e
  | .own _ _ :: as, none :: ρ, _, e => by cases e
  | .own _ _ :: as, some (.imm _) :: ρ, _, e => by cases e
  | .own _ _ :: as, some (.own false _) :: ρ, _, e => by cases e
  | .own _ _ :: as, some (.own true ds) :: ρ, os, e => by
    unfold outsOf at e
    split at e
    · rename_i o e1
      cases e
      rw [List.length_cons, List.length_cons, outs_len e1]
    · cases e
theorem outs_get : ∀ {as : List Sv} {ρ : Fm} {os : List (Option (List D))} {i : Nat} {ds : List D}, outsOf as ρ = some os → os[i]? = some (some ds) → ρ[i]? = some (some (.own true ds)) ∧ ∃ b es, as[i]? = some (.own b es)
  | [], _, _, _, _, e, h => by cases e; simp at h
  | .imm _ :: as, [], _, _, _, e, h => by cases e
  | .imm d :: as, x :: ρ, os, i, ds, e, h => by
    unfold outsOf at e
    split at e
    · rename_i o e1
      cases e
      cases i with
      | zero => simp at h
      | succ i =>
        obtain ⟨h1, h2⟩ := outs_get e1 (by simpa using h)
        exact ⟨by simpa using h1, by simpa using h2⟩
    · cases e
  | .own _ _ :: as, [], _, _, _, e, h => by cases e
  | .own _ _ :: as, none :: ρ, _, _, _, e, h => by cases e
  | .own _ _ :: as, some (.imm _) :: ρ, _, _, _, e, h => by cases e
  | .own _ _ :: as, some (.own false _) :: ρ, _, _, _, e, h => by cases e
  | .own b es :: as, some (.own true ds') :: ρ, os, i, ds, e, h => by
    unfold outsOf at e
    split at e
    · rename_i o e1
      cases e
      cases i with
      | zero =>
        simp at h
        subst h
        exact ⟨rfl, b, es, rfl⟩
      | succ i =>
        obtain ⟨h1, h2⟩ := outs_get e1 (by simpa using h)
        exact ⟨by simpa using h1, by simpa using h2⟩
    · cases e
/-- an own parameter is handed out -/
theorem outs_own : ∀ {as : List Sv} {ρ : Fm} {os : List (Option (List D))} {i : Nat} {b : Bool} {es : List D}, outsOf as ρ = some os → as[i]? = some (.own b es) → ∃ ds, os[i]? = some (some ds)
  | [], _, _, _, _, _, e, h => by simp at h
  | .imm _ :: as, [], _, _, _, _, e, h => by cases e
  | .imm d :: as, x :: ρ, os, i, _, _, e, h => by
    unfold outsOf at e
    split at e
    · rename_i o e1
      cases e
      cases i with
      | zero => simp at h
      | succ i => obtain ⟨ds, h1⟩ := outs_own e1 (by simpa using h); exact ⟨ds, by simpa using h1⟩
    · cases e
  | .own _ _ :: as, [], _, _, _, _, e, h => by cases e
  | .own _ _ :: as, none :: ρ, _, _, _, _, e, h => by cases e
  | .own _ _ :: as, some (.imm _) :: ρ, _, _, _, _, e, h => by cases e
  | .own _ _ :: as, some (.own false _) :: ρ, _, _, _, _, e, h => by cases e
  | .own b es :: as, some (.own true ds') :: ρ, os, i, _, _, e, h => by
    unfold outsOf at e
    split at e
    · rename_i o e1
      cases e
      cases i with
      | zero => exact ⟨ds', rfl⟩
      | succ i => obtain ⟨ds, h1⟩ := outs_own e1 (by simpa using h); exact ⟨ds, by simpa using h1⟩
    · cases e

section
variable {P : Program} {w : World} {K : PySem.W.Frag} {mg : Str → Option Value} {base : Heap}
theorem SR.pad {H : Hp} {M O : Mset} {π : Nat → Option Addr} {as : List Sv} {vs : List V} (h : SR K H M O π (as.map some) (vs.map some)) (n : Nat) : SR K H M O π (as.map some ++ List.replicate n none) (vs.map some ++ List.replicate n none) := by
  have len : as.length = vs.length := by have := h.len; simpa using this
  have get : ∀ {i : Nat} {s : Sv}, (as.map some ++ List.replicate n none)[i]? = some (some s) → (as.map some)[i]? = some (some s) ∧ i < vs.length := fun {i s} e => by
    by_cases hi : i < as.length
    · rw [List.getElem?_append_left (by simpa using hi)] at e
      exact ⟨e, by omega⟩
    · rw [List.getElem?_append_right (by simpa using hi), List.getElem?_replicate] at e
      split at e <;> cases e
  have up : ∀ {i : Nat}, i < vs.length → (vs.map some ++ List.replicate n none)[i]? = (vs.map some)[i]? := fun {i} hi => List.getElem?_append_left (by simpa using hi)
  refine ⟨by rw [List.length_append, List.length_append, h.len]; simp, h.sub, h.live, fun i d e => ?_, fun i b ds e => ?_, fun i j b c ds es a hij e f g => ?_⟩
  · obtain ⟨e1, hi⟩ := get e
    rw [up hi]; exact h.imm i d e1
  · obtain ⟨e1, hi⟩ := get e
    rw [up hi]; exact h.own i b ds e1
  · obtain ⟨e1, hi⟩ := get e
    obtain ⟨f1, hj⟩ := get f
    rw [up hi] at g
    rw [up hj]; exact h.uniq i j b c ds es a hij e1 f1 g
/-- THE RULE for a def -/
theorem fn_ok {x qual : Str} {st : Stmt} {f : Addr} {fd : FuncData} {N ps : List Str} {k : Nat} {body : MS} (F : Fun K x qual st f fd) (S : FnScope N ps (defScope st))
    (hb : ∀ (cdv : Value) (A : Around) (outer : List Env) (s : Shared) (H : Hp) (E : XK), Room k (A.deeper (envOfC qual (defScope st) s.heap.objs.size f cdv)) → DSs (cxOf CX0 P w K mg base N qual (defScope st) f cdv A outer s H E).nox (defBody st) body) :
    FnOk P w K mg base CX0 (k + 1) f fd ps (spD K ps.length (mFn N.length ps.length body)) := by
  refine F.ok S (fun vs H Q E h => ?_) (fun cdv A outer s H vs Q E hr h => ?_)
  · obtain ⟨M, O, π, args, r, os, hl, _⟩ := h
    exact hl
  · obtain ⟨M, O, π, args, r, os, hl, hs, e, q⟩ := h
    have hal : args.length = vs.length := by have := hs.len; simpa using this
    refine ⟨_, hb cdv A outer s H E hr, ?_⟩
    unfold mFn at e
    have start_eq : L2.start N vs = vs.map some ++ List.replicate (N.length - ps.length) none := by unfold L2.start; rw [hl]
    have fin : ∀ {σ' : St} {ρ' : Fm} {H' : Hp} {M' : Mset} {rr : Sv} {v : V}, Ext O H M H' M' → SR K H' M' O π ρ' σ' → RV K H' M' O ρ' σ' rr v → outsOf args ρ' = some os → rr = r → Q v H' := fun {σ' ρ' H' M' rr v} x s r1 eo er => by
      subst er
      refine q v H' M' s.live x (fun i ds ei => ?_) ?_
      · obtain ⟨e1, _⟩ := outs_get eo ei
        obtain ⟨a, ws, f1, f2, f3, f4, f5, f6⟩ := s.own i true ds e1
        exact ⟨a, ws, f6 rfl, f2, f3, f5⟩
      · cases rr with
        | imm d => exact r1
        | own b ds =>
          obtain ⟨p, ws, g1, g2, g3, g4, g5, g6⟩ := r1
          refine ⟨p, ws, g1, g2, g3, g4, g5, fun i es ei hp => ?_⟩
          obtain ⟨e1, _⟩ := outs_get eo ei
          obtain ⟨a, us, f1, f2, f3, f4, f5, f6⟩ := s.own i true es e1
          rw [f6 rfl] at hp; cases hp
          exact g6 i es e1 f1
    split at e
    · rename_i hn
      split at e
      · rename_i r' ρ' e1
        split at e
        · rename_i os' e2
          cases e
          refine ⟨_, M, O, π, .ret r, ρ', by rw [start_eq]; exact hs.pad _, e1, fun v σ' H' M' x s r1 => fin x s r1 e2 rfl⟩
        · cases e
      · rename_i ρ' e1
        split at e
        · rename_i os' e2
          cases e
          refine ⟨_, M, O, π, .next, ρ', by rw [start_eq]; exact hs.pad _, e1, fun σ' H' M' x s => fin (rr := .imm .none) x s .non e2 rfl⟩
        · cases e
      · cases e
    · cases e
end

/-! ### calls -/
/-- an argument: a value, or a name's own list that the callee may change -/
inductive AR where
  | v (d : D)
  | s (i : Nat)
abbrev MR := Fm → Option (List AR × Fm)
def ARep (K : PySem.W.Frag) (H : Hp) (M : Mset) (σ : St) : AR → V → Prop
  | .v d, v => Rep K H M v d
  | .s i, v => σ[i]? = some (some v)
abbrev AReps (K : PySem.W.Frag) (H : Hp) (M : Mset) (σ : St) : List V → List AR → Prop := Paired fun v a => ARep K H M σ a v
def tR (K : PySem.W.Frag) (m : MR) : TA := fun σ H Q => ∃ ρ M O π as ρ', SR K H M O π ρ σ ∧ m ρ = some (as, ρ') ∧ ∀ vs H' M', Ext O H M H' M' → SR K H' M' O π ρ' σ → AReps K H' M' σ vs as → Q vs H'
def DR (X : Cx) (es : List Expr) (m : MR) : Prop := PA X es (tR X.K m)
def rNil : MR := fun ρ => some ([], ρ)
def rVal (me : ME) (n : MR) : MR := fun ρ => match me ρ with
  | some (pr, ρ1) => match frz ρ1 pr with
    | some (d, ρ2) => match n ρ2 with
      | some (as, ρ3) => some (.v d :: as, ρ3)
      | none => none
    | none => none
  | none => none
def rSlot (i : Nat) (n : MR) : MR := fun ρ => match ρ[i]? with
  | some (some (.own _ _)) => match n ρ with
    | some (as, ρ3) => some (.s i :: as, ρ3)
    | none => none
  | _ => none
section
variable {X : Cx} {e : Expr} {es : List Expr} {me : ME} {n : MR}
theorem ARep.tr {K : PySem.W.Frag} {H H' : Hp} {M M' : Mset} {σ : St} {a : AR} {v : V} (l : Lat H M H' M') (r : ARep K H M σ a v) : ARep K H' M' σ a v := by
  cases a with
  | v d => exact Rep.tr l r
  | s i => exact r
theorem dr_nil : DR X [] rNil := PA.imp pa_nil fun σ H Q ⟨ρ, M, O, π, ds, ρ', h, e, q⟩ => by
  cases e
  exact q [] H M (.refl h) h .nil
theorem dr_val (he : DE X e me) (hes : DR X es n) (hs : starEach (e :: es) X.env = (false, eval e X.env) :: starEach es X.env := by rfl) : DR X (e :: es) (rVal me n) :=
  PA.imp (pa_cons he hes hs) fun σ H Q ⟨ρ, M, O, π, ds, ρ', h, e, q⟩ => by
    unfold rVal at e
    split at e
    · rename_i pr ρ1 e1
      split at e
      · rename_i d ρ2 e2
        split at e
        · rename_i as ρ3 e3
          cases e
          refine ⟨ρ, M, O, π, pr, ρ1, h, e1, fun v H1 M1 x1 s1 r1 => ?_⟩
          obtain ⟨M2, x2, s2, r2⟩ := frz_ok s1 r1 e2
          exact ⟨ρ2, M2, O, π, as, _, s2, e3, fun vs H3 M3 x3 s3 r3 => q (v :: vs) H3 M3 ((x1.trans x2).trans x3) s3 (.cons (r2.tr x3.tr) r3)⟩
        · cases e
      · cases e
    · cases e
theorem dr_slot {i : Nat} (he : PE X e (tVar i)) (hes : DR X es n) (hs : starEach (e :: es) X.env = (false, eval e X.env) :: starEach es X.env := by rfl) : DR X (e :: es) (rSlot i n) :=
  PA.imp (pa_cons he hes hs) fun σ H Q ⟨ρ, M, O, π, ds, ρ', h, e, q⟩ => by
    unfold rSlot at e
    split at e
    · rename_i b0 ds0 e0
      split at e
      · rename_i as ρ3 e3
        cases e
        obtain ⟨a, vs, f1, _⟩ := h.own i b0 ds0 e0
        exact ⟨_, f1, ρ, M, O, π, as, _, h, e3, fun vs H3 M3 x3 s3 r3 => q _ H3 M3 x3 s3 (.cons f1 r3)⟩
      · cases e
    · cases e
/-- the arguments as the callee sees them -/
def argsOf (ρ : Fm) : List AR → Option (List Sv)
  | [] => some []
  | .v d :: as => match argsOf ρ as with
    | some xs => some (.imm d :: xs)
    | none => none
  | .s i :: as => match ρ[i]? with
    | some (some (.own _ ds)) => match argsOf ρ as with
      | some xs => some (.own true ds :: xs)
      | none => none
    | _ => none
def slotsOf : List AR → List Nat
  | [] => []
  | .v _ :: as => slotsOf as
  | .s i :: as => i :: slotsOf as
def nodupB : List Nat → Bool
  | [] => true
  | i :: is => !is.contains i && nodupB is
/-- the callee's changes -/
def backTo (ρ : Fm) : List AR → List (Option (List D)) → Option Fm
  | [], [] => some ρ
  | .v _ :: as, _ :: os => backTo ρ as os
  | .s i :: as, some ds :: os => match ρ[i]? with
    | some (some (.own b _)) => backTo (ρ.set i (some (.own b ds))) as os
    | _ => none
  | _, _ => none
def mCall (f : Fn) (mr : MR) : ME := fun ρ => match mr ρ with
  | some (as, ρ1) => if nodupB (slotsOf as) = true then match argsOf ρ1 as with
    | some args => match f args with
      | some (r, os) => match backTo ρ1 as os with
        | some ρ2 => some (.val r, ρ2)
        | none => none
      | none => none
    | none => none
    else none
  | none => none
end
section
variable {K : PySem.W.Frag} {H H' : Hp} {M M' O : Mset} {π : Nat → Option Addr} {ρ ρ' : Fm} {σ : St} {as : List AR} {vs : List V} {args : List Sv} {os : List (Option (List D))}
theorem args_len : ∀ {as : List AR} {args : List Sv}, argsOf ρ as = some args → args.length = as.length
  | [], _, e => by cases e; rfl
  | .v d :: as, _, e => by
    unfold argsOf at e
    split at e
    · rename_i xs e1
      cases e; rw [List.length_cons, List.length_cons, args_len e1]
    · cases e
  | .s i :: as, _, e => by
    unfold argsOf at e
    split at e
    · split at e
      · rename_i xs e1
        cases e; rw [List.length_cons, List.length_cons, args_len e1]
      · cases e
    · cases e
theorem args_get : ∀ {as : List AR} {args : List Sv} {j : Nat} {s : Sv}, argsOf ρ as = some args → args[j]? = some s → (∃ d, as[j]? = some (.v d) ∧ s = .imm d) ∨ ∃ i b ds, as[j]? = some (.s i) ∧ ρ[i]? = some (some (.own b ds)) ∧ s = .own true ds
  | [], _, _, _, e, h => by cases e; simp at h
  | .v d :: as, _, j, s, e, h => by
    unfold argsOf at e
    split at e
    · rename_i xs e1
      cases e
      cases j with
      | zero => simp at h; exact .inl ⟨d, rfl, h.symm⟩
      | succ j => simpa using args_get e1 (by simpa using h)
    · cases e
  | .s i :: as, _, j, s, e, h => by
    unfold argsOf at e
    split at e
    · rename_i b ds hb
      split at e
      · rename_i xs e1
        cases e
        cases j with
        | zero => simp at h; exact .inr ⟨i, b, ds, rfl, hb, h.symm⟩
        | succ j => simpa using args_get e1 (by simpa using h)
      · cases e
    · cases e
theorem slots_mem : ∀ {as : List AR} {j i : Nat}, as[j]? = some (.s i) → i ∈ slotsOf as
  | [], _, _, h => by simp at h
  | .v _ :: as, 0, _, h => by simp at h
  | .v _ :: as, j + 1, i, h => slots_mem (as := as) (j := j) (by simpa using h)
  | .s k :: as, 0, i, h => by simp at h; subst h; exact List.mem_cons_self ..
  | .s k :: as, j + 1, i, h => List.mem_cons_of_mem _ (slots_mem (as := as) (j := j) (by simpa using h))
theorem slots_at : ∀ {as : List AR} {i : Nat}, i ∈ slotsOf as → ∃ (j : Nat), as[j]? = some (AR.s i)
  | [], _, h => by cases h
  | .v _ :: as, i, h => by obtain ⟨j, e⟩ := slots_at (as := as) h; exact ⟨j + 1, by simpa using e⟩
  | .s k :: as, i, h => by
    rcases List.mem_cons.mp h with rfl | h
    · exact ⟨0, rfl⟩
    · obtain ⟨j, e⟩ := slots_at (as := as) h; exact ⟨j + 1, by simpa using e⟩
theorem slots_inj : ∀ {as : List AR} {j k i : Nat}, nodupB (slotsOf as) = true → as[j]? = some (.s i) → as[k]? = some (.s i) → j = k
  | [], _, _, _, _, h, _ => by simp at h
  | .v _ :: as, 0, _, _, _, h, _ => by simp at h
  | .v _ :: as, _ + 1, 0, _, _, _, h => by simp at h
  | .v _ :: as, j + 1, k + 1, i, n, h, g => by rw [slots_inj (as := as) (j := j) (k := k) n (by simpa using h) (by simpa using g)]
  | .s m :: as, 0, 0, _, _, _, _ => rfl
  | .s m :: as, 0, k + 1, i, n, h, g => by
    simp at h; subst h
    have : m ∈ slotsOf as := slots_mem (j := k) (by simpa using g)
    unfold slotsOf nodupB at n
    rw [Bool.and_eq_true] at n
    simp [this] at n
  | .s m :: as, j + 1, 0, i, n, h, g => by
    simp at g; subst g
    have : m ∈ slotsOf as := slots_mem (j := j) (by simpa using h)
    unfold slotsOf nodupB at n
    rw [Bool.and_eq_true] at n
    simp [this] at n
  | .s m :: as, j + 1, k + 1, i, n, h, g => by
    unfold slotsOf nodupB at n
    rw [Bool.and_eq_true] at n
    rw [slots_inj (as := as) (j := j) (k := k) n.2 (by simpa using h) (by simpa using g)]
theorem paired_get {α β : Type} {F : α → β → Prop} : ∀ {xs : List α} {ys : List β} {i : Nat} {y : β}, Paired F xs ys → ys[i]? = some y → ∃ x, xs[i]? = some x ∧ F x y
  | _, _, _, _, .nil, e => by simp at e
  | _, _, 0, y, .cons r _, e => by simp at e; subst e; exact ⟨_, rfl, r⟩
  | _, _, i + 1, y, .cons _ t, e => by
    obtain ⟨x, h1, h2⟩ := paired_get (i := i) t (by simpa using e)
    exact ⟨x, by simpa using h1, h2⟩
/-- what the callee may not touch -/
def calO (M : Mset) (σ : St) (is : List Nat) : Mset := fun a => M a ∧ ∀ i ∈ is, σ[i]? ≠ some (some (.ref a))
def calP (vs : List V) : Nat → Option Addr := fun j => match vs[j]? with
  | some (.ref a) => some a
  | _ => none
theorem call_start (h : SR K H M O π ρ σ) (r : AReps K H M σ vs as) (n : nodupB (slotsOf as) = true) (e : argsOf ρ as = some args) : SR K H M (calO M σ (slotsOf as)) (calP vs) (args.map some) (vs.map some) := by
  have hl : args.length = vs.length := by rw [args_len e]; exact (Paired.length r).symm
  have get : ∀ {j : Nat} {s : Sv}, (args.map some)[j]? = some (some s) → args[j]? = some s := fun {j s} q => by
    rw [List.getElem?_map] at q
    obtain ⟨x, h1, h2⟩ := Option.map_eq_some_iff.mp q
    cases h2; exact h1
  have own : ∀ {j : Nat} {c : Bool} {ds : List D}, (args.map some)[j]? = some (some (.own c ds)) → ∃ i b a ws, as[j]? = some (.s i) ∧ ρ[i]? = some (some (.own b ds)) ∧ c = true ∧ vs[j]? = some (.ref a) ∧ σ[i]? = some (some (.ref a)) ∧ H a = some (.lst ws) ∧ M a ∧ ¬ O a ∧ Reps K H M ws ds := fun {j c ds} q => by
    rcases args_get e (get q) with ⟨d, _, z⟩ | ⟨i, b, ds', e1, e2, z⟩
    · cases z
    · cases z
      obtain ⟨v, e3, e4⟩ := paired_get r e1
      obtain ⟨a, ws, f1, f2, f3, f4, f5, _⟩ := h.own i b ds e2
      have e4' : σ[i]? = some (some v) := e4
      rw [f1] at e4'; cases e4'
      exact ⟨i, b, a, ws, e1, e2, rfl, e3, f1, f2, f3, f4, f5⟩
  have up : ∀ {j : Nat} {v : V}, vs[j]? = some v → (vs.map some)[j]? = some (some v) := fun q => by rw [List.getElem?_map, q]; rfl
  refine ⟨by rw [List.length_map, List.length_map, hl], fun a q => q.1, h.live, fun j d q => ?_, fun j c ds q => ?_, fun j k c c' ds es a hjk q q2 q3 q4 => ?_⟩
  · rcases args_get e (get q) with ⟨d', e1, z⟩ | ⟨i, b, ds', e1, e2, z⟩
    · cases z
      obtain ⟨v, e3, e4⟩ := paired_get r e1
      exact ⟨v, up e3, e4⟩
    · cases z
  · obtain ⟨i, b, a, ws, e1, e2, e3, e4, f1, f2, f3, f4, f5⟩ := own q
    refine ⟨a, ws, up e4, f2, f3, fun z => z.2 i (slots_mem e1) f1, f5, fun _ => ?_⟩
    unfold calP
    rw [e4]
  · obtain ⟨i, b, a1, ws, e1, e2, e3, e4, f1, f2, f3, f4, f5⟩ := own q
    obtain ⟨i', b', a2, ws', e1', e2', e3', e4', f1', f2', f3', f4', f5'⟩ := own q2
    rw [up e4] at q3; cases q3
    rw [up e4'] at q4; cases q4
    have hi : i ≠ i' := fun z => by
      subst z
      exact hjk (slots_inj n e1 e1')
    exact h.uniq i i' b b' ds es a hi e2 e2' f1 f1'
/-- the names behind the callee's changes -/
theorem back_get : ∀ {as : List AR} {os : List (Option (List D))} {ρ ρ' : Fm}, nodupB (slotsOf as) = true → backTo ρ as os = some ρ' → ρ'.length = ρ.length ∧ (∀ (i : Nat), i ∉ slotsOf as → ρ'[i]? = ρ[i]?) ∧
    ∀ (i : Nat), i ∈ slotsOf as → ∃ (j : Nat) (b : Bool) (ds es : List D), as[j]? = some (AR.s i) ∧ os[j]? = some (some ds) ∧ ρ[i]? = some (some (.own b es)) ∧ ρ'[i]? = some (some (.own b ds))
  | [], [], ρ, ρ', _, e => by
    cases e
    exact ⟨rfl, fun _ _ => rfl, fun i hi => by cases hi⟩
  | [], _ :: _, _, _, _, e => by cases e
  | .v _ :: as, [], _, _, _, e => by cases e
  | .v _ :: as, o :: os, ρ, ρ', n, e => by
    obtain ⟨h1, h2, h3⟩ := back_get (as := as) (os := os) n e
    refine ⟨h1, h2, fun i hi => ?_⟩
    obtain ⟨j, b, ds, es, g1, g2, g3, g4⟩ := h3 i hi
    exact ⟨j + 1, b, ds, es, by simpa using g1, by simpa using g2, g3, g4⟩
  | .s _ :: as, [], _, _, _, e => by cases e
  | .s _ :: as, none :: os, _, _, _, e => by cases e
  | .s m :: as, some ds :: os, ρ, ρ', n, e => by
    unfold backTo at e
    split at e
    · rename_i b es hb
      unfold slotsOf nodupB at n
      rw [Bool.and_eq_true] at n
      have nm : m ∉ slotsOf as := fun z => by have := n.1; simp [z] at this
      obtain ⟨h1, h2, h3⟩ := back_get (as := as) (os := os) n.2 e
      refine ⟨by rw [h1, List.length_set], fun i hi => ?_, fun i hi => ?_⟩
      · unfold slotsOf at hi
        rw [List.mem_cons, not_or] at hi
        rw [h2 i hi.2, List.getElem?_set_ne (Ne.symm hi.1)]
      · unfold slotsOf at hi
        rcases List.mem_cons.mp hi with rfl | hi
        · exact ⟨0, b, ds, es, rfl, rfl, hb, by rw [h2 i nm]; exact get_set_same hb⟩
        · obtain ⟨j, b', ds', es', g1, g2, g3, g4⟩ := h3 i hi
          have hne : i ≠ m := fun z => nm (z ▸ hi)
          rw [List.getElem?_set_ne (Ne.symm hne)] at g3
          exact ⟨j + 1, b', ds', es', by simpa using g1, by simpa using g2, g3, g4⟩
    · cases e
theorem call_end (h : SR K H M O π ρ σ) (r : AReps K H M σ vs as) (n : nodupB (slotsOf as) = true) (eb : backTo ρ as os = some ρ') (lv : ∀ a, M' a → H' a ≠ none) (x : Ext (calO M σ (slotsOf as)) H M H' M') (ho : OutR K H' M' (calP vs) os) :
    Ext O H M H' M' ∧ SR K H' M' O π ρ' σ := by
  obtain ⟨b1, b2, b3⟩ := back_get n eb
  have sub : ∀ a, O a → calO M σ (slotsOf as) a := fun a q => ⟨h.sub a q, fun i hi z => by
    obtain ⟨j, b, ds, es, g1, g2, g3, g4⟩ := b3 i hi
    obtain ⟨a', ws, f1, f2, f3, f4, _⟩ := h.own i b es g3
    rw [z] at f1; cases f1
    exact f4 q⟩
  have same : ∀ {i : Nat} {s : Sv}, ρ'[i]? = some (some s) → i ∉ slotsOf as → ρ[i]? = some (some s) := fun e hi => by rw [b2 _ hi] at e; exact e
  have ow : ∀ {i : Nat} {b : Bool} {ds : List D}, ρ'[i]? = some (some (.own b ds)) → ∃ es, ρ[i]? = some (some (.own b es)) := fun {i b ds} e => by
    by_cases hi : i ∈ slotsOf as
    · obtain ⟨j, b', ds', es, g1, g2, g3, g4⟩ := b3 i hi
      rw [e] at g4; cases g4
      exact ⟨es, g3⟩
    · exact ⟨ds, same e hi⟩
  refine ⟨x.less sub, ⟨by rw [b1]; exact h.len, fun a q => x.sub a (sub a q), lv, fun i d e => ?_, fun i b ds e => ?_, fun i j b c ds es a hij e f g => ?_⟩⟩
  · by_cases hi : i ∈ slotsOf as
    · obtain ⟨j, b', ds', es, g1, g2, g3, g4⟩ := b3 i hi
      rw [e] at g4; cases g4
    · obtain ⟨v, e1, rr⟩ := h.imm i d (same e hi)
      exact ⟨v, e1, rr.tr x.tr⟩
  · by_cases hi : i ∈ slotsOf as
    · obtain ⟨j, b', ds', es, g1, g2, g3, g4⟩ := b3 i hi
      rw [e] at g4; cases g4
      obtain ⟨a, ws, f1, f2, f3, f4, f5, f6⟩ := h.own i b es g3
      obtain ⟨v, e3, e4⟩ := paired_get r g1
      have e4' : σ[i]? = some (some v) := e4
      rw [f1] at e4'; cases e4'
      obtain ⟨a', us, p1, p2, p3, p4⟩ := ho j ds g2
      unfold calP at p1
      rw [e3] at p1
      cases p1
      exact ⟨a, us, f1, p2, p3, f4, p4, f6⟩
    · have e0 := same e hi
      obtain ⟨a, ws, f1, f2, f3, f4, f5, f6⟩ := h.own i b ds e0
      have ha : calO M σ (slotsOf as) a := ⟨f3, fun k hk z => by
        obtain ⟨j, b', ds', es, g1, g2, g3, g4⟩ := b3 k hk
        exact h.uniq i k _ _ _ _ a (fun q => hi (q ▸ hk)) e0 g3 f1 z⟩
      exact ⟨a, ws, f1, x.keep a _ f2 (.inl ha), x.sub a ha, f4, f5.tr x.tr, f6⟩
  · obtain ⟨ds', e1⟩ := ow e
    obtain ⟨es', f1⟩ := ow f
    exact h.uniq i j b c ds' es' a hij e1 f1 g
/-- what comes back -/
theorem call_ret {rr : Sv} {v : V} (h : SR K H M O π ρ σ) (r : AReps K H M σ vs as) (n : nodupB (slotsOf as) = true) (eb : backTo ρ as os = some ρ') (x : Ext (calO M σ (slotsOf as)) H M H' M') (ho : OutR K H' M' (calP vs) os) (q : RetR K H' M' (calO M σ (slotsOf as)) (calP vs) os rr v) :
    RP K H' M' O ρ' σ (.val rr) v := by
  cases rr with
  | imm d => exact q
  | own b0 ds0 =>
    obtain ⟨p, ws, e1, e2, e3, e4, e5, e6⟩ := q
    obtain ⟨b1, b2, b3⟩ := back_get n eb
    refine ⟨p, ws, e1, e2, e3, fun z => e4 ⟨h.sub p z, fun i hi y => ?_⟩, e5, fun i b ds e y => ?_⟩
    · obtain ⟨j, b, ds, es, g1, g2, g3, g4⟩ := b3 i hi
      obtain ⟨a', ws', f1, f2, f3, f4, _⟩ := h.own i b es g3
      rw [y] at f1; cases f1
      exact f4 z
    · by_cases hi : i ∈ slotsOf as
      · obtain ⟨j, b', ds', es, g1, g2, g3, g4⟩ := b3 i hi
        obtain ⟨v', e7, e8⟩ := paired_get r g1
        have e8' : σ[i]? = some (some v') := e8
        rw [y] at e8'; cases e8'
        exact e6 j ds' g2 (by unfold calP; rw [e7])
      · rw [b2 i hi] at e
        obtain ⟨a, us, f1, f2, f3, f4, f5, f6⟩ := h.own i b ds e
        rw [y] at f1; cases f1
        exact e4 ⟨f3, fun k hk z => by
          obtain ⟨j, b', ds', es, g1, g2, g3, g4⟩ := b3 k hk
          exact h.uniq i k _ _ _ _ p (fun q => hi (q ▸ hk)) e g3 y z⟩
end
section
variable {X : Cx} {e : Expr} {es : List Expr} {me : ME} {mr : MR} {k np : Nat} {f : Addr} {fd : FuncData} {ps : List Str} {g : Fn} {x : Str} {p pos : Pos}
theorem tR_call {σ : St} {H : Hp} {Q : VK} (hn : ∀ ρ as ρ', mr ρ = some (as, ρ') → as.length = np) (h : tE X.K (mCall g mr) σ H Q) : tR X.K mr σ H fun vs H1 => spD X.K np g vs H1 Q E0 := by
  obtain ⟨ρ, M, O, π, pr, ρ', h, e, q⟩ := h
  unfold mCall at e
  split at e
  · rename_i as ρ1 e1
    split at e
    · rename_i n
      split at e
      · rename_i args e2
        split at e
        · rename_i r os e3
          split at e
          · rename_i ρ2 e4
            cases e
            refine ⟨ρ, M, O, π, as, ρ1, h, e1, fun vs H1 M1 x1 s1 r1 => ?_⟩
            refine ⟨M1, _, _, args, r, os, by rw [Paired.length r1]; exact hn _ _ _ e1, call_start s1 r1 n e2, e3, fun v H2 M2 lv x2 ho rr => ?_⟩
            obtain ⟨x3, s3⟩ := call_end s1 r1 n e4 lv x2 ho
            exact q v H2 M2 (x1.trans x3) s3 (call_ret s1 r1 n e4 x2 ho rr)
          · cases e
        · cases e
      · cases e
    · cases e
  · cases e
/-- f(e, ..) -/
theorem de_call (F : FnOk X.prog X.w X.K X.mg X.base CX0 k f fd ps (spD X.K ps.length g)) (hr : Room k X.A) (hg : Gl X x) (hm : X.mg x = some (.ref f)) (hk : PySem.W.keepIn X.K (.ref f) = true) (hb : Binds X.K fd ps [])
    (ha : DR X (e :: es) mr) (hn : ∀ ρ as ρ', mr ρ = some (as, ρ') → as.length = ps.length) (hdb : (x == ("__debug__" : Str)) = false := by decide) (he : starEach (e :: es) X.env = (false, eval e X.env) :: starEach es X.env := by rfl) (hpl : (PySem.backTo pos (starEach es X.env)).any (·.1) = false := by rfl) :
    DE X (.Call (.Name x p) (e :: es) [] pos) (mCall g mr) :=
  PE.imp (pe_call F hr hg hm hk hb .nil pass0 ha hdb he hpl) fun σ H Q h => by
    have := tR_call (X := X) hn h
    obtain ⟨ρ, M, O, π, as, ρ', h, e, q⟩ := this
    exact ⟨ρ, M, O, π, as, ρ', h, e, fun vs H' M' x s r => by show spD X.K ps.length g (vs ++ []) H' Q E0; rw [List.append_nil]; exact q vs H' M' x s r⟩
theorem de_call0 (F : FnOk X.prog X.w X.K X.mg X.base CX0 k f fd [] (spD X.K 0 g)) (hr : Room k X.A) (hg : Gl X x) (hm : X.mg x = some (.ref f)) (hk : PySem.W.keepIn X.K (.ref f) = true) (hb : Binds X.K fd [] []) (hdb : (x == ("__debug__" : Str)) = false := by decide) :
    DE X (.Call (.Name x p) [] [] pos) (mCall g rNil) :=
  PE.imp (pe_call0 (dvs := []) F hr hg hm hk hb .nil pass0 hdb) fun σ H Q h => by
    obtain ⟨ρ, M, O, π, as, ρ', h, e, q⟩ := tR_call (X := X) (np := 0) (fun ρ as ρ' e => by cases e; rfl) h
    cases e
    exact q [] H M (.refl h) h .nil
end
end Vi

namespace PySem
open Sem (wp)
open AutoSeq1 (wpAny_loadPart')
theorem vi_meets_enumerate_newT (l : Addr) (items : Array Value) (n : Nat) (dct : Option Addr) (sl : Array (Option Value)) :
    Meets (Builtin.«enumerate.__new__» ⟨[.type "enumerate", .ref l], []⟩) (fun _ R s => s.heap.get? l = some { cls := .type "tuple", dict := dct, data := .seq items n, slots := sl } ∧
      R (.ok (.ret (.ref (s.heap.push { cls := .type "tuple_iterator", data := .fields #[.ref l, .int 0 0] }).objs.size)))
        { s with heap := (s.heap.push { cls := .type "tuple_iterator", data := .fields #[.ref l, .int 0 0] }).push { cls := .type "enumerate", data := .fields #[.none, .bool false, .ref s.heap.objs.size, rawInt 0, .none, .none] } }) :=
  .of_wp fun prog w A R s h => by
    obtain ⟨hp, g, d, tk, os⟩ := s; obtain ⟨hl, h⟩ := h
    have hsub := sub_enumerate
    have hL : Heap.IsTuple (Shared.heap ⟨hp, g, d, tk, os⟩) l items := ⟨_, hl, rfl, n, rfl⟩
    wp_walk using wpAny_loadPart' hl
    refine wpAny_stack_any fun st => wpAny_pure ?_
    split
    · rename_i c _ _ _ _ _
      cases (c == Value.type "enumerate")
      · wp_walk using wpAny_loadPart' hl, wpAny_pyIter_tuple hL
        exact ⟨_, rfl, h⟩
      · wp_walk using wpAny_loadPart' hl, wpAny_pyIter_tuple hL
        exact ⟨_, rfl, h⟩
    · wp_walk using wpAny_loadPart' hl, wpAny_pyIter_tuple hL
      exact ⟨_, rfl, h⟩
theorem vi_call_enumerate_tuple {prog : Program} {w : World} {A : Around} {E : Value → Shared → Prop} {s : Shared} {l : Addr} {items : Array Value} {Q : Value → Shared → Prop} (hL : s.heap.IsTuple l items)
    (h : ∀ h', IsEnum h' (s.heap.objs.size + 1) s.heap.objs.size 0 .none → h'.IsTupleIter s.heap.objs.size l 0 → h'.objs.size = s.heap.objs.size + 2 →
      (∀ b o, s.heap.get? b = some o → h'.get? b = some o) → Q (.ref (s.heap.objs.size + 1)) { s with heap := h' }) :
    wpAny (model prog w) A (call (.type "enumerate") [.ref l]) Q E s := by
  obtain ⟨⟨c, dct, dt, sl⟩, hl, hc, n, hd⟩ := hL
  replace hc : c = .type "tuple" := hc
  replace hd : dt = .seq items n := hd
  subst hc hd
  refine callType_new F.called_enumerate (by decide) (F.typeCall_enumerate_1 _) (F.newCall_enumerate_1 _) (fun obj => F.args_object_init_2 obj _) F.entry_enumerate_new
    (vi_meets_enumerate_newT l items n dct sl) ⟨hl, ?_⟩
  have hz : (s.heap.push { cls := .type "tuple_iterator", data := .fields #[.ref l, .int 0 0] }).objs.size = s.heap.objs.size + 1 := Heap.size_push ..
  show _ ∧ _
  rw [hz]
  have he : IsEnum ((s.heap.push { cls := .type "tuple_iterator", data := .fields #[.ref l, .int 0 0] }).push
      { cls := .type "enumerate", data := .fields #[.none, .bool false, .ref s.heap.objs.size, rawInt 0, .none, .none] }) (s.heap.objs.size + 1) s.heap.objs.size 0 .none := by
    have := Heap.get?_push_size (s.heap.push { cls := .type "tuple_iterator", data := .fields #[.ref l, .int 0 0] })
      (o := { cls := .type "enumerate", data := .fields #[.none, .bool false, .ref s.heap.objs.size, rawInt 0, .none, .none] }) rfl
    rw [hz] at this; exact this
  refine ⟨⟨_, he, rfl⟩, h _ he ⟨_, Heap.get?_push_of_some _ (Heap.get?_push_size _ rfl), rfl, rfl⟩ (by rw [Heap.size_push, hz]) fun b o x => Heap.get?_push_of_some _ (Heap.get?_push_of_some _ x)⟩
end PySem
namespace Vi
open PySem PySem.Spec PyProof.Rows L2
/-! ### enumerate of a tuple -/
def IteT (K : PySem.W.Frag) (a : Addr) : It :=
  ⟨fun i H => ∃ (xs : List V) (x : V), SqT K H a xs ∧ xs[i]? = some x, fun i H v H' => ∃ T x, v = .ref T ∧ H T = none ∧ H' = upd H T (.tup [.int (i : Nat), x]) ∧ ∀ xs, SqT K H a xs → xs[i]? = some x, fun i H => ∃ xs : List V, SqT K H a xs ∧ xs.length ≤ i⟩
theorem turn_enumT {P : Program} {w : World} {K : PySem.W.Frag} {elts : List Expr} {kk : Nat} {tpos : Pos} (a e it : Addr) (hai : a ≠ it) (hae : a ≠ e) :
    Turn P w K (.Tuple elts kk tpos) (IteT K a) [e, it] e (fun i h => (∃ old, IsEnum h e it ((i : Nat) : Int) old) ∧ h.IsTupleIter it a i ∧ e ≠ it) where
  mem := by simp
  obj := fun i h st b hb => by
    obtain ⟨⟨old, he⟩, ⟨o, ho, hc, hd⟩, _⟩ := st
    have e' : b = e ∨ b = it := by simpa using hb
    rcases e' with z | z
    · rw [z]; exact ⟨_, he, fun v q => nomatch q⟩
    · rw [z]; exact ⟨o, ho, fun v q => by rw [hd] at q; cases q⟩
  keep := fun i h h' st k => let ⟨⟨old, he⟩, hi, hne⟩ := st; ⟨⟨old, k e (by simp) _ he⟩, hi.at fun o q => k it (by simp) o q, hne⟩
  item := by
    intro X hP hw hK hc i pins s σ H E I hf st hg
    subst hP hw hK
    obtain ⟨⟨old, he⟩, hit, hne⟩ := st
    obtain ⟨xs, x, hq, hx⟩ := hg
    obtain ⟨its, rv, p, hz⟩ := I.tuple hq
    obtain ⟨u, hu, ru⟩ := rv.get hx
    have hel : e < s.heap.objs.size := Heap.lt_size he
    have hil : it < s.heap.objs.size := by obtain ⟨_, q, _⟩ := hit; exact Heap.lt_size q
    have hlt : i < its.toArray.size := by simpa using (List.getElem?_eq_some_iff.mp hu).1
    refine wpAny_pyNext_enum_itemD (Draws.tuple (A := X.A.in1) (I.ok.hd hc) it a hai its.toArray) he ⟨hit, p⟩ hlt hne (by simp; exact ⟨hne, fun z => hae z.symm⟩) fun y h' tk py ho ⟨hit', _⟩ hT hsz hk => ?_
    have ey : y = u := by
      have h1 : its.toArray[i]? = some y := py
      have h2 : its.toArray[i]? = some u := by simpa using hu
      rw [h2] at h1; exact (Option.some.inj h1).symm
    subst ey
    refine ⟨_, rfl, wpAny_letOwnedTupleGo_enum (s := { s with heap := h', toks := tk + 1 }) ho fun h'' he' sb => ?_⟩
    have hT2 : h''.get? s.heap.objs.size = some { cls := .type "tuple", data := .seq #[.int i tk, y] } := (sb.2 _ (Nat.ne_of_gt hel)).trans hT
    have new : ObjOk X.prog X.w (upd H s.heap.objs.size (.tup [.int (i : Nat), x])) h'' s.heap.objs.size (.tup [.int (i : Nat), x]) :=
      ⟨by show 2 ≤ sizeLine; decide, [.int i tk, y], .cons ⟨_, rfl⟩ (.cons ru .nil), ⟨_, hT2, rfl, _, rfl⟩⟩
    have I1 : Inv X pins σ (upd H s.heap.objs.size (.tup [.int (i : Nat), x])) { s with heap := h'', toks := tk + 1 } :=
      I.turnedNew (ch := [e, it]) (fun b ob hb q => (sb.2 b (fun z => hb (by simp [z]))).trans (hk b ob (fun z => hb (by simp [z])) (fun z => hb (by simp [z])) q)) hf (Nat.le_refl _) new
    refine ⟨.ref s.heap.objs.size, _, I1, rfl, ⟨_, x, rfl, I.hok.fresh (Nat.le_refl _), rfl, fun ys hy => by rw [I.tuple_inj hy hq]; exact hx⟩, ⟨⟨y, ?_⟩, hit'.at fun o q => (sb.2 it (Ne.symm hne)).trans q, hne⟩, fun b hb => ?_⟩
    · have e1 : ((i + 1 : Nat) : Int) = (i : Int) + 1 := by omega
      rw [e1]; exact he'
    · have hb' : b < s.heap.objs.size := by
        have e' : b = e ∨ b = it := by simpa using hb
        rcases e' with z | z
        · rw [z]; exact hel
        · rw [z]; exact hil
      rw [upd_ne (Nat.ne_of_lt hb')]
      exact (hf b hb).1
  done := by
    intro X hP hw hK hc i pins s σ H E I hf st hg
    subst hP hw hK
    obtain ⟨⟨old, he⟩, hit, hne⟩ := st
    obtain ⟨xs, hq, hx⟩ := hg
    obtain ⟨its, rv, p, hz⟩ := I.tuple hq
    obtain ⟨f0, f1, f2, f3, f4, f5⟩ := hf it (by simp)
    have hl := rv.length
    have hT : s.TypeIs (.ref e) "enumerate" := ⟨_, he, rfl⟩
    unfold pyNext
    refine wpAny_bind (wpAny_attempt (wpAny_callSpecial?_slot (name := Str.ofString "__next__") hT F.slot_enumerate_next
      (wpAny_call_entry F.slot_enumerate_next hT F.entry_enumerate_next ?_ (F.args_enumerate_next_1 _))))
    show wpAny _ _ (field (.ref e) 2 >>= _) _ _ _
    refine wpAny_bind (wpAny_field he rfl (x := .ref it) rfl ?_)
    refine wpAny_bind (wpAny_nextOf_tuple_end (I.ok.hd hc) hit p (by simp; omega) fun h' x he' hx' => ?_)
    obtain ⟨o, ho, hc⟩ := hx'
    refine wpAny_bind (wpAny_isInstance (T := "StopIteration") (b := true) ⟨o, ho, hc⟩ isSubtype_stop ?_)
    exact wpAny_pure ⟨rfl, I.turned (t' := s.toks) (fun b o hb q => he' b o hb q) f0 f1 f3 f4 f5⟩
  self := fun A i s Q E st h => let ⟨⟨_, he⟩, _⟩ := st; wpAny_pyIter_enum he h
section
variable {X : Cx}
def iEnumA (K : PySem.W.Frag) (ta : TA) : TI := fun σ H R => ta σ H fun vs H1 => ∃ a xs, vs = [.ref a] ∧ ((SqL K H1 a xs ∧ R (Ite K a) H1) ∨ (SqT K H1 a xs ∧ R (IteT K a) H1))
theorem pi_enumA {e : Expr} {ta : TA} {p pos tpos : Pos} {elts : List Expr} {kk : Nat} (hg : Gl X "enumerate") (hm : X.mg "enumerate" = none) (ha : PA X [e] ta) (hs : starEach [e] X.env = [(false, eval e X.env)] := by rfl) :
    PI X (.Tuple elts kk tpos) (.Call (.Name "enumerate" p) [e] [] pos) (iEnumA X.K ta) := by
  refine ⟨fun pins s σ H R I h => ?_⟩
  refine Call_ (ld_blt I hg hm boot_enumerate (PyProof.Rows.callWith_type1 (thn (ha.run pos pins s σ H _ I h) fun us s1 ⟨vs, H1, I1, r1, q1⟩ => ?_) hs rfl))
  obtain ⟨a, xs, ex, q1⟩ := q1
  subst ex
  cases r1 with
  | cons r rr =>
    cases rr
    cases r
    rcases q1 with ⟨hq, q⟩ | ⟨hq, q⟩
    · obtain ⟨its, rv, p', hz⟩ := I1.list hq
      refine call_enumerate_list p'.isList fun h' he hit hsz hk => wpAny_pyIter_enum he ?_
      have I2 : Inv X pins σ H1 { s1 with heap := h' } := I1.kept (t' := s1.toks) hk
      refine ⟨s1.heap.objs.size + 1, [s1.heap.objs.size + 1, s1.heap.objs.size], _, _, H1, rfl, I2, turn_enum a (s1.heap.objs.size + 1) s1.heap.objs.size, ⟨⟨.none, he⟩, hit, Nat.succ_ne_self _⟩, fun b hb => ?_, q⟩
      have e' : b = s1.heap.objs.size + 1 ∨ b = s1.heap.objs.size := by simpa using hb
      have hle : s1.heap.objs.size ≤ b := by
        rcases e' with z | z
        · rw [z]; exact Nat.le_add_right _ _
        · rw [z]; exact Nat.le_refl _
      exact I1.fpOk hle (I1.hok.fresh hle)
    · obtain ⟨its, rv, p', hz⟩ := I1.tuple hq
      have hat : a < s1.heap.objs.size := p'.lt
      refine vi_call_enumerate_tuple p' fun h' he hit hsz hk => wpAny_pyIter_enum he ?_
      have I2 : Inv X pins σ H1 { s1 with heap := h' } := I1.kept (t' := s1.toks) hk
      refine ⟨s1.heap.objs.size + 1, [s1.heap.objs.size + 1, s1.heap.objs.size], _, _, H1, rfl, I2, turn_enumT a (s1.heap.objs.size + 1) s1.heap.objs.size (Nat.ne_of_lt hat) (Nat.ne_of_lt (Nat.lt_succ_of_lt hat)), ⟨⟨.none, he⟩, hit, Nat.succ_ne_self _⟩, fun b hb => ?_, q⟩
      have e' : b = s1.heap.objs.size + 1 ∨ b = s1.heap.objs.size := by simpa using hb
      have hle : s1.heap.objs.size ≤ b := by
        rcases e' with z | z
        · rw [z]; exact Nat.le_add_right _ _
        · rw [z]; exact Nat.le_refl _
      exact I1.fpOk hle (I1.hok.fresh hle)
theorem src_enumT {K : PySem.W.Frag} {H0 : Hp} {M0 : Mset} {a : Addr} {vs : List V} {xs : List D} (h : TupAt K H0 M0 a vs) (r : Reps K H0 M0 vs xs) : Src K (IteT K a) (enumD 0 xs) H0 M0 := by
  refine ⟨fun H M l i hi => ?_, fun H M l => ⟨vs, tupAt_lat h l, by rw [enumD_len, r.length]; exact Nat.le_refl _⟩, fun H M l i d x H' ed y => ?_⟩
  · rw [enumD_len, ← r.length] at hi
    exact ⟨vs, vs[i], tupAt_lat h l, by simp [hi]⟩
  · obtain ⟨p, e1, rfl⟩ := enumD_get ed
    obtain ⟨v, hv, rv⟩ := r.get e1
    obtain ⟨T, vx, rfl, hT, rfl, f1⟩ := y
    have g1 := f1 vs (tupAt_lat h l)
    rw [hv] at g1; cases g1
    rw [Nat.zero_add]
    exact .inr ⟨T, _, _, rfl, hT, rfl, rfl, .cons (.int _) (.cons (rv.tr l) .nil)⟩
def mIEnum (ma : MA) : MI := fun ρ => match ma ρ with
  | some ([.list xs], ρ1) => some (enumD 0 xs, ρ1)
  | some ([.tuple xs], ρ1) => some (enumD 0 xs, ρ1)
  | _ => none
theorem di_enum {e : Expr} {ma : MA} {p pos tpos : Pos} {elts : List Expr} {kk : Nat} (hg : Gl X "enumerate") (hm : X.mg "enumerate" = none) (ha : DA X [e] ma) (hs : starEach [e] X.env = [(false, eval e X.env)] := by rfl) :
    DI X (.Tuple elts kk tpos) (.Call (.Name "enumerate" p) [e] [] pos) (mIEnum ma) :=
  PI.imp (pi_enumA hg hm ha hs) fun σ H R ⟨ρ, M, O, π, ds, ρ', h, e, q⟩ => by
    unfold mIEnum at e
    split at e
    · rename_i xs ρ1 e1
      cases e
      refine ⟨ρ, M, O, π, _, _, h, e1, fun vs H1 M1 x1 s1 r1 => ?_⟩
      cases r1 with
      | cons rv rr =>
        cases rr
        cases rv with
        | lst hr n rr => exact ⟨_, _, rfl, .inl ⟨.inl hr, q _ H1 M1 x1 s1 (src_enumL hr n rr)⟩⟩
    · rename_i xs ρ1 e1
      cases e
      refine ⟨ρ, M, O, π, _, _, h, e1, fun vs H1 M1 x1 s1 r1 => ?_⟩
      cases r1 with
      | cons rv rr =>
        cases rr
        cases rv with
        | tup hr rr => exact ⟨_, _, rfl, .inr ⟨hr.sq, q _ H1 M1 x1 s1 (src_enumT hr rr)⟩⟩
    · cases e

/-! ### a, b = x, y -/
theorem take_ok {K : PySem.W.Frag} {H : Hp} {M O : Mset} {π : Nat → Option Addr} {ρ ρ' : Fm} {σ : St} {pr : PR} {v : V} {sv : Sv} (h : SR K H M O π ρ σ) (r : RP K H M O ρ σ pr v) (e : take ρ pr = some (sv, ρ')) : ∃ M', Ext O H M H M' ∧ SR K H M' O π ρ' σ ∧ RP K H M' O ρ' σ (.val sv) v := by
  match pr, v, r with
  | .val (.imm d), v, r => cases e; exact ⟨M, .refl h, h, r⟩
  | .val (.own b ds), v, ⟨p, vs, e1, e2, e3, e4, e5, e6⟩ => cases e; exact ⟨M, .refl h, h, p, vs, e1, e2, e3, e4, e5, e6⟩
  | .slot j, v, r =>
    unfold take at e
    simp only at e
    cases ef : frz ρ (.slot j) with
    | none => rw [ef] at e; cases e
    | some dρ =>
      obtain ⟨d, ρ1⟩ := dρ
      rw [ef] at e
      cases e
      obtain ⟨M', x, s, rr⟩ := frz_ok h r ef
      exact ⟨M', x, s, rr⟩
theorem SR.setVal {K : PySem.W.Frag} {H : Hp} {M O : Mset} {π : Nat → Option Addr} {ρ : Fm} {σ : St} {v : V} {sv : Sv} (h : SR K H M O π ρ σ) (r : RP K H M O ρ σ (.val sv) v) (hp : ∀ ds, sv ≠ .own true ds) (i : Nat) : SR K H M O π (ρ.set i (some sv)) (σ.set i (some v)) := by
  cases sv with
  | imm d => exact h.setImm r
  | own b ds =>
    obtain ⟨p, vs, rfl, e2, e3, e4, e5, e6⟩ := r
    cases b with
    | true => exact absurd rfl (hp ds)
    | false => exact h.setOwn e2 e3 e4 e5 e6
theorem RP.set {K : PySem.W.Frag} {H : Hp} {M O : Mset} {ρ : Fm} {σ : St} {v1 v2 : V} {s1 s2 : Sv} {i : Nat} (r1 : RP K H M O ρ σ (.val s1) v1) (r2 : RP K H M (hold O (.val s1) v1) ρ σ (.val s2) v2) (hl : ρ.length = σ.length) : RP K H M O (ρ.set i (some s1)) (σ.set i (some v1)) (.val s2) v2 := by
  cases s2 with
  | imm d => exact r2
  | own b ds =>
    obtain ⟨p, vs, rfl, e2, e3, e4, e5, e6⟩ := r2
    refine ⟨p, vs, rfl, e2, e3, fun z => e4 (hold_le O _ v1 p z), e5, fun j c es f g => ?_⟩
    rcases get_set f with ⟨hj, z⟩ | ⟨hj, f'⟩
    · have hz : s1 = .own c es := (Option.some.inj z).symm
      subst hz
      have hlt : i < ρ.length := by
        subst hj
        have := (List.getElem?_eq_some_iff.mp f).1
        rwa [List.length_set] at this
      obtain ⟨q, ws, e1, _⟩ := r1
      subst e1
      subst hj
      rw [List.getElem?_set_self (by rw [← hl]; exact hlt)] at g
      cases g
      exact e4 (.inr rfl)
    · rw [List.getElem?_set_ne (Ne.symm hj)] at g
      exact e6 j c es f' g
def fine : Sv → Bool
  | .own true _ => false
  | _ => true
theorem fine_ne {s : Sv} (h : fine s = true) : ∀ ds, s ≠ .own true ds := fun ds e => by subst e; cases h
def mPar (i j : Nat) (ma mb : ME) : MS := fun ρ => match ma ρ with
  | some (p1, ρ1) => match take ρ1 p1 with
    | some (s1, ρ2) => match mb ρ2 with
      | some (p2, ρ3) => match take ρ3 p2 with
        | some (s2, ρ4) => if (fine s1 && fine s2) = true then some (.next, (ρ4.set i (some s1)).set j (some s2)) else none
        | none => none
      | none => none
    | none => none
  | none => none
theorem ds_par {st : Stmt} {a b : Expr} {ma mb : ME} {i j : Nat} (h : ∀ ta, PA X [a, b] ta → PS X st (tPar i j ta)) (ha : DE X a ma) (hb : DE X b mb) (hs : starEach [a, b] X.env = (false, eval a X.env) :: starEach [b] X.env := by rfl) (hs2 : starEach [b] X.env = (false, eval b X.env) :: starEach [] X.env := by rfl) : DS X st (mPar i j ma mb) :=
  PS.imp (h _ (pa_cons ha (pa_cons hb pa_nil hs2) hs)) fun D σ H ⟨ρ, M, O, π, fl, ρ', h, e, q⟩ => by
    unfold mPar at e
    split at e
    · rename_i p1 ρ1 e1
      split at e
      · rename_i s1 ρ2 e2
        split at e
        · rename_i p2 ρ3 e3
          split at e
          · rename_i s2 ρ4 e4
            split at e
            · rename_i hz
              cases e
              rw [Bool.and_eq_true] at hz
              refine ⟨ρ, M, O, π, p1, ρ1, h, e1, fun v1 H1 M1 x1 t1 r1 => ?_⟩
              obtain ⟨M2, x2, t2, r2⟩ := take_ok t1 r1 e2
              refine ⟨ρ2, M2, Vi.hold O (.val s1) v1, π, p2, ρ3, t2.hold r2, e3, fun v2 H3 M3 x3 t3 r3 => ⟨v1, v2, rfl, ?_⟩⟩
              obtain ⟨M4, x4, t4, r4⟩ := take_ok t3 r3 e4
              have le := hold_le O (.val s1) v1
              have r1' := r2.held (x3.trans x4) t4
              have t5 := (t4.less le).setVal r1' (fine_ne hz.1) i
              have r5 := RP.set (i := i) r1' r4 t4.len
              exact q _ H3 M4 ((x1.trans x2).trans ((x3.trans x4).less le)) (t5.setVal r5 (fine_ne hz.2) j)
            · cases e
          · cases e
        · cases e
      · cases e
    · cases e
/-- targets of a value that is a tuple -/
def mAsgG (me : ME) (mg : MG) : MS := fun ρ => match me ρ with
  | some (pr, ρ1) => match frz ρ1 pr with
    | some (d, ρ2) => match mg d ρ2 with
      | some ρ3 => some (.next, ρ3)
      | none => none
    | none => none
  | none => none
theorem ds_asgG {st : Stmt} {e tg : Expr} {me : ME} {mg : MG} {ts : List Nat} (h : ∀ te g, PE X e te → PG X tg g → PS X st (tAsg te g)) (he : DE X e me) (hg : DG X tg mg ts) : DS X st (mAsgG me mg) :=
  PS.imp (h _ _ he hg) fun D σ H ⟨ρ, M, O, π, fl, ρ', h, e, q⟩ => by
    unfold mAsgG at e
    split at e
    · rename_i pr ρ1 e1
      split at e
      · rename_i d ρ2 e2
        split at e
        · rename_i ρ3 e3
          cases e
          refine ⟨ρ, M, O, π, pr, ρ1, h, e1, fun v H1 M1 x1 s1 r1 => ?_⟩
          obtain ⟨M2, x2, s2, r2⟩ := frz_ok s1 r1 e2
          exact ⟨ρ2, M2, O, π, d, _, s2, r2, e3, fun σ' s3 _ _ => q σ' H1 M2 (x1.trans x2) s3⟩
        · cases e
      · cases e
    · cases e

/-! ### calls by keyword -/
theorem pe_callK0 {CX : CXT} {k : Nat} {f : Addr} {fd : FuncData} {ps ks : List Str} {sp : Sp} {E : XK} {x : Str} {p pos : Pos} {kws : List Keyword} {tk : TA} {g : List Value → List Value → List Value} {gV : List V → List V → List V}
    (F : FnOk X.prog X.w X.K X.mg X.base CX k f fd ps sp) (hr : Room k X.A) (hg : Gl X x) (hm : X.mg x = some (.ref f)) (hk : PySem.W.keepIn X.K (.ref f) = true) (hb : KBinds X.K fd ps ks g gV) (hx : Passes CX X E)
    (hkw : PK X kws tk) (hall : (backToKw pos (keywordEach kws X.env)).all (·.1.isSome) = true := by rfl) (hks : (backToKw pos (keywordEach kws X.env)).filterMap (·.1) = ks := by rfl)
    (hdb : (x == ("__debug__" : Str)) = false := by decide) (hpl : ((PySem.backTo pos (starEach [] X.env)).any (·.1) || (backToKw pos (keywordEach kws X.env)).any (·.1.isNone)) = false := by rfl) :
    PE X (.Call (.Name x p) [] kws pos) (tCallK sp gV E tNil tk) := by
  refine ⟨fun pins s σ H Q I h => ?_⟩
  refine wpAny_Call_Name_kw (ld_glob I hg hm ?_ hdb)
  refine PySem.W.callWith_KW0 (h₀ := X.base) I.ok.mod.kin hk hall (thn (hkw.run pos pins s σ H _ I h) fun ws s2 ⟨zs, H2, I2, rz, q2⟩ => ⟨I2.kIn, ?_⟩) hpl
  rw [hks]
  exact run_fnk (us := []) (vs := []) F hr hb hx I2 .nil rz q2
/-- the arguments in the parameters' order -/
def perm {α : Type} (n1 n2 : Nat) (is : List Nat) (us ws : List α) : List α := if us.length = n1 ∧ ws.length = n2 then is.filterMap fun i => (us ++ ws)[i]? else []
theorem perm_rel {α β : Type} {F : α → β → Prop} (n1 n2 : Nat) (is : List Nat) {vs : List α} {us : List β} {zs : List α} {ws : List β} (r : Paired F vs us) (s : Paired F zs ws) : Paired F (perm n1 n2 is vs zs) (perm n1 n2 is us ws) := by
  have ap : ∀ {vs : List α} {us : List β} {zs : List α} {ws : List β}, Paired F vs us → Paired F zs ws → Paired F (vs ++ zs) (us ++ ws) := fun {vs us zs ws} r s => by
    induction r with
    | nil => exact s
    | cons h t ih => exact .cons h ih
  have get : ∀ {xs : List α} {ys : List β} (i : Nat), Paired F xs ys → (xs[i]? = none ∧ ys[i]? = none) ∨ ∃ x y, xs[i]? = some x ∧ ys[i]? = some y ∧ F x y := fun {xs ys} i r => by
    induction r generalizing i with
    | nil => exact .inl ⟨by simp, by simp⟩
    | cons h t ih =>
      cases i with
      | zero => exact .inr ⟨_, _, rfl, rfl, h⟩
      | succ i => simpa using ih i
  unfold perm
  rw [Paired.length r, Paired.length s]
  split
  · have all := ap r s
    induction is with
    | nil => exact .nil
    | cons i is ih =>
      rcases get i all with ⟨e1, e2⟩ | ⟨x, y, e1, e2, f⟩
      · rw [List.filterMap_cons, List.filterMap_cons, e1, e2]; exact ih
      · rw [List.filterMap_cons, List.filterMap_cons, e1, e2]; exact .cons f ih
  · exact .nil
theorem _root_.L2.Fun.kbinds {K : PySem.W.Frag} {x qual : Str} {st : Stmt} {f : Addr} {fd : FuncData} {ps ks : List Str} {n1 n2 : Nat} {is : List Nat} (F : Fun K x qual st f fd) (hp : ps ≠ [])
    (h : ∀ (kV doc pm : Value) (an : Option Addr) (cdv ct : Value) (us ws : List Value), us.length = n1 → ws.length = n2 → bindArgs (PySem.W.fnOf x qual (defArgs st) (defBody st) (defScope st) .none kV doc pm an cdv ct) ⟨us, ks.zip ws⟩ = pure (ps.zip (is.filterMap fun i => (us ++ ws)[i]?))) : KBinds K fd ps ks (perm n1 n2 is) (perm n1 n2 is) := by
  obtain ⟨oc, od, kV, doc, pm, an, cdv, ct, osl, rfl, lk, hcd⟩ := F.ex
  refine ⟨fun s us ws _ hl => ?_, fun r s => perm_rel n1 n2 is r s⟩
  by_cases hc : us.length = n1 ∧ ws.length = n2
  · refine .of_eq ?_
    unfold perm
    rw [if_pos hc]
    exact h kV doc pm an cdv ct us ws hc.1 hc.2
  · unfold perm at hl
    rw [if_neg hc] at hl
    cases ps with
    | nil => exact absurd rfl hp
    | cons a b => cases hl
/-- keywords' values -/
def DK (X : Cx) (kws : List Keyword) (m : MR) : Prop := PK X kws (tR X.K m)
theorem _root_.L2.PK.imp {kws : List Keyword} {t t' : TA} (h : PK X kws t) (i : ∀ σ H Q, t' σ H Q → t σ H Q) : PK X kws t' := ⟨fun pos pins s σ H Q I q => h.run pos pins s σ H Q I (i σ H Q q)⟩
theorem dk_nil : DK X [] rNil := PK.imp pk_nil fun σ H Q ⟨ρ, M, O, π, ds, ρ', h, e, q⟩ => by
  cases e
  exact q [] H M (.refl h) h .nil
theorem dk_val {nm : Option Str} {e : Expr} {kpos : Pos} {kws : List Keyword} {me : ME} {n : MR} (he : DE X e me) (hes : DK X kws n) : DK X (⟨nm, e, kpos⟩ :: kws) (rVal me n) :=
  PK.imp (pk_cons he hes) fun σ H Q ⟨ρ, M, O, π, ds, ρ', h, e, q⟩ => by
    unfold rVal at e
    split at e
    · rename_i pr ρ1 e1
      split at e
      · rename_i d ρ2 e2
        split at e
        · rename_i as ρ3 e3
          cases e
          refine ⟨ρ, M, O, π, pr, ρ1, h, e1, fun v H1 M1 x1 s1 r1 => ?_⟩
          obtain ⟨M2, x2, s2, r2⟩ := frz_ok s1 r1 e2
          exact ⟨ρ2, M2, O, π, as, _, s2, e3, fun vs H3 M3 x3 s3 r3 => q (v :: vs) H3 M3 ((x1.trans x2).trans x3) s3 (.cons (r2.tr x3.tr) r3)⟩
        · cases e
      · cases e
    · cases e
def rPerm (n1 n2 : Nat) (is : List Nat) (mr mk : MR) : MR := fun ρ => match mr ρ with
  | some (as, ρ1) => match mk ρ1 with
    | some (bs, ρ2) => some (perm n1 n2 is as bs, ρ2)
    | none => none
  | none => none
theorem AReps.tr {K : PySem.W.Frag} {H H' : Hp} {M M' : Mset} {σ : St} (l : Lat H M H' M') : ∀ {vs : List V} {as : List AR}, AReps K H M σ vs as → AReps K H' M' σ vs as
  | _, _, .nil => .nil
  | _, _, .cons h t => .cons (ARep.tr l h) (AReps.tr l t)
theorem tR_perm {mr mk : MR} {n1 n2 : Nat} {is : List Nat} {σ : St} {H : Hp} {Q : List V → Hp → Prop} (h : tR X.K (rPerm n1 n2 is mr mk) σ H Q) : tR X.K mr σ H fun vs H1 => tR X.K mk σ H1 fun zs H2 => Q (perm n1 n2 is vs zs) H2 := by
  obtain ⟨ρ, M, O, π, as, ρ', h, e, q⟩ := h
  unfold rPerm at e
  split at e
  · rename_i as ρ1 e1
    split at e
    · rename_i bs ρ2 e2
      cases e
      refine ⟨ρ, M, O, π, as, ρ1, h, e1, fun vs H1 M1 x1 s1 r1 => ⟨ρ1, M1, O, π, bs, _, s1, e2, fun zs H2 M2 x2 s2 r2 => q _ H2 M2 (x1.trans x2) s2 ?_⟩⟩
      exact perm_rel n1 n2 is (AReps.tr x2.tr r1) r2
    · cases e
  · cases e
theorem de_callK0 {k : Nat} {f : Addr} {fd : FuncData} {ps ks : List Str} {g : Fn} {x : Str} {p pos : Pos} {kws : List Keyword} {mk : MR} {n1 n2 : Nat} {is : List Nat} (F : FnOk X.prog X.w X.K X.mg X.base CX0 k f fd ps (spD X.K ps.length g)) (hr : Room k X.A) (hg : Gl X x) (hm : X.mg x = some (.ref f)) (hk : PySem.W.keepIn X.K (.ref f) = true) (hb : KBinds X.K fd ps ks (perm n1 n2 is) (perm n1 n2 is))
    (hkw : DK X kws mk) (hn : ∀ ρ as ρ', rPerm n1 n2 is rNil mk ρ = some (as, ρ') → as.length = ps.length) (hall : (backToKw pos (keywordEach kws X.env)).all (·.1.isSome) = true := by rfl) (hks : (backToKw pos (keywordEach kws X.env)).filterMap (·.1) = ks := by rfl)
    (hdb : (x == ("__debug__" : Str)) = false := by decide) (hpl : ((PySem.backTo pos (starEach [] X.env)).any (·.1) || (backToKw pos (keywordEach kws X.env)).any (·.1.isNone)) = false := by rfl) :
    DE X (.Call (.Name x p) [] kws pos) (mCall g (rPerm n1 n2 is rNil mk)) :=
  PE.imp (pe_callK0 F hr hg hm hk hb pass0 hkw hall hks hdb hpl) fun σ H Q h => by
    obtain ⟨ρ, M, O, π, as, ρ', h, e, q⟩ := tR_perm (tR_call (X := X) hn h)
    cases e
    exact q [] H M (.refl h) h .nil
theorem de_callK {k : Nat} {f : Addr} {fd : FuncData} {ps ks : List Str} {g : Fn} {x : Str} {p pos : Pos} {e : Expr} {es : List Expr} {kws : List Keyword} {mr mk : MR} {n1 n2 : Nat} {is : List Nat} (F : FnOk X.prog X.w X.K X.mg X.base CX0 k f fd ps (spD X.K ps.length g)) (hr : Room k X.A) (hg : Gl X x) (hm : X.mg x = some (.ref f)) (hk : PySem.W.keepIn X.K (.ref f) = true) (hb : KBinds X.K fd ps ks (perm n1 n2 is) (perm n1 n2 is))
    (ha : DR X (e :: es) mr) (hkw : DK X kws mk) (hn : ∀ ρ as ρ', rPerm n1 n2 is mr mk ρ = some (as, ρ') → as.length = ps.length) (hall : (backToKw pos (keywordEach kws X.env)).all (·.1.isSome) = true := by rfl) (hks : (backToKw pos (keywordEach kws X.env)).filterMap (·.1) = ks := by rfl)
    (hdb : (x == ("__debug__" : Str)) = false := by decide) (he : starEach (e :: es) X.env = (false, eval e X.env) :: starEach es X.env := by rfl) (hpl : ((PySem.backTo pos (starEach (e :: es) X.env)).any (·.1) || (backToKw pos (keywordEach kws X.env)).any (·.1.isNone)) = false := by rfl) :
    DE X (.Call (.Name x p) (e :: es) kws pos) (mCall g (rPerm n1 n2 is mr mk)) :=
  PE.imp (pe_callK F hr hg hm hk hb pass0 ha hkw hall hks hdb he hpl) fun σ H Q h => tR_perm (tR_call (X := X) hn h)
/-! how many arguments -/
theorem rl_nil {n : Nat} (hn : n = 0) : ∀ ρ as ρ', rNil ρ = some (as, ρ') → as.length = n := fun ρ as ρ' e => by cases e; exact hn.symm
theorem rl_val {me : ME} {n : MR} {k : Nat} (h : ∀ ρ as ρ', n ρ = some (as, ρ') → as.length = k) : ∀ ρ as ρ', rVal me n ρ = some (as, ρ') → as.length = k + 1 := fun ρ as ρ' e => by
  unfold rVal at e
  split at e
  · split at e
    · split at e
      · rename_i e3
        cases e
        rw [List.length_cons, h _ _ _ e3]
      · cases e
    · cases e
  · cases e
theorem rl_slot {i : Nat} {n : MR} {k : Nat} (h : ∀ ρ as ρ', n ρ = some (as, ρ') → as.length = k) : ∀ ρ as ρ', rSlot i n ρ = some (as, ρ') → as.length = k + 1 := fun ρ as ρ' e => by
  unfold rSlot at e
  split at e
  · split at e
    · rename_i e3
      cases e
      rw [List.length_cons, h _ _ _ e3]
    · cases e
  · cases e
theorem rl_perm {mr mk : MR} {n1 n2 : Nat} {is : List Nat} (h1 : ∀ ρ as ρ', mr ρ = some (as, ρ') → as.length = n1) (h2 : ∀ ρ as ρ', mk ρ = some (as, ρ') → as.length = n2) (hi : is.all (fun i => decide (i < n1 + n2)) = true) : ∀ ρ as ρ', rPerm n1 n2 is mr mk ρ = some (as, ρ') → as.length = is.length := fun ρ as ρ' e => by
  unfold rPerm at e
  split at e
  · rename_i as1 ρ1 e1
    split at e
    · rename_i bs ρ2 e2
      cases e
      unfold perm
      rw [if_pos ⟨h1 _ _ _ e1, h2 _ _ _ e2⟩]
      have hl : (as1 ++ bs).length = n1 + n2 := by rw [List.length_append, h1 _ _ _ e1, h2 _ _ _ e2]
      clear e1 e2
      induction is with
      | nil => rfl
      | cons i is ih =>
        rw [List.all_cons, Bool.and_eq_true] at hi
        have hi1 : i < (as1 ++ bs).length := by rw [hl]; exact of_decide_eq_true hi.1
        rw [List.filterMap_cons, List.getElem?_eq_getElem hi1, List.length_cons, List.length_cons, ih hi.2]
    · cases e
  · cases e
/-! ### room -/
theorem room70 {A : Around} {k : Nat} (r : Room k A) : A.units + 70 < cLine := by have := r.un; omega
theorem room65 {A : Around} {k : Nat} (r : Room k A) : A.units + 65 < cLine := by have := r.un; omega
theorem room64 {A : Around} {k : Nat} (r : Room k A) : A.units + 64 < cLine := by have := r.un; omega
end
/-- a def that nothing is promised of -/
theorem fn_zero {P : Program} {w : World} {K : PySem.W.Frag} {mg : Str → Option Value} {base : Heap} {f : Addr} {fd : FuncData} {ps : List Str} {k : Nat} : FnOk P w K mg base CX0 k f fd ps (spD K ps.length fun _ => none) :=
  ⟨fun vs H Q E ⟨M, O, π, args, r, os, hl, _⟩ => hl, fun A outer s H args us vs Q E _ _ _ _ ⟨M, O, π, as, r, os, _, _, e, _⟩ => by cases e⟩
/-- the law's promise -/
theorem law_sp {K : PySem.W.Frag} {g : Fn} {H : Hp} {a : Addr} {ns : List Int} (hS : SqL K H a (ns.map V.int)) (e : ∃ os, g [.imm (.dict (ns.map fun n => (.int n, .none)))] = some (.imm (.bool true), os)) : spD K 1 g [.ref a] H (fun v _ => v = .bl true) fun _ _ _ => False := by
  obtain ⟨os, e⟩ := e
  have rs : Reps K H (fun _ => False) (ns.map V.int) ((ns.map fun n => ((.int n : D), (.none : D))).map Prod.fst) := by
    induction ns with
    | nil => exact .nil
    | cons n ns ih => exact .cons (.int n) (by
        clear ih e hS
        induction ns with
        | nil => exact .nil
        | cons m ns ih => exact .cons (.int m) ih)
  refine ⟨fun _ => False, fun _ => False, fun _ => none, _, _, os, rfl, ⟨rfl, fun _ z => z, fun _ z => z.elim, fun i d h => ?_, fun i b ds h => ?_, fun i j b c ds es x _ h => ?_⟩, e, fun v H' M' _ _ _ r => ?_⟩
  · cases i with
    | zero =>
      cases h
      exact ⟨.ref a, rfl, .scr (by
        rcases hS with h | h
        · exact .inl ⟨h, fun z => z⟩
        · exact .inr h) rs⟩
    | succ i => simp at h
  · cases i with
    | zero => cases h
    | succ i => simp at h
  · cases i with
    | zero => cases h
    | succ i => simp at h
  · cases (show Rep K H' M' v (.bool true) from r)
    rfl
end Vi

namespace Vi
open PySem PySem.Spec PyProof.Rows L2
section
variable {K : PySem.W.Frag} {H H' : Hp} {M M' O O' : Mset} {π : Nat → Option Addr} {ρ ρ' : Fm} {σ : St} {v : V}
theorem last_get {α : Type} {l : List α} {x y : α} {i : Nat} (h : (l ++ [x])[i]? = some y) : l[i]? = some y ∨ (i = l.length ∧ y = x) := by
  by_cases hi : i < l.length
  · rw [List.getElem?_append_left hi] at h; exact .inl h
  · rw [List.getElem?_append_right (by omega)] at h
    by_cases hz : i - l.length = 0
    · rw [hz] at h; cases h; exact .inr ⟨by omega, rfl⟩
    · obtain ⟨m, hm⟩ : ∃ m, i - l.length = m + 1 := ⟨i - l.length - 1, by omega⟩
      rw [hm] at h; simp at h
theorem lt_of_get {α : Type} {l : List α} {i : Nat} {y : α} (h : l[i]? = some y) : i < l.length := by
  rcases Nat.lt_or_ge i l.length with q | q
  · exact q
  · rw [List.getElem?_eq_none q] at h; cases h
/-- a hidden name for a fresh list -/
theorem SR.snoc (h : SR K H M O π ρ σ) {b : Bool} {ds : List D} {p : Addr} (r : RP K H M O ρ σ (.val (.own b ds)) (.ref p)) : SR K H M O π (ρ ++ [some (.own false ds)]) (σ ++ [some (.ref p)]) := by
  obtain ⟨p', vs, e0, e1, e2, e3, e4, e5⟩ := r
  cases e0
  have up : ∀ {i : Nat}, i < σ.length → (σ ++ [some (V.ref p)])[i]? = σ[i]? := fun {i} hi => List.getElem?_append_left hi
  have lastσ : (σ ++ [some (V.ref p)])[ρ.length]? = some (some (.ref p)) := by rw [h.len, List.getElem?_append_right (Nat.le_refl _), Nat.sub_self]; rfl
  refine ⟨by rw [List.length_append, List.length_append, h.len]; rfl, h.sub, h.live, fun i d e => ?_, fun i c es e => ?_, fun i j c c' es fs x hij e f g => ?_⟩
  · rcases last_get e with e | ⟨_, e⟩
    · obtain ⟨v, f1, f2⟩ := h.imm i d e
      exact ⟨v, by rw [up (lt_of_get f1)]; exact f1, f2⟩
    · cases e
  · rcases last_get e with e | ⟨rfl, e2⟩
    · obtain ⟨a, ws, f1, f2⟩ := h.own i c es e
      exact ⟨a, ws, by rw [up (lt_of_get f1)]; exact f1, f2⟩
    · cases e2
      exact ⟨p, vs, lastσ, e1, e2, e3, e4, fun z => by cases z⟩
  · rcases last_get e with e | ⟨rfl, _⟩
    · have hi := lt_of_get e
      rw [up (by rw [← h.len]; exact hi)] at g
      rcases last_get f with f | ⟨rfl, _⟩
      · have hj := lt_of_get f
        rw [up (by rw [← h.len]; exact hj)]
        exact h.uniq i j c c' es fs x hij e f g
      · rw [lastσ]
        intro z; cases z
        exact e5 i c es e g
    · rw [lastσ] at g
      cases g
      rcases last_get f with f | ⟨rfl, _⟩
      · have hj := lt_of_get f
        rw [up (by rw [← h.len]; exact hj)]
        exact e5 j c' fs f
      · exact absurd rfl hij
theorem SR.unsnoc {x : Option Sv} {y : Option V} (h : SR K H M O π (ρ ++ [x]) (σ ++ [y])) : SR K H M O π ρ σ := by
  have hl : ρ.length = σ.length := by have := h.len; simpa using this
  have up : ∀ {i : Nat} {s : Option Sv}, ρ[i]? = some s → (ρ ++ [x])[i]? = some s ∧ (σ ++ [y])[i]? = σ[i]? := fun {i s} e => by
    have hi := lt_of_get e
    exact ⟨by rw [List.getElem?_append_left hi]; exact e, List.getElem?_append_left (by omega)⟩
  refine ⟨hl, h.sub, h.live, fun i d e => ?_, fun i c es e => ?_, fun i j c c' es fs a hij e f g => ?_⟩
  · obtain ⟨e1, e2⟩ := up e
    rw [← e2]; exact h.imm i d e1
  · obtain ⟨e1, e2⟩ := up e
    rw [← e2]; exact h.own i c es e1
  · obtain ⟨e1, e2⟩ := up e
    obtain ⟨f1, f2⟩ := up f
    rw [← f2]; exact h.uniq i j c c' es fs a hij e1 f1 (by rw [e2]; exact g)
theorem RP.unsnoc {x : Option Sv} {y : Option V} {s : Sv} (hl : ρ.length = σ.length) (h : RP K H M O (ρ ++ [x]) (σ ++ [y]) (.val s) v) : RP K H M O ρ σ (.val s) v := by
  cases s with
  | imm d => exact h
  | own b ds =>
    obtain ⟨p, vs, e0, e1, e2, e3, e4, e5⟩ := h
    refine ⟨p, vs, e0, e1, e2, e3, e4, fun i c es e => ?_⟩
    have hi := lt_of_get e
    have := e5 i c es (by rw [List.getElem?_append_left hi]; exact e)
    rw [List.getElem?_append_left (by omega)] at this
    exact this
end
/-- f(e), e a fresh list that f may change -/
def mCallO (f : Fn) (me : ME) : ME := fun ρ => match me ρ with
  | some (.val (.own _ ds), ρ1) => match f [.own true ds] with
    | some (r, [some _]) => some (.val r, ρ1)
    | _ => none
  | _ => none
section
variable {X : Cx} {e : Expr} {me : ME} {k : Nat} {f : Addr} {fd : FuncData} {ps : List Str} {g : Fn} {x : Str} {p pos : Pos}
theorem de_callO (F : FnOk X.prog X.w X.K X.mg X.base CX0 k f fd ps (spD X.K ps.length g)) (hr : Room k X.A) (hg : Gl X x) (hm : X.mg x = some (.ref f)) (hk : PySem.W.keepIn X.K (.ref f) = true) (hb : Binds X.K fd ps [])
    (ha : DE X e me) (hp : ps.length = 1) (hdb : (x == ("__debug__" : Str)) = false := by decide) (he : starEach [e] X.env = (false, eval e X.env) :: starEach [] X.env := by rfl) (hpl : (PySem.backTo pos (starEach [] X.env)).any (·.1) = false := by rfl) :
    DE X (.Call (.Name x p) [e] [] pos) (mCallO g me) :=
  PE.imp (pe_call F hr hg hm hk hb .nil pass0 (pa_cons ha pa_nil he) hdb he hpl) fun σ H Q ⟨ρ, M, O, π, pr, ρ', h, e, q⟩ => by
    unfold mCallO at e
    split at e
    · rename_i b ds ρ1 e1
      split at e
      · rename_i r ds' e2
        cases e
        refine ⟨ρ, M, O, π, _, _, h, e1, fun v H1 M1 x1 s1 r1 => ?_⟩
        obtain ⟨a, vs, rfl, r2⟩ := (show ∃ a vs, v = .ref a ∧ _ from r1)
        have s2 := s1.snoc r1
        have as2 : AReps X.K H1 M1 (σ ++ [some (V.ref a)]) [.ref a] [AR.s ρ'.length] := .cons (show (σ ++ [some (V.ref a)])[ρ'.length]? = some (some (.ref a)) by rw [s1.len, List.getElem?_append_right (Nat.le_refl _), Nat.sub_self]; rfl) .nil
        have gt : (ρ' ++ [some (Sv.own false ds)])[ρ'.length]? = some (some (.own false ds)) := by rw [List.getElem?_append_right (Nat.le_refl _), Nat.sub_self]; rfl
        have ea : argsOf (ρ' ++ [some (Sv.own false ds)]) [AR.s ρ'.length] = some [.own true ds] := by
          unfold argsOf; rw [gt]; rfl
        have eb : backTo (ρ' ++ [some (Sv.own false ds)]) [AR.s ρ'.length] [some ds'] = some (ρ' ++ [some (Sv.own false ds')]) := by
          unfold backTo; rw [gt]
          show some ((ρ' ++ [some (Sv.own false ds)]).set ρ'.length (some (.own false ds'))) = _
          rw [List.set_append_right _ _ (Nat.le_refl _), Nat.sub_self]; rfl
        show spD X.K ps.length g ([V.ref a] ++ []) H1 Q E0
        refine ⟨M1, _, _, [.own true ds], r, [some ds'], by rw [hp]; rfl, call_start s2 as2 rfl ea, e2, fun v H2 M2 lv x2 ho rr => ?_⟩
        obtain ⟨x3, s3⟩ := call_end s2 as2 rfl eb lv x2 ho
        have r3 := call_ret s2 as2 rfl eb x2 ho rr
        have s4 := s3.unsnoc
        exact q v H2 M2 (x1.trans x3) s4 (r3.unsnoc s4.len)
      · cases e
    · cases e
end
end Vi

namespace Vi
open PySem PySem.Spec PyProof.Rows L2
section
variable {X : Cx}
/-! ### < and the like of any data -/
def rCmpD (K : PySem.W.Frag) (f : D → D → Bool) : R2 := fun x y H Q => ∃ d e, Dp K H x d ∧ Dp K H y e ∧ SeqAt.shaped d = true ∧ SeqAt.shaped e = true ∧ W.alike d e = true ∧ d ≠ .none ∧ Q (.bl (f d e)) H
theorem room_cmp {A : Around} {d e : D} (h : SeqAt.shaped d = true) (hu : A.units + 64 < cLine) : A.units + min d.depth e.depth < cLine := by
  have h1 := SeqAt.depth_of_shaped h
  have h2 : min d.depth e.depth ≤ d.depth := Nat.min_le_left _ _
  omega
theorem op_ltDD (hu : X.A.units + 64 < cLine) : OpR X (compareOp .Lt) (rCmpD X.K fun d e => W.dataLt d e) := by
  intro pins s σ H x y v u Q I rx ry h
  obtain ⟨d, e, hd, he, sd, se, al, hn, q⟩ := h
  obtain ⟨as, r1⟩ := Dp.reads I d x v hd rx
  obtain ⟨bs, r2⟩ := Dp.reads I e y u he ry
  exact W.lt_data r1 r2 al hn (room_cmp sd hu) ⟨.bl _, H, I, rfl, q⟩
theorem op_gtDD (hu : X.A.units + 64 < cLine) : OpR X (compareOp .Gt) (rCmpD X.K fun d e => W.dataLt e d) := by
  intro pins s σ H x y v u Q I rx ry h
  obtain ⟨d, e, hd, he, sd, se, al, hn, q⟩ := h
  obtain ⟨as, r1⟩ := Dp.reads I d x v hd rx
  obtain ⟨bs, r2⟩ := Dp.reads I e y u he ry
  exact W.gt_data r1 r2 al hn (room_cmp sd hu) ⟨.bl _, H, I, rfl, q⟩
theorem op_leDD (hu : X.A.units + 64 < cLine) : OpR X (compareOp .LtE) (rCmpD X.K fun d e => !W.dataLt e d) := by
  intro pins s σ H x y v u Q I rx ry h
  obtain ⟨d, e, hd, he, sd, se, al, hn, q⟩ := h
  obtain ⟨as, r1⟩ := Dp.reads I d x v hd rx
  obtain ⟨bs, r2⟩ := Dp.reads I e y u he ry
  exact W.le_data r1 r2 al hn (room_cmp sd hu) ⟨.bl _, H, I, rfl, q⟩
theorem op_geDD (hu : X.A.units + 64 < cLine) : OpR X (compareOp .GtE) (rCmpD X.K fun d e => !W.dataLt d e) := by
  intro pins s σ H x y v u Q I rx ry h
  obtain ⟨d, e, hd, he, sd, se, al, hn, q⟩ := h
  obtain ⟨as, r1⟩ := Dp.reads I d x v hd rx
  obtain ⟨bs, r2⟩ := Dp.reads I e y u he ry
  exact W.ge_data r1 r2 al hn (room_cmp sd hu) ⟨.bl _, H, I, rfl, q⟩
def dCmpD (g : Int → Int → Bool) (f : D → D → Bool) : D → D → Option Sv
  | .int i, .int j => some (.imm (.bool (g i j)))
  | a, b => if (okD a && okD b && W.alike a b && !isNon a) = true then some (.imm (.bool (f a b))) else none
theorem os_cmpD {g : Int → Int → Bool} {f : D → D → Bool} : OpS X (fun x y H Q => rI0 (fun i j => .bl (g i j)) x y H Q ∨ rCmpD X.K f x y H Q) (dCmpD g f) := by
  intro H M O π ρ σ v1 v2 d1 d2 res Q h r1 r2 e q
  unfold dCmpD at e
  split at e
  · cases e
    cases r1.inI; cases r2.inI
    exact .inl ⟨_, _, rfl, rfl, Post.now q h (.bl _)⟩
  · split at e
    · rename_i hz
      cases e
      rw [Bool.and_eq_true, Bool.and_eq_true, Bool.and_eq_true] at hz
      exact .inr ⟨d1, d2, r1.dp (SeqAt.canLay_of_shaped hz.1.1.1), r2.dp (SeqAt.canLay_of_shaped hz.1.1.2), hz.1.1.1, hz.1.1.2, hz.1.2, fun z => by rw [z] at hz; exact absurd hz.2 (by decide), Post.now q h (.bl _)⟩
    · cases e
theorem op_ltA (hu : X.A.units + 64 < cLine) : OpR X (compareOp .Lt) (fun x y H Q => rI0 (fun i j => .bl (decide (i < j))) x y H Q ∨ rCmpD X.K (fun d e => W.dataLt d e) x y H Q) := op_lt.or (op_ltDD hu)
theorem op_leA (hu : X.A.units + 64 < cLine) : OpR X (compareOp .LtE) (fun x y H Q => rI0 (fun i j => .bl (decide (i ≤ j))) x y H Q ∨ rCmpD X.K (fun d e => !W.dataLt e d) x y H Q) := op_le.or (op_leDD hu)
theorem op_gtA (hu : X.A.units + 64 < cLine) : OpR X (compareOp .Gt) (fun x y H Q => rI0 (fun i j => .bl (decide (j < i))) x y H Q ∨ rCmpD X.K (fun d e => W.dataLt e d) x y H Q) := op_gt.or (op_gtDD hu)
theorem op_geA (hu : X.A.units + 64 < cLine) : OpR X (compareOp .GtE) (fun x y H Q => rI0 (fun i j => .bl (decide (j ≤ i))) x y H Q ∨ rCmpD X.K (fun d e => !W.dataLt d e) x y H Q) := op_ge.or (op_geDD hu)
abbrev dLtA := dCmpD (fun i j => decide (i < j)) fun d e => W.dataLt d e
abbrev dLeA := dCmpD (fun i j => decide (i ≤ j)) fun d e => !W.dataLt e d
abbrev dGtA := dCmpD (fun i j => decide (j < i)) fun d e => W.dataLt e d
abbrev dGeA := dCmpD (fun i j => decide (j ≤ i)) fun d e => !W.dataLt d e
/-! ### sum, str, list times a number -/
def intsOf : List D → Option (List Int)
  | [] => some []
  | .int i :: r => (intsOf r).map (i :: ·)
  | _ :: _ => none
theorem ints_reps {K : PySem.W.Frag} {H : Hp} {M : Mset} : ∀ {vs : List V} {ds : List D} {bs : List Int}, Reps K H M vs ds → intsOf ds = some bs → vs = bs.map V.int
  | _, _, _, .nil, e => by cases e; rfl
  | _, _, bs, .cons h r, e => by
    cases h with
    | int b =>
      obtain ⟨cs, e1, rfl⟩ := Option.map_eq_some_iff.mp (show (intsOf _).map (b :: ·) = some bs from e)
      rw [ints_reps r e1]; rfl
    | _ => cases e
def dSum : D → Option Sv
  | .list ds => (intsOf ds).map fun ns => .imm (.int ns.sum)
  | _ => none
theorem us_sum : UnS X (fun v H Q => rSum X.K [v] H Q) dSum := by
  intro H M O π ρ σ v1 d1 res Q h r1 e q
  unfold dSum at e
  split at e
  · obtain ⟨bs, e1, rfl⟩ := Option.map_eq_some_iff.mp e
    obtain ⟨a, vs, rfl, rd, rs⟩ := r1.inL
    exact ⟨a, bs, rfl, .inl (by rw [← ints_reps rs e1]; exact rd), Post.now q h (.int _)⟩
  · cases e
def dStr : D → Option Sv
  | .int i => if decide (i.natAbs.log2 < 1920) = true then some (.imm (.str (toString i))) else none
  | _ => none
theorem us_str : UnS X (fun v H Q => (fun xs H Q => ∃ i, xs = [V.int i] ∧ i.natAbs.log2 < 1920 ∧ Q (.str (toString i)) H) [v] H Q) dStr := by
  intro H M O π ρ σ v1 d1 res Q h r1 e q
  unfold dStr at e
  split at e
  · split at e
    · rename_i hz
      cases e
      cases r1.inI
      exact ⟨_, rfl, of_decide_eq_true hz, Post.now q h (.str _)⟩
    · cases e
  · cases e
variable {a b e : Expr} {ma mb me : ME} {mes : MA} {es : List Expr} {pos : Pos}
/-- a fresh list * k -/
def mRep (ma mb : ME) : ME := fun ρ => match ma ρ with
  | some (.val (.own _ xs), ρ1) => match mb ρ1 with
    | some (pk, ρ2) => match peek ρ2 pk with
      | some (.int k) => if decide (-(2 ^ 63) ≤ k ∧ k < 2 ^ 63 ∧ xs.length * k.toNat ≤ sizeLine) = true then some (.val (.own false (List.replicate k.toNat xs).flatten), ρ2) else none
      | _ => none
    | none => none
  | _ => none
theorem de_rep (ha : DE X a ma) (hb : DE X b mb) : DE X (.BinOp a .Mult b pos) (mRep ma mb) := PE.imp (pe_op op_rep ha hb) fun σ H Q ⟨ρ, M, O, π, pr, ρ', h, e, q⟩ => by
  unfold mRep at e
  split at e
  · rename_i b0 xs ρ1 e1
    split at e
    · rename_i pk ρ2 e2
      split at e
      · rename_i k ek
        split at e
        · rename_i hz
          cases e
          have hz' := of_decide_eq_true hz
          refine ⟨ρ, M, O, π, _, ρ1, h, e1, fun v1 H1 M1 x1 s1 r1 => ?_⟩
          refine ⟨ρ1, M1, Vi.hold O _ v1, π, pk, _, s1.hold r1, e2, fun v2 H2 M2 x2 s2 r2 => ?_⟩
          have s2' := s2.less (hold_le O (.val (.own b0 xs)) v1)
          obtain ⟨p, vs, e3, e4, e5, e6, e7, e8⟩ := r1.held x2 s2
          have ev := (peek_vw s2' (r2.less (hold_le O (.val (.own b0 xs)) v1)) ek).inI
          subst e3 ev
          exact ⟨p, k, vs, rfl, rfl, e4, hz'.1, hz'.2.1, by rw [e7.length]; exact hz'.2.2, fun p' hp' => Post.lst (Q := Q) (fun v H' M' x3 s3 r3 => q v H' M' ((x1.trans (x2.less (hold_le O (.val (.own b0 xs)) (.ref p)))).trans x3) s3 r3) s2' (e7.rep k.toNat) hp'⟩
        · cases e
      · cases e
    · cases e
  · cases e
/-! ### built-ins of several values -/
def mA (f : List D → Option Sv) (m : MA) : ME := fun ρ => match m ρ with
  | some (ds, ρ1) => match f ds with
    | some r => some (.val r, ρ1)
    | none => none
  | none => none
def AS (X : Cx) (r : List V → Hp → VK → Prop) (f : List D → Option Sv) : Prop := ∀ {H : Hp} {M O : Mset} {π : Nat → Option Addr} {ρ : Fm} {σ : St} {vs : List V} {ds : List D} {res : Sv} {Q : VK}, SR X.K H M O π ρ σ → Reps X.K H M vs ds → f ds = some res →
  (∀ v H' M', Ext O H M H' M' → SR X.K H' M' O π ρ σ → RP X.K H' M' O ρ σ (.val res) v → Q v H') → r vs H Q
theorem de_callA {id : String} {x : Str} {p : Pos} {r : List V → Hp → VK → Prop} {f : List D → Option Sv} (hc : CallR X (.builtin id) r) (hs : AS X r f) (hg : Gl X x) (hm : X.mg x = none) (hv : bootBuiltins x = some (.builtin id)) (ha : DA X (e :: es) mes)
    (hn : x ≠ "__name__" := by decide) (hd : (x == ("__debug__" : Str)) = false := by decide) (he : starEach (e :: es) X.env = (false, eval e X.env) :: starEach es X.env := by rfl) (hpl : (PySem.backTo pos (starEach es X.env)).any (·.1) = false := by rfl) : DE X (.Call (.Name x p) (e :: es) [] pos) (mA f mes) :=
  PE.imp (pe_callB hc hg hm hv ha hn hd he hpl) fun σ H Q ⟨ρ, M, O, π, pr, ρ', h, e, q⟩ => by
    unfold mA at e
    split at e
    · rename_i ds ρ1 e1
      split at e
      · rename_i r er
        cases e
        exact ⟨ρ, M, O, π, ds, _, h, e1, fun vs H1 M1 x1 s1 r1 => hs s1 r1 er fun v H' M' x3 s3 r3 => q v H' M' (x1.trans x3) s3 r3⟩
      · cases e
    · cases e
def dMin2 : List D → Option Sv
  | [.int i, .int j] => some (.imm (.int (if j < i then j else i)))
  | _ => none
def dMax2 : List D → Option Sv
  | [.int i, .int j] => some (.imm (.int (if j > i then j else i)))
  | _ => none
theorem as_min2 : AS X (fun xs H Q => ∃ i j, xs = [V.int i, V.int j] ∧ Q (.int (if j < i then j else i)) H) dMin2 := by
  intro H M O π ρ σ vs ds res Q h r e q
  unfold dMin2 at e
  split at e
  · cases e
    cases r with
    | cons r1 r2 => cases r2 with
      | cons r2 r3 =>
        cases r3; cases r1; cases r2
        exact ⟨_, _, rfl, Post.now q h (.int _)⟩
  · cases e
theorem as_max2 : AS X (fun xs H Q => ∃ i j, xs = [V.int i, V.int j] ∧ Q (.int (if j > i then j else i)) H) dMax2 := by
  intro H M O π ρ σ vs ds res Q h r e q
  unfold dMax2 at e
  split at e
  · cases e
    cases r with
    | cons r1 r2 => cases r2 with
      | cons r2 r3 =>
        cases r3; cases r1; cases r2
        exact ⟨_, _, rfl, Post.now q h (.int _)⟩
  · cases e
/-! ### x.pop(), x.extend(e) -/
def mPop (i : Nat) : ME := fun ρ => match ρ[i]? with
  | some (some (.own b ds)) => match ds[ds.length - 1]? with
    | some d => some (.val (.imm d), ρ.set i (some (.own b ds.dropLast)))
    | none => none
  | _ => none
theorem Reps.dropLast {K : PySem.W.Frag} {H : Hp} {M : Mset} {vs : List V} {ds : List D} (h : Reps K H M vs ds) : Reps K H M vs.dropLast ds.dropLast := by
  rw [List.dropLast_eq_take, List.dropLast_eq_take, h.length]; exact h.take _
theorem de_pop {i : Nat} {st_e : Expr} (h : PE X st_e (tBM0 X.K "list" rPop (tVar i))) : DE X st_e (mPop i) :=
  PE.imp h fun σ H Q ⟨ρ, M, O, π, fl, ρ', h, e, q⟩ => by
    unfold mPop at e
    split at e
    · rename_i b ds e0
      obtain ⟨a, vs, f1, f2, f3, f4, f5, f6⟩ := h.own i b ds e0
      split at e
      · rename_i d ed
        cases e
        obtain ⟨w, hw, rw'⟩ := f5.get ed
        obtain ⟨s3, x3, t3⟩ := h.write (ws := vs.dropLast) (es := ds.dropLast) e0 f1 f5.dropLast
        exact ⟨.ref a, f1, .inl ⟨rfl, vs, .inl (.inl f2)⟩, a, vs, w, rfl, rfl, f2, by rw [f5.length]; exact hw, q _ _ M x3 s3 (rw'.tr t3)⟩
      · cases e
    · cases e
def ownD (ρ : Fm) : PR → Option (List D)
  | .val (.own _ ds) => some ds
  | .slot j => match ρ[j]? with
    | some (some (.own _ ds)) => some ds
    | _ => none
  | _ => none
theorem ownD_ok {K : PySem.W.Frag} {H : Hp} {M O : Mset} {π : Nat → Option Addr} {ρ : Fm} {σ : St} {pr : PR} {v : V} {ds : List D} (h : SR K H M O π ρ σ) (r : RP K H M O ρ σ pr v) (e : ownD ρ pr = some ds) : ∃ p vs, v = .ref p ∧ H p = some (.lst vs) ∧ Reps K H M vs ds := by
  match pr, v, r, e with
  | .val (.own b ds'), v, ⟨p, vs, e1, e2, _, _, e4, _⟩, e =>
    cases e; exact ⟨p, vs, e1, e2, e4⟩
  | .slot j, v, r, e =>
    have r' : σ[j]? = some (some v) := r
    unfold ownD at e
    simp only at e
    split at e
    · rename_i b ds' hs
      cases e
      obtain ⟨a, vs, f1, f2, f3, f4, f5, f6⟩ := h.own j b _ hs
      rw [r'] at f1; cases f1
      exact ⟨a, vs, rfl, f2, f5⟩
    · cases e
/-- x.extend(e), e a list of nobody else's -/
def mExt (i : Nat) (me : ME) : ME := fun ρ => match ρ[i]? with
  | some (some (.own _ _)) => match me ρ with
    | some (pr, ρ1) => match ownD ρ1 pr with
      | some es => match ρ1[i]? with
        | some (some (.own b ds)) => if fits (ds.length + es.length) = true then some (.val (.imm .none), ρ1.set i (some (.own b (ds ++ es)))) else none
        | _ => none
      | none => none
    | none => none
  | _ => none
theorem de_ext {i : Nat} {st_e : Expr} (h : ∀ t, PA X [e] t → PE X st_e (tBM X.K "list" rExtend (tVar i) t)) (he : DE X e me) (hs : starEach (e :: []) X.env = (false, eval e X.env) :: starEach [] X.env := by rfl) : DE X st_e (mExt i me) :=
  PE.imp (h _ (pa_cons he pa_nil hs)) fun σ H Q ⟨ρ, M, O, π, fl, ρ', h, e, q⟩ => by
    unfold mExt at e
    split at e
    · rename_i b0 ds0 e0
      obtain ⟨a, vs, f1, f2, f3, f4, f5, f6⟩ := h.own i b0 ds0 e0
      refine ⟨.ref a, f1, .inl ⟨rfl, vs, .inl (.inl f2)⟩, ?_⟩
      split at e
      · rename_i pr ρ1 e1
        split at e
        · rename_i es e2
          split at e
          · rename_i b ds e3
            split at e
            · rename_i hz
              cases e
              refine ⟨ρ, M, O, π, pr, ρ1, h, e1, fun v H1 M1 x1 s1 r1 => ?_⟩
              obtain ⟨a', ws, g1, g2, g3, g4, g5, g6⟩ := s1.own i b ds e3
              rw [f1] at g1; cases g1
              obtain ⟨p, zs, rfl, g7, g8⟩ := ownD_ok s1 r1 e2
              obtain ⟨s3, x3, t3⟩ := s1.write (ws := ws ++ zs) (es := ds ++ es) e3 f1 (g5.append g8)
              exact ⟨a, p, ws, zs, rfl, rfl, g2, g7, by have := fits_le hz; rw [g5.length, g8.length]; omega, q _ _ M1 (x1.trans x3) s3 .non⟩
            · cases e
          · cases e
        · cases e
      · cases e
    · cases e
end
end Vi

namespace HT
open PySem PyProof.Rows PySem.Spec
section
variable {prog : Program} {w : World} {A : Around} {E : Value → Shared → Prop} {s : Shared}
theorem vi_applied_rev {sl : Addr} {vs : Value} {n : Nat} {Q : Int × Int × Nat → Shared → Prop} (hs : s.heap.IsSliceOf sl .none .none vs) (ps : IsPart vs (some (-1)))
    (h : Q ((n : Int) - 1, -1, n) s) : wpAny (model prog w) A (Builtin.Slice.sliceApplied (.ref sl) (pure (n : Int))) Q E s := by
  obtain ⟨os, hos, hcs, hds⟩ := id hs
  unfold Builtin.Slice.sliceApplied Builtin.Slice.sliceFields
  refine wpAny_bind (wpAny_bind (wpAny_field hos hds (x := Value.none) rfl (wpAny_bind (wpAny_field hos hds (x := Value.none) rfl (wpAny_bind (wpAny_field hos hds (x := vs) rfl (wpAny_pure ?_)))))))
  refine wpAny_bind (slicePart_ ps ?_)
  show wpAny _ _ (if ((-1 : Int) == 0) = true then _ else _) _ _ s
  rw [if_neg (by decide)]
  refine wpAny_bind (slicePart_none (wpAny_bind (slicePart_none (wpAny_bind (wpAny_pure ?_)))))
  show wpAny _ _ (pure ((n : Int) - 1, (-1 : Int), Builtin.Slice.slicePlaces ((n : Int) - 1) (-1) (-1))) _ _ s
  have e : Builtin.Slice.slicePlaces ((n : Int) - 1) (-1) (-1) = n := by
    unfold Builtin.Slice.slicePlaces
    rw [if_neg (by decide)]
    by_cases hn : (n : Int) - 1 > -1
    · rw [if_pos hn, show (-(-1) : Int) = 1 by decide, Int.ediv_one]; omega
    · rw [if_neg hn]; omega
  rw [e]
  exact wpAny_pure h
theorem vi_fm_congr {α β : Type} {f g : α → Option β} : ∀ {l : List α}, (∀ x ∈ l, f x = g x) → l.filterMap f = l.filterMap g
  | [], _ => rfl
  | x :: l, h => by rw [List.filterMap_cons, List.filterMap_cons, h x (List.mem_cons_self ..), vi_fm_congr fun y hy => h y (List.mem_cons_of_mem _ hy)]
theorem vi_fm_all {α : Type} : ∀ l : List α, (List.range l.length).filterMap (fun m => l[m]?) = l
  | [] => rfl
  | x :: l => by
    rw [List.length_cons, List.range_succ_eq_map, List.filterMap_cons, List.filterMap_map]
    show x :: (List.range l.length).filterMap (fun m => l[m]?) = _
    rw [vi_fm_all l]
theorem vi_pick_rev (xs : Array Value) : ((List.range xs.size).filterMap fun (m : Nat) => xs[(((xs.size : Int) - 1) + (m : Int) * (-1)).toNat]?).toArray = xs.toList.reverse.toArray := by
  have e : ∀ m ∈ List.range xs.size, (fun (m : Nat) => xs[(((xs.size : Int) - 1) + (m : Int) * (-1)).toNat]?) m = xs.toList.reverse[m]? := fun m hm => by
    have hm' := List.mem_range.mp hm
    show xs[(((xs.size : Int) - 1) + (m : Int) * (-1)).toNat]? = _
    rw [List.getElem?_reverse (by simpa using hm'), show (((xs.size : Int) - 1) + (m : Int) * (-1)).toNat = xs.toList.length - 1 - m by rw [Array.length_toList]; omega]
    simp
  rw [vi_fm_congr e]
  have := vi_fm_all xs.toList.reverse
  rw [List.length_reverse, Array.length_toList] at this
  rw [this]
theorem vi_tuple_rev {t sl : Addr} {items : Array Value} {vs : Value} {Q : Value → Shared → Prop} (ht : IsTup s.heap t items) (hs : s.heap.IsSliceOf sl .none .none vs) (ps : IsPart vs (some (-1)))
    (h : Q (.ref s.heap.objs.size) { s with heap := s.heap.push { cls := .type "tuple", data := .seq items.toList.reverse.toArray } })
    (hsz : items.size ≤ sizeLine) : wpAny (model prog w) A (getItem (.ref t) (.ref sl)) Q E s := by
  have htake : sizeOk (.seq items.toList.reverse.toArray) := by
    show items.toList.reverse.toArray.size ≤ sizeLine
    rw [List.size_toArray, List.length_reverse, Array.length_toList]
    exact hsz
  obtain ⟨os, hos, hcs, hds⟩ := id hs
  have hTs : s.TypeIs (.ref sl) "slice" := ⟨os, hos, hcs⟩
  unfold getItem
  try with_reducible refine wpAny_holding ?_
  first | refine wpAny_bind (wpAny_pure ?_) | skip
  refine wpAny_bind (wpAny_sequenceKey ht.typeIs (by decide) ?_)
  refine wpAny_bind (wpAny_callSpecial?_slot (name := Str.ofString "__getitem__") ht.typeIs PyProof.Rows.slot_tuple_getitem
    (wpAny_call_entry PyProof.Rows.slot_tuple_getitem ht.typeIs entry_tuple_getitem ?_ (args_tuple_getitem _ _)))
  show wpAny _ _ (Builtin.Tuple.tupleItemsOf (.ref t) >>= _) _ _ s
  refine wpAny_bind (tupleItemsOf_ ht ?_)
  refine wpAny_bind (wpAny_typeOf hTs ?_)
  rw [if_pos (by decide)]
  refine wpAny_bind (vi_applied_rev hs ps ?_)
  show wpAny _ _ (if ((((items.size : Int) - 1)) == 0 && (-1 : Int) == 1 && items.size == items.size) = true then _ else _) _ _ s
  rw [if_neg (by simp), vi_pick_rev]
  first
    | exact wpAny_bind (m := Builtin.Tuple.tupleExact _) (wpAny_newObj_type (wpAny_pure ⟨_, rfl, wpAny_pure h⟩) htake)
    | exact wpAny_bind (m := Builtin.Tuple.tupleExact _) (wpAny_newObj_type (wpAny_bind (wpAny_pure (wpAny_pure ⟨_, rfl, wpAny_pure h⟩))) htake)
    | exact wpAny_bind (wpAny_bind (m := Builtin.Tuple.tupleExact _) (wpAny_newObj_type (wpAny_pure (wpAny_pure ⟨_, rfl, wpAny_pure h⟩)) htake))
    | exact wpAny_bind (wpAny_bind (m := Builtin.Tuple.tupleExact _) (wpAny_newObj_type (wpAny_pure ⟨_, rfl, wpAny_pure h⟩) htake))
end
end HT
namespace Vi
open PySem PySem.Spec PyProof.Rows L2 HT
section
variable {X : Cx} {e : Expr} {te : TE} {me : ME}
def tRevT (K : PySem.W.Frag) (te : TE) : TE := fun σ H Q => te σ H fun x H1 => ∃ a xs, x = .ref a ∧ SqT K H1 a xs ∧ ∀ p, H1 p = none → Q (.ref p) (upd H1 p (.tup xs.reverse))
theorem pe_revT {k : Nat} {p1 p2 p3 pos : Pos} (he : PE X e te) : PE X (.Subscript e (.Slice none none (some (.UnaryOp .USub (.Constant (.int 1) k p1) p2)) p3) pos) (tRevT X.K te) := by
  refine ⟨fun pins s σ H Q I h => ?_⟩
  refine Subscript_ (thn (he.run pins s σ H _ I h) fun v s1 ⟨x, H1, I1, r1, q1⟩ => ?_)
  obtain ⟨a, xs, ex, hx, q⟩ := q1
  subst ex
  cases r1
  have hst : PO X (some (.UnaryOp .USub (.Constant (.int 1) k p1) p2)) (tPart (tUn (rU fun i => .int (-i)) (tC (.int 1)))) := po_some (pe_un un_neg pe_int)
  refine wpAny_Slice (thn (po_none.run pins s1 σ H1 (fun o H2 => o = none ∧ H2 = H1) I1 ⟨rfl, rfl⟩) fun vl s2 ⟨l, H2, I2, pl, el, e2⟩ => ?_)
  subst el e2
  refine thn (po_none.run pins s2 σ H2 (fun o H3 => o = none ∧ H3 = H2) I2 ⟨rfl, rfl⟩) fun vu s3 ⟨u, H3, I3, pu, eu, e3⟩ => ?_
  subst eu e3
  refine thn (hst.run pins s3 σ H3 (fun o H4 => o = some (-1) ∧ H4 = H3) I3 ⟨1, rfl, -1, rfl, rfl, rfl⟩) fun vs s4 ⟨o, H4, I4, ps, eo, e4⟩ => ?_
  subst eo e4
  have I5 : Inv X pins σ H4 { s4 with heap := s4.heap.push { cls := .type "slice", data := .fields #[vl, vu, vs] } } := I4.kept (t' := s4.toks) fun b ob q => Heap.get?_push_of_some _ q
  obtain ⟨its, r, ht, hz⟩ := I5.tuple hx
  have hlen := r.length
  cases pl
  cases pu
  show wpAny (model X.prog X.w) X.A (subscriptTail e (.Slice none none (some (.UnaryOp .USub (.Constant (.int 1) k p1) p2)) p3) (.ref a) (.ref s4.heap.objs.size)) (EP X pins σ Q) X.xe { s4 with heap := s4.heap.push { cls := .type "slice", data := .fields #[.none, .none, vs] } }
  refine tail_any (ops := [.ref a, .ref s4.heap.objs.size]) ht.typeIs (PyProof.Rows.slot_tuple_getitem.lookup) ?_ (by with_unfolding_all rfl)
  refine vi_tuple_rev ht (Heap.IsSliceOf.new _ .none .none vs) ps ?_ (by rw [List.size_toArray]; omega)
  refine ⟨.ref _, _, I5.laid (t' := s4.toks) (o := .tup xs.reverse) (fun b ob q => Heap.get?_push_of_some _ q) (Nat.le_refl _) ?_, rfl, q _ (I5.hok.fresh (Nat.le_refl _))⟩
  exact ⟨by rw [List.length_reverse]; exact hz, _, r.reverse, ⟨_, Heap.get?_push_size _ rfl, rfl, 0, rfl⟩⟩
theorem pe_either {e : Expr} {t u : TE} (h1 : PE X e t) (h2 : PE X e u) : PE X e fun σ H Q => t σ H Q ∨ u σ H Q := ⟨fun pins s σ H Q I h => h.elim (fun z => h1.run pins s σ H Q I z) fun z => h2.run pins s σ H Q I z⟩
theorem Reps.reverse {K : PySem.W.Frag} {H : Hp} {M : Mset} : ∀ {vs : List V} {ds : List D}, Reps K H M vs ds → Reps K H M vs.reverse ds.reverse
  | _, _, .nil => .nil
  | _, _, .cons h r => by
    rw [List.reverse_cons, List.reverse_cons]
    exact (Reps.reverse r).append (.cons h .nil)
def dRev : D → Option Sv
  | .list ds => some (.own false ds.reverse)
  | .tuple ds => some (.imm (.tuple ds.reverse))
  | _ => none
/-- e[::-1] -/
theorem de_rev {k : Nat} {p1 p2 p3 pos : Pos} (he : DE X e me) : DE X (.Subscript e (.Slice none none (some (.UnaryOp .USub (.Constant (.int 1) k p1) p2)) p3) pos) (un dRev me) :=
  PE.imp (pe_either (pe_revL he) (pe_revT he)) fun σ H Q h => by
    obtain ⟨ρ, M, O, π, pr, ρ', h0, e, q⟩ := h
    unfold un at e
    split at e
    · rename_i a ρ1 ea
      split at e
      · rename_i x ex
        split at e
        · rename_i res er
          simp only [Option.some.injEq, Prod.mk.injEq] at e
          obtain ⟨rfl, rfl⟩ := e
          cases x with
          | list ds =>
            cases er
            refine .inl ⟨ρ, M, O, π, a, ρ1, h0, ea, fun v1 H1 M1 x1 s1 r1 => ?_⟩
            obtain ⟨a', vs, rfl, rd, rs⟩ := (peek_vw s1 r1 ex).inL
            exact ⟨a', vs, rfl, .inl rd, fun p hp => Post.lst (Q := Q) (fun v H' M' x3 s3 r3 => q v H' M' (x1.trans x3) s3 r3) s1 rs.reverse hp⟩
          | tuple ds =>
            cases er
            refine .inr ⟨ρ, M, O, π, a, ρ1, h0, ea, fun v1 H1 M1 x1 s1 r1 => ?_⟩
            obtain ⟨a', vs, rfl, rd, rs⟩ := (peek_vw s1 r1 ex).inT
            exact ⟨a', vs, rfl, rd.sq, fun p hp => Post.tup (Q := Q) (fun v H' M' x3 s3 r3 => q v H' M' (x1.trans x3) s3 r3) s1 rs.reverse hp⟩
          | _ => cases er
        · cases e
      · cases e
    · cases e
end
end Vi

namespace Vi
open PySem PySem.Spec PyProof.Rows L2
section
variable {X : Cx} {pos : Pos} {me mk : ME} {e k : Expr}
/-! ### op= -/
theorem pget_list : PGet X (rIxL X.K) := by
  intro pins s σ H x y v u Q I rx ry h
  obtain ⟨p, xs, i, z, rfl, rfl, hq, he, q⟩ := h
  cases rx
  obtain ⟨t, rfl⟩ := ry
  obtain ⟨its, r, pl, hz⟩ := I.list hq
  obtain ⟨j, h1, h2, h3, h4, h5⟩ := atI_get he
  obtain ⟨w, ew, rw'⟩ := r.get h2
  have hl := r.length
  have hn := line63
  have fin : EP X pins σ Q w s := ⟨z, H, I, rw', q⟩
  by_cases h0 : 0 ≤ i
  · have hj : i.toNat = j := by
      rw [seqIndex_of h0 h5] at h1
      exact Option.some.inj h1
    exact wpAny_getItem_list pl.isList h0 (by omega) (by rw [hj]; simpa using ew) fin
  · have hj : (i + (its.toArray.size : Int)).toNat = j := by
      rw [seqIndex_neg (by omega) h4] at h1
      rw [List.size_toArray, ← hl]
      exact Option.some.inj h1
    exact wpAny_getItem_list_neg pl.isList (by omega) (by rw [List.size_toArray] <;> omega) (by omega) (by rw [hj]; simpa using ew) fin
/-- x[k] op= e, of ints -/
def mAugS (f : Int → Int → Int) (i : Nat) (mk me : ME) : MS := fun ρ => match ρ[i]? with
  | some (some (.own _ _)) => match mk ρ with
    | some (pk, ρ1) => match peek ρ1 pk with
      | some (.int k) => match ρ1[i]? with
        | some (some (.own _ ds)) => match atI ds k with
          | some (.int x) => match me ρ1 with
            | some (pr, ρ2) => match peek ρ2 pr with
              | some (.int y) => match ρ2[i]? with
                | some (some (.own b ds)) => match ixN ds.length k with
                  | some j => some (.next, ρ2.set i (some (.own b (ds.set j (.int (f x y))))))
                  | none => none
                | _ => none
              | _ => none
            | none => none
          | _ => none
        | _ => none
      | _ => none
    | none => none
  | _ => none
theorem ds_augS {st : Stmt} {f : Int → Int → Int} {i : Nat} (h : ∀ te tk, PE X e te → PE X k tk → PS X st (tAugS (tVar i) tk te (rIxL X.K) (ipI f) rSetL)) (he : DE X e me) (hk : DE X k mk) : DS X st (mAugS f i mk me) :=
  PS.imp (h _ _ he hk) fun D σ H ⟨ρ, M, O, π, fl, ρ', h, e, q⟩ => by
    unfold mAugS at e
    split at e
    · rename_i b0 ds0 e0
      split at e
      · rename_i pk ρ1 e1
        split at e
        · rename_i k e2
          split at e
          · rename_i b1 ds1 e3
            split at e
            · rename_i x e4
              split at e
              · rename_i pr ρ2 e5
                split at e
                · rename_i y e6
                  split at e
                  · rename_i b ds e7
                    split at e
                    · rename_i j ej
                      cases e
                      obtain ⟨a, vs, f1, f2, f3, f4, f5, f6⟩ := h.own i b0 ds0 e0
                      refine ⟨.ref a, f1, ρ, M, O, π, pk, ρ1, h, e1, fun v H1 M1 x1 s1 r1 => ?_⟩
                      obtain ⟨a', ws, g1, g2, g3, g4, g5, g6⟩ := s1.own i b1 ds1 e3
                      rw [f1] at g1; cases g1
                      have hk := (peek_vw s1 r1 e2).inI
                      subst hk
                      obtain ⟨w, ew, rw'⟩ := atI_rep g5 e4
                      cases rw'
                      refine ⟨a, ws, k, .int x, rfl, rfl, .inl (.inl g2), ew, ?_⟩
                      refine ⟨ρ1, M1, O, π, pr, ρ2, s1, e5, fun w H2 M2 x2 s2 r2 => ?_⟩
                      have hy := (peek_vw s2 r2 e6).inI
                      subst hy
                      obtain ⟨a'', us, k1, k2, k3, k4, k5, k6⟩ := s2.own i b ds e7
                      rw [f1] at k1; cases k1
                      refine ⟨x, y, rfl, rfl, ?_⟩
                      obtain ⟨s4, x4, t4⟩ := s2.write (ws := us.set j (.int (f x y))) (es := ds.set j (.int (f x y))) e7 f1 (k5.set j (.int _))
                      exact ⟨a, us, k, j, rfl, rfl, k2, by rw [k5.length]; exact ej, q _ _ M2 ((x1.trans x2).trans x4) s4⟩
                    · cases e
                  · cases e
                · cases e
              · cases e
            · cases e
          · cases e
        · cases e
      · cases e
    · cases e
/-- x op= e, of ints -/
def mAugN (f : Int → Int → Int) (i : Nat) (me : ME) : MS := fun ρ => match ρ[i]? with
  | some (some (.imm (.int x))) => match me ρ with
    | some (pr, ρ1) => match peek ρ1 pr with
      | some (.int y) => match put i (.val (.imm (.int (f x y)))) ρ1 with
        | some ρ2 => some (.next, ρ2)
        | none => none
      | _ => none
    | none => none
  | _ => none
theorem ds_augN {st : Stmt} {f : Int → Int → Int} {i : Nat} (h : ∀ te, PE X e te → PS X st (tAug i te (ipI f))) (he : DE X e me) : DS X st (mAugN f i me) :=
  PS.imp (h _ he) fun D σ H ⟨ρ, M, O, π, fl, ρ', h, e, q⟩ => by
    unfold mAugN at e
    split at e
    · rename_i x e0
      split at e
      · rename_i pr ρ1 e1
        split at e
        · rename_i y e2
          split at e
          · rename_i ρ2 e3
            cases e
            obtain ⟨v, f1, f2⟩ := h.imm i _ e0
            cases f2
            refine ⟨.int x, f1, ρ, M, O, π, pr, ρ1, h, e1, fun w H1 M1 x1 s1 r1 => ?_⟩
            have hy := (peek_vw s1 r1 e2).inI
            subst hy
            refine ⟨x, y, rfl, rfl, ?_⟩
            obtain ⟨M2, x2, s2⟩ := put_ok s1 (show RP X.K H1 M1 O ρ1 σ (.val (.imm (.int (f x y)))) (.int (f x y)) from .int _) e3
            exact q _ H1 M2 (x1.trans x2) s2
          · cases e
        · cases e
      · cases e
    · cases e
/-- a, b = x, y with names that comprehensions read -/
theorem ds_parC {st : Stmt} {a b : Expr} {ma mb : ME} {i j : Nat} (h : ∀ ta, PA X [a, b] ta → PS X st (tAsg (tTup ta) (gTup X.K 2 (gCons (gName i) (gCons (gName j) gNil))))) (ha : DE X a ma) (hb : DE X b mb) (hs : starEach [a, b] X.env = (false, eval a X.env) :: starEach [b] X.env := by rfl) (hs2 : starEach [b] X.env = (false, eval b X.env) :: starEach [] X.env := by rfl) : DS X st (mPar i j ma mb) :=
  PS.imp (h _ (pa_cons ha (pa_cons hb pa_nil hs2) hs)) fun D σ H ⟨ρ, M, O, π, fl, ρ', h, e, q⟩ => by
    unfold mPar at e
    split at e
    · rename_i p1 ρ1 e1
      split at e
      · rename_i s1 ρ2 e2
        split at e
        · rename_i p2 ρ3 e3
          split at e
          · rename_i s2 ρ4 e4
            split at e
            · rename_i hz
              cases e
              rw [Bool.and_eq_true] at hz
              refine ⟨ρ, M, O, π, p1, ρ1, h, e1, fun v1 H1 M1 x1 t1 r1 => ?_⟩
              obtain ⟨M2, x2, t2, r2⟩ := take_ok t1 r1 e2
              refine ⟨ρ2, M2, Vi.hold O (.val s1) v1, π, p2, ρ3, t2.hold r2, e3, fun v2 H3 M3 x3 t3 r3 => ⟨by show 2 ≤ sizeLine; decide, fun p hp => ⟨p, [v1, v2], rfl, .inl (.inl upd_same), rfl, v1, [v2], rfl, v2, [], rfl, rfl, ?_⟩⟩⟩
              obtain ⟨M4, x4, t4, r4⟩ := take_ok t3 r3 e4
              have le := hold_le O (.val s1) v1
              have y1 : Ext (Vi.hold (Vi.hold O (.val s1) v1) (.val s2) v2) H3 M4 (upd H3 p (.tup [v1, v2])) M4 := .alloc (t4.hold r4) hp
              have u4 := (t4.hold r4).alloc (o := .tup [v1, v2]) hp
              have le2 := hold_le (Vi.hold O (.val s1) v1) (.val s2) v2
              have r4' := r4.held y1 u4
              have r1' := r2.held ((x3.trans x4).trans (y1.less le2)) (u4.less le2)
              have t5 := ((u4.less le2).less le).setVal r1' (fine_ne hz.1) i
              have r5 := RP.set (i := i) r1' r4' u4.len
              exact q _ _ M4 ((x1.trans x2).trans (((x3.trans x4).trans (y1.less le2)).less le)) (t5.setVal r5 (fine_ne hz.2) j)
            · cases e
          · cases e
        · cases e
      · cases e
    · cases e
end
end Vi

namespace Vi
open PySem PySem.Spec PyProof.Rows L2
section
variable {ρ ρ0 ρ1 ρ2 ρ3 : Fm} {me ma mb : ME} {m n : MS} {mt : MT} {mi : MI} {mg : MG} {d s t : D} {r sv : Sv} {ds es : List D} {pr p1 p2 : PR} {i : Nat} {os : List (Option (List D))} {fl : Fl}
theorem c_fits {n : Nat} (h : n ≤ 10000) : fits n = true := decide_eq_true (by unfold sizeLine; omega)
theorem c_rng {i : Int} (h : -1000000 ≤ i ∧ i ≤ 1000000) : rngOk i = true := decide_eq_true (by constructor <;> omega)
theorem c_call {f : Fn} {mr : MR} {as : List AR} {args : List Sv} (h1 : mr ρ = some (as, ρ1)) (h2 : nodupB (slotsOf as) = true) (h3 : argsOf ρ1 as = some args) (h4 : f args = some (r, os)) (h5 : Vi.backTo ρ1 as os = some ρ2) : mCall f mr ρ = some (.val r, ρ2) := by
  unfold mCall
  rw [h1]
  simp only [h2, h3, h4, h5, if_true]
theorem c_set (h1 : me ρ = some (pr, ρ1)) (h2 : put i pr ρ1 = some ρ2) : mSet i me ρ = some (.next, ρ2) := by
  unfold mSet
  rw [h1]
  simp only [h2]
theorem c_ret (h1 : me ρ = some (pr, ρ1)) (h2 : give ρ1 pr = some r) : mRet me ρ = some (.ret r, ρ1) := by
  unfold mRet
  rw [h1]
  simp only [h2]
theorem c_drop (h1 : me ρ = some (pr, ρ1)) : mDrop me ρ = some (.next, ρ1) := by
  unfold mDrop
  rw [h1]
theorem c_bin {f : D → D → Option Sv} (h1 : ma ρ = some (p1, ρ1)) (h2 : mb ρ1 = some (p2, ρ2)) (h3 : peek ρ2 p1 = some s) (h4 : peek ρ2 p2 = some t) (h5 : f s t = some r) : bin f ma mb ρ = some (.val r, ρ2) := by
  unfold bin
  rw [h1]
  simp only [h2, h3, h4, h5]
theorem c_un {f : D → Option Sv} (h1 : ma ρ = some (p1, ρ1)) (h3 : peek ρ1 p1 = some s) (h5 : f s = some r) : un f ma ρ = some (.val r, ρ1) := by
  unfold un
  rw [h1]
  simp only [h3, h5]
theorem c_seq {x : Option (Fl × Fm)} (h : m ρ = some (.next, ρ1)) (h2 : n ρ1 = x) : mSeq m n ρ = x := by unfold mSeq; rw [h]; exact h2
theorem c_for {x : Option (Fl × Fm)} (h : mi ρ = some (ds, ρ1)) (h2 : loop mg m ds ρ1 = x) : mFor mi mg m ρ = x := by unfold mFor; rw [h]; exact h2
theorem c_nil : loop mg m [] ρ = some (.next, ρ) := rfl
theorem c_cons {x : Option (Fl × Fm)} (h1 : mg d ρ = some ρ1) (h2 : m ρ1 = some (.next, ρ2)) (h3 : loop mg m ds ρ2 = x) : loop mg m (d :: ds) ρ = x := by
  rw [loop, h1]
  simp only [h2]
  exact h3
theorem c_cons_cont {x : Option (Fl × Fm)} (h1 : mg d ρ = some ρ1) (h2 : m ρ1 = some (.cont, ρ2)) (h3 : loop mg m ds ρ2 = x) : loop mg m (d :: ds) ρ = x := by
  rw [loop, h1]
  simp only [h2]
  exact h3
theorem c_ifT {x : Option (Fl × Fm)} (h : mt ρ = some (true, ρ1)) (h2 : m ρ1 = x) : mIfS mt m n ρ = x := by unfold mIfS; rw [h]; exact h2
theorem c_ifF {x : Option (Fl × Fm)} (h : mt ρ = some (false, ρ1)) (h2 : n ρ1 = x) : mIfS mt m n ρ = x := by unfold mIfS; rw [h]; exact h2
theorem c_tru {b : Bool} (h1 : me ρ = some (pr, ρ1)) (h2 : peek ρ1 pr = some d) (h3 : dTru d = some b) : mTru me ρ = some (b, ρ1) := by
  unfold mTru
  rw [h1]
  simp only [h2, h3]
theorem c_andT {x : Option (PR × Fm)} (h1 : ma ρ = some (pr, ρ1)) (h2 : peek ρ1 pr = some d) (h3 : dTru d = some true) (h4 : mb ρ1 = x) : mAnd ma mb ρ = x := by
  unfold mAnd
  rw [h1]
  simp only [h2, h3]
  exact h4
theorem c_andF (h1 : ma ρ = some (pr, ρ1)) (h2 : peek ρ1 pr = some d) (h3 : dTru d = some false) : mAnd ma mb ρ = some (pr, ρ1) := by
  unfold mAnd
  rw [h1]
  simp only [h2, h3]
/-- a and b, of bools -/
theorem c_andB {a b : Bool} (h1 : ma ρ = some (.val (.imm (.bool a)), ρ)) (h2 : a = true → mb ρ = some (.val (.imm (.bool b)), ρ)) : mAnd ma mb ρ = some (.val (.imm (.bool (a && b))), ρ) := by
  cases a
  · exact c_andF h1 rfl rfl
  · exact c_andT h1 rfl rfl (h2 rfl)
theorem c_comp {mg : MG} {mt : MT} {me : ME} {vs : List Nat} (h1 : mi ρ = some (ds, ρ1)) (h2 : vsOk ρ1 vs = true) (h3 : cloop mg mt me vs ds (wipeA ρ1 vs) = some (es, ρ2)) (h4 : fits es.length = true) (h5 : restA ρ2 ρ1 vs = ρ3) : mComp mi mg mt me vs ρ = some (.val (.own false es), ρ3) := by
  show (match mi ρ with
    | some (ds, ρ1) => if vsOk ρ1 vs = true then match cloop mg mt me vs ds (wipeA ρ1 vs) with
      | some (es, ρ2) => if fits es.length = true then some (PR.val (.own false es), restA ρ2 ρ1 vs) else none
      | none => none
      else none
    | none => none) = _
  rw [h1]
  show (if vsOk ρ1 vs = true then _ else _) = _
  rw [if_pos h2, h3]
  show (if fits es.length = true then _ else _) = _
  rw [if_pos h4, h5]
theorem c_cnil {vs : List Nat} : cloop mg mt me vs [] ρ = some ([], ρ) := rfl
theorem c_ccons {vs : List Nat} {ρ4 ρ5 : Fm} {e : D} (h1 : mg d ρ = some ρ1) (h2 : mt ρ1 = some (true, ρ2)) (h3 : me ρ2 = some (pr, ρ3)) (h4 : frz ρ3 pr = some (e, ρ4)) (h5 : cloop mg mt me vs ds (wipeA ρ4 vs) = some (es, ρ5)) : cloop mg mt me vs (d :: ds) ρ = some (e :: es, ρ5) := by
  rw [cloop, h1]
  simp only [h2, h3, h4, h5]
theorem c_cskip {vs : List Nat} {x : Option (List D × Fm)} (h1 : mg d ρ = some ρ1) (h2 : mt ρ1 = some (false, ρ2)) (h5 : cloop mg mt me vs ds (wipeA ρ2 vs) = x) : cloop mg mt me vs (d :: ds) ρ = x := by
  rw [cloop, h1]
  simp only [h2, h5]
theorem c_fn {nN np : Nat} {ms : MS} {us : List Sv} (hn : us.length = np) (h0 : us.map some ++ List.replicate (nN - np) none = ρ0) (h : ms ρ0 = some (.ret r, ρ)) (ho : outsOf us ρ = some os) : mFn nN np ms us = some (r, os) := by
  unfold mFn
  rw [if_pos hn, h0, h]
  simp only [ho]
theorem c_rng1 {ma : MA} {n : Nat} (h : ma ρ = some ([.int (n : Int)], ρ1)) (hn : n ≤ 1000000) : mIRng1 ma ρ = some (rngD 0 n, ρ1) := by
  have r1 : rngOk (n : Int) = true := c_rng (by omega)
  unfold mIRng1
  rw [h]
  simp only [r1, if_true, Int.toNat_natCast]
theorem c_rng2 {ma : MA} {i j : Int} {n : Nat} (h : ma ρ = some ([.int i, .int j], ρ1)) (hi : -1000000 ≤ i ∧ i ≤ 1000000) (hj : -1000000 ≤ j ∧ j ≤ 1000000) (hn : (j - i).toNat = n) : mIRng2 ma ρ = some (rngD i n, ρ1) := by
  have r1 : rngOk i = true := c_rng hi
  have r2 : rngOk j = true := c_rng hj
  unfold mIRng2
  rw [h]
  simp only [r1, r2, Bool.and_self, if_true, hn]
theorem c_addL (h : ds.length + es.length ≤ 10000) : dAdd (.list ds) (.list es) = some (.own false (ds ++ es)) := by
  have hf : fits (ds.length + es.length) = true := c_fits h
  unfold dAdd
  simp only [hf, if_true]
theorem c_addT (h : ds.length + es.length ≤ 10000) : dAdd (.tuple ds) (.tuple es) = some (.imm (.tuple (ds ++ es))) := by
  have hf : fits (ds.length + es.length) = true := c_fits h
  unfold dAdd
  simp only [hf, if_true]
theorem c_mul {i j : Int} (h : -(2 ^ 64) < j ∧ j < 2 ^ 64) : mulOk i j = true := by
  unfold mulOk; rw [Bool.or_eq_true, Bool.or_eq_true]; exact .inl (.inr (decide_eq_true h))
theorem c_mul' {i j : Int} (h : -(2 ^ 64) < i ∧ i < 2 ^ 64) : mulOk i j = true := by
  unfold mulOk; rw [Bool.or_eq_true, Bool.or_eq_true]; exact .inl (.inl (decide_eq_true h))
end
end Vi

namespace Vi
open PySem PySem.Spec PyProof.Rows L2 RT
section
variable {X : Cx} {pos : Pos} {e : Expr} {es : List Expr} {me : ME} {mes : MA} {tg : Expr}
/-! ### a function that a module's name holds -/
theorem de_callF {id : String} {x : Str} {p : Pos} {r : List V → Hp → VK → Prop} {f : List D → Option Sv} (hc : CallR X (.builtin id) r) (hs : AS X r f) (hg : Gl X x) (hm : X.mg x = some (.builtin id)) (ha : DA X (e :: es) mes)
    (hd : (x == ("__debug__" : Str)) = false := by decide) (he : starEach (e :: es) X.env = (false, eval e X.env) :: starEach es X.env := by rfl) (hpl : (PySem.backTo pos (starEach es X.env)).any (·.1) = false := by rfl) : DE X (.Call (.Name x p) (e :: es) [] pos) (mA f mes) :=
  PE.imp (pe_callBfun hc hg hm ha hd he hpl) fun σ H Q ⟨ρ, M, O, π, pr, ρ', h, e, q⟩ => by
    unfold mA at e
    split at e
    · rename_i ds ρ1 e1
      split at e
      · rename_i r er
        cases e
        exact ⟨ρ, M, O, π, ds, _, h, e1, fun vs H1 M1 x1 s1 r1 => hs s1 r1 er fun v H' M' x3 s3 r3 => q v H' M' (x1.trans x3) s3 r3⟩
      · cases e
    · cases e
def dGcd : List D → Option Sv
  | [.int i, .int j] => some (.imm (.int ((Nat.gcd i.natAbs j.natAbs : Nat) : Int)))
  | _ => none
theorem as_gcd : AS X rGcd dGcd := by
  intro H M O π ρ σ vs ds res Q h r e q
  unfold dGcd at e
  split at e
  · cases e
    cases r with
    | cons r1 r2 => cases r2 with
      | cons r2 r3 =>
        cases r3; cases r1; cases r2
        exact ⟨_, _, rfl, Post.now q h (.int _)⟩
  · cases e
/-! ### a module's tuple of whole numbers -/
def ConstT (K : PySem.W.Frag) (mg : Str → Option Value) (x : Str) (is : List Int) : Prop :=
  ∃ (z : Addr) (o : Obj) (its : Array Value) (n : Nat), mg x = some (.ref z) ∧ K.lookup z = some o ∧ o.cls = .type "tuple" ∧ o.data = .seq its n ∧ its.size ≤ sizeLine ∧ Vals (is.map V.int) its.toList
theorem reps_ints {K : PySem.W.Frag} {H : Hp} {M : Mset} : ∀ is : List Int, Reps K H M (is.map V.int) (is.map PyData.int)
  | [] => .nil
  | i :: is => .cons (.int i) (reps_ints is)
theorem de_const {x : Str} {is : List Int} (hg : Gl X x) (hc : ConstT X.K X.mg x is) (hd : (x == ("__debug__" : Str)) = false := by decide) : DE X (.Name x pos) (mC (.tuple (is.map .int))) := by
  obtain ⟨z, o, its, n, h1, h2, h3, h4, h5, h6⟩ := hc
  exact de_c (v := .ref z) (pe_glob hg h1 rfl hd) fun H M => .tup (.inr ⟨o, its, n, h2, h3, h4, h5, h6⟩) (reps_ints is)
/-! ### reversed -/
theorem src_revL {K : PySem.W.Frag} {H0 : Hp} {M0 : Mset} {a : Addr} {vs : List V} {ds : List D} (h : Rd H0 a (.lst vs)) (n : ¬ M0 a) (r : Reps K H0 M0 vs ds) : Src K (Itv K a vs.length) ds.reverse H0 M0 := by
  refine ⟨fun H M l i hi => ?_, fun H M l => by show vs.length ≤ ds.reverse.length; rw [List.length_reverse, r.length]; exact Nat.le_refl _, fun H M l i d x H' ed y => ?_⟩
  · rw [List.length_reverse, ← r.length] at hi
    exact ⟨hi, vs, vs[vs.length - 1 - i]'(by omega), .inl (l a _ h n).1, List.getElem?_eq_getElem _⟩
  · have hi : i < ds.length := by
      have := (List.getElem?_eq_some_iff.mp ed).1
      rwa [List.length_reverse] at this
    rw [List.getElem?_reverse hi] at ed
    obtain ⟨v, hv, rv⟩ := r.get ed
    obtain ⟨e1, e2⟩ := y
    have e3 := e2 vs (.inl (l a _ h n).1)
    rw [r.length, hv] at e3; cases e3
    exact .inl ⟨e1, rv.tr l⟩
theorem src_revT {K : PySem.W.Frag} {H0 : Hp} {M0 : Mset} {a : Addr} {vs : List V} {ds : List D} (h : TupAt K H0 M0 a vs) (r : Reps K H0 M0 vs ds) : Src K (ItvT K a vs.length) ds.reverse H0 M0 := by
  refine ⟨fun H M l i hi => ?_, fun H M l => by show vs.length ≤ ds.reverse.length; rw [List.length_reverse, r.length]; exact Nat.le_refl _, fun H M l i d x H' ed y => ?_⟩
  · rw [List.length_reverse, ← r.length] at hi
    exact ⟨hi, vs, vs[vs.length - 1 - i]'(by omega), tupAt_lat h l, List.getElem?_eq_getElem _⟩
  · have hi : i < ds.length := by
      have := (List.getElem?_eq_some_iff.mp ed).1
      rwa [List.length_reverse] at this
    rw [List.getElem?_reverse hi] at ed
    obtain ⟨v, hv, rv⟩ := r.get ed
    obtain ⟨e1, e2⟩ := y
    have e3 := e2 vs (tupAt_lat h l)
    rw [r.length, hv] at e3; cases e3
    exact .inl ⟨e1, rv.tr l⟩
def mIRev (me : ME) : MI := fun ρ => match me ρ with
  | some (pr, ρ1) => match frz ρ1 pr with
    | some (d, ρ2) => match itemsOf d with
      | some ds => some (ds.reverse, ρ2)
      | none => none
    | none => none
  | none => none
theorem di_rev {p : Pos} (hg : Gl X "reversed") (hm : X.mg "reversed" = none) (he : DE X e me) (hs : starEach [e] X.env = (false, eval e X.env) :: starEach [] X.env := by rfl) : DI X tg (.Call (.Name "reversed" p) [e] [] pos) (mIRev me) := PI.imp (pi_revA hg hm he hs) fun σ H R ⟨ρ, M, O, π, ds, ρ', h, e, q⟩ => by
  unfold mIRev at e
  split at e
  · rename_i pr ρ1 e1
    split at e
    · rename_i d ρ2 e2
      split at e
      · rename_i ds' e3
        cases e
        refine ⟨ρ, M, O, π, pr, ρ1, h, e1, fun v H1 M1 x1 s1 r1 => ?_⟩
        obtain ⟨M2, x2, s2, r2⟩ := frz_ok s1 r1 e2
        unfold itemsOf at e3
        split at e3
        · cases e3
          cases r2 with
          | lst hr n rr => exact ⟨_, _, rfl, .inl ⟨.inl hr, q _ H1 M2 (x1.trans x2) s2 (src_revL hr n rr)⟩⟩
        · cases e3
          cases r2 with
          | tup ht rr => exact ⟨_, _, rfl, .inr ⟨ht.sq, q _ H1 M2 (x1.trans x2) s2 (src_revT ht rr)⟩⟩
        · cases e3
      · cases e
    · cases e
  · cases e
/-! ### range(i, j, -1) -/
def downD (lo : Int) (n : Nat) : List D := (List.range n).map fun k => .int (lo + (k : Nat) * (-1))
theorem src_down {K : PySem.W.Frag} {H0 : Hp} {M0 : Mset} {lo : Int} {n : Nat} : Src K (Itc lo (-1) n) (downD lo n) H0 M0 where
  go := fun H M l i hi => by unfold downD at hi; rw [List.length_map, List.length_range] at hi; exact hi
  stop := fun H M l => by unfold downD; rw [List.length_map, List.length_range]; exact Nat.le_refl _
  yld := fun H M l i d x H' ed y => by
    obtain ⟨e1, e2⟩ := y
    subst e2
    refine .inl ⟨e1, ?_⟩
    unfold downD at ed
    rw [List.getElem?_map] at ed
    obtain ⟨k, ek, rfl⟩ := Option.map_eq_some_iff.mp ed
    have hk : k = i := by
      obtain ⟨h1, h2⟩ := List.getElem?_eq_some_iff.mp ek
      rw [List.getElem_range] at h2
      exact h2.symm
    subst hk
    exact .int _
def mIDown (ma : MA) : MI := fun ρ => match ma ρ with
  | some ([.int i, .int j, .int (-1)], ρ1) => if (rngOk i && rngOk j) = true then some (downD i (i - j).toNat, ρ1) else none
  | _ => none
theorem di_down {a b c : Expr} {ma : MA} {p : Pos} (hg : Gl X "range") (hm : X.mg "range" = none) (ha : DA X [a, b, c] ma)
    (hs : starEach [a, b, c] X.env = (false, eval a X.env) :: starEach [b, c] X.env := by rfl) (hpl : (PySem.backTo pos (starEach [b, c] X.env)).any (·.1) = false := by rfl) : DI X tg (.Call (.Name "range" p) [a, b, c] [] pos) (mIDown ma) :=
  PI.imp (pi_range3 hg hm ha hs hpl) fun σ H R ⟨ρ, M, O, π, ds, ρ', h, e, q⟩ => by
    unfold mIDown at e
    split at e
    · rename_i i j ρ1 e1
      split at e
      · rename_i hz
        cases e
        rw [Bool.and_eq_true] at hz
        have hz1 := of_decide_eq_true hz.1
        have hz2 := of_decide_eq_true hz.2
        refine ⟨ρ, M, O, π, _, _, h, e1, fun vs H1 M1 x1 s1 r1 => ?_⟩
        cases r1 with
        | cons rv rr =>
          cases rr with
          | cons rw' rr =>
            cases rr with
            | cons rz rr =>
              cases rr
              cases rv
              cases rw'
              cases rz
              exact ⟨i, j, -1, _, rfl, RgC.neg (by omega) (by omega) (by omega) (by omega), q _ H1 M1 x1 s1 src_down⟩
      · cases e
    · cases e
end
end Vi

namespace Vi
open PySem PySem.Spec PyProof.Rows L2
section
variable {X : Cx}
/-! ### min(a list of data), max -/
def notNone : D → Bool
  | .none => false
  | _ => true
def minOk (ds : List D) : Bool := alikeAllB ds && ds.all notNone && ds.all okD && decide (PyData.depthAll ds ≤ 64)
theorem minOk_al {ds : List D} (h : minOk ds = true) : W.AlikeAll ds := by
  unfold minOk alikeAllB at h
  rw [Bool.and_eq_true, Bool.and_eq_true, Bool.and_eq_true] at h
  refine ⟨fun d hd e he => List.all_eq_true.mp (List.all_eq_true.mp h.1.1.1 d hd) e he, fun d hd z => ?_⟩
  have := List.all_eq_true.mp h.1.1.2 d hd
  rw [z] at this; cases this
theorem minOk_lay {ds : List D} (h : minOk ds = true) : PyData.canLayAll0 ds = true := lay_all fun d hd => by
  unfold minOk at h
  rw [Bool.and_eq_true, Bool.and_eq_true, Bool.and_eq_true] at h
  exact SeqAt.canLay_of_shaped (List.all_eq_true.mp h.1.2 d hd)
theorem minOk_dep {ds : List D} (h : minOk ds = true) : PyData.depthAll ds ≤ 64 := by
  unfold minOk at h
  rw [Bool.and_eq_true] at h
  exact of_decide_eq_true h.2
theorem readsAll_i {h : Heap} : ∀ {ds : List D} {us : List Value} {as : List Addr} {i : Nat} {u : Value}, ReadsAll h us ds as → us[i]? = some u → ∃ d bs, ds[i]? = some d ∧ Reads h u d bs
  | [], _, _, i, _, r, e => by cases r; simp at e
  | d :: ds, _, _, 0, _, .cons r1 r2, e1 => by
    simp at e1; subst e1; exact ⟨_, _, rfl, r1⟩
  | d :: ds, _, _, i + 1, _, .cons r1 r2, e1 => by
    obtain ⟨d', bs, h1, h2⟩ := readsAll_i r2 (i := i) (by simpa using e1)
    exact ⟨d', bs, by simpa using h1, h2⟩
def rMinD (K : PySem.W.Frag) : List V → Hp → VK → Prop := fun vs H Q => ∃ (a : Addr) (xs : List V) (d : D) (ds : List D), vs = [.ref a] ∧ SqL K H a xs ∧ DpAll K H xs (d :: ds) ∧ minOk (d :: ds) = true ∧ ∀ (i : Nat) (x : V), xs[i]? = some x → (d :: ds)[i]? = some (W.minD d ds) → Q x H
theorem cr_minD (hc : X.calm = true) (hu : X.A.units + 70 < cLine) : CallR X (.builtin "min") (rMinD X.K) := by
  intro pins s σ H vs us Q I r h
  obtain ⟨a, xs, d, ds, rfl, hsq, hdp, hok, q⟩ := h
  rw [Vals.ref1 r]
  obtain ⟨its, rv, pl, hz⟩ := I.list hsq
  obtain ⟨as, hr⟩ := Dp.readsAll I (d :: ds) xs its hdp rv
  have hdep := minOk_dep hok
  refine W.min_list_data (I.ok.hd hc) pl.isList (show ReadsAll s.heap its.toArray.toList (d :: ds) as by simpa using hr) (minOk_al hok) (by omega) fun i v h' tk bs hv rd kp => ?_
  have hv' : its[i]? = some v := by simpa using hv
  obtain ⟨e, bs2, he, re⟩ := readsAll_i hr hv'
  have e1 := (Reads.unique (Reads.keeps kp re) _ _ rd).1
  subst e1
  have hl := rv.length
  have hi : i < xs.length := by
    have := (List.getElem?_eq_some_iff.mp hv').1
    omega
  obtain ⟨w, ew, rw'⟩ := rv.get (List.getElem?_eq_getElem hi)
  rw [hv'] at ew; cases ew
  exact ⟨_, H, I.kept (t' := tk) kp, rw', q i _ (List.getElem?_eq_getElem hi) he⟩
def dMinL : D → Option Sv
  | .list (d :: ds) => if minOk (d :: ds) = true then some (.imm (W.minD d ds)) else none
  | _ => none
theorem us_minL : UnS X (fun v H Q => rMinD X.K [v] H Q) dMinL := by
  intro H M O π ρ σ v1 d1 res Q h r1 e q
  unfold dMinL at e
  split at e
  · split at e
    · rename_i hz
      cases e
      obtain ⟨a, vs, rfl, rd, rs⟩ := r1.inL
      refine ⟨a, vs, _, _, rfl, .inl rd, rs.dp (minOk_lay hz), hz, fun i x hx hd => ?_⟩
      obtain ⟨y, hy, ry⟩ := rs.get hd
      rw [hx] at hy; cases hy
      exact Post.now q h ry
    · cases e
  · cases e
end
end Vi

namespace Vi
open PySem PySem.Spec PyProof.Rows L2
section
variable {prog : Program} {w : World} {A : Around} {E : Value → Shared → Prop} {s : Shared}
theorem draw_list {it t : Addr} {items : Array Value} (hne : t ≠ it) : ∀ (n i : Nat) (s : Shared) (Q : List Value → Shared → Prop), s.heap.IsListIter it t i → s.heap.IsList t items → i + n ≤ items.size →
    (∀ h', h'.IsListIter it t (i + n) → Heap.SameBut it s.heap h' → Q ((items.toList.drop i).take n) { s with heap := h' }) → wpAny (model prog w) A (draw (.ref it) n) Q E s
  | 0, i, s, Q, hit, _, _, hQ => by
    show wpAny _ _ (pure []) Q E s
    exact wpAny_pure (by simpa using hQ s.heap hit (Heap.SameBut.refl ..))
  | n + 1, i, s, Q, hit, ht, hle, hQ => by
    have hlt : i < items.size := by omega
    show wpAny _ _ (pyNext (.ref it) >>= _) Q E s
    refine wpAny_bind (wpAny_pyNext_list_item hit ht (x := items[i]) (by simp [hlt]) fun h₁ hit₁ hs₁ => ?_)
    refine wpAny_bind (wpAny_holding (draw_list hne n (i + 1) _ _ hit₁ (ht.extBut hs₁.extBut hne) (by omega) fun h₂ hit₂ hs₂ => wpAny_pure ?_))
    have hd : items.toList.drop i = items[i] :: items.toList.drop (i + 1) := by simp [List.drop_eq_getElem_cons, hlt]
    have := hQ h₂ (by rw [show i + (n + 1) = i + 1 + n by omega]; exact hit₂) (hs₁.trans hs₂)
    rw [hd, List.take_succ_cons] at this
    exact this
theorem isList_push {h : Heap} {t : Addr} {items : Array Value} (o : Obj) (x : h.IsList t items) : (h.push o).IsList t items := let ⟨o', ho, r⟩ := x; ⟨o', Heap.get?_push_of_some _ ho, r⟩
theorem unpackItems_list {t : Addr} {items : Array Value} {Q : List Value → Shared → Prop} (hh : A.handled = none) (ht : s.heap.IsList t items)
    (hQ : ∀ h', Heap.ExtBut s.heap.objs.size s.heap h' → Q items.toList { s with heap := h' }) : wpAny (model prog w) A (unpackItems (.ref t) items.size none) Q E s := by
  have hlt : t ≠ s.heap.objs.size := by obtain ⟨o, ho, _⟩ := ht; exact Nat.ne_of_lt (Heap.lt_size ho)
  unfold unpackItems
  refine wpAny_bind ?_
  · unfold notIterableAtAll
    refine wpAny_bind (wpAny_specialOf ht.typeIs slot_list_iter.lookup ?_)
    refine wpAny_pure ?_
    simp only [Bool.false_eq_true, if_false]
    refine wpAny_bind (wpAny_holding (wpAny_pyIter_list ht ?_))
    refine wpAny_bind (wpAny_holding (draw_list hlt items.size 0 _ _ ⟨_, Heap.get?_push_size _ rfl, rfl, rfl⟩ (isList_push _ ht) (by omega) fun h₁ hit₁ hs₁ => ?_))
    have hall : List.take items.size (List.drop 0 items.toList) = items.toList := by
      rw [List.drop_zero]; exact List.take_of_length_le (by simp)
    rw [hall]
    rw [if_neg (by simp)]
    have ht₁ : h₁.IsList t items := (isList_push _ ht).extBut hs₁.extBut hlt
    refine wpAny_bind (wpAny_holding (wpAny_pyNext_list_end hh hit₁ ht₁ (by simp) fun h₂ he₂ => ?_))
    simp only [Option.isSome_none, Bool.false_eq_true, if_false]
    refine wpAny_pure (hQ h₂ fun b o hb e => he₂ b o hb (hs₁.extBut b o hb (Heap.get?_push_of_some _ e)))
theorem assign_Tuple_list {env : Env} {elts : List Expr} {x1} {pos : Pos} {t : Addr} {items : Array Value} {Q : Unit → Shared → Prop} (hh : A.handled = none) (ht : s.heap.IsList t items)
    (hn : (assignEach elts env).length = items.size) (hstar : (assignEach elts env).findIdx? (·.1) = none)
    (h : ∀ h', Heap.ExtBut s.heap.objs.size s.heap h' → wpAny (model prog w) A (assignInOrder ((assignEach elts env).map (·.2)) items.toList) Q E { s with heap := h' }) :
    wpAny (model prog w) A (assign (.Tuple elts x1 pos) env (.ref t)) Q E s := by
  rw [assign_Tuple]
  refine wpAny_bind (wpAny_standAt ?_)
  unfold unpack
  rw [hn, hstar]
  exact wpAny_bind (wpAny_holding (unpackItems_list hh ht h))
end
section
variable {X : Cx} {pos : Pos}
/-- (a, b, ..) = a tuple or a list of that length -/
def gSeq (K : PySem.W.Frag) (n : Nat) (t : TGs) : TG := fun v σ H Q => ∃ a xs, v = .ref a ∧ (SqT K H a xs ∨ SqL K H a xs) ∧ xs.length = n ∧ t xs σ H Q
theorem pg_seq {es : List Expr} {k : Nat} {t : TGs} {n : Nat} (hc : X.calm = true) (h : PGs X es t)
    (hn : (assignEach es X.env).length = n := by rfl) (hst : (assignEach es X.env).findIdx? (·.1) = none := by rfl) : PG X (.Tuple es k pos) (gSeq X.K n t) := by
  refine ⟨fun pins s σ H v u Q I r hw => ?_⟩
  obtain ⟨a, xs, e1, hq, hl, hw⟩ := hw
  subst e1
  cases r
  rcases hq with hq | hq
  · obtain ⟨its, rv, ht, hz⟩ := I.tuple hq
    refine assign_Tuple_tuple (I.ok.hd hc) ht (by simp [hn, ← hl, rv.length]) hst fun h' hx => ?_
    have I1 : Inv X pins σ H { s with heap := h' } := I.kept (t' := s.toks) fun b o e => hx b o (Nat.ne_of_lt (Heap.lt_size e)) e
    exact h.run pins _ σ H xs _ Q I1 (by simpa using rv) hw
  · obtain ⟨its, rv, ht, hz⟩ := I.list hq
    refine assign_Tuple_list (I.ok.hd hc) ht.isList (by simp [hn, ← hl, rv.length]) hst fun h' hx => ?_
    have I1 : Inv X pins σ H { s with heap := h' } := I.kept (t' := s.toks) fun b o e => hx b o (Nat.ne_of_lt (Heap.lt_size e)) e
    exact h.run pins _ σ H xs _ Q I1 (by simpa using rv) hw
variable {es : List Expr}
def mGseq (k : Nat) (n : MGs) : MG := fun d ρ => match d with
  | .tuple ds => if ds.length = k then n ds ρ else none
  | .list ds => if ds.length = k then n ds ρ else none
  | _ => none
theorem dg_seq {k : Nat} {n : MGs} {ts : List Nat} {kk : Nat} (hc : X.calm = true) (h : DGs X es n ts) (hn : (assignEach es X.env).length = k := by rfl) (hst : (assignEach es X.env).findIdx? (·.1) = none := by rfl) : DG X (.Tuple es kk pos) (mGseq k n) ts :=
  PG.imp (pg_seq hc h hn hst) fun v σ H Q ⟨ρ, M, O, π, d, ρ', hs, r, e, q⟩ => by
    unfold mGseq at e
    split at e
    · rename_i ds
      split at e
      · rename_i hl
        cases r with
        | tup ht rr => exact ⟨_, _, rfl, .inl ht.sq, by rw [rr.length]; exact hl, ρ, M, O, π, ds, ρ', hs, rr, e, q⟩
      · cases e
    · rename_i ds
      split at e
      · rename_i hl
        cases r with
        | lst hr n rr => exact ⟨_, _, rfl, .inr (.inl hr), by rw [rr.length]; exact hl, ρ, M, O, π, ds, ρ', hs, rr, e, q⟩
      · cases e
    · cases e
end
end Vi

namespace Vi
open PySem PySem.Spec PyProof.Rows L2
section
variable {X : Cx} {pos p2 : Pos}
/-- o[a:c] = v -/
def gSlc (to : TE) (ta tc : TO) : TG := fun v σ H Q => to σ H fun o H1 => ta σ H1 fun a H2 => tc σ H2 fun c H3 =>
  ∃ (l b : Addr) (xs ys : List V) (i j : Int), o = .ref l ∧ v = .ref b ∧ a = some i ∧ c = some j ∧ H3 l = some (.lst xs) ∧ H3 b = some (.lst ys) ∧ l ≠ b ∧ 0 ≤ i ∧ i ≤ j ∧ j ≤ xs.length ∧ xs.length + ys.length ≤ sizeLine ∧ Q σ (upd H3 l (.lst (xs.take i.toNat ++ ys ++ xs.drop j.toNat)))
theorem pg_slc {o ea ec : Expr} {to : TE} {ta tc : TO} (ho : PE X o to) (h1 : PO X (some ea) ta) (h2 : PO X (some ec) tc)
    (ha : ∀ v, assign (.Subscript o (.Slice (some ea) (some ec) none p2) pos) X.env v = (do
      let ov ← holding [v] (eval o X.env)
      let iv ← holding [v, ov] (eval (.Slice (some ea) (some ec) none p2) X.env)
      standAt pos
      holding [v, ov, iv] (setItem ov iv v)
      release [iv, v, ov] []) := by intro _; rfl) : PG X (.Subscript o (.Slice (some ea) (some ec) none p2) pos) (gSlc to ta tc) := by
  refine ⟨fun pins s σ H v u Q I r h => ?_⟩
  rw [ha]
  refine wpAny_bind (wpAny_holding (thn (ho.run pins s σ H _ I h) fun ov s1 ⟨x, H1, I1, r1, q1⟩ => ?_))
  refine wpAny_bind (wpAny_holding (wpAny_Slice (thn (h1.run pins s1 σ H1 _ I1 q1) fun vl s2 ⟨l', H2, I2, pl, q2⟩ => thn (h2.run pins s2 σ H2 _ I2 q2) fun vu s3 ⟨u', H3, I3, pu, q3⟩ => ?_)))
  rw [evalPart_none]
  refine wpAny_pure ?_
  obtain ⟨l, b, xs, ys, i, j, rfl, rfl, rfl, rfl, hl, hb, hne, h0, hij, hj, hz, q⟩ := q3
  have I4 : Inv X pins σ H3 { s3 with heap := s3.heap.push { cls := .type "slice", data := .fields #[vl, vu, .none] } } := I3.kept (t' := s3.toks) fun b ob q => Heap.get?_push_of_some _ q
  obtain rfl : ov = Value.ref l := r1
  obtain rfl : u = Value.ref b := r
  have ra : RelV (.int i) vl := by cases pl; exact ⟨_, rfl⟩
  have rc : RelV (.int j) vu := by cases pu; exact ⟨_, rfl⟩
  refine wpAny_bind (wpAny_standAt (wpAny_bind (wpAny_holding (set_slice I4 hl hb hne (Heap.IsSliceOf.new ..) ra rc h0 hij hj hz fun s5 I5 => ?_))))
  exact wpAny_release ⟨σ, _, I5, q⟩
variable {me : ME} {mk mk2 : MO} {e ka kc : Expr}
/-- x[a:c] = a fresh list -/
def mSlice (i : Nat) (ma mc : MO) (me : ME) : MS := fun ρ => match me ρ with
  | some (.val (.own _ ys), ρ1) => match ρ1[i]? with
    | some (some (.own _ _)) => match ma ρ1 with
      | some (some a, ρ2) => match mc ρ2 with
        | some (some c, ρ3) => match ρ3[i]? with
          | some (some (.own b ds)) => if (decide (0 ≤ a) && decide (a ≤ c) && decide (c ≤ ds.length) && fits (ds.length + ys.length)) = true then some (.next, ρ3.set i (some (.own b (ds.take a.toNat ++ ys ++ ds.drop c.toNat)))) else none
          | _ => none
        | _ => none
      | _ => none
    | _ => none
  | _ => none
theorem ds_slice {st : Stmt} {i : Nat} (h : ∀ te ta tc, PE X e te → PO X (some ka) ta → PO X (some kc) tc → PS X st (tAsg te (gSlc (tVar i) ta tc))) (he : DE X e me) (h1 : DO X (some ka) mk) (h2 : DO X (some kc) mk2) : DS X st (mSlice i mk mk2 me) :=
  PS.imp (h _ _ _ he h1 h2) fun D σ H ⟨ρ, M, O, π, fl, ρ', h, e, q⟩ => by
    unfold mSlice at e
    split at e
    · rename_i b0 ys ρ1 e1
      split at e
      · rename_i b1 ds1 e2
        split at e
        · rename_i a ρ2 e3
          split at e
          · rename_i c ρ3 e4
            split at e
            · rename_i b ds e5
              split at e
              · rename_i hz
                cases e
                rw [Bool.and_eq_true, Bool.and_eq_true, Bool.and_eq_true] at hz
                have z1 := of_decide_eq_true hz.1.1.1
                have z2 := of_decide_eq_true hz.1.1.2
                have z3 := of_decide_eq_true hz.1.2
                have z4 := fits_le hz.2
                refine ⟨ρ, M, O, π, .val (.own b0 ys), ρ1, h, e1, fun v H1 M1 x1 s1 r1 => ?_⟩
                obtain ⟨l, vs, f1, f2, f3, f4, f5, f6⟩ := s1.own i b1 ds1 e2
                refine ⟨.ref l, f1, ρ1, M1, Vi.hold O (.val (.own b0 ys)) v, π, some a, ρ2, s1.hold r1, e3, fun H2 M2 x2 s2 => ?_⟩
                refine ⟨ρ2, M2, Vi.hold O (.val (.own b0 ys)) v, π, some c, ρ3, s2, e4, fun H3 M3 x3 s3 => ?_⟩
                have le := hold_le O (.val (.own b0 ys)) v
                obtain ⟨p, ws, k1, k2, k3, k4, k5, k6⟩ := r1.held (x2.trans x3) s3
                subst k1
                have s3' := s3.less le
                obtain ⟨l', us, g1, g2, g3, g4, g5, g6⟩ := s3'.own i b ds e5
                rw [f1] at g1; cases g1
                have hne : l ≠ p := fun z => k6 i b ds e5 (by rw [f1, z])
                obtain ⟨s4, x4, t4⟩ := s3'.write (ws := us.take a.toNat ++ ws ++ us.drop c.toNat) (es := ds.take a.toNat ++ ys ++ ds.drop c.toNat) e5 f1 (((g5.take _).append k5).append (g5.drop _))
                exact ⟨l, p, us, ws, a, c, rfl, rfl, rfl, rfl, g2, k2, hne, z1, z2, by rw [g5.length]; exact z3, by rw [g5.length, k5.length]; exact z4, q _ _ M3 ((x1.trans ((x2.trans x3).less le)).trans x4) s4⟩
              · cases e
            · cases e
          · cases e
        · cases e
      · cases e
    · cases e
end
end Vi

namespace Vi
open PySem PySem.Spec PyProof.Rows L2
section
variable {X : Cx} {pos p p2 pos2 : Pos} {e : Expr} {me : ME}
/-- list(range(e)) -/
def mLRng (me : ME) : ME := fun ρ => match me ρ with
  | some (pr, ρ1) => match peek ρ1 pr with
    | some (.int j) => if (rngOk j && decide (j ≤ 16777216)) = true then some (.val (.own false (rngD 0 j.toNat)), ρ1) else none
    | _ => none
  | none => none
theorem reps_rng {K : PySem.W.Frag} {H : Hp} {M : Mset} (lo : Int) : ∀ l : List Nat, Reps K H M (l.map fun i => V.int (lo + (i : Nat))) (l.map fun i => PyData.int (lo + (i : Nat)))
  | [] => .nil
  | i :: l => .cons (.int _) (reps_rng lo l)
theorem de_lrng (hc : X.calm = true) (hg : Gl X "list") (hm : X.mg "list" = none) (hg2 : Gl X "range") (hm2 : X.mg "range" = none) (he : DE X e me) (na : starEach [e] X.env = (false, eval e X.env) :: starEach [] X.env := by rfl)
    (na2 : starEach [.Call (.Name "range" p2) [e] [] pos2] X.env = (false, eval (.Call (.Name "range" p2) [e] [] pos2) X.env) :: starEach [] X.env := by rfl) : DE X (.Call (.Name "list" p) [.Call (.Name "range" p2) [e] [] pos2] [] pos) (mLRng me) :=
  PE.imp (pe_listRg hc hg hm (prg_1 hg2 hm2 he na) na2) fun σ H Q ⟨ρ, M, O, π, pr, ρ', h, e, q⟩ => by
    unfold mLRng at e
    split at e
    · rename_i pr1 ρ1 e1
      split at e
      · rename_i j e2
        split at e
        · rename_i hz
          cases e
          rw [Bool.and_eq_true] at hz
          have z1 := of_decide_eq_true hz.1
          have z2 := of_decide_eq_true hz.2
          refine ⟨ρ, M, O, π, pr1, _, h, e1, fun v H1 M1 x1 s1 r1 => ?_⟩
          have ev := (peek_vw s1 r1 e2).inI
          subst ev
          refine ⟨j, rfl, ⟨by omega, by omega, by omega, by omega, by omega⟩, fun a ha => ?_⟩
          have hr : Reps X.K H1 M1 (rgV 0 j) (rngD 0 j.toNat) := by
            unfold rgV rngD
            rw [show j - 0 = j by omega]
            exact reps_rng 0 _
          exact Post.lst (Q := Q) (fun v H' M' x3 s3 r3 => q v H' M' (x1.trans x3) s3 r3) s1 hr ha
        · cases e
      · cases e
    · cases e
end
end Vi

namespace Vi
open PySem PySem.Spec PyProof.Rows L2
section
variable {X : Cx} {pos : Pos}
def tPar3 (i j k : Nat) (ta : TA) : TS := fun D σ H => ta σ H fun vs H1 => ∃ u v w, vs = [u, v, w] ∧ D.nx (((σ.set i (some u)).set j (some v)).set k (some w)) H1
theorem set3 {α : Type} (l : List α) {i j k : Nat} (a b c : α) (h1 : i ≠ j) (h2 : i ≠ k) (h3 : j ≠ k) : ((l.set k c).set j b).set i a = ((l.set i a).set j b).set k c := by
  rw [List.set_comm c b (Ne.symm h3), List.set_comm c a (Ne.symm h2), List.set_comm b a (Ne.symm h1)]
theorem ps_par3 {i j k : Nat} {x y z : Str} {a b c : Expr} {ta : TA} {px py pz pt : Pos} {kt k2 pt2} (hc : X.calm = true) (hN : X.N.Nodup) (hi : X.N[i]? = some x) (hj : X.N[j]? = some y) (hk : X.N[k]? = some z) (hij : i ≠ j) (hik : i ≠ k) (hjk : j ≠ k)
    (hx : X.env.scope.names.lookup x = some .local) (hy : X.env.scope.names.lookup y = some .local) (hz : X.env.scope.names.lookup z = some .local) (ha : PA X [a, b, c] ta)
    (hw : swappedStores [.Tuple [.Name x px, .Name y py, .Name z pz] kt pt] (.Tuple [a, b, c] k2 pt2) X.env = pure (some [x, y, z]))
    (hs : swapsWithSole [.Tuple [.Name x px, .Name y py, .Name z pz] kt pt] (.Tuple [a, b, c] k2 pt2) pos.line X.env = pure false := by rfl) :
    PS X (.Assign [.Tuple [.Name x px, .Name y py, .Name z pz] kt pt] (.Tuple [a, b, c] k2 pt2) pos) (tPar3 i j k ta) := by
  refine ⟨fun pins s σ H D I h => ?_⟩
  rw [exec_Assign_arm]
  refine wpAny_bind (wpAny_standAt ?_)
  rw [hs]
  refine wpAny_bind (wpAny_pure ?_)
  rw [if_neg (by decide)]
  refine wpAny_bind (Tuple_ (thn (ha.run _ pins s σ H _ I h) fun us s1 ⟨vs, H1, I1, r1, q1⟩ => ?_))
  obtain ⟨u, v, w, e1, q1⟩ := q1
  subst e1
  obtain ⟨u1, u2, u3, rfl, rv, rw', rz⟩ : ∃ u1 u2 u3, us = [u1, u2, u3] ∧ RelV u u1 ∧ RelV v u2 ∧ RelV w u3 := by
    cases r1 with
    | cons p q =>
      cases q with
      | cons p' q' =>
        cases q' with
        | cons p'' q'' =>
          cases q''
          exact ⟨_, _, _, rfl, p, p', p''⟩
  refine wpAny_newObj_type ?_ (by show 3 ≤ sizeLine; decide)
  have I2 : Inv X pins σ H1 { s1 with heap := s1.heap.push { cls := .type "tuple", data := .seq [u1, u2, u3].toArray } } := I1.kept (t' := s1.toks) fun b o e => Heap.get?_push_of_some _ e
  rw [hw]
  refine wpAny_bind (wpAny_pure ?_)
  show wpAny (model X.prog X.w) X.A (do rule "assign.swapped-stores"; let items ← unpackItems (.ref s1.heap.objs.size) 3 none; assignInOrder [fun v => bindName X.env z v, fun v => bindName X.env y v, fun v => bindName X.env x v] items.reverse; pure Flow.next) _ _ _
  refine wpAny_bind (wpAny_rule (wpAny_bind (unpackItems_tuple (items := #[u1, u2, u3]) (I.ok.hd hc) (IsTup.new s1.heap _) fun h' hx' => ?_)))
  have I3 := I2.kept (h' := h') (t' := s1.toks) fun b o e => hx' b o (Nat.ne_of_lt (Heap.lt_size e)) e
  show wpAny _ _ (assignInOrder [fun v => bindName X.env z v, fun v => bindName X.env y v, fun v => bindName X.env x v] [u3, u2, u1] >>= fun _ => pure Flow.next) _ _ _
  refine wpAny_bind (assignInOrder_cons (wpAny_bindName (store_ok I3 hN hk (.inl hz) rz (fun s2 I4 => ?_) (.inr hz))))
  refine assignInOrder_cons (wpAny_bindName (store_ok I4 hN hj (.inl hy) rw' (fun s3 I5 => ?_) (.inr hy)))
  refine assignInOrder_cons (wpAny_bindName (store_ok I5 hN hi (.inl hx) rv (fun s4 I6 => assignInOrder_nil (wpAny_pure ?_)) (.inr hx)))
  rw [set3 _ _ _ _ hij hik hjk] at I6
  exact ⟨_, H1, I6, q1⟩
/-- a, b, c = x, y, z -/
def mPar3 (i j k : Nat) (ma mb mc : ME) : MS := fun ρ => match ma ρ with
  | some (p1, ρ1) => match frz ρ1 p1 with
    | some (d1, ρ2) => match mb ρ2 with
      | some (p2, ρ3) => match frz ρ3 p2 with
        | some (d2, ρ4) => match mc ρ4 with
          | some (p3, ρ5) => match frz ρ5 p3 with
            | some (d3, ρ6) => some (.next, ((ρ6.set i (some (.imm d1))).set j (some (.imm d2))).set k (some (.imm d3)))
            | none => none
          | none => none
        | none => none
      | none => none
    | none => none
  | none => none
theorem ds_par3 {st : Stmt} {a b c : Expr} {ma mb mc : ME} {i j k : Nat} (h : ∀ ta, PA X [a, b, c] ta → PS X st (tPar3 i j k ta)) (ha : DE X a ma) (hb : DE X b mb) (hcc : DE X c mc) (hs : starEach [a, b, c] X.env = (false, eval a X.env) :: starEach [b, c] X.env := by rfl) (hs2 : starEach [b, c] X.env = (false, eval b X.env) :: starEach [c] X.env := by rfl) (hs3 : starEach [c] X.env = (false, eval c X.env) :: starEach [] X.env := by rfl) : DS X st (mPar3 i j k ma mb mc) :=
  PS.imp (h _ (pa_cons ha (pa_cons hb (pa_cons hcc pa_nil hs3) hs2) hs)) fun D σ H ⟨ρ, M, O, π, fl, ρ', h, e, q⟩ => by
    unfold mPar3 at e
    split at e
    · rename_i p1 ρ1 e1
      split at e
      · rename_i d1 ρ2 e2
        split at e
        · rename_i p2 ρ3 e3
          split at e
          · rename_i d2 ρ4 e4
            split at e
            · rename_i p3 ρ5 e5
              split at e
              · rename_i d3 ρ6 e6
                cases e
                refine ⟨ρ, M, O, π, p1, ρ1, h, e1, fun v1 H1 M1 x1 t1 r1 => ?_⟩
                obtain ⟨M2, x2, t2, r2⟩ := frz_ok t1 r1 e2
                refine ⟨ρ2, M2, O, π, p2, ρ3, t2, e3, fun v2 H3 M3 x3 t3 r3 => ?_⟩
                obtain ⟨M4, x4, t4, r4⟩ := frz_ok t3 r3 e4
                refine ⟨ρ4, M4, O, π, p3, ρ5, t4, e5, fun v3 H5 M5 x5 t5 r5 => ⟨v1, v2, v3, rfl, ?_⟩⟩
                obtain ⟨M6, x6, t6, r6⟩ := frz_ok t5 r5 e6
                have y1 := r2.tr (((x3.trans x4).trans x5).trans x6).tr
                have y2 := r4.tr (x5.trans x6).tr
                exact q _ H5 M6 ((((((x1.trans x2).trans x3).trans x4).trans x5).trans x6)) (((t6.setImm y1).setImm y2).setImm r6)
              · cases e
            · cases e
          · cases e
        · cases e
      · cases e
    · cases e
end
end Vi

namespace Vi
open PySem PySem.Spec PyProof.Rows L2
section
variable {ρ ρ0 ρ1 ρ2 ρ3 : Fm} {me ma mb : ME} {m n : MS} {mt : MT} {mi : MI} {mg : MG} {d s t : D} {r sv : Sv} {ds es : List D} {pr p1 p2 : PR} {i : Nat} {as : MA}
theorem c_lst (h : as ρ = some (ds, ρ1)) (hf : fits ds.length = true) : mLst as ρ = some (.val (.own false ds), ρ1) := by
  unfold mLst
  rw [h]
  simp only [hf, if_true]
theorem c_tup (h : as ρ = some (ds, ρ1)) (hf : fits ds.length = true) : mTup as ρ = some (.val (.imm (.tuple ds)), ρ1) := by
  unfold mTup
  rw [h]
  simp only [hf, if_true]
theorem c_acons (h1 : me ρ = some (pr, ρ1)) (h2 : frz ρ1 pr = some (d, ρ2)) (h3 : as ρ2 = some (ds, ρ3)) : mCons me as ρ = some (d :: ds, ρ3) := by
  unfold mCons
  rw [h1]
  simp only [h2, h3]
theorem c_anil : mNil ρ = some ([], ρ) := rfl
theorem c_rval {mr : MR} {ars : List AR} (h1 : me ρ = some (pr, ρ1)) (h2 : frz ρ1 pr = some (d, ρ2)) (h3 : mr ρ2 = some (ars, ρ3)) : rVal me mr ρ = some (.v d :: ars, ρ3) := by
  unfold rVal
  rw [h1]
  simp only [h2, h3]
theorem c_b {b : Bool} (h : me ρ = some (.val (.imm (.bool b)), ρ1)) : mB me ρ = some (b, ρ1) := by
  unfold mB
  rw [h]
theorem c_not {b : Bool} (h : mt ρ = some (b, ρ1)) : mNotT mt ρ = some (!b, ρ1) := by
  unfold mNotT
  rw [h]
theorem c_seqA {a b : MS} {x : Option (Fl × Fm)} (h : mSeq (mSeq a b) n ρ = x) : mSeq a (mSeq b n) ρ = x := by
  rw [← h]
  unfold mSeq
  cases a ρ with
  | none => rfl
  | some r => obtain ⟨f, ρ1⟩ := r; cases f <;> rfl
theorem c_whF {k : Nat} (h : mt ρ = some (false, ρ1)) : whl mt m (k + 1) ρ = some (.next, ρ1) := by
  rw [whl, h]
theorem c_whT {k : Nat} {x : Option (Fl × Fm)} (h : mt ρ = some (true, ρ1)) (h2 : m ρ1 = some (.next, ρ2)) (h3 : whl mt m k ρ2 = x) : whl mt m (k + 1) ρ = x := by
  rw [whl, h]
  simp only [h2]
  exact h3
theorem c_par {i j : Nat} {s1 s2 : Sv} (h1 : ma ρ = some (p1, ρ1)) (h2 : take ρ1 p1 = some (s1, ρ2)) (h3 : mb ρ2 = some (p2, ρ3)) {ρ4 : Fm} (h4 : take ρ3 p2 = some (s2, ρ4)) (h5 : (fine s1 && fine s2) = true) : mPar i j ma mb ρ = some (.next, (ρ4.set i (some s1)).set j (some s2)) := by
  unfold mPar
  rw [h1]
  simp only [h2, h3, h4, h5, if_true]
theorem c_app {i : Nat} {b b2 : Bool} {ys : List D} (h0 : ρ[i]? = some (some (.own b2 ys))) (h1 : me ρ = some (pr, ρ1)) (h2 : frz ρ1 pr = some (d, ρ2)) (h3 : ρ2[i]? = some (some (.own b ds))) (h4 : fits (ds.length + 1) = true) : mApp i me ρ = some (.val (.imm .none), ρ2.set i (some (.own b (ds ++ [d])))) := by
  unfold mApp
  rw [h0]
  simp only [h1, h2, h3, h4, if_true]
end
end Vi

namespace Vi
open PySem PySem.Spec PyProof.Rows L2
section
variable {X : Cx}
/-! ### in, of any data in a tuple -/
def rInT (K : PySem.W.Frag) (neg : Bool) : R2 := fun x y H Q => ∃ d ds, Dp K H x d ∧ Dp K H y (.tuple ds) ∧ SeqAt.shaped d = true ∧ SeqAt.shaped (.tuple ds) = true ∧ Q (.bl (if neg then !hasD d ds else hasD d ds)) H
theorem op_inT (hu : X.A.units + 65 < cLine) : OpR X (compareOp .In) (rInT X.K false) := by
  intro pins s σ H x y v u Q I rx ry h
  obtain ⟨d, ds, hd, he, sd, se, q⟩ := h
  obtain ⟨as, r1⟩ := Dp.reads I d x v hd rx
  obtain ⟨bs, r2⟩ := Dp.reads I (.tuple ds) y u he ry
  exact SeqAt.in_tuple_reads r2 r1 (SeqAt.canLay_of_shaped se) (SeqAt.canLay_of_shaped sd) (room_in_shaped sd hu) ⟨.bl _, H, I, rfl, q⟩
theorem op_notInT (hu : X.A.units + 65 < cLine) : OpR X (compareOp .NotIn) (rInT X.K true) := by
  intro pins s σ H x y v u Q I rx ry h
  obtain ⟨d, ds, hd, he, sd, se, q⟩ := h
  obtain ⟨as, r1⟩ := Dp.reads I d x v hd rx
  obtain ⟨bs, r2⟩ := Dp.reads I (.tuple ds) y u he ry
  exact SeqAt.notIn_tuple_reads r2 r1 (SeqAt.canLay_of_shaped se) (SeqAt.canLay_of_shaped sd) (room_in_shaped sd hu) ⟨.bl _, H, I, rfl, q⟩
def dInT (neg : Bool) (x y : D) : Option Sv := match y with
  | .tuple ds => if (okD x && okD (.tuple ds)) = true then some (.imm (.bool (if neg then !hasD x ds else hasD x ds))) else none
  | y => dIn neg x y
abbrev rInB (X : Cx) (neg : Bool) : R2 := fun x y H Q => rInA X neg x y H Q ∨ rInT X.K neg x y H Q
theorem op_inB (hu : X.A.units + 65 < cLine) : OpR X (compareOp .In) (rInB X false) := (op_inA hu).or (op_inT hu)
theorem op_notInB (hu : X.A.units + 65 < cLine) : OpR X (compareOp .NotIn) (rInB X true) := (op_notInA hu).or (op_notInT hu)
theorem os_inB (neg : Bool) : OpS X (rInB X neg) (dInT neg) := by
  intro H M O π ρ σ v1 v2 d1 d2 res Q h r1 r2 e q
  unfold dInT at e
  split at e
  · rename_i ds
    split at e
    · rename_i hz
      cases e
      rw [Bool.and_eq_true] at hz
      exact .inr ⟨d1, ds, r1.dp (SeqAt.canLay_of_shaped hz.1), r2.dp (SeqAt.canLay_of_shaped hz.2), hz.1, hz.2, Post.now q h (.bl _)⟩
    · cases e
  · exact .inl (os_in neg h r1 r2 e q)
end
end Vi

namespace Vi
open PySem PySem.Spec PyProof.Rows L2
theorem ends_at {a c n : Nat} (hac : a ≤ c) (ha : a ≤ n) : sliceBounds (some (a : Int)) (some (c : Int)) none n = ((a : Int), ((min c n : Nat) : Int), 1) := by
  have h1 : ¬ ((a : Int) < 0) := by omega
  have h2 : ¬ ((c : Int) < 0) := by omega
  simp only [sliceBounds, Option.getD_none, h1, h2, if_false, show (1 : Int) > 0 by decide, if_true]
  congr 1
  · omega
  · congr 1; omega
section
variable {prog : Program} {w : World} {A : Around} {E : Value → Shared → Prop} {s : Shared}
/-- xs[a:c] = ys, c maybe behind the end -/
theorem put_slice {l b sl : Addr} {xs ys : Array Value} {n n2 : Nat} {vl vu : Value} {a c : Nat} {Q : Unit → Shared → Prop} (e : s.heap.get? l = some { cls := .type "list", data := .seq xs n }) (e2 : s.heap.get? b = some { cls := .type "list", data := .seq ys n2 }) (hne : l ≠ b) (hs : s.heap.IsSliceOf sl vl vu .none)
    (pl : IsPart vl (some (a : Int))) (pu : IsPart vu (some (c : Int))) (hac : a ≤ c) (ha : a ≤ xs.size) (hsz : xs.size + ys.size ≤ sizeLine) (h : Q () { s with heap := s.heap.update l (Obj.mapSeq fun zs => zs.extract 0 a ++ ys ++ zs.extract (min c xs.size) zs.size) }) : wpAny (model prog w) A (setItem (.ref l) (.ref sl) (.ref b)) Q E s := by
  have hl : s.heap.IsList l xs := PySem.IsL.isList e; have hb : s.heap.IsList b ys := PySem.IsL.isList e2
  obtain ⟨os, hos, hcs, hds⟩ := id hs; have hTs : s.TypeIs (.ref sl) "slice" := ⟨os, hos, hcs⟩
  have hstep : ¬ ((rawPart none == rawInt 0) = true) := Bool.false_ne_true; have hsame : Builtin.List.listSameRef (.ref l) (.ref b) = false := beq_eq_false_iff_ne.mpr hne
  have hmax : (max (a : Int) ((min c xs.size : Nat) : Int)).toNat = min c xs.size := by omega
  have hz' : ((fun zs : Array Value => zs.extract 0 a ++ ys ++ zs.extract (min c xs.size) zs.size) xs).size ≤ sizeLine + 1 := by simp only [Array.size_append, Array.size_extract]; omega
  unfold setItem; try with_reducible refine wpAny_holding ?_
  first | refine wpAny_bind (wpAny_pure ?_) | skip
  refine wpAny_bind (wpAny_sequenceKey hl.typeIs (by decide) ?_); refine wpAny_bind (wpAny_callSpecial?_slot (name := Str.ofString "__setitem__") hl.typeIs slot_list_setitem (wpAny_call_entry slot_list_setitem hl.typeIs entry_list_setitem ?_ (args_list_setitem _ _ _)))
  show wpAny _ _ (Builtin.List.listSubscript? (.ref sl) >>= _) _ _ s; refine wpAny_bind ?_; unfold Builtin.List.listSubscript?
  refine wpAny_bind (wpAny_specialOf hTs slice_no_index ?_); simp only [Option.isNone_none, if_true]; refine wpAny_pure ?_
  show wpAny _ _ (typeOf (.ref sl) >>= _) _ _ s; refine wpAny_bind (wpAny_typeOf hTs ?_)
  first | rw [if_neg (by decide)] | refine PySem.W.KFB.if_not (by decide) ?_
  rw [listSliceParts_eq]; refine wpAny_bind (wpAny_bind (wpAny_field hos hds (x := .none) rfl (wpAny_bind (wpAny_listPart .none ?_))))
  rw [if_neg hstep]; refine wpAny_bind (wpAny_field hos hds (x := vl) rfl (wpAny_bind (wpAny_listPart pl ?_)))
  refine wpAny_bind (wpAny_field hos hds (x := vu) rfl (wpAny_bind (wpAny_listPart pu (wpAny_pure ?_)))); first | simp only [hsame, Bool.false_eq_true, if_false] | refine PySem.W.KFB.if_not hsame ?_ | (dsimp only; rw [if_neg (by rw [hsame]; exact Bool.false_ne_true)])
  refine wpAny_bind (m := Builtin.List.listAllItems (.ref b) "must assign iterable to extended slice") ?_; unfold Builtin.List.listAllItems
  refine wpAny_bind (wpAny_typeOf hb.typeIs ?_); first | refine PySem.W.KFB.if_so (by decide) ?_ | rw [if_pos (by decide)] | simp only [beq_self_eq_true, Bool.true_or, if_true]
  unfold Builtin.List.listItems; refine wpAny_bind (wpAny_seqItems e2 rfl (wpAny_pure ?_)); refine wpAny_bind (wpAny_bind (wpAny_seqItems e rfl (wpAny_pure ?_)))
  refine wpAny_bind (wpAny_of_eq ((sliceIndices_raw (some (a : Int)) (some (c : Int)) none xs.size (by simp)).trans (congrArg (pure : Int × Int × Int → Sem (Int × Int × Int)) (ends_at hac ha))) ?_)
  show wpAny _ _ (if ((1 : Int) == 1) = true then _ else _) _ _ s; rw [if_pos (by decide)]; refine wpAny_bind (wpAny_rule ?_)
  first | simp only [notLongL hsz, Bool.false_eq_true, if_false] | refine PySem.W.KFB.if_not (notLongL hsz) ?_
  first | refine wpAny_bind (wpAny_pure ?_) | skip
  show wpAny _ _ (updateSeq l (fun zs => zs.extract 0 ((a : Int)).toNat ++ ys ++ zs.extract (max (a : Int) ((min c xs.size : Nat) : Int)).toNat zs.size) >>= _) _ _ _
  rw [hmax, Int.toNat_natCast]; refine wpAny_bind (wpAny_updateSeq (hz := Nat.le_trans (Nat.le_add_right _ _) hsz) (_hz' := hz') e rfl ?_); refine wpAny_bind (wpAny_letGo ?_)
  first | exact wpAny_bind (wpAny_pure (wpAny_pure ⟨.none, rfl, wpAny_pure h⟩)) | exact wpAny_pure ⟨.none, rfl, wpAny_pure h⟩
end
section
variable {X : Cx} {pos p2 : Pos}
theorem put_slice_I {pins : List (Addr × Obj)} {s : Shared} {σ : St} {H : Hp} {l b sl : Addr} {xs ys : List V} {a c : Nat} {vl vu : Value} {Q : Unit → Shared → Prop} (I : Inv X pins σ H s) (hH : H l = some (.lst xs)) (hB : H b = some (.lst ys)) (hne : l ≠ b) (hs : s.heap.IsSliceOf sl vl vu .none)
    (pl : IsPart vl (some (a : Int))) (pu : IsPart vu (some (c : Int))) (hac : a ≤ c) (ha : a ≤ xs.length) (hz : xs.length + ys.length ≤ sizeLine) (h : ∀ s', Inv X pins σ (upd H l (.lst (xs.take a ++ ys ++ xs.drop c))) s' → Q () s') : wpAny (model X.prog X.w) X.A (setItem (.ref l) (.ref sl) (.ref b)) Q X.xe s := by
  obtain ⟨z, its, n, r, hl, e⟩ := I.lstM hH; obtain ⟨z2, its2, n2, r2, hl2, e2⟩ := I.lstM hB
  have hd : xs.drop (min c its.length) = xs.drop c := by
    have := r.length
    by_cases k : c ≤ xs.length
    · rw [Nat.min_eq_left (by omega)]
    · rw [Nat.min_eq_right (by omega), List.drop_of_length_le (by omega), List.drop_of_length_le (by omega)]
  rw [← hd] at h
  refine put_slice (a := a) (c := c) e e2 hne hs pl pu hac (by rw [List.size_toArray]; omega) (by rw [List.size_toArray, List.size_toArray]; omega) (h _ ?_)
  refine I.lset (its' := its.take a ++ its2 ++ its.drop (min c its.length)) (t' := s.toks) hH e ?_ (Vals.append (Vals.append (r.take _) r2) (r.drop _)) ?_
  · rw [← splice_eq]
    simp only [List.size_toArray]
  · rw [List.length_append, List.length_append, List.length_take, List.length_drop]
    omega
def gSlx (to : TE) (ta tc : TO) : TG := fun v σ H Q => to σ H fun o H1 => ta σ H1 fun a H2 => tc σ H2 fun c H3 =>
  ∃ (l b : Addr) (xs ys : List V) (i j : Nat), o = .ref l ∧ v = .ref b ∧ a = some (i : Int) ∧ c = some (j : Int) ∧ H3 l = some (.lst xs) ∧ H3 b = some (.lst ys) ∧ l ≠ b ∧ i ≤ j ∧ i ≤ xs.length ∧ xs.length + ys.length ≤ sizeLine ∧ Q σ (upd H3 l (.lst (xs.take i ++ ys ++ xs.drop j)))
theorem pg_slx {o ea ec : Expr} {to : TE} {ta tc : TO} (ho : PE X o to) (h1 : PO X (some ea) ta) (h2 : PO X (some ec) tc)
    (ha : ∀ v, assign (.Subscript o (.Slice (some ea) (some ec) none p2) pos) X.env v = (do
      let ov ← holding [v] (eval o X.env)
      let iv ← holding [v, ov] (eval (.Slice (some ea) (some ec) none p2) X.env)
      standAt pos
      holding [v, ov, iv] (setItem ov iv v)
      release [iv, v, ov] []) := by intro _; rfl) : PG X (.Subscript o (.Slice (some ea) (some ec) none p2) pos) (gSlx to ta tc) := by
  refine ⟨fun pins s σ H v u Q I r h => ?_⟩
  rw [ha]
  refine wpAny_bind (wpAny_holding (thn (ho.run pins s σ H _ I h) fun ov s1 ⟨x, H1, I1, r1, q1⟩ => ?_))
  refine wpAny_bind (wpAny_holding (wpAny_Slice (thn (h1.run pins s1 σ H1 _ I1 q1) fun vl s2 ⟨l', H2, I2, pl, q2⟩ => thn (h2.run pins s2 σ H2 _ I2 q2) fun vu s3 ⟨u', H3, I3, pu, q3⟩ => ?_)))
  rw [evalPart_none]
  refine wpAny_pure ?_
  obtain ⟨l, b, xs, ys, i, j, rfl, rfl, rfl, rfl, hl, hb, hne, hij, hj, hz, q⟩ := q3
  have I4 : Inv X pins σ H3 { s3 with heap := s3.heap.push { cls := .type "slice", data := .fields #[vl, vu, .none] } } := I3.kept (t' := s3.toks) fun b ob q => Heap.get?_push_of_some _ q
  obtain rfl : ov = Value.ref l := r1
  obtain rfl : u = Value.ref b := r
  refine wpAny_bind (wpAny_standAt (wpAny_bind (wpAny_holding (put_slice_I I4 hl hb hne (Heap.IsSliceOf.new ..) pl pu hij hj hz fun s5 I5 => ?_))))
  exact wpAny_release ⟨σ, _, I5, q⟩
variable {me : ME} {mk mk2 : MO} {e ka kc : Expr}
/-- x[a:c] = a fresh list, c maybe behind the end -/
def mSlx (i : Nat) (ma mc : MO) (me : ME) : MS := fun ρ => match me ρ with
  | some (.val (.own _ ys), ρ1) => match ρ1[i]? with
    | some (some (.own _ _)) => match ma ρ1 with
      | some (some a, ρ2) => match mc ρ2 with
        | some (some c, ρ3) => match ρ3[i]? with
          | some (some (.own b ds)) => if (decide (0 ≤ a) && decide (a ≤ c) && decide (a ≤ ds.length) && fits (ds.length + ys.length)) = true then some (.next, ρ3.set i (some (.own b (ds.take a.toNat ++ ys ++ ds.drop c.toNat)))) else none
          | _ => none
        | _ => none
      | _ => none
    | _ => none
  | _ => none
theorem ds_slx {st : Stmt} {i : Nat} (h : ∀ te ta tc, PE X e te → PO X (some ka) ta → PO X (some kc) tc → PS X st (tAsg te (gSlx (tVar i) ta tc))) (he : DE X e me) (h1 : DO X (some ka) mk) (h2 : DO X (some kc) mk2) : DS X st (mSlx i mk mk2 me) :=
  PS.imp (h _ _ _ he h1 h2) fun D σ H ⟨ρ, M, O, π, fl, ρ', h, e, q⟩ => by
    unfold mSlx at e
    split at e
    · rename_i b0 ys ρ1 e1
      split at e
      · rename_i b1 ds1 e2
        split at e
        · rename_i a ρ2 e3
          split at e
          · rename_i c ρ3 e4
            split at e
            · rename_i b ds e5
              split at e
              · rename_i hz
                cases e
                rw [Bool.and_eq_true, Bool.and_eq_true, Bool.and_eq_true] at hz
                have z1 := of_decide_eq_true hz.1.1.1
                have z2 := of_decide_eq_true hz.1.1.2
                have z3 := of_decide_eq_true hz.1.2
                have z4 := fits_le hz.2
                obtain ⟨a, rfl⟩ := Int.eq_ofNat_of_zero_le z1
                obtain ⟨c, rfl⟩ := Int.eq_ofNat_of_zero_le (Int.le_trans z1 z2)
                rw [Int.toNat_natCast, Int.toNat_natCast] at q
                refine ⟨ρ, M, O, π, .val (.own b0 ys), ρ1, h, e1, fun v H1 M1 x1 s1 r1 => ?_⟩
                obtain ⟨l, vs, f1, f2, f3, f4, f5, f6⟩ := s1.own i b1 ds1 e2
                refine ⟨.ref l, f1, ρ1, M1, Vi.hold O (.val (.own b0 ys)) v, π, _, ρ2, s1.hold r1, e3, fun H2 M2 x2 s2 => ?_⟩
                refine ⟨ρ2, M2, Vi.hold O (.val (.own b0 ys)) v, π, _, ρ3, s2, e4, fun H3 M3 x3 s3 => ?_⟩
                have le := hold_le O (.val (.own b0 ys)) v
                obtain ⟨p, ws, k1, k2, k3, k4, k5, k6⟩ := r1.held (x2.trans x3) s3
                subst k1
                have s3' := s3.less le
                obtain ⟨l', us, g1, g2, g3, g4, g5, g6⟩ := s3'.own i b ds e5
                rw [f1] at g1; cases g1
                have hne : l ≠ p := fun z => k6 i b ds e5 (by rw [f1, z])
                obtain ⟨s4, x4, t4⟩ := s3'.write (ws := us.take a ++ ws ++ us.drop c) (es := ds.take a ++ ys ++ ds.drop c) e5 f1 (((g5.take _).append k5).append (g5.drop _))
                exact ⟨l, p, us, ws, a, c, rfl, rfl, rfl, rfl, g2, k2, hne, by omega, by rw [g5.length]; omega, by rw [g5.length, k5.length]; exact z4, q _ _ M3 ((x1.trans ((x2.trans x3).less le)).trans x4) s4⟩
              · cases e
            · cases e
          · cases e
        · cases e
      · cases e
    · cases e
end
end Vi

namespace Vi
open PySem PySem.Spec PyProof.Rows L2
section
variable {K : PySem.W.Frag} {H : Hp} {M O : Mset} {π : Nat → Option Addr} {ρ : Fm} {σ : St} {i : Nat} {b : Bool} {ds : List D} {a : Addr} {vl : List V}
theorem get_drop {ρ : Fm} {i j : Nat} {s : Sv} (e : (ρ.set i none)[j]? = some (some s)) : j ≠ i ∧ ρ[j]? = some (some s) := by
  rcases get_set e with ⟨_, z⟩ | z
  · cases z
  · exact z
/-- a name's own list is lent: nobody may look at the name -/
theorem SR.lend (h : SR K H M O π ρ σ) (e : ρ[i]? = some (some (.own b ds))) (ea : σ[i]? = some (some (.ref a))) (hM : M a) : SR K H M (wth O a) π (ρ.set i none) σ := by
  have h1 : SR K H M O π (ρ.set i none) σ := ⟨by rw [List.length_set]; exact h.len, h.sub, h.live, fun j d f => h.imm j d (get_drop f).2, fun j c es f => h.own j c es (get_drop f).2, fun j k c d es fs x hjk f g => h.uniq j k c d es fs x hjk (get_drop f).2 (get_drop g).2⟩
  refine h1.more (fun x q => q.elim (h.sub x) fun z => z ▸ hM) fun j c es x f g z => ?_
  obtain ⟨hj, f'⟩ := get_drop f
  rcases z with z | rfl
  · obtain ⟨y, _, k1, _, _, k2, _⟩ := h.own j c es f'
    rw [g] at k1; cases k1
    exact k2 z
  · exact h.uniq i j b c ds es x (Ne.symm hj) e f' ea g
/-- and given back -/
theorem SR.back (h : SR K H M (wth O a) π ρ σ) (ea : σ[i]? = some (some (.ref a))) (hH : H a = some (.lst vl)) (hM : M a) (hO : ¬ O a) (hr : Reps K H M vl ds) (hp : b = true → π i = some a) : SR K H M O π (ρ.set i (some (.own b ds))) σ := by
  refine ⟨by rw [List.length_set]; exact h.len, fun x q => h.sub x (.inl q), h.live, fun j d f => ?_, fun j c es f => ?_, fun j k c d es fs x hjk f g k1 => ?_⟩
  · rcases get_set f with ⟨_, z⟩ | ⟨_, f⟩
    · cases z
    · exact h.imm j d f
  · rcases get_set f with ⟨rfl, z⟩ | ⟨_, f⟩
    · cases z
      exact ⟨a, vl, ea, hH, hM, hO, hr, hp⟩
    · obtain ⟨y, ws, k1, k2, k3, k4, k5, k6⟩ := h.own j c es f
      exact ⟨y, ws, k1, k2, k3, fun z => k4 (.inl z), k5, k6⟩
  · rcases get_set f with ⟨hj, z⟩ | ⟨hj, f⟩
    · subst hj
      rcases get_set g with ⟨hk, _⟩ | ⟨hk, g⟩
      · exact fun _ => hjk hk.symm
      · intro k2
        rw [ea] at k1; cases k1
        obtain ⟨y, _, m1, _, _, m2, _⟩ := h.own k d fs g
        rw [k2] at m1; cases m1
        exact m2 (.inr rfl)
    · rename_i f0
      have f' : ρ[j]? = some (some (.own c es)) := (get_set f0).elim (fun z => absurd z.1 hj) fun z => z.2
      rcases get_set g with ⟨hk, z⟩ | ⟨hk, g⟩
      · subst hk
        intro k2
        rw [ea] at k2; cases k2
        obtain ⟨y, _, m1, _, _, m2, _⟩ := h.own j c es f'
        rw [k1] at m1; cases m1
        exact m2 (.inr rfl)
      · exact h.uniq j k c d es fs x hjk f' g k1
end
section
variable {mg : MG} {mt : MT} {me : ME} {vs ts : List Nat}
theorem creadB {K : PySem.W.Frag} (hts : ∀ i ∈ ts, i ∈ vs) {a : Addr} {vl : List V} {ds : List D} {Hs : Hp} {Ms O : Mset} {π : Nat → Option Addr} {σ : St} {Dd : Addr} {ρa ρ2 : Fm} {es ea : List D} {acc : List V} {Qd : Hp → Prop}
    (ha : O a) (hH : Hs a = some (.lst vl)) (hr : Reps K Hs Ms vl ds) (s : SR K Hs Ms (wth O Dd) π ρa (wipeA σ vs)) (hO : ¬ O Dd) (hA : Hs Dd = some (.lst acc)) (hR : Reps K Hs Ms acc ea) (hz : ea.length + es.length ≤ sizeLine)
    (e : cloop mg mt me vs ds ρa = some (es, ρ2)) (hq : ∀ H M acc', Ext O Hs Ms H M → SR K H M (wth O Dd) π ρ2 (wipeA σ vs) → H Dd = some (.lst acc') → Reps K H M acc' (ea ++ es) → Qd H) :
    ∃ W : Nat → Nat → Hp → Prop, (∃ m, W 0 m Hs) ∧ ∀ i m H, W i m H →
      ((Itl K a).stop i H ∧ Qd H) ∨ ((Itl K a).go i H ∧ ∃ Nx : Hp → Prop, (∀ H', Nx H' → ∃ m', m' < m ∧ W (i + 1) m' H') ∧ ∀ x H', (Itl K a).yld i H x H' → tG K mg ts x (wipe σ vs) H' fun σ2 H2 => wipe σ2 vs = wipe σ vs ∧ tT K mt σ2 H2 fun b H3 =>
        if b = true then tE K me σ2 H3 fun y H4 => ∃ acc, H4 Dd = some (.lst acc) ∧ acc.length < sizeLine ∧ Nx (upd H4 Dd (.lst (acc ++ [y]))) else Nx H3) := by
  have hMs : Ms Dd := s.sub Dd (.inr rfl)
  have less : ∀ a, O a → wth O Dd a := fun a q => .inl q
  refine ⟨fun i m H => m = ds.length - i ∧ i ≤ ds.length ∧ ∃ ρb M acc' eb es', SR K H M (wth O Dd) π ρb (wipeA σ vs) ∧ Ext O Hs Ms H M ∧ H Dd = some (.lst acc') ∧ Reps K H M acc' eb ∧ cloop mg mt me vs (ds.drop i) ρb = some (es', ρ2) ∧ ea ++ es = eb ++ es',
    ⟨_, rfl, Nat.zero_le _, ρa, Ms, acc, ea, es, s, .refl (s.less less), hA, hR, e, rfl⟩, ?_⟩
  rintro i m H ⟨rfl, hi, ρb, M, acc', eb, es', sb, xb, hAb, hRb, eb', eq⟩
  have hHa : H a = some (.lst vl) := xb.keep a _ hH (.inl ha)
  have hrb : Reps K H M vl ds := hr.tr xb.tr
  by_cases hlt : i < ds.length
  · rw [List.drop_eq_getElem_cons hlt] at eb'
    have hd : ds[i]? = some ds[i] := List.getElem?_eq_getElem hlt
    refine .inr ⟨walk_list.goes i H (by rw [hrb.length]; exact hlt) (.inl (.inl hHa)), fun H' => ds.length - (i + 1) = ds.length - (i + 1) ∧ i + 1 ≤ ds.length ∧ ∃ ρb M acc' eb es', SR K H' M (wth O Dd) π ρb (wipeA σ vs) ∧ Ext O Hs Ms H' M ∧ H' Dd = some (.lst acc') ∧ Reps K H' M acc' eb ∧ cloop mg mt me vs (ds.drop (i + 1)) ρb = some (es', ρ2) ∧ ea ++ es = eb ++ es', fun H' w => ⟨_, by omega, w⟩, fun x H3 y => ?_⟩
    obtain ⟨s3, x3, r3⟩ : SR K H3 M (wth O Dd) π ρb (wipeA σ vs) ∧ Ext (wth O Dd) H M H3 M ∧ Rep K H3 M x ds[i] := by
      obtain ⟨v, hv, rv⟩ := hrb.get hd
      obtain ⟨y1, y2⟩ := walk_list.yields i H x H3 (by rw [hrb.length]; exact hlt) (.inl (.inl hHa)) y
      rw [hv] at y2; cases y2
      subst y1
      exact ⟨sb, .refl sb, rv⟩
    unfold cloop at eb'
    split at eb'
    · rename_i ρ3 e3
      rw [wipe_eq]
      refine ⟨ρb, M, wth O Dd, π, _, ρ3, s3, r3, e3, fun σ4 s4 fr ln => ?_⟩
      have hw : wipeA σ4 vs = wipeA σ vs := wipeA_ext (fun j hj => by rw [fr j (fun z => hj (hts j z)), wipeA_out hj]) (by rw [ln, wipeA_len])
      refine ⟨by rw [wipe_eq]; exact hw, ?_⟩
      split at eb'
      · rename_i ρ4 e4
        refine ⟨ρ3, M, wth O Dd, π, true, ρ4, s4, e4, fun H5 M5 x5 s5 => iteT ?_⟩
        split at eb'
        · rename_i pr ρ5 e5
          split at eb'
          · rename_i ee ρ6 e6
            split at eb'
            · rename_i es2 ρ7 e7
              cases eb'
              refine ⟨ρ4, M5, wth O Dd, π, pr, ρ5, s5, e5, fun v H6 M6 x6 s6 r6 => ?_⟩
              obtain ⟨M7, x7, s7, r7⟩ := frz_ok s6 r6 e6
              have xx : Ext (wth O Dd) H M H6 M7 := ((x3.trans x5).trans x6).trans x7
              have hA6 : H6 Dd = some (.lst acc') := xx.keep Dd _ hAb (.inl (.inr rfl))
              have hM7 : M7 Dd := s7.sub Dd (.inr rfl)
              have hl : acc'.length < sizeLine := by
                rw [hRb.length]
                have := congrArg List.length eq
                rw [List.length_append, List.length_append, List.length_cons] at this
                omega
              refine ⟨acc', hA6, hl, rfl, hlt, wipeA ρ6 vs, M7, acc' ++ [v], eb ++ [ee], es2, ?_, (xb.trans (xx.less less)).updM hMs hO, upd_same, ((hRb.tr xx.tr).append (.cons r7 .nil)).tr (upd_lat hM7), e7, ?_⟩
              · rw [← hw]; exact (s7.writeO hM7 (.inr rfl)).wipe vs
              · rw [eq, List.append_assoc]; rfl
            · cases eb'
          · cases eb'
        · cases eb'
      · rename_i ρ4 e4
        refine ⟨ρ3, M, wth O Dd, π, false, ρ4, s4, e4, fun H5 M5 x5 s5 => iteF ?_⟩
        have xx : Ext (wth O Dd) H M H5 M5 := x3.trans x5
        refine ⟨rfl, hlt, wipeA ρ4 vs, M5, acc', eb, es', ?_, xb.trans (xx.less less), xx.keep Dd _ hAb (.inl (.inr rfl)), hRb.tr xx.tr, eb', eq⟩
        rw [← hw]; exact s5.wipe vs
      · cases eb'
    · cases eb'
  · have ei : i = ds.length := by omega
    subst ei
    rw [List.drop_length] at eb'
    cases eb'
    rw [List.append_nil] at eq
    exact .inl ⟨by rw [← hrb.length]; exact walk_list.stops H (.inl (.inl hHa)), hq H M acc' xb sb hAb (by rw [eq]; exact hRb)⟩
/-- a comprehension over a name's own list, which stays its own -/
def mCompB (i : Nat) (mg : MG) (mt : MT) (me : ME) (vs : List Nat) : ME := fun ρ => match ρ[i]? with
  | some (some (.own b ds)) => if (!vs.contains i && vsOk (ρ.set i none) vs) = true then match cloop mg mt me vs ds (wipeA (ρ.set i none) vs) with
    | some (es, ρ2) => if fits es.length = true then some (.val (.own false es), (restA ρ2 (ρ.set i none) vs).set i (some (.own b ds))) else none
    | none => none
    else none
  | _ => none
theorem lcB_read {K : PySem.W.Frag} {i : Nat} (hts : ∀ i ∈ ts, i ∈ vs) {σ : St} {H : Hp} {Q : VK} (h : tE K (mCompB i mg mt me vs) σ H Q) : tLc (iSeq K (tVar i)) (tG K mg ts) (tT K mt) (tE K me) vs σ H Q := by
  obtain ⟨ρ, M, O, π, pr, ρ', h, e, q⟩ := h
  unfold mCompB at e
  split at e
  · rename_i b ds e0
    split at e
    · rename_i ok'
      rw [Bool.and_eq_true] at ok'
      have ok := ok'.2
      split at e
      · rename_i es ρ2 e2
        split at e
        · rename_i hz
          cases e
          obtain ⟨a, vl, f1, f2, f3, f4, f5, f6⟩ := h.own i b ds e0
          have s0 := h.lend e0 f1 f3
          refine ⟨.ref a, f1, a, rfl, .inl ⟨⟨vl, .inl (.inl f2)⟩, fun Dd hD => ?_⟩⟩
          have hne : a ≠ Dd := fun z => by rw [z, hD] at f2; cases f2
          have hO : ¬ wth O a Dd := fun z => z.elim (fun z => h.live Dd (h.sub Dd z) hD) fun z => hne z.symm
          refine creadB (ea := []) (vl := vl) hts (.inr rfl) (by rw [upd_ne hne]; exact f2) (f5.tr (alloc_tr_own h hD)) (comp_start s0 hD vs) hO upd_same .nil (by have := fits_le hz; simpa using this) e2 fun H2 M2 acc x2 s2 hA hR => ?_
          obtain ⟨y1, y2, y3⟩ := comp_end s0 hD ok x2 s2 hA hR
          have g1 : H2 a = some (.lst vl) := y1.keep a _ f2 (.inl (.inr rfl))
          have g2 : M2 a := y1.sub a (.inr rfl)
          obtain ⟨p, ws, k1, k2, k3, k4, k5, k6⟩ := y3
          refine q _ H2 M2 (y1.less fun x z => .inl z) (y2.back f1 g1 g2 f4 (f5.tr y1.tr) f6) ⟨p, ws, k1, k2, k3, fun z => k4 (.inl z), k5, fun j c fs z1 z2 => ?_⟩
          rcases get_set z1 with ⟨rfl, _⟩ | ⟨_, z1⟩
          · rw [f1] at z2; cases z2
            exact k4 (.inr rfl)
          · exact k6 j c fs z1 z2
        · cases e
      · cases e
    · cases e
  · cases e
end
section
variable {X : Cx} {elt tg iter : Expr} {ifs : List Expr} {scope : Scope} {own : List (Str × Nat)} {pos : Pos} {mg : MG} {mt : MT} {me : ME} {ts : List Nat}
theorem de_lcB {j : Nat} (hc : X.calm = true) (hN : X.N.Nodup) (hi : PE X iter (tVar j)) (ok : BlkOk X.N X.env.scope scope own) (hg : Bk X scope fun Y => DG Y tg mg ts) (ht : Bk X scope fun Y => DTs Y ifs mt) (he : Bk X scope fun Y => DE Y elt me)
    (hts : ∀ i ∈ ts, i ∈ own.map (·.2)) (hs : ∀ x, foldedSetIterable iter X.env x = pure x := by intro _; rfl) : DE X (.ListComp elt [⟨tg, iter, ifs, 0⟩] scope pos) (mCompB j mg mt me (own.map (·.2))) :=
  PE.imp (pe_lc (wi := iSeq X.K (tVar j)) (g := tG X.K mg ts) (tt := tT X.K mt) (te := tE X.K me) hc hN (pi_seq hi) ok hg ht he hs) fun σ H Q h => lcB_read hts h
theorem ds_setLcB {i j : Nat} {y : Str} {py spos : Pos} (hc : X.calm = true) (hN : X.N.Nodup) (hy : X.N[i]? = some y) (hyl : X.env.scope.names.lookup y = some .local)
    (hsw : swapsWith (.ListComp elt [⟨tg, iter, ifs, 0⟩] scope pos) (some (.Name y py)) spos.line X.env = pure true) (hi : PE X iter (tVar j)) (ok : BlkOk X.N X.env.scope scope own) (hg : Bk X scope fun Y => DG Y tg mg ts) (ht : Bk X scope fun Y => DTs Y ifs mt) (he : Bk X scope fun Y => DE Y elt me)
    (hts : ∀ i ∈ ts, i ∈ own.map (·.2)) (hs : ∀ x, foldedSetIterable iter X.env x = pure x := by intro _; rfl) : DS X (.Assign [.Name y py] (.ListComp elt [⟨tg, iter, ifs, 0⟩] scope pos) spos) (mSet i (mCompB j mg mt me (own.map (·.2)))) :=
  PS.imp (ps_setLc (wi := iSeq X.K (tVar j)) (g := tG X.K mg ts) (tt := tT X.K mt) (te := tE X.K me) hc hN hy hyl hsw (pi_seq hi) ok hg ht he hs) fun D σ H ⟨ρ, M, O, π, fl, ρ', h, e, q⟩ => by
    unfold mSet at e
    split at e
    · rename_i pr ρ1 e1
      split at e
      · rename_i ρ2 e2
        cases e
        refine lcB_read (K := X.K) hts ⟨ρ, M, O, π, pr, ρ1, h, e1, fun v H1 M1 x1 s1 r1 => ?_⟩
        obtain ⟨M2, x2, s2⟩ := put_ok s1 r1 e2
        exact q _ H1 M2 (x1.trans x2) s2
      · cases e
    · cases e
end
end Vi

namespace Vi
open PySem PySem.Spec PyProof.Rows L2
section
variable {X : Cx}
/-! ### a tuple some times -/
def dMulT : D → D → Option Sv
  | .tuple ds, .int k => if (!ds.isEmpty && decide (2 ≤ k) && decide (k ≤ 1000) && decide (ds.length ≤ 1000)) = true then some (.imm (.tuple (List.replicate k.toNat ds).flatten)) else none
  | a, b => dMul a b
theorem op_mulT : OpR X (binaryOp .Mult) (fun x y H Q => rMul x y H Q ∨ rRepT X.K x y H Q) := op_mulA.or op_repT
theorem os_mulT : OpS X (fun x y H Q => rMul x y H Q ∨ rRepT X.K x y H Q) dMulT := by
  intro H M O π ρ σ v1 v2 d1 d2 res Q h r1 r2 e q
  unfold dMulT at e
  split at e
  · rename_i ds k
    split at e
    · rename_i hz
      cases e
      rw [Bool.and_eq_true, Bool.and_eq_true, Bool.and_eq_true] at hz
      obtain ⟨a, vs, rfl, rd, rs⟩ := r1.inT
      cases r2.inI
      refine .inr ⟨a, k, vs, rfl, rfl, rd.sq, fun z => ?_, of_decide_eq_true hz.1.1.2, of_decide_eq_true hz.1.2, by rw [rs.length]; exact of_decide_eq_true hz.2, fun p hp => Post.tup q h (rs.rep k.toNat) hp⟩
      have hl := rs.length
      rw [z] at hl
      have : ds = [] := List.length_eq_zero_iff.mp hl.symm
      rw [this] at hz
      exact absurd hz.1.1.1 (by decide)
    · cases e
  · exact .inl (os_mul h r1 r2 e q)
end
end Vi

namespace Vi
open PySem PySem.Spec PyProof.Rows L2
/-! sorted(set(x)) of pairs of small counts -/
def prOf : D → Option (Int × Int)
  | .tuple [.int a, .int b] => if decide (0 ≤ a ∧ a < 64 ∧ 0 ≤ b ∧ b < 64) = true then some (a, b) else none
  | _ => none
def prsOf : List D → Option (List (Int × Int))
  | [] => some []
  | d :: ds => match prOf d, prsOf ds with
    | some p, some ps => some (p :: ps)
    | _, _ => none
def cd (p : Int × Int) : Int := p.1 * 64 + p.2
def insP (x : Int × Int) : List (Int × Int) → List (Int × Int)
  | [] => [x]
  | y :: ys => if cd x < cd y then x :: y :: ys else if cd x = cd y then y :: ys else y :: insP x ys
def setP (ps : List (Int × Int)) : List (Int × Int) := ps.foldr insP []
def toP (p : Int × Int) : D := .tuple [.int p.1, .int p.2]
def dSortSet : D → Option Sv
  | .list ds => match prsOf ds with
    | some ps => if decide (ps.length < 64) = true then some (.own false ((setP ps).map toP)) else none
    | none => none
  | _ => none
/-! strictly ascending -/
def Asc (ps : List (Int × Int)) : Prop := ps.Pairwise fun p q => cd p < cd q
theorem ins_mem {x y : Int × Int} : ∀ {ps : List (Int × Int)}, y ∈ insP x ps → y = x ∨ y ∈ ps
  | [], h => .inl (List.mem_singleton.mp h)
  | z :: ps, h => by
    unfold insP at h
    split at h
    · exact (List.mem_cons.mp h)
    · split at h
      · exact .inr h
      · rcases List.mem_cons.mp h with h | h
        · exact .inr (by rw [h]; exact List.mem_cons_self ..)
        · rcases ins_mem h with h | h
          · exact .inl h
          · exact .inr (List.mem_cons_of_mem _ h)
theorem ins_asc {x : Int × Int} : ∀ {ps : List (Int × Int)}, Asc ps → Asc (insP x ps)
  | [], _ => List.pairwise_singleton ..
  | z :: ps, h => by
    have h1 := List.pairwise_cons.mp h
    unfold insP
    split
    · rename_i c
      exact List.pairwise_cons.mpr ⟨fun y hy => by
        rcases List.mem_cons.mp hy with rfl | hy
        · exact c
        · have := h1.1 y hy; omega, h⟩
    · split
      · exact h
      · exact List.pairwise_cons.mpr ⟨fun y hy => by
          rcases ins_mem hy with rfl | hy
          · omega
          · exact h1.1 y hy, ins_asc h1.2⟩
theorem set_asc : ∀ ps, Asc (setP ps)
  | [] => List.Pairwise.nil
  | x :: ps => ins_asc (set_asc ps)
theorem ins_has {x : Int × Int} : ∀ {ps : List (Int × Int)}, (∃ y ∈ insP x ps, cd y = cd x) ∧ ∀ y ∈ ps, y ∈ insP x ps
  | [] => ⟨⟨x, List.mem_singleton.mpr rfl, rfl⟩, fun _ h => by cases h⟩
  | z :: ps => by
    unfold insP
    split
    · exact ⟨⟨x, List.mem_cons_self .., rfl⟩, fun y hy => List.mem_cons_of_mem _ hy⟩
    · split
      · rename_i c
        exact ⟨⟨z, List.mem_cons_self .., c.symm⟩, fun y hy => hy⟩
      · obtain ⟨⟨y, h1, h2⟩, h3⟩ := ins_has (x := x) (ps := ps)
        refine ⟨⟨y, List.mem_cons_of_mem _ h1, h2⟩, fun w hw => ?_⟩
        rcases List.mem_cons.mp hw with rfl | hw
        · exact List.mem_cons_self ..
        · exact List.mem_cons_of_mem _ (h3 w hw)
theorem set_sub : ∀ {ps : List (Int × Int)} {y : Int × Int}, y ∈ setP ps → y ∈ ps
  | [], _, h => by cases h
  | x :: ps, y, h => by
    rcases ins_mem (show y ∈ insP x (setP ps) from h) with rfl | h
    · exact List.mem_cons_self ..
    · exact List.mem_cons_of_mem _ (set_sub h)
theorem set_all : ∀ {ps : List (Int × Int)} {y : Int × Int}, y ∈ ps → ∃ z ∈ setP ps, cd z = cd y
  | x :: ps, y, h => by
    rcases List.mem_cons.mp h with rfl | h
    · exact ins_has.1
    · obtain ⟨z, h1, h2⟩ := set_all h
      exact ⟨z, ins_has.2 z h1, h2⟩
/-- two that ascend and have the same codes are equal, where the code tells the pair -/
theorem asc_eq : ∀ {ps qs : List (Int × Int)}, Asc ps → Asc qs → (∀ p ∈ ps, p ∈ qs) → (∀ q ∈ qs, q ∈ ps) → ps = qs
  | [], [], _, _, _, _ => rfl
  | [], q :: qs, _, _, _, h => absurd (h q (List.mem_cons_self ..)) (List.not_mem_nil)
  | p :: ps, [], _, _, h, _ => absurd (h p (List.mem_cons_self ..)) (List.not_mem_nil)
  | p :: ps, q :: qs, h1, h2, h3, h4 => by
    have a1 := List.pairwise_cons.mp h1
    have a2 := List.pairwise_cons.mp h2
    have e : p = q := by
      rcases List.mem_cons.mp (h3 p (List.mem_cons_self ..)) with e | e
      · exact e
      · rcases List.mem_cons.mp (h4 q (List.mem_cons_self ..)) with f | f
        · exact f.symm
        · have := a2.1 p e; have := a1.1 q f; omega
    subst e
    rw [asc_eq a1.2 a2.2 (fun x hx => by
      rcases List.mem_cons.mp (h3 x (List.mem_cons_of_mem _ hx)) with rfl | e
      · have := a1.1 x hx; omega
      · exact e) fun x hx => by
      rcases List.mem_cons.mp (h4 x (List.mem_cons_of_mem _ hx)) with rfl | e
      · have := a2.1 x hx; omega
      · exact e]
def Bp (p : Int × Int) : Prop := (0 ≤ p.1 ∧ p.1 < 64) ∧ (0 ≤ p.2 ∧ p.2 < 64)
theorem cd_inj {p q : Int × Int} (hp : Bp p) (hq : Bp q) (h : cd p = cd q) : p = q := by
  obtain ⟨a, b⟩ := p
  obtain ⟨c, d⟩ := q
  obtain ⟨⟨h1, h2⟩, h3, h4⟩ := hp
  obtain ⟨⟨h5, h6⟩, h7, h8⟩ := hq
  simp only [cd] at *
  have : a = c := by omega
  have : b = d := by omega
  subst_vars
  rfl
theorem pr_of {d : D} {p : Int × Int} (h : prOf d = some p) : d = toP p ∧ Bp p := by
  unfold prOf at h
  split at h
  · split at h
    · rename_i a b c
      cases h
      have := of_decide_eq_true c
      exact ⟨rfl, ⟨this.1, this.2.1⟩, this.2.2.1, this.2.2.2⟩
    · cases h
  · cases h
theorem prs_of : ∀ {ds : List D} {ps : List (Int × Int)}, prsOf ds = some ps → ds = ps.map toP ∧ ∀ p ∈ ps, Bp p
  | [], ps, h => by cases h; exact ⟨rfl, fun _ h => by cases h⟩
  | d :: ds, ps, h => by
    unfold prsOf at h
    split at h
    · rename_i p qs h1 h2
      cases h
      obtain ⟨e1, b1⟩ := pr_of h1
      obtain ⟨e2, b2⟩ := prs_of h2
      refine ⟨by rw [List.map_cons, ← e1, ← e2], fun x hx => ?_⟩
      rcases List.mem_cons.mp hx with rfl | hx
      · exact b1
      · exact b2 x hx
    · cases h
def ls (p : Int × Int) : List Int := [p.1, p.2]
theorem ls_inj {p q : Int × Int} (h : ls p = ls q) : p = q := by
  obtain ⟨a, b⟩ := p
  obtain ⟨c, d⟩ := q
  simp only [ls, List.cons.injEq] at h
  rw [h.1, h.2.1]
theorem reps_prs {K : PySem.W.Frag} {H : Hp} {M : Mset} : ∀ {ps : List (Int × Int)} {vs : List V}, Reps K H M vs (ps.map toP) → ∃ ks : List (Addr × List Int), vs = ks.map (fun p => V.ref p.1) ∧ ks.map (·.2) = ps.map ls ∧ ∀ p ∈ ks, TupAt K H M p.1 (p.2.map V.int)
  | [], _, .nil => ⟨[], rfl, rfl, fun _ h => by cases h⟩
  | p :: ps, _, .cons h r => by
    obtain ⟨ks, h1, h2, h3⟩ := reps_prs r
    obtain ⟨a, b⟩ := p
    cases h with
    | @tup ad xs ds ht hr =>
      cases hr with
      | cons q1 hr =>
        cases hr with
        | cons q2 hr =>
          cases hr
          cases q1
          cases q2
          refine ⟨(ad, [a, b]) :: ks, by rw [h1]; rfl, by rw [List.map_cons, List.map_cons, h2]; rfl, fun p hp => ?_⟩
          rcases List.mem_cons.mp hp with rfl | hp
          · exact ht
          · exact h3 p hp
theorem reps_of {K : PySem.W.Frag} {H : Hp} {M : Mset} : ∀ {ks : List (Addr × List Int)} {ps : List (Int × Int)}, ks.map (·.2) = ps.map ls → (∀ p ∈ ks, TupAt K H M p.1 (p.2.map V.int)) → Reps K H M (ks.map fun p => V.ref p.1) (ps.map toP)
  | [], [], _, _ => .nil
  | [], p :: ps, h, _ => by simp at h
  | k :: ks, [], h, _ => by simp at h
  | k :: ks, p :: ps, h, hk => by
    rw [List.map_cons, List.map_cons] at h
    injection h with h1 h2
    have hk1 := hk k (List.mem_cons_self ..)
    rw [h1] at hk1
    exact .cons (.tup hk1 (.cons (.int _) (.cons (.int _) .nil))) (reps_of h2 fun q hq => hk q (List.mem_cons_of_mem _ hq))
section
variable {X : Cx}
def rSS (X : Cx) (v : V) (H : Hp) (Q : VK) : Prop := rSetOfT X.K X.prog X.w [v] H fun v2 H2 => rSortedT X.K X.prog X.w [v2] H2 Q
theorem us_sortset : UnS X (rSS X) dSortSet := by
  intro H M O π ρ σ v1 d1 res Q h r1 e q
  unfold dSortSet at e
  split at e
  · rename_i ds
    split at e
    · rename_i ps hps
      split at e
      · rename_i hl
        cases e
        have hl := of_decide_eq_true hl
        obtain ⟨hds, hb⟩ := prs_of hps
        subst hds
        obtain ⟨a, vs, rfl, rd, rs⟩ := r1.inL
        obtain ⟨ks, rfl, hk2, hk3⟩ := reps_prs rs
        have hkl : ks.length = ps.length := by
          have := congrArg List.length hk2
          rwa [List.length_map, List.length_map] at this
        refine ⟨a, ks, rfl, .inl rd, fun p hp => (hk3 p hp).sq, by omega, fun b L hbn hs1 hs2 => ?_⟩
        have tr := (Ext.alloc h (o := SetTO X.prog X.w b L) hbn).tr
        have h2 := h.alloc (o := SetTO X.prog X.w b L) hbn
        have tt : ∀ {x : Addr} {us : List V}, TupAt X.K H M x us → TupAt X.K (upd H b (SetTO X.prog X.w b L)) M x us := fun t => by
          rcases t with ⟨t, n⟩ | t
          · exact .inl (tr _ _ t n)
          · exact .inr t
        have hLs : ∀ p ∈ L, ∃ w ∈ ps, p.2 = ls w := fun p hp => by
          have hm : p.2 ∈ ks.map (·.2) := List.mem_map.mpr ⟨p, hs1 p hp, rfl⟩
          rw [hk2] at hm
          obtain ⟨w, hw, e⟩ := List.mem_map.mp hm
          exact ⟨w, hw, e.symm⟩
        refine ⟨b, L, 2, 64, rfl, upd_same, fun p hp => (tt (hk3 p (hs1 p hp))).sq, by decide, fun p hp => ?_, fun L' p pm nd hf pw hp => ?_⟩
        · obtain ⟨w, hw, e⟩ := hLs p hp
          rw [e]
          refine ⟨rfl, fun m hm => ?_⟩
          have := hb w hw
          simp only [ls, List.mem_cons, List.not_mem_nil, or_false] at hm
          rcases hm with rfl | rfl
          · exact this.1
          · exact this.2
        · obtain ⟨qs, hqs⟩ : ∃ qs : List (Int × Int), L'.map (·.2) = qs.map ls ∧ ∀ w ∈ qs, w ∈ ps := by
            have : ∀ L0 : List (Addr × List Int), (∀ p ∈ L0, p ∈ L) → ∃ qs : List (Int × Int), L0.map (·.2) = qs.map ls ∧ ∀ w ∈ qs, w ∈ ps := by
              intro L0
              induction L0 with
              | nil => intro _; exact ⟨[], rfl, fun _ h => by cases h⟩
              | cons k L0 ih =>
                intro hh
                obtain ⟨qs, e1, e2⟩ := ih fun p hp => hh p (List.mem_cons_of_mem _ hp)
                obtain ⟨w, hw, e⟩ := hLs k (hh k (List.mem_cons_self ..))
                refine ⟨w :: qs, by rw [List.map_cons, List.map_cons, e1, e], fun x hx => ?_⟩
                rcases List.mem_cons.mp hx with rfl | hx
                · exact hw
                · exact e2 x hx
            exact this L' fun p hp => pm.mem_iff.mp hp
          obtain ⟨hq1, hq2⟩ := hqs
          have hcode : ∀ w : Int × Int, TS.code 64 (ls w) = cd w := fun w => code_pair w.1 w.2
          have hasc : Asc qs := by
            have p1 : (qs.map ls).Pairwise fun x y => TS.code 64 x ≤ TS.code 64 y := by
              rw [← hq1, List.pairwise_map]
              exact pw
            have p2 : (qs.map ls).Pairwise (· ≠ ·) := by rw [← hq1]; exact nd
            rw [List.pairwise_map] at p1 p2
            refine (p1.and p2).imp_of_mem fun {x y} hx hy hxy => ?_
            have c := hxy.1
            rw [hcode, hcode] at c
            have : cd x ≠ cd y := fun z => hxy.2 (by rw [cd_inj (hb x (hq2 x hx)) (hb y (hq2 y hy)) z])
            omega
          have hsame : qs = setP ps := asc_eq hasc (set_asc ps) (fun x hx => by
              obtain ⟨z, z1, z2⟩ := set_all (hq2 x hx)
              rw [← cd_inj (hb z (set_sub z1)) (hb x (hq2 x hx)) z2]
              exact z1) fun x hx => by
              have h1 : ls x ∈ ks.map (·.2) := by rw [hk2]; exact List.mem_map.mpr ⟨x, set_sub hx, rfl⟩
              obtain ⟨k, hk, e⟩ := List.mem_map.mp h1
              have h2 : ls x ∈ L.map (·.2) := by rw [← e]; exact hs2 k hk
              have h3 : ls x ∈ L'.map (·.2) := ((pm.map (·.2)).mem_iff).mpr h2
              rw [hq1] at h3
              obtain ⟨w, hw, e⟩ := List.mem_map.mp h3
              rw [← ls_inj e]
              exact hw
          have rr : Reps X.K (upd H b (SetTO X.prog X.w b L)) M (L'.map fun p => V.ref p.1) (qs.map toP) := reps_of hq1 fun p hp => tt (hk3 p (hs1 p (pm.mem_iff.mp hp)))
          rw [hsame] at rr
          have q2 : Post X.K (upd H b (SetTO X.prog X.w b L)) M O π ρ σ (.own false ((setP ps).map toP)) Q := fun v H' M' x s r => q v H' M' ((Ext.alloc h (o := SetTO X.prog X.w b L) hbn).trans x) s r
          exact q2.lst h2 rr hp
      · cases e
    · cases e
  · cases e
variable {a : Expr} {ma : ME}
theorem de_sortset {x y : Str} {p1 p2 pos1 pos2 : Pos} {f : D → Option Sv} (hcS : CallR X (.type "set") (rSetOfT X.K X.prog X.w)) (hcT : CallR X (.builtin "sorted") (rSortedT X.K X.prog X.w)) (hs : UnS X (rSS X) f)
    (hg1 : Gl X x) (hm1 : X.mg x = none) (hv1 : bootBuiltins x = some (.builtin "sorted")) (hg2 : Gl X y) (hm2 : X.mg y = none) (hv2 : bootBuiltins y = some (.type "set")) (ha : DE X a ma)
    (hn1 : x ≠ "__name__" := by decide) (hd1 : (x == ("__debug__" : Str)) = false := by decide) (hn2 : y ≠ "__name__" := by decide) (hd2 : (y == ("__debug__" : Str)) = false := by decide)
    (he2 : starEach (a :: []) X.env = (false, eval a X.env) :: starEach [] X.env := by rfl) (hpl2 : (PySem.backTo pos2 (starEach [] X.env)).any (·.1) = false := by rfl)
    (he1 : starEach (.Call (.Name y p2) [a] [] pos2 :: []) X.env = (false, eval (.Call (.Name y p2) [a] [] pos2) X.env) :: starEach [] X.env := by rfl) (hpl1 : (PySem.backTo pos1 (starEach [] X.env)).any (·.1) = false := by rfl) :
    DE X (.Call (.Name x p1) [.Call (.Name y p2) [a] [] pos2] [] pos1) (un f ma) :=
  PE.imp (pe_callB hcT hg1 hm1 hv1 (pa_cons (pe_callTy hcS hg2 hm2 hv2 (pa_cons ha pa_nil he2) hn2 hd2 he2 hpl2) pa_nil he1) hn1 hd1 he1 hpl1) fun σ H Q h => tE_un hs h
end
end Vi

namespace Vi
open PySem PySem.Spec PyProof.Rows L2
section
variable {X : Cx}
/-- sorted(x) of data, or of a list of one item at most -/
def rSortW (K : PySem.W.Frag) : List V → Hp → VK → Prop := fun vs H Q => rSortD K vs H Q ∨ ∃ (a : Addr) (xs : List V), vs = [.ref a] ∧ SqL K H a xs ∧ xs.length ≤ 1 ∧ ∀ p, H p = none → Q (.ref p) (upd H p (.lst xs))
theorem perm_one {α : Type} {l m : List α} (h : l.Perm m) (hm : m.length ≤ 1) : l = m := by
  match m, hm with
  | [], _ => exact h.eq_nil
  | [x], _ => exact List.perm_singleton.mp h
theorem cr_sortW (hu : X.A.units + 70 < cLine) : CallR X (.builtin "sorted") (rSortW X.K) := by
  intro pins s σ H vs us Q I r h
  rcases h with h | ⟨a, xs, rfl, hs, hl, q⟩
  · exact cr_sortD hu pins s σ H vs us Q I r h
  · obtain ⟨its, rv, hls, hz⟩ := I.list hs
    rw [Vals.ref1 r]
    have hlen : its.length = xs.length := rv.length.symm
    refine Srt.sorted_any (vs := its) (by simpa using hls.isList) (by rw [hlen]; exact hz) (fun h2 => absurd h2 (by omega)) fun out ho => ?_
    have e : out = its := perm_one ho (by omega)
    subst e
    obtain ⟨ep, he'⟩ := PyProof.Rows.sortedAll_at s.heap out out.toArray
    have hfit : xs.length ≤ sizeLine := hz
    exact ⟨.ref _, upd H (s.heap.objs.size + 1) (.lst xs), I.laid (t' := s.toks) (fun _ _ => PyProof.Rows.sortedAll_old) (Nat.le_succ _) ⟨hfit, out, ep, rv, he'⟩, rfl, q _ (I.hok.fresh (Nat.le_succ _))⟩
def dSortW : D → Option Sv
  | .list ds => if sortOk ds = true then some (.own false (sortD ds)) else if decide (ds.length ≤ 1) = true then some (.own false ds) else none
  | d => dSort d
theorem us_sortW : UnS X (fun v H Q => rSortW X.K [v] H Q) dSortW := by
  intro H M O π ρ σ v1 d1 res Q h r1 e q
  unfold dSortW at e
  split at e
  · rename_i ds
    split at e
    · rename_i hz
      exact .inl (us_sort h r1 (show (if sortOk ds = true then some (Sv.own false (sortD ds)) else none) = some res by rw [if_pos hz]; exact e) q)
    · split at e
      · rename_i hl
        cases e
        have hl := of_decide_eq_true hl
        obtain ⟨a, vs, rfl, rd, rs⟩ := r1.inL
        have q2 : Post X.K H M O π ρ σ (.own false ds) Q := q
        exact .inr ⟨a, vs, rfl, .inl rd, by rw [rs.length]; exact hl, fun p hp => q2.lst h rs hp⟩
      · cases e
  · exact .inl (us_sort h r1 e q)
end
end Vi

namespace Vi
open PySem PySem.Spec PyProof.Rows L2
/-! ### a tuple any number of times -/
theorem rep_same (at0 : Addr) (vs : Array Value) (en : Nat) (td : Option Addr) (ts : Array (Option Value)) (k : Int) (tk0 : Tok)
    (big : (decide (k < -(2 ^ 63)) || decide (k ≥ 2 ^ 63)) = false) (one : (vs.isEmpty || k == 1) = true) :
    Meets (Builtin.«tuple.__mul__» ⟨[.ref at0, .int k tk0], []⟩) (fun _ R s => s.heap.get? at0 = some { cls := .type "tuple", dict := td, data := .seq vs en, slots := ts } ∧ R (.ok (.ret (Value.ref at0))) s) :=
  .of_wp fun prog w A R s ⟨hat, k1⟩ => by
    obtain ⟨s1, s2, s3, s4, s5⟩ := s
    have ix := AutoSeq1.idx_int
    wp_walk using wpAny_loadPart' hat
    repeat (first
      | (refine wpAny_ite_false (decide_eq_false (by rw [big]; decide)) ?_; wp_walk using wpAny_loadPart' hat)
      | (refine wpAny_ite_true (decide_eq_true one) ?_; wp_walk using wpAny_loadPart' hat))
    all_goals (first | exact ⟨_, rfl, k1⟩ | exact k1 | skip)
theorem rep_none (at0 : Addr) (vs : Array Value) (en : Nat) (td : Option Addr) (ts : Array (Option Value)) (k : Int) (tk0 : Tok)
    (big : (decide (k < -(2 ^ 63)) || decide (k ≥ 2 ^ 63)) = false) (one : (vs.isEmpty || k == 1) = false) (low : (decide (k ≤ 0) || vs.isEmpty) = true) :
    Meets (Builtin.«tuple.__mul__» ⟨[.ref at0, .int k tk0], []⟩) (fun _ R s => s.heap.get? at0 = some { cls := .type "tuple", dict := td, data := .seq vs en, slots := ts } ∧
      R (.ok (.ret (Value.ref s.heap.objs.size))) { s with heap := s.heap.push { cls := Value.type "tuple", data := Data.seq #[] }, toks := s.toks }) :=
  .of_wp fun prog w A R s ⟨hat, k1⟩ => by
    obtain ⟨s1, s2, s3, s4, s5⟩ := s
    have ix := AutoSeq1.idx_int
    wp_walk using wpAny_loadPart' hat
    repeat (first
      | (refine wpAny_ite_false (decide_eq_false (by rw [big]; decide)) ?_; wp_walk using wpAny_loadPart' hat)
      | (refine wpAny_ite_false (decide_eq_false (by rw [one]; decide)) ?_; wp_walk using wpAny_loadPart' hat)
      | (refine wpAny_ite_true (decide_eq_true low) ?_; wp_walk using wpAny_loadPart' hat))
    all_goals (first | exact ⟨_, rfl, k1⟩ | exact k1 | skip)
/-- tuple * k, no new tuple or the empty one -/
def rRepS (K : PySem.W.Frag) : R2 := fun x y H Q => ∃ l k xs, x = .ref l ∧ y = .int k ∧ SqT K H l xs ∧ -1000000 ≤ k ∧ k ≤ 1000000 ∧ (xs = [] ∨ k = 1) ∧ Q (.ref l) H
def rRep0 (K : PySem.W.Frag) : R2 := fun x y H Q => ∃ l k xs, x = .ref l ∧ y = .int k ∧ SqT K H l xs ∧ -1000000 ≤ k ∧ k ≤ 0 ∧ xs ≠ [] ∧ ∀ p, H p = none → Q (.ref p) (upd H p (.tup []))
section
variable {X : Cx}
theorem op_repS : OpR X (binaryOp .Mult) (rRepS X.K) := by
  intro pins s σ H x y v u Q I rx ry h
  obtain ⟨l, k, xs, rfl, rfl, hT, h1, h2, hor, q⟩ := h
  cases rx
  obtain ⟨t, rfl⟩ := ry
  obtain ⟨its, r, ⟨⟨cls, dd, data, sl⟩, ho, hc, n, hd⟩, hs⟩ := I.tuple hT
  simp only at hc hd
  subst hc hd
  have big : (decide (k < -(2 ^ 63)) || decide (k ≥ 2 ^ 63)) = false := by
    rw [Bool.or_eq_false_iff]; exact ⟨decide_eq_false (by omega), decide_eq_false (by omega)⟩
  have one : (its.toArray.isEmpty || k == 1) = true := by
    rcases hor with h | h
    · have : its = [] := List.eq_nil_of_length_eq_zero (by rw [← r.length, h]; rfl)
      rw [this]; rfl
    · rw [h]; simp
  refine wpAny_binaryOp_repeat_ref (T := "tuple") (U := "int") (by decide) ⟨_, ho, rfl⟩ (fun s' => typeIs_int s' k t) noFill_tuple_mul F.fills_int_mul F.slot_int_rmul repeat_tuple F.slot_int_index.lookup ?_
  refine call_meets F.slot_int_rmul (typeIs_int s k t) F.entry_int_rmul (F.args_int_rmul_2 _ _) (int_rmul_tuple k t l its.toArray n dd sl) ⟨ho, rfl, ⟨_, ho, rfl⟩, ?_⟩
  exact call_meets F.slot_tuple_mul ⟨_, ho, rfl⟩ F.entry_tuple_mul (F.args_tuple_mul_2 _ _) (rep_same l its.toArray n dd sl k t big one) ⟨ho, ⟨.ref l, H, I, rfl, q⟩⟩
theorem op_rep0 : OpR X (binaryOp .Mult) (rRep0 X.K) := by
  intro pins s σ H x y v u Q I rx ry h
  obtain ⟨l, k, xs, rfl, rfl, hT, h1, h2, hne, q⟩ := h
  cases rx
  obtain ⟨t, rfl⟩ := ry
  obtain ⟨its, r, ⟨⟨cls, dd, data, sl⟩, ho, hc, n, hd⟩, hs⟩ := I.tuple hT
  simp only at hc hd
  subst hc hd
  have big : (decide (k < -(2 ^ 63)) || decide (k ≥ 2 ^ 63)) = false := by
    rw [Bool.or_eq_false_iff]; exact ⟨decide_eq_false (by omega), decide_eq_false (by omega)⟩
  have one : (its.toArray.isEmpty || k == 1) = false := by
    have hk : (k == 1) = false := beq_eq_false_iff_ne.mpr (by omega)
    cases its with
    | nil => exact absurd (List.eq_nil_of_length_eq_zero (by rw [r.length]; rfl)) hne
    | cons a b => rw [hk]; rfl
  have low : (decide (k ≤ 0) || its.toArray.isEmpty) = true := by rw [decide_eq_true h2]; rfl
  refine wpAny_binaryOp_repeat_ref (T := "tuple") (U := "int") (by decide) ⟨_, ho, rfl⟩ (fun s' => typeIs_int s' k t) noFill_tuple_mul F.fills_int_mul F.slot_int_rmul repeat_tuple F.slot_int_index.lookup ?_
  refine call_meets F.slot_int_rmul (typeIs_int s k t) F.entry_int_rmul (F.args_int_rmul_2 _ _) (int_rmul_tuple k t l its.toArray n dd sl) ⟨ho, rfl, ⟨_, ho, rfl⟩, ?_⟩
  refine call_meets F.slot_tuple_mul ⟨_, ho, rfl⟩ F.entry_tuple_mul (F.args_tuple_mul_2 _ _) (rep_none l its.toArray n dd sl k t big one low) ⟨ho, ?_⟩
  exact ⟨.ref s.heap.objs.size, _, I.laid (t' := s.toks) (o := .tup []) (fun b ob q => Heap.get?_push_of_some _ q) (Nat.le_refl _) ⟨Nat.zero_le _, [], .nil, IsTup.new _ _⟩, rfl, q _ (I.hok.fresh (Nat.le_refl _))⟩
def dMulN : D → D → Option Sv
  | .tuple ds, .int k => if decide (-1000000 ≤ k ∧ k ≤ 1000000) = true then (if (ds.isEmpty || k == 1) = true then some (.imm (.tuple ds)) else if decide (k ≤ 0) = true then some (.imm (.tuple [])) else dMulT (.tuple ds) (.int k)) else none
  | a, b => dMul a b
abbrev rMulN (K : PySem.W.Frag) : R2 := fun x y H Q => (rMul x y H Q ∨ rRepT K x y H Q) ∨ rRepS K x y H Q ∨ rRep0 K x y H Q
theorem op_mulN : OpR X (binaryOp .Mult) (rMulN X.K) := op_mulT.or (op_repS.or op_rep0)
theorem os_mulN : OpS X (rMulN X.K) dMulN := by
  intro H M O π ρ σ v1 v2 d1 d2 res Q h r1 r2 e q
  unfold dMulN at e
  split at e
  · rename_i ds k
    split at e
    · rename_i hz
      have hz := of_decide_eq_true hz
      obtain ⟨a, vs, hv, rd, rs⟩ := r1.inT
      split at e
      · rename_i h1
        cases e
        have hr : Rep X.K H M v1 (.tuple ds) := r1
        cases r2.inI
        subst hv
        refine .inr (.inl ⟨a, k, vs, rfl, rfl, rd.sq, hz.1, hz.2, ?_, ?_⟩)
        · rw [Bool.or_eq_true] at h1
          rcases h1 with h1 | h1
          · exact .inl (List.eq_nil_of_length_eq_zero (by rw [rs.length, List.isEmpty_iff.mp h1]; rfl))
          · exact .inr (beq_iff_eq.mp h1)
        · exact Post.now q h hr
      · rename_i h1
        split at e
        · rename_i h2
          cases e
          cases r2.inI
          subst hv
          refine .inr (.inr ⟨a, k, vs, rfl, rfl, rd.sq, hz.1, of_decide_eq_true h2, fun z => h1 ?_, fun p hp => Post.tup q h .nil hp⟩)
          have hl := rs.length
          rw [z] at hl
          rw [List.length_eq_zero_iff.mp hl.symm]; rfl
        · exact .inl (os_mulT h r1 r2 e q)
    · cases e
  · exact .inl (.inl (os_mul h r1 r2 e q))
end
end Vi

namespace Vi
open PySem PySem.Spec PyProof.Rows L2
section
variable {X : Cx}
/-! ### max(a list of data) -/
def rMaxDL (K : PySem.W.Frag) : List V → Hp → VK → Prop := fun vs H Q => ∃ (a : Addr) (xs : List V) (d : D) (ds : List D), vs = [.ref a] ∧ SqL K H a xs ∧ DpAll K H xs (d :: ds) ∧ minOk (d :: ds) = true ∧ ∀ (i : Nat) (x : V), xs[i]? = some x → (d :: ds)[i]? = some (W.maxD d ds) → Q x H
theorem cr_maxDL (hc : X.calm = true) (hu : X.A.units + 70 < cLine) : CallR X (.builtin "max") (rMaxDL X.K) := by
  intro pins s σ H vs us Q I r h
  obtain ⟨a, xs, d, ds, rfl, hsq, hdp, hok, q⟩ := h
  rw [Vals.ref1 r]
  obtain ⟨its, rv, pl, hz⟩ := I.list hsq
  obtain ⟨as, hr⟩ := Dp.readsAll I (d :: ds) xs its hdp rv
  have hdep := minOk_dep hok
  refine W.max_list_data (I.ok.hd hc) pl.isList (show ReadsAll s.heap its.toArray.toList (d :: ds) as by simpa using hr) (minOk_al hok) (by omega) fun i v h' tk bs hv rd kp => ?_
  have hv' : its[i]? = some v := by simpa using hv
  obtain ⟨e, bs2, he, re⟩ := readsAll_i hr hv'
  have e1 := (Reads.unique (Reads.keeps kp re) _ _ rd).1
  subst e1
  have hl := rv.length
  have hi : i < xs.length := by
    have := (List.getElem?_eq_some_iff.mp hv').1
    omega
  obtain ⟨w, ew, rw'⟩ := rv.get (List.getElem?_eq_getElem hi)
  rw [hv'] at ew; cases ew
  exact ⟨_, H, I.kept (t' := tk) kp, rw', q i _ (List.getElem?_eq_getElem hi) he⟩
def dMaxL : D → Option Sv
  | .list (d :: ds) => if minOk (d :: ds) = true then some (.imm (W.maxD d ds)) else none
  | _ => none
theorem us_maxL : UnS X (fun v H Q => rMaxDL X.K [v] H Q) dMaxL := by
  intro H M O π ρ σ v1 d1 res Q h r1 e q
  unfold dMaxL at e
  split at e
  · split at e
    · rename_i hz
      cases e
      obtain ⟨a, vs, rfl, rd, rs⟩ := r1.inL
      refine ⟨a, vs, _, _, rfl, .inl rd, rs.dp (minOk_lay hz), hz, fun i x hx hd => ?_⟩
      obtain ⟨y, hy, ry⟩ := rs.get hd
      rw [hx] at hy; cases hy
      exact Post.now q h ry
    · cases e
  · cases e
end
end Vi

namespace Vi
open PySem PySem.Spec PyProof.Rows L2
/-! a name's own list, looked at and given back -/
def atomD : D → Bool
  | .none | .bool _ | .int _ | .str _ => true
  | _ => false
section
variable {K : PySem.W.Frag} {H H' : Hp} {M M' O : Mset} {π : Nat → Option Addr} {ρ ρ' : Fm} {σ : St} {v : V} {d : D}
theorem atom_rep (h : Rep K H M v d) (a : atomD d = true) : Rep K H' M' v d := by
  cases h with
  | non => exact .non
  | bl b => exact .bl b
  | int i => exact .int i
  | str x => exact .str x
  | lst _ _ _ => cases a
  | tup _ _ => cases a
  | scr _ _ => cases a
theorem atom_reps : ∀ {vs : List V} {ds : List D}, Reps K H M vs ds → ds.all atomD = true → Reps K H' M' vs ds
  | _, _, .nil, _ => .nil
  | _, _, .cons h r, a => by
    rw [List.all_cons, Bool.and_eq_true] at a
    exact .cons (atom_rep h a.1) (atom_reps r a.2)
def keep1 : Option Sv → Option Sv → Option Sv
  | some (.imm d), _ => some (.imm d)
  | some (.own _ _), some (.own b ds) => if ds.all atomD = true then some (.own b ds) else none
  | _, _ => none
def keepF (i : Nat) (ds : List D) (ρ ρ' : Fm) : Fm := (List.zipWith keep1 ρ ρ').set i (some (.own false ds))
theorem keepF_at {i j : Nat} {ds : List D} {s : Sv} (h : (keepF i ds ρ ρ')[j]? = some (some s)) : (j = i ∧ s = .own false ds) ∨ (j ≠ i ∧ ∃ x y, ρ[j]? = some x ∧ ρ'[j]? = some y ∧ keep1 x y = some s) := by
  unfold keepF at h
  rcases get_set h with ⟨h1, h2⟩ | ⟨h1, h2⟩
  · cases h2; exact .inl ⟨h1, rfl⟩
  · rw [List.getElem?_zipWith] at h2
    refine .inr ⟨h1, ?_⟩
    cases ex : ρ[j]? with
    | none => rw [ex] at h2; cases h2
    | some x =>
      cases ey : ρ'[j]? with
      | none => rw [ex, ey] at h2; cases h2
      | some y =>
        rw [ex, ey] at h2
        exact ⟨x, y, rfl, rfl, by injection h2⟩
theorem keep1_imm {x y : Option Sv} {d : D} (h : keep1 x y = some (.imm d)) : x = some (.imm d) := by
  match x, y, h with
  | some (.imm e), _, h => unfold keep1 at h; exact h
  | some (.own _ _), some (.own b ds), h => unfold keep1 at h; simp only at h; split at h <;> cases h
  | some (.own _ _), some (.imm _), h => unfold keep1 at h; cases h
  | some (.own _ _), none, h => unfold keep1 at h; cases h
  | none, _, h => unfold keep1 at h; cases h
theorem keep1_own {x y : Option Sv} {b : Bool} {ds : List D} (h : keep1 x y = some (.own b ds)) : y = some (.own b ds) ∧ ds.all atomD = true := by
  match x, y, h with
  | some (.imm e), _, h => unfold keep1 at h; cases h
  | some (.own _ _), some (.own c es), h =>
    unfold keep1 at h
    simp only at h
    split at h
    · cases h; exact ⟨rfl, by assumption⟩
    · cases h
  | some (.own _ _), some (.imm _), h => unfold keep1 at h; cases h
  | some (.own _ _), none, h => unfold keep1 at h; cases h
  | none, _, h => unfold keep1 at h; cases h
def mKeep (i : Nat) (me : ME) : ME := fun ρ => match ρ[i]? with
  | some (some (.own false ds)) => match me (ρ.set i (some (.imm (.list ds)))) with
    | some (.val (.imm d), ρ') => if (atomD d && decide (ρ'.length = ρ.length)) = true then some (.val (.imm d), keepF i ds ρ ρ') else none
    | _ => none
  | _ => none
theorem tE_keep {i : Nat} {me : ME} {Q : VK} (h : tE K (mKeep i me) σ H Q) : tE K me σ H Q := by
  obtain ⟨ρ, M, O, π, pr, ρ2, hs, e, q⟩ := h
  unfold mKeep at e
  split at e
  · rename_i ds hi
    obtain ⟨a, vl, f1, f2, f3, f4, f5, _⟩ := hs.own i _ ds hi
    have hz := hs.freeze hi f1 f2 f5 f4
    split at e
    · rename_i d ρ' em
      split at e
      · rename_i hc
        rw [Bool.and_eq_true, decide_eq_true_eq] at hc
        cases e
        refine ⟨_, wo M a, O, π, _, ρ', hz, em, fun v H' M' x s r => ?_⟩
        have t : ∀ y u, Rd H y u → ¬ M y → Rd H' y u ∧ ¬ wth M' a y := fun y u h1 h2 => by
          obtain ⟨h3, h4⟩ := x.tr y u h1 fun z => h2 z.1
          exact ⟨h3, fun z => z.elim h4 fun z => h2 (z ▸ f3)⟩
        have ha : H' a = some (.lst vl) := x.keep a _ f2 (.inr fun z => z.2 rfl)
        have hn : ¬ M' a := (x.tr a _ (.inl f2) fun z => z.2 rfl).2
        refine q v H' (wth M' a) ⟨fun y o h1 h2 => x.keep y o h1 (h2.imp id fun h3 z => h3 z.1), fun y h1 => .inl (x.sub y h1), fun y h1 => ?_⟩ ?_ (atom_rep r hc.1)
        · rcases h1 with h1 | rfl
          · exact (x.new y h1).imp (fun z => z.1) id
          · exact .inl f3
        · have hl : (keepF i ds ρ ρ').length = ρ.length := by
            unfold keepF
            rw [List.length_set, List.length_zipWith, hc.2, Nat.min_self]
          refine ⟨hl.trans hs.len, fun y h1 => .inl (s.sub y h1), fun y h1 => ?_, fun j d' h1 => ?_, fun j b es h1 => ?_, fun j k b c es gs y hjk h1 h2 h3 h4 => ?_⟩
          · rcases h1 with h1 | rfl
            · exact s.live y h1
            · rw [ha]; intro z; cases z
          · rcases keepF_at h1 with ⟨_, z⟩ | ⟨_, u, w, k1, _, k3⟩
            · cases z
            · obtain ⟨v', g1, g2⟩ := hs.imm j d' (by rw [k1, keep1_imm k3])
              exact ⟨v', g1, g2.tr t⟩
          · rcases keepF_at h1 with ⟨rfl, z⟩ | ⟨_, u, w, _, k2, k3⟩
            · cases z
              exact ⟨a, vl, f1, ha, .inr rfl, f4, f5.tr t, fun z => by cases z⟩
            · obtain ⟨k4, k5⟩ := keep1_own k3
              obtain ⟨y, ws, g1, g2, g3, g4, g5, g6⟩ := s.own j b es (by rw [k2, k4])
              exact ⟨y, ws, g1, g2, .inl g3, g4, atom_reps g5 k5, g6⟩
          · rcases keepF_at h1 with ⟨rfl, _⟩ | ⟨n1, u, w, _, k2, k3⟩
            · rcases keepF_at h2 with ⟨rfl, _⟩ | ⟨_, u', w', _, k2', k3'⟩
              · exact hjk rfl
              · obtain ⟨y', ws, g1, g2, g3, _⟩ := s.own k c gs (by rw [k2', (keep1_own k3').1])
                rw [h4] at g1; cases g1
                rw [f1] at h3; cases h3
                exact hn g3
            · obtain ⟨y', ws, g1, g2, g3, _⟩ := s.own j b es (by rw [k2, (keep1_own k3).1])
              rcases keepF_at h2 with ⟨rfl, _⟩ | ⟨_, u', w', _, k2', k3'⟩
              · rw [h3] at g1; cases g1
                rw [f1] at h4; cases h4
                exact hn g3
              · exact s.uniq j k b c es gs y hjk (by rw [k2, (keep1_own k3).1]) (by rw [k2', (keep1_own k3').1]) h3 h4
      · cases e
    · cases e
  · cases e
def mFz (i : Nat) (me : ME) : ME := fun ρ => match frz ρ (.slot i) with
  | some (_, ρ1) => me ρ1
  | none => none
theorem tE_fz {i : Nat} {me : ME} {Q : VK} (h : tE K (mFz i me) σ H Q) : tE K me σ H Q := by
  obtain ⟨ρ, M, O, π, pr, ρ2, hs, e, q⟩ := h
  unfold mFz at e
  split at e
  · rename_i d ρ1 hf
    have : ∃ v, σ[i]? = some (some v) := by
      unfold frz at hf
      simp only at hf
      split at hf
      · rename_i d' hd; exact hs.at hd
      · rename_i ds hd; exact hs.at hd
      · cases hf
    obtain ⟨v, hv⟩ := this
    obtain ⟨M', x, s, _⟩ := frz_ok hs (pr := .slot i) (v := v) hv hf
    exact ⟨ρ1, M', O, π, pr, ρ2, s, e, fun v2 H2 M2 x2 s2 r2 => q v2 H2 M2 (x.trans x2) s2 r2⟩
  · cases e
end
theorem de_keep {X : Cx} {e : Expr} {i : Nat} {me : ME} (h : DE X e me) : DE X e (mKeep i me) := PE.imp h fun _ _ _ q => tE_keep q
theorem de_fz {X : Cx} {e : Expr} {i : Nat} {me : ME} (h : DE X e me) : DE X e (mFz i me) := PE.imp h fun _ _ _ q => tE_fz q
end Vi

namespace Vi
open PySem PySem.Spec PyProof.Rows L2
/-! << and two comparisons in a row -/
def dShl : D → D → Option Sv
  | .int i, .int j => if powOk i j = true then some (.imm (.int (i * 2 ^ j.toNat))) else none
  | _, _ => none
theorem os_shl {X : Cx} : OpS X (rI CPow fun i j => .int (i * 2 ^ j.toNat)) dShl := by
  intro H M O π ρ σ v1 v2 d1 d2 res Q h r1 r2 e q
  unfold dShl at e
  split at e
  · split at e
    · rename_i hz
      cases e
      cases r1.inI; cases r2.inI
      unfold powOk at hz
      have hz' := of_decide_eq_true hz
      exact ⟨_, _, rfl, rfl, hz', Post.now q h (.int _)⟩
    · cases e
  · cases e
def mChain (f g : D → D → Option Sv) (ma mb mc : ME) : ME := fun ρ => match ma ρ with
  | some (.val (.imm a), ρ1) => match mb ρ1 with
    | some (.val (.imm b), ρ2) => match f a b with
      | some (.imm (.bool true)) => match mc ρ2 with
        | some (.val (.imm c), ρ3) => match g b c with
          | some r => some (.val r, ρ3)
          | none => none
        | _ => none
      | some (.imm (.bool false)) => some (.val (.imm (.bool false)), ρ2)
      | _ => none
    | _ => none
  | _ => none
theorem tE_chain {X : Cx} {f g : D → D → Option Sv} {r r' : R2} (hf : OpS X r f) (hg : OpS X r' g) {ma mb mc : ME} {σ : St} {H : Hp} {Q : VK} (h : tE X.K (mChain f g ma mb mc) σ H Q) : tChain r r' (tE X.K ma) (tE X.K mb) (tE X.K mc) σ H Q := by
  obtain ⟨ρ, M, O, π, pr, ρ', h0, e, q⟩ := h
  unfold mChain at e
  split at e
  · rename_i a ρ1 ea
    split at e
    · rename_i b ρ2 eb
      refine ⟨ρ, M, O, π, _, ρ1, h0, ea, fun v1 H1 M1 x1 s1 r1 => ?_⟩
      refine ⟨ρ1, M1, O, π, _, ρ2, s1, eb, fun v2 H2 M2 x2 s2 r2 => ?_⟩
      have r1' : Rep X.K H2 M2 v1 a := Rep.tr x2.tr r1
      split at e
      · rename_i ef
        refine hf s2 (.of r1') (.of r2) ef fun z H3 M3 x3 s3 r3 => ?_
        have r3' : Rep X.K H3 M3 z (.bool true) := r3
        cases r3'
        refine ⟨true, rfl, ?_⟩
        split at e
        · rename_i c ρ3 ec
          split at e
          · rename_i res eg
            cases e
            rw [if_pos rfl]
            refine ⟨ρ2, M3, O, π, _, _, s3, ec, fun v4 H4 M4 x4 s4 r4 => ?_⟩
            have r2' : Rep X.K H4 M4 v2 b := Rep.tr x4.tr (Rep.tr x3.tr r2)
            exact hg s4 (.of r2') (.of r4) eg fun v5 H5 M5 x5 s5 r5 => q v5 H5 M5 ((((x1.trans x2).trans x3).trans x4).trans x5) s5 r5
          · cases e
        · cases e
      · rename_i ef
        cases e
        refine hf s2 (.of r1') (.of r2) ef fun z H3 M3 x3 s3 r3 => ?_
        have r3' : Rep X.K H3 M3 z (.bool false) := r3
        cases r3'
        refine ⟨false, rfl, ?_⟩
        rw [if_neg (by decide)]
        exact q _ H3 M3 ((x1.trans x2).trans x3) s3 (.bl false)
      · cases e
    · cases e
  · cases e
theorem de_chain {X : Cx} {a b c : Expr} {ma mb mc : ME} {pos : Pos} {op op' : CmpOp} {r r' : R2} {f g : D → D → Option Sv} (ho : OpR X (compareOp op) r) (hs : OpS X r f) (ho' : OpR X (compareOp op') r') (hs' : OpS X r' g) (ha : DE X a ma) (hb : DE X b mb) (hc : DE X c mc)
    (hm : lastMarks [op, op'] [b, c] = false := by with_unfolding_all rfl) : DE X (.Compare a [op, op'] [b, c] pos) (mChain f g ma mb mc) :=
  PE.imp (pe_chain ho ho' ha hb hc hm) fun _ _ _ q => tE_chain hs hs' q
end Vi

namespace L2
open PySem PySem.Spec PyProof.Rows
section
variable {P : Program} {w : World} {A : Around} {E : Value → Shared → Prop} {s : Shared}
abbrev bare (w : World) : Obj := { cls := .type "set", dict := none, data := .set #[] 0 (.fresh 0 0 (!w.params.followText "set-order")) }
/-- what __init__ of a new set leaves, handed a list -/
def Filled (w : World) (s : Shared) (ns : List Int) (r : Value) (s2 : Shared) : Prop :=
  r = .none ∧ ∃ h' tk c, s2 = { s with heap := h', toks := tk } ∧ SetR w h' s.heap.objs.size (fun j => decide (j ∈ ns)) c ∧ c ≤ ns.length ∧ ∀ b o, s.heap.get? b = some o → h'.get? b = some o
theorem filled_list {l : Addr} {items : Array Value} {ns : List Int} (hA : A.handled = none) (hl : s.heap.IsList l items) (hi : IntsAre items.toList ns) (hb : ns.length + 1 < scanBound) :
    codeAny (model P w) A (.call (.builtin "set.__init__") ⟨[.ref s.heap.objs.size, .ref l], []⟩) (wants (Filled w s ns) E) { s with heap := s.heap.push (bare w) } := by
  have top : (s.heap.push (bare w)).get? s.heap.objs.size = some (bare w) := Heap.get?_push_size _ rfl
  have ty : Shared.TypeIs { s with heap := s.heap.push (bare w) } (.ref s.heap.objs.size) "set" := ⟨_, top, rfl⟩
  refine codeAny_call_builtin F.called_set.init.plain F.entry_set_init (check_set_init_1 ty ?_)
  obtain ⟨⟨k, dd, dt, sl⟩, at_l, e1, m, e2⟩ := hl
  simp only at e1 e2
  subst e1 e2
  have at_l' := Heap.get?_push_of_some (bare w) at_l
  have n1 := F.sub_list_set
  have n2 := F.sub_list_frozenset
  have n3 : (Value.type "list" == Value.type "dict") = false := by decide
  unfold Builtin.«set.__init__» noKeywords Builtin.Frozenset.updateFrom
  generalize hit : pyIter = it
  wp_walk
  subst hit
  have size : items.size = ns.length := by
    have z := IntsAre.length hi
    rwa [Array.length_toList] at z
  have isL : (s.heap.push (bare w)).IsList l items := ⟨_, at_l', rfl, m, rfl⟩
  have lt := Heap.lt_size at_l
  have grow : (s.heap.push (bare w)).objs.size = s.heap.objs.size + 1 := Heap.size_push ..
  apply wpAny_pyIter_list isL
  apply wpAny_bind
  apply wpAny_runValue
  have val : ∀ (i : Nat) (v : Value), items[i]? = some v → ∃ k t, ns[i]? = some k ∧ v = .int k t := by
    intro i v hv
    have hlt : i < ns.length := by rw [← size]; exact (Array.getElem?_eq_some_iff.mp hv).1
    obtain ⟨t, e⟩ := IntsAre.int_at hi i v (by rw [Array.getElem?_toList]; exact hv)
    have hk := List.getElem?_eq_getElem hlt
    rw [List.getD_eq_getElem?_getD, hk] at e
    exact ⟨_, t, hk, e⟩
  have apart : l ≠ (s.heap.push (bare w)).objs.size := by
    rw [grow]; exact Nat.ne_of_lt (Nat.lt_succ_of_lt lt)
  have off : s.heap.objs.size ∉ [(s.heap.push (bare w)).objs.size, l] := by
    intro z
    rcases List.mem_cons.mp z with z | z
    · rw [grow] at z; exact Nat.ne_of_lt (Nat.lt_succ_self _) z
    · exact Nat.ne_of_lt lt (List.mem_singleton.mp z).symm
  have W := (Walks.list (prog := P) (w := w) (A := A.in1.in1) (by simp [hA]) _ l apart items).toS
  have empty : ((s.heap.push (bare w)).push { cls := .type "list_iterator", data := .fields #[.ref l, .int 0 0] }).get? s.heap.objs.size = some (bare w) := Heap.get?_push_of_some _ top
  refine set_update_ints W s.heap.objs.size off ns size hb val items.size 0 _ (by simp) (Nat.zero_le _) ⟨⟨_, Heap.get?_push_size _ rfl, rfl, rfl⟩, isL.push _⟩ ⟨0, Nat.le_refl 0, setR_new_at empty⟩ ?_
  intro s3 n mv le set
  obtain ⟨h3, g3, d3, t3, o3⟩ := s3
  have same : g3 = s.gens ∧ d3 = s.drawn ∧ o3 = s.os := ⟨mv.gens, mv.drawn, mv.os⟩
  obtain ⟨rfl, rfl, rfl⟩ := same
  rw [size] at le
  apply wpAny_pure
  apply wpAny_pure
  refine ⟨rfl, h3, t3, n, rfl, set, le, fun b o e => ?_⟩
  have low := Heap.lt_size e
  refine mv.heap b o (fun z => ?_) (Heap.get?_push_of_some _ (Heap.get?_push_of_some _ e))
  rcases List.mem_cons.mp z with z | z
  · exact Nat.ne_of_lt low z
  · have z2 := List.mem_singleton.mp z
    rw [z2] at low
    change (s.heap.push (bare w)).objs.size < _ at low
    rw [grow] at low
    exact Nat.lt_irrefl _ (Nat.lt_trans (Nat.lt_succ_self _) low)
theorem set_of_list {l : Addr} {items : Array Value} {ns : List Int} {Q : Value → Shared → Prop} (hA : A.handled = none) (hl : s.heap.IsList l items) (hi : IntsAre items.toList ns) (hb : ns.length + 1 < scanBound)
    (h : ∀ r s2, Filled w s ns r s2 → Q (.ref s.heap.objs.size) s2) : wpAny (model P w) A (call (.type "set") [.ref l]) Q E s := by
  have made := F.called_set.made
  have sub := F.called_set.sub
  have one := F.called_set.notType
  have two := F.called_set.canCreate
  have arg := F.typeCall_set_1 (.ref l)
  have lk := F.called_set.init.lookup
  have bd := F.called_set.init.bind (.ref s.heap.objs.size)
  obtain ⟨c, tl, mro⟩ := F.called_set.mro
  wp_walk
  apply codeAny_of_tree
  change wpAny _ _ (callAny (Value.type "set") ⟨[Value.ref l], []⟩) _ _ s
  apply wpAny_pure
  refine ⟨Code.quiet_builtin _ (by decide +kernel), ?_⟩
  apply codeAny_builtin F.entry_type_call
  rw [Around.under_plain (weight_type_call_type "set" _ []) rfl]
  have top : (s.heap.push (bare w)).get? s.heap.objs.size = some (bare w) := Heap.get?_push_size _ rfl
  have ty : Shared.TypeIs { s with heap := s.heap.push (bare w) } (.ref s.heap.objs.size) "set" := ⟨_, top, rfl⟩
  repeat (any_goals (first | wp_step | assumption))
  refine codeAny_mono (code_set_led1 (.ref l) (Q₁ := fun x s1 => x = .ref s.heap.objs.size ∧ s1 = { s with heap := s.heap.push (bare w) }) (E := E) ⟨rfl, rfl⟩) ?_
  intro r s1 hr
  match r, hr with
  | .error e, hr => exact hr
  | .ok (.ret x), hr =>
    obtain ⟨rfl, rfl⟩ := hr
    repeat (any_goals (first | wp_step | assumption))
    refine codeAny_mono (filled_list (E := E) (by simp [hA]) hl hi hb) ?_
    intro r s2 hr
    match r, hr with
    | .error e, hr => exact hr
    | .ok (.ret y), hr =>
      have hf := h y s2 hr
      obtain ⟨rfl, h2, tk, n, rfl, hset, hn, keep⟩ := hr
      repeat (any_goals (first | wp_step | assumption))
end
end L2
namespace Vi
open PySem PySem.Spec PyProof.Rows L2
/-! sorted(set(x)) of a list of whole numbers -/
def insI (x : Int) : List Int → List Int
  | [] => [x]
  | y :: ys => if x < y then x :: y :: ys else if x = y then y :: ys else y :: insI x ys
def setI (ns : List Int) : List Int := ns.foldr insI []
theorem insI_mem {x y : Int} : ∀ {l : List Int}, y ∈ insI x l ↔ y = x ∨ y ∈ l
  | [] => by simp [insI]
  | z :: l => by
    unfold insI
    split
    · simp
    · split
      · rename_i e
        subst e
        simp
      · rw [List.mem_cons, insI_mem (l := l), List.mem_cons]
        constructor
        · rintro (h | h | h)
          · exact .inr (.inl h)
          · exact .inl h
          · exact .inr (.inr h)
        · rintro (h | h | h)
          · exact .inr (.inl h)
          · exact .inl h
          · exact .inr (.inr h)
theorem insI_asc {x : Int} : ∀ {l : List Int}, l.Pairwise (· < ·) → (insI x l).Pairwise (· < ·)
  | [], _ => List.pairwise_singleton ..
  | z :: l, h => by
    obtain ⟨h1, h2⟩ := List.pairwise_cons.mp h
    unfold insI
    split
    · rename_i c
      refine List.pairwise_cons.mpr ⟨fun y hy => ?_, h⟩
      rcases List.mem_cons.mp hy with rfl | hy
      · exact c
      · exact Int.lt_trans c (h1 y hy)
    · split
      · exact h
      · refine List.pairwise_cons.mpr ⟨fun y hy => ?_, insI_asc h2⟩
        rcases insI_mem.mp hy with rfl | hy
        · omega
        · exact h1 y hy
theorem setI_mem {y : Int} : ∀ {ns : List Int}, y ∈ setI ns ↔ y ∈ ns
  | [] => Iff.rfl
  | x :: ns => by
    show y ∈ insI x (setI ns) ↔ _
    rw [insI_mem, setI_mem (ns := ns), List.mem_cons]
theorem setI_asc : ∀ ns : List Int, (setI ns).Pairwise (· < ·)
  | [] => List.Pairwise.nil
  | x :: ns => insI_asc (setI_asc ns)
theorem ascI_eq : ∀ {l m : List Int}, l.Pairwise (· < ·) → m.Pairwise (· < ·) → (∀ k, k ∈ l ↔ k ∈ m) → l = m
  | [], [], _, _, _ => rfl
  | [], y :: m, _, _, h => absurd ((h y).mpr (List.mem_cons_self ..)) List.not_mem_nil
  | x :: l, [], _, _, h => absurd ((h x).mp (List.mem_cons_self ..)) List.not_mem_nil
  | x :: l, y :: m, h1, h2, h => by
    obtain ⟨a1, a2⟩ := List.pairwise_cons.mp h1
    obtain ⟨b1, b2⟩ := List.pairwise_cons.mp h2
    have e : x = y := by
      rcases List.mem_cons.mp ((h x).mp (List.mem_cons_self ..)) with e | e
      · exact e
      · rcases List.mem_cons.mp ((h y).mpr (List.mem_cons_self ..)) with f | f
        · exact f.symm
        · have := a1 y f; have := b1 x e; omega
    subst e
    rw [ascI_eq a2 b2 fun k => ?_]
    constructor
    · intro hk
      rcases List.mem_cons.mp ((h k).mp (List.mem_cons_of_mem _ hk)) with rfl | z
      · have := a1 k hk; omega
      · exact z
    · intro hk
      rcases List.mem_cons.mp ((h k).mpr (List.mem_cons_of_mem _ hk)) with rfl | z
      · have := b1 k hk; omega
      · exact z
def intsOf2 : List D → Option (List Int)
  | [] => some []
  | .int i :: ds => match intsOf2 ds with
    | some ns => some (i :: ns)
    | none => none
  | _ => none
theorem ints_of_eq2 : ∀ {ds : List D} {ns : List Int}, intsOf2 ds = some ns → ds = ns.map .int
  | [], ns, h => by cases h; rfl
  | .int i :: ds, ns, h => by
    unfold intsOf2 at h
    split at h
    · rename_i ms e
      cases h
      rw [ints_of_eq2 e]; rfl
    · cases h
def dSortSetI : D → Option Sv
  | .list ds => match intsOf2 ds with
    | some ns => if decide (ns.length < 63) = true then some (.own false ((setI ns).map .int)) else none
    | none => none
  | _ => none
section
variable {X : Cx}
def rSetI (K : PySem.W.Frag) (w : World) : List V → Hp → VK → Prop := fun xs H Q => ∃ (l : Addr) (ns : List Int), xs = [V.ref l] ∧ SqL K H l (ns.map V.int) ∧ ns.length < 63 ∧
  ∀ a c, H a = none → c ≤ ns.length → Q (.ref a) (upd H a (SetO w a (fun j => decide (j ∈ ns)) c))
theorem cr_setI (hc : X.calm = true) : CallR X (.type "set") (rSetI X.K X.w) := by
  intro pins s σ H xs us Q I r h
  obtain ⟨l, ns, rfl, hl, hf, q⟩ := h
  rw [Vals.ref1 r]
  obtain ⟨its, rv, pl, hz⟩ := I.list hl
  have hn : H s.heap.objs.size = none := I.hok.fresh (Nat.le_refl _)
  refine set_of_list (ns := ns) (I.ok.hd hc) pl.isList (by simpa using rv.ints) (by unfold scanBound; omega) fun r s2 f => ?_
  obtain ⟨_, h', tk, c, rfl, R, hcn, k⟩ := f
  exact ⟨.ref s.heap.objs.size, upd H s.heap.objs.size (SetO X.w s.heap.objs.size (fun j => decide (j ∈ ns)) c), I.laid (t' := tk) k (Nat.le_refl _) (setO_new R), rfl, q _ c hn hcn⟩
theorem reps_ints2 {K : PySem.W.Frag} {H : Hp} {M : Mset} : ∀ {ns : List Int} {vs : List V}, Reps K H M vs (ns.map .int) → vs = ns.map V.int
  | [], _, .nil => rfl
  | n :: ns, _, .cons h r => by
    cases h
    rw [reps_ints2 r]; rfl
theorem ints_reps2 {K : PySem.W.Frag} {H : Hp} {M : Mset} : ∀ ns : List Int, Reps K H M (ns.map V.int) (ns.map .int)
  | [] => .nil
  | n :: ns => .cons (.int n) (ints_reps2 ns)
def rSSI (X : Cx) : V → Hp → VK → Prop := fun v H Q => rSetI X.K X.w [v] H fun y H1 => rSortedSet X.w [y] H1 Q
theorem us_sortsetI : UnS X (rSSI X) dSortSetI := by
  intro H M O π ρ σ v1 d1 res Q h r1 e q
  unfold dSortSetI at e
  split at e
  · rename_i ds
    split at e
    · rename_i ns hns
      split at e
      · rename_i hlen
        cases e
        have hlen := of_decide_eq_true hlen
        obtain ⟨a, vs, rfl, rd, rs⟩ := r1.inL
        have hds := ints_of_eq2 hns
        subst hds
        have hv := reps_ints2 rs
        subst hv
        refine ⟨a, ns, rfl, .inl rd, hlen, fun b c hbn hcn => ?_⟩
        have h2 := h.alloc (o := SetO X.w b (fun j => decide (j ∈ ns)) c) hbn
        refine ⟨b, _, c, rfl, upd_same, by omega, fun ms p asc mem _ hp => ?_⟩
        have e : ms = setI ns := ascI_eq asc (setI_asc ns) fun k => by rw [mem, decide_eq_true_eq, setI_mem]
        rw [e]
        have q2 : Post X.K (upd H b (SetO X.w b (fun j => decide (j ∈ ns)) c)) M O π ρ σ (.own false ((setI ns).map .int)) Q := fun v H' M' x s r => q v H' M' ((Ext.alloc h (o := SetO X.w b (fun j => decide (j ∈ ns)) c) hbn).trans x) s r
        exact q2.lst h2 (ints_reps2 _) hp
      · cases e
    · cases e
  · cases e
variable {a : Expr} {ma : ME}
theorem de_sortsetI {x y : Str} {p1 p2 pos1 pos2 : Pos} {f : D → Option Sv} (hcS : CallR X (.type "set") (rSetI X.K X.w)) (hcT : CallR X (.builtin "sorted") (rSortedSet X.w)) (hs : UnS X (rSSI X) f)
    (hg1 : Gl X x) (hm1 : X.mg x = none) (hv1 : bootBuiltins x = some (.builtin "sorted")) (hg2 : Gl X y) (hm2 : X.mg y = none) (hv2 : bootBuiltins y = some (.type "set")) (ha : DE X a ma)
    (hn1 : x ≠ "__name__" := by decide) (hd1 : (x == ("__debug__" : Str)) = false := by decide) (hn2 : y ≠ "__name__" := by decide) (hd2 : (y == ("__debug__" : Str)) = false := by decide)
    (he2 : starEach (a :: []) X.env = (false, eval a X.env) :: starEach [] X.env := by rfl) (hpl2 : (PySem.backTo pos2 (starEach [] X.env)).any (·.1) = false := by rfl)
    (he1 : starEach (.Call (.Name y p2) [a] [] pos2 :: []) X.env = (false, eval (.Call (.Name y p2) [a] [] pos2) X.env) :: starEach [] X.env := by rfl) (hpl1 : (PySem.backTo pos1 (starEach [] X.env)).any (·.1) = false := by rfl) :
    DE X (.Call (.Name x p1) [.Call (.Name y p2) [a] [] pos2] [] pos1) (un f ma) :=
  PE.imp (pe_callB hcT hg1 hm1 hv1 (pa_cons (pe_callTy hcS hg2 hm2 hv2 (pa_cons ha pa_nil he2) hn2 hd2 he2 hpl2) pa_nil he1) hn1 hd1 he1 hpl1) fun σ H Q h => tE_un hs h
end
end Vi

namespace Vi
open PySem PySem.Spec PyProof.Rows L2
section
variable {X : Cx}
def rLcm : List V → Hp → VK → Prop := fun vs H Q => ∃ a b : Int, vs = [.int a, .int b] ∧ a.natAbs < 2 ^ 64 ∧ b.natAbs < 2 ^ 64 ∧ Q (.int ((a.natAbs.lcm b.natAbs : Nat) : Int)) H
theorem cr_lcm : CallR X (.builtin "math.lcm") rLcm := by
  intro pins s σ H vs us Q I r h
  obtain ⟨a, b, rfl, ha, hb, q⟩ := h
  obtain ⟨t, u, rfl⟩ := Vals.int2 r
  exact PySem.W.mc_lcm ha hb fun _ => ⟨.int _, H, I.tok _, ⟨_, rfl⟩, q⟩
def dLcm : List D → Option Sv
  | [.int i, .int j] => if decide (i.natAbs < 2 ^ 64 ∧ j.natAbs < 2 ^ 64) = true then some (.imm (.int ((i.natAbs.lcm j.natAbs : Nat) : Int))) else none
  | _ => none
theorem as_lcm : AS X rLcm dLcm := by
  intro H M O π ρ σ vs ds res Q h r e q
  unfold dLcm at e
  split at e
  · split at e
    · rename_i hz
      have hz := of_decide_eq_true hz
      cases e
      cases r with
      | cons r1 r2 => cases r2 with
        | cons r2 r3 =>
          cases r3; cases r1; cases r2
          exact ⟨_, _, rfl, hz.1, hz.2, Post.now q h (.int _)⟩
    · cases e
  · cases e
end
end Vi

namespace Vi
open PySem PySem.Spec PyProof.Rows L2
section
variable {X : Cx}
/-- // by a divisor of either sign -/
def CDivN (_ j : Int) : Prop := j < 0 ∧ j.natAbs.log2 < 9000
theorem op_fdivN : OpR X (binaryOp .FloorDiv) (rI CDivN fun i j => .int ((-i) / (-j))) := opI fun i j _ _ _ _ _ hc q => by
  have h1 : j < 0 := hc.1
  refine floordiv_int (by omega) ?_ (.inl (PyProof.noPylong_of_log2 hc.2))
  have e : i.fdiv j = (-i) / (-j) := by
    rw [← Int.neg_fdiv_neg, Int.fdiv_eq_ediv_of_nonneg (-i) (by omega)]
  rw [e]; exact q
def divNk (j : Int) : Bool := decide (j < 0 ∧ j.natAbs.log2 < 9000)
def dDivN : D → D → Option Sv
  | .int i, .int j => if divOk j = true then some (.imm (.int (i / j))) else if divNk j = true then some (.imm (.int ((-i) / (-j)))) else none
  | _, _ => none
abbrev rDivN : R2 := fun x y H Q => rI CDivW (fun i j => .int (i / j)) x y H Q ∨ rI CDivN (fun i j => .int ((-i) / (-j))) x y H Q
theorem op_fdivA : OpR X (binaryOp .FloorDiv) rDivN := op_fdivW.or op_fdivN
theorem os_divN : OpS X rDivN dDivN := by
  intro H M O π ρ σ v1 v2 d1 d2 res Q h r1 r2 e q
  unfold dDivN at e
  split at e
  · split at e
    · rename_i hz
      cases e
      cases r1.inI; cases r2.inI
      unfold divOk at hz
      have hz' := of_decide_eq_true hz
      exact .inl ⟨_, _, rfl, rfl, hz', Post.now q h (.int _)⟩
    · split at e
      · rename_i hz
        cases e
        cases r1.inI; cases r2.inI
        unfold divNk at hz
        have hz' := of_decide_eq_true hz
        exact .inr ⟨_, _, rfl, rfl, hz', Post.now q h (.int _)⟩
      · cases e
  · cases e
end
end Vi

namespace K46
open PySem PySem.Spec PyProof.Rows L2 RT Vi

def topS (i : Nat) : Stmt := PySem.Challenge.pw_everychange_k46_whole_form_rows_alike_fo.main.body.getD i (.Pass ⟨0, 0, 0, 0⟩)
theorem sc5 : FnScope ["top", "bottom", "common"] ["top", "bottom"] (defScope (topS 5)) := ⟨rfl, rfl, rfl, by decide +kernel, rfl, by decide +kernel, by decide +kernel⟩
theorem sc6 : FnScope ["number"] ["number"] (defScope (topS 6)) := ⟨rfl, rfl, rfl, by decide +kernel, rfl, by decide +kernel, by decide +kernel⟩
theorem sc7 : FnScope ["x", "y"] ["x", "y"] (defScope (topS 7)) := ⟨rfl, rfl, rfl, by decide +kernel, rfl, by decide +kernel, by decide +kernel⟩
theorem sc8 : FnScope ["x", "y"] ["x", "y"] (defScope (topS 8)) := ⟨rfl, rfl, rfl, by decide +kernel, rfl, by decide +kernel, by decide +kernel⟩
theorem sc9 : FnScope ["x", "y"] ["x", "y"] (defScope (topS 9)) := ⟨rfl, rfl, rfl, by decide +kernel, rfl, by decide +kernel, by decide +kernel⟩
theorem sc10 : FnScope ["x", "y"] ["x", "y"] (defScope (topS 10)) := ⟨rfl, rfl, rfl, by decide +kernel, rfl, by decide +kernel, by decide +kernel⟩
theorem sc12 : FnScope ["part", "other", "meets"] ["part", "other", "meets"] (defScope (topS 12)) := ⟨rfl, rfl, rfl, by decide +kernel, rfl, by decide +kernel, by decide +kernel⟩
theorem sc13 : FnScope ["row", "part", "meets", "at"] ["row", "part", "meets"] (defScope (topS 13)) := ⟨rfl, rfl, rfl, by decide +kernel, rfl, by decide +kernel, by decide +kernel⟩
theorem sc14 : FnScope ["row", "meets", "found", "part", "x", "at", "before", "total"] ["row", "meets"] (defScope (topS 14)) := ⟨rfl, rfl, rfl, by decide +kernel, rfl, by decide +kernel, by decide +kernel⟩
theorem sc15 : FnScope ["row"] ["row"] (defScope (topS 15)) := ⟨rfl, rfl, rfl, by decide +kernel, rfl, by decide +kernel, by decide +kernel⟩
theorem sc17 : FnScope ["row", "other", "turned", "found", "part", "u", "v", "_", "before", "slope"] ["row", "other"] (defScope (topS 17)) := ⟨rfl, rfl, rfl, by decide +kernel, rfl, by decide +kernel, by decide +kernel⟩
theorem sc18 : FnScope ["row", "n", "part", "u", "v"] ["row", "n"] (defScope (topS 18)) := ⟨rfl, rfl, rfl, by decide +kernel, rfl, by decide +kernel, by decide +kernel⟩
theorem sc19 : FnScope ["row", "other", "rest", "zeros", "low", "_", "bottom", "tops", "u", "v", "top", "n"] ["row", "other"] (defScope (topS 19)) := ⟨rfl, rfl, rfl, by decide +kernel, rfl, by decide +kernel, by decide +kernel⟩
theorem sc21 : FnScope ["_law_script", "_law_k", "_law_bit_so"] ["_law_script", "_law_k"] (defScope (topS 21)) := ⟨rfl, rfl, rfl, by decide +kernel, rfl, by decide +kernel, by decide +kernel⟩
theorem sc22 : FnScope ["_law_urn", "_law_low_so", "_law_drawn", "_law_once", "_law_far", "_law_twice"] ["_law_urn", "_law_low_so"] (defScope (topS 22)) := ⟨rfl, rfl, rfl, by decide +kernel, rfl, by decide +kernel, by decide +kernel⟩
theorem sc23 : FnScope ["_law_script", "_law_roof_so", "_law_bits_so", "_law_k", "_law_bit_so", "_law_at_so"] ["_law_script", "_law_roof_so"] (defScope (topS 23)) := ⟨rfl, rfl, rfl, by decide +kernel, rfl, by decide +kernel, by decide +kernel⟩
theorem sc24 : FnScope ["_law_urn", "_law_some_so"] ["_law_urn", "_law_some_so"] (defScope (topS 24)) := ⟨rfl, rfl, rfl, by decide +kernel, rfl, by decide +kernel, by decide +kernel⟩
theorem sc25 : FnScope ["_law_matter", "_law_bit"] ["_law_matter"] (defScope (topS 25)) := ⟨rfl, rfl, rfl, by decide +kernel, rfl, by decide +kernel, by decide +kernel⟩
theorem sc26 : FnScope ["_law_mine", "_law_due", "_law_near", "_law_far"] ["_law_mine", "_law_due"] (defScope (topS 26)) := ⟨rfl, rfl, rfl, by decide +kernel, rfl, by decide +kernel, by decide +kernel⟩
theorem sc27 : FnScope ["_law_top_so", "_law_down_so", "_law_near", "_law_far"] ["_law_top_so", "_law_down_so"] (defScope (topS 27)) := ⟨rfl, rfl, rfl, by decide +kernel, rfl, by decide +kernel, by decide +kernel⟩
theorem sc28 : FnScope ["_law_own", "_law_far"] ["_law_own", "_law_far"] (defScope (topS 28)) := ⟨rfl, rfl, rfl, by decide +kernel, rfl, by decide +kernel, by decide +kernel⟩
theorem sc29 : FnScope ["_law_own", "_law_far"] ["_law_own", "_law_far"] (defScope (topS 29)) := ⟨rfl, rfl, rfl, by decide +kernel, rfl, by decide +kernel, by decide +kernel⟩
theorem sc30 : FnScope ["_law_one", "_law_two"] ["_law_one", "_law_two"] (defScope (topS 30)) := ⟨rfl, rfl, rfl, by decide +kernel, rfl, by decide +kernel, by decide +kernel⟩
theorem sc31 : FnScope ["_law_one", "_law_two"] ["_law_one", "_law_two"] (defScope (topS 31)) := ⟨rfl, rfl, rfl, by decide +kernel, rfl, by decide +kernel, by decide +kernel⟩
theorem sc32 : FnScope ["_law_row_so", "_law_found", "_law_part", "_law_much_here"] ["_law_row_so"] (defScope (topS 32)) := ⟨rfl, rfl, rfl, by decide +kernel, rfl, by decide +kernel, by decide +kernel⟩
theorem sc33 : FnScope ["_law_urn"] ["_law_urn"] (defScope (topS 33)) := ⟨rfl, rfl, rfl, by decide +kernel, rfl, by decide +kernel, by decide +kernel⟩
theorem sc34 : FnScope ["_law_row_so", "_law_n", "_law_part", "_law_own"] ["_law_row_so", "_law_n"] (defScope (topS 34)) := ⟨rfl, rfl, rfl, by decide +kernel, rfl, by decide +kernel, by decide +kernel⟩
theorem sc35 : FnScope ["_law_row_so", "_law_other_so", "_law_found", "_law_undone_so", "_law_part", "_law_own", "_law_last"] ["_law_row_so", "_law_other_so"] (defScope (topS 35)) := ⟨rfl, rfl, rfl, by decide +kernel, rfl, by decide +kernel, by decide +kernel⟩
theorem sc36 : FnScope ["_law_urn", "_law_at", "_law_way"] ["_law_urn"] (defScope (topS 36)) := ⟨rfl, rfl, rfl, by decide +kernel, rfl, by decide +kernel, by decide +kernel⟩
theorem sc37 : FnScope ["_law_row_so", "_law_part", "_law_own"] ["_law_row_so"] (defScope (topS 37)) := ⟨rfl, rfl, rfl, by decide +kernel, rfl, by decide +kernel, by decide +kernel⟩
theorem sc38 : FnScope ["_law_urn", "_law_many", "_law_row_so", "_law_one", "_law_two", "_law_kind", "_law_lap"] ["_law_urn", "_law_many"] (defScope (topS 38)) := ⟨rfl, rfl, rfl, by decide +kernel, rfl, by decide +kernel, by decide +kernel⟩
theorem sc39 : FnScope ["_law_urn", "_law_many", "_law_row_so", "_law_other_so", "_law_left_so", "_law_told", "_law_some_so", "_law_same_here", "_law_spots_so", "_law_fine", "_law_due", "_law_n", "_law_part", "_law_own"] ["_law_urn"] (defScope (topS 39)) := ⟨rfl, rfl, rfl, by decide +kernel, rfl, by decide +kernel, by decide +kernel⟩
theorem sc40 : FnScope ["_law_i", "_law_o", "_law_less_here", "_law_ring", "_law_mine", "_law_due"] [] (defScope (topS 40)) := ⟨rfl, rfl, rfl, by decide +kernel, rfl, by decide +kernel, by decide +kernel⟩
theorem sc41 : FnScope ["_law_script", "_law_urn", "_law_lap"] ["_law_script"] (defScope (topS 41)) := ⟨rfl, rfl, rfl, by decide +kernel, rfl, by decide +kernel, by decide +kernel⟩
/-- fraction -/
def fn5 (cl : Nat → Fn) : Fn := mFn 3 2 ((mSeq (mIfS (mB (bin dEq (mVar 1) (mC (.int 0)))) mNever mNext) (mSeq (mSet 2 (mA dGcd (mCons (mVar 0) (mCons (mVar 1) mNil)))) (mSeq (mIfS (mB (bin dLt (mVar 1) (mC (.int 0)))) (mSet 2 (un dNeg (mVar 2))) mNext) (mRet (mTup (mCons (bin dDivN (mVar 0) (mVar 2)) (mCons (bin dDivN (mVar 1) (mVar 2)) mNil))))))))
/-- whole -/
def fn6 (cl : Nat → Fn) : Fn := mFn 1 1 ((mRet (mTup (mCons (mVar 0) (mCons (mC (.int 1)) mNil)))))
/-- plus -/
def fn7 (cl : Nat → Fn) : Fn := mFn 2 2 ((mSeq (mIfS (mB (bin dEq (bin dIx (mVar 0) (mC (.int 1))) (bin dIx (mVar 1) (mC (.int 1))))) (mRet (mCall (cl 5) (rVal (bin dAdd (bin dIx (mVar 0) (mC (.int 0))) (bin dIx (mVar 1) (mC (.int 0)))) (rVal (bin dIx (mVar 0) (mC (.int 1))) rNil)))) mNext) (mRet (mCall (cl 5) (rVal (bin dAdd (bin dMul (bin dIx (mVar 0) (mC (.int 0))) (bin dIx (mVar 1) (mC (.int 1)))) (bin dMul (bin dIx (mVar 1) (mC (.int 0))) (bin dIx (mVar 0) (mC (.int 1))))) (rVal (bin dMul (bin dIx (mVar 0) (mC (.int 1))) (bin dIx (mVar 1) (mC (.int 1)))) rNil))))))
/-- minus -/
def fn8 (cl : Nat → Fn) : Fn := mFn 2 2 ((mRet (mCall (cl 7) (rVal (mVar 0) (rVal (mTup (mCons (un dNeg (bin dIx (mVar 1) (mC (.int 0)))) (mCons (bin dIx (mVar 1) (mC (.int 1))) mNil))) rNil)))))
/-- times -/
def fn9 (cl : Nat → Fn) : Fn := mFn 2 2 ((mRet (mCall (cl 5) (rVal (bin dMul (bin dIx (mVar 0) (mC (.int 0))) (bin dIx (mVar 1) (mC (.int 0)))) (rVal (bin dMul (bin dIx (mVar 0) (mC (.int 1))) (bin dIx (mVar 1) (mC (.int 1)))) rNil)))))
/-- over -/
def fn10 (cl : Nat → Fn) : Fn := mFn 2 2 ((mRet (mCall (cl 5) (rVal (bin dMul (bin dIx (mVar 0) (mC (.int 0))) (bin dIx (mVar 1) (mC (.int 1)))) (rVal (bin dMul (bin dIx (mVar 0) (mC (.int 1))) (bin dIx (mVar 1) (mC (.int 0)))) rNil)))))
/-- _go_together -/
def fn12 (cl : Nat → Fn) : Fn := mFn 3 3 ((mRet (bin (dInT false) (mTup (mCons (mA dMin2 (mCons (mVar 0) (mCons (mVar 1) mNil))) (mCons (mA dMax2 (mCons (mVar 0) (mCons (mVar 1) mNil))) mNil))) (mVar 2))))
/-- _place_to_join -/
def fn13 (cl : Nat → Fn) : Fn := mFn 4 3 ((mSeq (mFor (mIDown (mCons (bin dSub (un dLen (mVar 0)) (mC (.int 1))) (mCons (un dNeg (mC (.int 1))) (mCons (un dNeg (mC (.int 1))) mNil)))) (mN 3) (mSeq (mIfS (mB (bin dEq (bin dIx (bin dIx (mVar 0) (mVar 3)) (mC (.int 0))) (mVar 1))) (mRet (mVar 3)) mNext) (mIfS (mNotT (mTru (mCall (cl 12) (rVal (bin dIx (bin dIx (mVar 0) (mVar 3)) (mC (.int 0))) (rVal (mVar 1) (rVal (mVar 2) rNil)))))) (mRet (mC .none)) mNext))) (mRet (mC .none))))
/-- _shortest -/
def fn14 (cl : Nat → Fn) : Fn := mFn 8 2 ((mSeq (mSet 2 (mLst mNil)) (mSeq (mFor (mISeq (mVar 0)) (mGseq 2 (mGcons (mN 3) (mGcons (mN 4) mGnil))) (mSeq (mSet 5 (mCall (cl 13) (rSlot 2 (rVal (mVar 3) (rVal (mVar 1) rNil))))) (mSeq (mIfS (mB (bin dIs (mVar 5) (mC .none))) (mPar 5 6 (un dLen (mVar 2)) (mC (.tuple ([0, 1].map .int)))) (mSet 6 (bin dIx (bin dIx (mVar 2) (mVar 5)) (mC (.int 1))))) (mSeq (mSet 7 (mCall (cl 7) (rVal (mVar 6) (rVal (mVar 4) rNil)))) (mSlx 2 (mPart (mVar 5)) (mPart (bin dAdd (mVar 5) (mC (.int 1)))) (mIf (mTru (bin dIx (mVar 7) (mC (.int 0)))) (mLst (mCons (mTup (mCons (mVar 3) (mCons (mVar 7) mNil))) mNil)) (mLst mNil))))))) (mRet (mVar 2)))))
/-- normal_row -/
def fn15 (cl : Nat → Fn) : Fn := mFn 1 1 ((mRet (un dTuple (mCall (cl 14) (rVal (mVar 0) (rVal (mTup mNil) rNil))))))
/-- _form_rest -/
def fn17 (cl : Nat → Fn) : Fn := mFn 10 2 ((mSeq (mSet 2 (mComp (mIRev (mVar 1)) (mGseq 2 (mGcons (mN 4) (mGcons (mGseq 2 (mGcons (mN 5) (mGcons (mN 6) mGnil))) mGnil))) mYes (mTup (mCons (mVar 4) (mCons (mTup (mCons (mCall (cl 8) (rVal (mC (.tuple ([0, 1].map .int))) (rVal (mVar 5) rNil))) (mCons (mCall (cl 8) (rVal (mC (.tuple ([0, 1].map .int))) (rVal (mVar 6) rNil))) mNil))) mNil))) [4, 5, 6])) (mSeq (mSet 3 (mLst mNil)) (mSeq (mFor (mISeq (bin dAdd (un dList (mVar 0)) (mVar 2))) (mGseq 2 (mGcons (mN 4) (mGcons (mGseq 2 (mGcons (mN 5) (mGcons (mN 6) mGnil))) mGnil))) (mSeq (mIfS (mAndT (mTru (mVar 3)) (mB (bin dEq (bin dIx (bin dIx (mVar 3) (un dNeg (mC (.int 1)))) (mC (.int 0))) (mVar 4)))) (mSeq (mAsgG (mPop 3) (mGtup 2 (mGcons (mN 7) (mGcons (mGtup 2 (mGcons (mN 8) (mGcons (mN 9) mGnil))) mGnil)))) (mPar 5 6 (mCall (cl 7) (rVal (mVar 8) (rVal (mVar 5) rNil))) (mCall (cl 7) (rVal (mVar 9) (rVal (mVar 6) rNil))))) mNext) (mIfS (mOrT (mTru (bin dIx (mVar 5) (mC (.int 0)))) (mTru (bin dIx (mVar 6) (mC (.int 0))))) (mDrop (mApp 3 (mTup (mCons (mVar 4) (mCons (mTup (mCons (mVar 5) (mCons (mVar 6) mNil))) mNil))))) mNext))) (mRet (mVar 3))))))
/-- _row_at -/
def fn18 (cl : Nat → Fn) : Fn := mFn 5 2 ((mRet (un dTuple (mComp (mISeq (mVar 0)) (mGseq 2 (mGcons (mN 2) (mGcons (mGseq 2 (mGcons (mN 3) (mGcons (mN 4) mGnil))) mGnil))) mYes (mTup (mCons (mVar 2) (mCons (mCall (cl 7) (rVal (mVar 3) (rVal (mCall (cl 9) (rVal (mVar 4) (rVal (mVar 1) rNil))) rNil))) mNil))) [2, 3, 4]))))
/-- same_at -/
def fn19 (cl : Nat → Fn) : Fn := mFn 12 2 ((mSeq (mSet 2 (mCall (cl 17) (rVal (mVar 0) (rVal (mVar 1) rNil)))) (mSeq (mIfS (mNotT (mTru (mVar 2))) (mRet (mC .none)) mNext) (mSeq (mSet 3 (mComp (mISeq (mVar 2)) (mGseq 2 (mGcons (mN 5) (mGcons (mGseq 2 (mGcons (mN 8) (mGcons (mN 9) mGnil))) mGnil))) (mTru (bin dIx (mVar 9) (mC (.int 0)))) (mCall (cl 10) (rVal (mCall (cl 8) (rVal (mC (.tuple ([0, 1].map .int))) (rVal (mVar 8) rNil))) (rVal (mVar 9) rNil))) [5, 8, 9])) (mSeq (mSet 4 (mC (.int 1))) (mSeq (mFor (mISeq (mVar 3)) (mGseq 2 (mGcons (mN 5) (mGcons (mN 6) mGnil))) (mSet 4 (mA dLcm (mCons (mVar 4) (mCons (mVar 6) mNil))))) (mSeq (mSet 7 (un dSortSetI (mComp (mISeq (mVar 3)) (mGseq 2 (mGcons (mN 10) (mGcons (mN 6) mGnil))) mYes (bin dMul (mVar 10) (bin dDiv (mVar 4) (mVar 6))) [10, 6]))) (mRet (un dTuple (mComp (mISeq (mComp (mISeq (mVar 7)) (mN 10) mYes (mCall (cl 10) (rVal (mCall (cl 6) (rVal (mVar 10) rNil)) (rVal (mCall (cl 6) (rVal (mVar 4) rNil)) rNil))) [10])) (mN 11) (mB (bin dEq (mCall (cl 15) (rVal (mCall (cl 18) (rVal (mVar 2) (rVal (mVar 11) rNil))) rNil)) (mTup mNil))) (mVar 11) [11]))))))))))
/-- _law_box -/
def fn21 (cl : Nat → Fn) : Fn := mFn 3 2 ((mSeq (mSet 2 (mIf (mB (bin dLt (mVar 1) (un dLen (mVar 0)))) (bin dIx (mVar 0) (mVar 1)) (mC (.int 0)))) (mRet (mLst (mCons (bin dMul (un dAbs (mVar 2)) (un dInt (bin dGe (un dAbs (mVar 2)) (bin dPow (mC (.int 10)) (mC (.int 18)))))) (mCons (bin dAdd (bin dAdd (bin dMod (un dInt (mVar 2)) (mC (.int 2305843009213693951))) (bin dMul (mC (.int 39373)) (mVar 1))) (mC (.int 88546))) (mCons (mC (.int 0)) mNil)))))))
/-- _law_take -/
def fn22 (cl : Nat → Fn) : Fn := mFn 6 2 ((mSeq (mIfS (mB (bin dGt (bin dIx (mVar 0) (mC (.int 0))) (mC (.int 0)))) (mSeq (mSet 2 (bin dMod (un dInt (bin dIx (mVar 0) (mC (.int 0)))) (mVar 1))) (mSeq (mStore 0 (mC (.int 0)) (bin dDiv (bin dIx (mVar 0) (mC (.int 0))) (mVar 1))) (mRet (mVar 2)))) mNext) (mSeq (mStore 0 (mC (.int 2)) (bin dAdd (bin dIx (mVar 0) (mC (.int 2))) (mC (.int 1)))) (mSeq (mSet 3 (bin dMod (un dInt (bin dMul (bin dAdd (bin dIx (mVar 0) (mC (.int 1))) (bin dMul (mC (.int 48271)) (bin dIx (mVar 0) (mC (.int 2))))) (bin dAdd (mC (.int 39373)) (bin dIx (mVar 0) (mC (.int 2)))))) (mC (.int 2147483647)))) (mSeq (mSet 4 (bin dAdd (bin dMod (un dInt (mVar 3)) (mC (.int 40009))) (mC (.int 7)))) (mSeq (mSet 5 (bin dMod (un dInt (bin dMul (bin dAdd (bin dAdd (mVar 3) (bin dIx (mVar 0) (mC (.int 2)))) (bin dDiv (bin dIx (mVar 0) (mC (.int 1))) (mC (.int 1000003)))) (mVar 4))) (mC (.int 2147483629)))) (mRet (bin dMod (un dInt (bin dDiv (bin dMod (un dInt (bin dAdd (bin dMul (mVar 5) (mC (.int 48271))) (mVar 3))) (mC (.int 2147483587))) (mC (.int 64)))) (mVar 1)))))))))
/-- _law_cells -/
def fn23 (cl : Nat → Fn) : Fn := mFn 6 2 ((mSeq (mSet 2 (mOr (un dList (mSl (mVar 0) mNoPart (mPart (mVar 1)))) (mLst (mCons (mC (.int 0)) mNil)))) (mSeq (mFor (mIEnum (mCons (mSl (mVar 0) (mPart (mVar 1)) (mPart (mC (.int 63)))) mNil)) (mGtup 2 (mGcons (mN 3) (mGcons (mN 4) mGnil))) (mSeq (mSet 5 (bin dMod (un dInt (mVar 3)) (mVar 1))) (mStore 2 (mVar 5) (bin dAdd (bin dIx (mVar 2) (mVar 5)) (bin dMul (mVar 4) (bin dAdd (mVar 3) (mC (.int 2)))))))) (mRet (mVar 2)))))
/-- _law_of -/
def fn24 (cl : Nat → Fn) : Fn := mFn 2 2 ((mRet (bin dIx (mVar 1) (mCall (cl 22) (rSlot 0 (rVal (un dLen (mVar 1)) rNil))))))
/-- _law_lists -/
def fn25 (cl : Nat → Fn) : Fn := mFn 2 1 ((mRet (mIf (mTru (un (dIsi2 Ty.list Ty.tuple) (mVar 0))) (mComp (mISeq (mVar 0)) (mN 1) mYes (mCall (cl 25) (rVal (mVar 1) rNil)) [1]) (mVar 0))))
/-- _law_same -/
def fn26 (cl : Nat → Fn) : Fn := mFn 4 2 ((mSeq (mIfS (mTru (un (dIsi2 Ty.list Ty.tuple) (mVar 1))) (mSeq (mIfS (mOrT (mB (bin dNe (un (dIsi Ty.list) (mVar 0)) (un (dIsi Ty.list) (mVar 1)))) (mB (bin dNe (un (dIsi Ty.tuple) (mVar 0)) (un (dIsi Ty.tuple) (mVar 1))))) (mRet (mC (.bool false))) mNext) (mRet (mAnd (bin dEq (un dLen (mVar 0)) (un dLen (mVar 1))) (un dAll (mComp (mIZip (mCons (mVar 0) (mCons (mVar 1) mNil))) (mGtup 2 (mGcons (mN 2) (mGcons (mN 3) mGnil))) mYes (mCall (cl 26) (rVal (mVar 2) (rVal (mVar 3) rNil))) [2, 3]))))) mNext) (mSeq (mIfS (mOrT (mB (bin dIs (mVar 1) (mC .none))) (mTru (un (dIsi2 Ty.bool Ty.str) (mVar 1)))) (mRet (mAnd (bin dEq (mVar 0) (mVar 1)) (mAnd (bin dEq (un (dIsi Ty.bool) (mVar 0)) (un (dIsi Ty.bool) (mVar 1))) (bin dEq (bin dIs (mVar 0) (mC .none)) (bin dIs (mVar 1) (mC .none)))))) mNext) (mRet (mAnd (un (dIsi Ty.int) (mVar 0)) (mAnd (un dNot (un (dIsi Ty.bool) (mVar 0))) (bin dEq (mVar 0) (mVar 1))))))))
/-- _law_low -/
def fn27 (cl : Nat → Fn) : Fn := mFn 4 2 ((mSeq (mPar 2 3 (un dAbs (mVar 0)) (un dAbs (mVar 1))) (mSeq (whl (mB (bin dGt (mVar 3) (mC (.int 0)))) (mPar 2 3 (mVar 3) (bin dMod (un dInt (mVar 2)) (mVar 3))) 400) (mSeq (mIfS (mB (bin dLt (mVar 1) (mC (.int 0)))) (mSet 2 (bin dSub (mC (.int 0)) (mVar 2))) mNext) (mRet (mTup (mCons (bin dDivN (mVar 0) (mVar 2)) (mCons (bin dDivN (mVar 1) (mVar 2)) mNil))))))))
/-- _law_add -/
def fn28 (cl : Nat → Fn) : Fn := mFn 2 2 ((mRet (mCall (cl 27) (rVal (bin dAdd (bin dMul (bin dIx (mVar 0) (mC (.int 0))) (bin dIx (mVar 1) (mC (.int 1)))) (bin dMul (bin dIx (mVar 1) (mC (.int 0))) (bin dIx (mVar 0) (mC (.int 1))))) (rVal (bin dMul (bin dIx (mVar 0) (mC (.int 1))) (bin dIx (mVar 1) (mC (.int 1)))) rNil)))))
/-- _law_mul -/
def fn29 (cl : Nat → Fn) : Fn := mFn 2 2 ((mRet (mCall (cl 27) (rVal (bin dMul (bin dIx (mVar 0) (mC (.int 0))) (bin dIx (mVar 1) (mC (.int 0)))) (rVal (bin dMul (bin dIx (mVar 0) (mC (.int 1))) (bin dIx (mVar 1) (mC (.int 1)))) rNil)))))
/-- _law_less -/
def fn30 (cl : Nat → Fn) : Fn := mFn 2 2 ((mRet (bin dLt (bin dMul (bin dIx (mVar 0) (mC (.int 0))) (bin dIx (mVar 1) (mC (.int 1)))) (bin dMul (bin dIx (mVar 1) (mC (.int 0))) (bin dIx (mVar 0) (mC (.int 1)))))))
/-- _law_sub -/
def fn31 (cl : Nat → Fn) : Fn := mFn 2 2 ((mRet (mCall (cl 27) (rVal (bin dSub (bin dMul (bin dIx (mVar 0) (mC (.int 0))) (bin dIx (mVar 1) (mC (.int 1)))) (bin dMul (bin dIx (mVar 1) (mC (.int 0))) (bin dIx (mVar 0) (mC (.int 1))))) (rVal (bin dMul (bin dIx (mVar 0) (mC (.int 1))) (bin dIx (mVar 1) (mC (.int 1)))) rNil)))))
/-- _law_normal -/
def fn32 (cl : Nat → Fn) : Fn := mFn 4 1 ((mSeq (mSet 1 (mLst mNil)) (mSeq (mFor (mISeq (mVar 0)) (mGseq 2 (mGcons (mN 2) (mGcons (mN 3) mGnil))) (mSeq (mIfS (mAndT (mB (bin dNe (mVar 1) (mLst mNil))) (mB (bin dEq (bin dIx (bin dIx (mVar 1) (un dNeg (mC (.int 1)))) (mC (.int 0))) (mVar 2)))) (mSet 3 (mCall (cl 28) (rVal (bin dIx (mPop 1) (mC (.int 1))) (rVal (mVar 3) rNil)))) mNext) (mIfS (mB (bin dNe (bin dIx (mVar 3) (mC (.int 0))) (mC (.int 0)))) (mDrop (mApp 1 (mTup (mCons (mVar 2) (mCons (mVar 3) mNil))))) mNext))) (mRet (un dTuple (mVar 1))))))
/-- _law_much -/
def fn33 (cl : Nat → Fn) : Fn := mFn 1 1 ((mRet (mCall (cl 24) (rSlot 0 (rVal (mLst (mCons (mTup (mCons (mC (.int 1)) (mCons (mC (.int 1)) mNil))) (mCons (mTup (mCons (un dNeg (mC (.int 1))) (mCons (mC (.int 1)) mNil))) (mCons (mTup (mCons (mC (.int 1)) (mCons (mC (.int 2)) mNil))) (mCons (mTup (mCons (un dNeg (mC (.int 1))) (mCons (mC (.int 2)) mNil))) (mCons (mTup (mCons (mC (.int 2)) (mCons (mC (.int 1)) mNil))) (mCons (mTup (mCons (un dNeg (mC (.int 2))) (mCons (mC (.int 1)) mNil))) (mCons (mTup (mCons (mC (.int 1)) (mCons (mC (.int 3)) mNil))) (mCons (mTup (mCons (un dNeg (mC (.int 3))) (mCons (mC (.int 2)) mNil))) (mCons (mTup (mCons (mC (.int 3)) (mCons (mC (.int 1)) mNil))) (mCons (mTup (mCons (mC (.int 0)) (mCons (mC (.int 1)) mNil))) mNil))))))))))) rNil)))))
/-- _law_form_at -/
def fn34 (cl : Nat → Fn) : Fn := mFn 4 2 ((mRet (mCall (cl 32) (rVal (un dTuple (mComp (mISeq (mVar 0)) (mGseq 2 (mGcons (mN 2) (mGcons (mN 3) mGnil))) mYes (mTup (mCons (mVar 2) (mCons (mCall (cl 28) (rVal (bin dIx (mVar 3) (mC (.int 0))) (rVal (mCall (cl 29) (rVal (bin dIx (mVar 3) (mC (.int 1))) (rVal (mVar 1) rNil))) rNil))) mNil))) [2, 3])) rNil))))
/-- _law_forms_left -/
def fn35 (cl : Nat → Fn) : Fn := mFn 7 2 ((mSeq (mSet 2 (mLst mNil)) (mSeq (mSet 3 (mComp (mISeq (un dRev (mVar 1))) (mGseq 2 (mGcons (mN 4) (mGcons (mN 5) mGnil))) mYes (mTup (mCons (mVar 4) (mCons (mTup (mCons (mCall (cl 31) (rVal (mTup (mCons (mC (.int 0)) (mCons (mC (.int 1)) mNil))) (rVal (bin dIx (mVar 5) (mC (.int 0))) rNil))) (mCons (mCall (cl 31) (rVal (mTup (mCons (mC (.int 0)) (mCons (mC (.int 1)) mNil))) (rVal (bin dIx (mVar 5) (mC (.int 1))) rNil))) mNil))) mNil))) [4, 5])) (mSeq (mFor (mISeq (bin dAdd (un dList (mVar 0)) (mVar 3))) (mGseq 2 (mGcons (mN 4) (mGcons (mN 5) mGnil))) (mSeq (mIfS (mAndT (mB (bin dNe (mVar 2) (mLst mNil))) (mB (bin dEq (bin dIx (bin dIx (mVar 2) (un dNeg (mC (.int 1)))) (mC (.int 0))) (mVar 4)))) (mSeq (mSet 6 (bin dIx (mPop 2) (mC (.int 1)))) (mSet 5 (mTup (mCons (mCall (cl 28) (rVal (bin dIx (mVar 6) (mC (.int 0))) (rVal (bin dIx (mVar 5) (mC (.int 0))) rNil))) (mCons (mCall (cl 28) (rVal (bin dIx (mVar 6) (mC (.int 1))) (rVal (bin dIx (mVar 5) (mC (.int 1))) rNil))) mNil))))) mNext) (mIfS (mB (bin dNe (mVar 5) (mTup (mCons (mTup (mCons (mC (.int 0)) (mCons (mC (.int 1)) mNil))) (mCons (mTup (mCons (mC (.int 0)) (mCons (mC (.int 1)) mNil))) mNil))))) (mDrop (mApp 2 (mTup (mCons (mVar 4) (mCons (mVar 5) mNil))))) mNext))) (mRet (mVar 2))))))
/-- _law_form -/
def fn36 (cl : Nat → Fn) : Fn := mFn 3 1 ((mSeq (mSet 1 (mCall (cl 24) (rSlot 0 (rVal (mLst (mCons (mTup (mCons (mC (.int 0)) (mCons (mC (.int 1)) mNil))) (mCons (mTup (mCons (mC (.int 1)) (mCons (mC (.int 1)) mNil))) (mCons (mTup (mCons (un dNeg (mC (.int 1))) (mCons (mC (.int 1)) mNil))) (mCons (mTup (mCons (mC (.int 2)) (mCons (mC (.int 1)) mNil))) (mCons (mTup (mCons (mC (.int 1)) (mCons (mC (.int 2)) mNil))) mNil)))))) rNil)))) (mSeq (mSet 2 (mCall (cl 24) (rSlot 0 (rVal (mLst (mCons (mTup (mCons (mC (.int 0)) (mCons (mC (.int 1)) mNil))) (mCons (mTup (mCons (mC (.int 1)) (mCons (mC (.int 1)) mNil))) (mCons (mTup (mCons (un dNeg (mC (.int 1))) (mCons (mC (.int 1)) mNil))) (mCons (mTup (mCons (mC (.int 2)) (mCons (mC (.int 1)) mNil))) mNil))))) rNil)))) (mRet (mIf (mB (bin dNe (bin dIx (mVar 2) (mC (.int 0))) (mC (.int 0)))) (mTup (mCons (mCall (cl 31) (rVal (mTup (mCons (mC (.int 0)) (mCons (mC (.int 1)) mNil))) (rVal (mCall (cl 29) (rVal (mVar 2) (rVal (mVar 1) rNil))) rNil))) (mCons (mVar 2) mNil))) (mTup (mCons (mCall (cl 33) (rSlot 0 rNil)) (mCons (mVar 2) mNil))))))))
/-- _law_form_undone -/
def fn37 (cl : Nat → Fn) : Fn := mFn 3 1 ((mRet (un dTuple (mComp (mISeq (un dRev (mVar 0))) (mGseq 2 (mGcons (mN 1) (mGcons (mN 2) mGnil))) mYes (mTup (mCons (mVar 1) (mCons (mTup (mCons (mCall (cl 31) (rVal (mTup (mCons (mC (.int 0)) (mCons (mC (.int 1)) mNil))) (rVal (bin dIx (mVar 2) (mC (.int 0))) rNil))) (mCons (mCall (cl 31) (rVal (mTup (mCons (mC (.int 0)) (mCons (mC (.int 1)) mNil))) (rVal (bin dIx (mVar 2) (mC (.int 1))) rNil))) mNil))) mNil))) [1, 2]))))
/-- _law_made -/
def fn38 (cl : Nat → Fn) : Fn := mFn 7 2 ((mSeq (mSet 2 (un dTuple (mComp (mIRng1 (mCons (bin dAdd (mC (.int 1)) (mCall (cl 22) (rSlot 0 (rVal (mC (.int 3)) rNil)))) mNil)) (mN 6) mYes (mTup (mCons (mCall (cl 22) (rSlot 0 (rVal (mVar 1) rNil))) (mCons (mCall (cl 36) (rSlot 0 rNil)) mNil))) [6]))) (mSeq (mPar 3 4 (mTup (mCons (mC (.int 0)) (mCons (mCall (cl 36) (rSlot 0 rNil)) mNil))) (mTup (mCons (bin dSub (mVar 1) (mC (.int 1))) (mCons (mCall (cl 36) (rSlot 0 rNil)) mNil)))) (mSeq (mSet 5 (mCall (cl 22) (rSlot 0 (rVal (mC (.int 5)) rNil)))) (mSeq (mIfS (mB (bin dEq (mVar 5) (mC (.int 0)))) (mRet (mTup (mCons (mVar 2) (mCons (un dTuple (mComp (mIRng1 (mCons (mCall (cl 22) (rSlot 0 (rVal (mC (.int 4)) rNil))) mNil)) (mN 6) mYes (mTup (mCons (mCall (cl 22) (rSlot 0 (rVal (mVar 1) rNil))) (mCons (mCall (cl 36) (rSlot 0 rNil)) mNil))) [6])) mNil)))) mNext) (mSeq (mIfS (mB (bin dEq (mVar 5) (mC (.int 1)))) (mRet (mTup (mCons (mVar 2) (mCons (bin dAdd (bin dAdd (bin dAdd (mSl (mVar 2) mNoPart (mPart (mC (.int 1)))) (mTup (mCons (mVar 3) mNil))) (mCall (cl 37) (rVal (mTup (mCons (mVar 3) mNil)) rNil))) (mSl (mVar 2) (mPart (mC (.int 1))) mNoPart)) mNil)))) mNext) (mSeq (mIfS (mB (bin dEq (mVar 5) (mC (.int 2)))) (mRet (mTup (mCons (mVar 2) (mCons (bin dAdd (bin dAdd (mVar 2) (mTup (mCons (mVar 3) (mCons (mVar 4) mNil)))) (mCall (cl 37) (rVal (mTup (mCons (mVar 4) (mCons (mVar 3) mNil))) rNil))) mNil)))) mNext) (mSeq (mIfS (mB (bin dEq (mVar 5) (mC (.int 3)))) (mRet (mTup (mCons (bin dAdd (mVar 2) (mTup (mCons (mVar 3) (mCons (mVar 4) mNil)))) (mCons (bin dAdd (mVar 2) (mTup (mCons (mVar 4) (mCons (mVar 3) mNil)))) mNil)))) mNext) (mRet (mTup (mCons (bin dAdd (bin dAdd (mTup (mCons (mVar 3) mNil)) (mSl (mVar 2) mNoPart (mPart (mC (.int 2))))) (mCall (cl 37) (rVal (mTup (mCons (mVar 3) mNil)) rNil))) (mCons (mSl (mVar 2) mNoPart (mPart (mC (.int 2)))) mNil))))))))))))
/-- _law_right -/
def fn39 (cl : Nat → Fn) : Fn := mFn 14 1 ((mSeq (mSet 1 (bin dAdd (mC (.int 2)) (mCall (cl 22) (rSlot 0 (rVal (mC (.int 2)) rNil))))) (mSeq (mAsgG (mCall (cl 38) (rSlot 0 (rVal (mVar 1) rNil))) (mGtup 2 (mGcons (mN 2) (mGcons (mN 3) mGnil)))) (mSeq (mPar 4 5 (mCall (cl 35) (rVal (mVar 2) (rVal (mVar 3) rNil))) (mCall (cl 19) (rVal (mVar 2) (rVal (mVar 3) rNil)))) (mSeq (mSet 6 (bin dAdd (mComp (mIRng2 (mCons (un dNeg (mC (.int 4))) (mCons (mC (.int 5)) mNil))) (mN 11) mYes (mTup (mCons (mVar 11) (mCons (mC (.int 1)) mNil))) [11]) (mLst (mCons (mTup (mCons (mC (.int 1)) (mCons (mC (.int 2)) mNil))) (mCons (mTup (mCons (un dNeg (mC (.int 1))) (mCons (mC (.int 2)) mNil))) (mCons (mTup (mCons (mC (.int 1)) (mCons (mC (.int 3)) mNil))) (mCons (mTup (mCons (mC (.int 5)) (mCons (mC (.int 2)) mNil))) mNil))))))) (mSeq (mSet 7 (mComp (mISeq (mVar 6)) (mN 11) (mB (bin dEq (mCall (cl 34) (rVal (mVar 2) (rVal (mVar 11) rNil))) (mCall (cl 34) (rVal (mVar 3) (rVal (mVar 11) rNil))))) (mVar 11) [11])) (mSeq (mIfS (mB (bin dEq (mVar 4) (mLst mNil))) (mRet (mAnd (bin dIs (mVar 5) (mC .none)) (bin dEq (mVar 7) (mVar 6)))) mNext) (mSeq (mIfS (mOrT (mNotT (mTru (un (dIsi Ty.tuple) (mVar 5)))) (mB (bin dGt (un dLen (mVar 5)) (bin dAdd (un dLen (mVar 2)) (un dLen (mVar 3)))))) (mRet (mC (.bool false))) mNext) (mSeq (mSet 8 (mComp (mISeq (mVar 4)) (mGseq 2 (mGcons (mN 12) (mGcons (mN 13) mGnil))) (mB (bin dNe (bin dIx (bin dIx (mVar 13) (mC (.int 1))) (mC (.int 0))) (mC (.int 0)))) (mCall (cl 27) (rVal (bin dSub (mC (.int 0)) (bin dMul (bin dIx (bin dIx (mVar 13) (mC (.int 0))) (mC (.int 0))) (bin dIx (bin dIx (mVar 13) (mC (.int 1))) (mC (.int 1))))) (rVal (bin dMul (bin dIx (bin dIx (mVar 13) (mC (.int 0))) (mC (.int 1))) (bin dIx (bin dIx (mVar 13) (mC (.int 1))) (mC (.int 0)))) rNil))) [12, 13])) (mSeq (mSet 9 (mComp (mISeq (mVar 8)) (mN 11) (mB (bin dEq (mCall (cl 34) (rVal (mVar 2) (rVal (mVar 11) rNil))) (mCall (cl 34) (rVal (mVar 3) (rVal (mVar 11) rNil))))) (mVar 11) [11])) (mSeq (mSet 10 (mLst mNil)) (mSeq (mFor (mISeq (mVar 9)) (mN 11) (mIfS (mB (bin (dInT true) (mVar 11) (mVar 10))) (mSet 10 (bin dAdd (bin dAdd (mComp (mISeq (mVar 10)) (mN 13) (mTru (mCall (cl 30) (rVal (mVar 13) (rVal (mVar 11) rNil)))) (mVar 13) [13]) (mLst (mCons (mVar 11) mNil))) (mComp (mISeq (mVar 10)) (mN 13) (mTru (mCall (cl 30) (rVal (mVar 11) (rVal (mVar 13) rNil)))) (mVar 13) [13]))) mNext)) (mSeq (mIfS (mOrT (mNotT (mTru (mCall (cl 26) (rVal (mVar 5) (rVal (un dTuple (mVar 10)) rNil))))) (mNotT (mTru (mCall (cl 26) (rVal (mCall (cl 19) (rPerm 0 2 [1, 0] rNil (rVal (mCall (cl 25) (rVal (mVar 3) rNil)) (rVal (mCall (cl 25) (rVal (mVar 2) rNil)) rNil)))) (rVal (mVar 5) rNil)))))) (mRet (mC (.bool false))) mNext) (mRet (bin dEq (mComp (mISeq (mVar 7)) (mN 11) (mB (bin (dInT true) (mVar 11) (mVar 5))) (mVar 11) [11]) (mLst mNil))))))))))))))))
/-- _law_by_hand_right -/
def fn40 (cl : Nat → Fn) : Fn := mFn 6 0 ((mSeq (mAsgG (mTup (mCons (mTup (mCons (mC (.int 1)) (mCons (mC (.int 1)) mNil))) (mCons (mTup (mCons (mC (.int 0)) (mCons (mC (.int 1)) mNil))) (mCons (mTup (mCons (un dNeg (mC (.int 1))) (mCons (mC (.int 1)) mNil))) mNil)))) (mGtup 3 (mGcons (mN 0) (mGcons (mN 1) (mGcons (mN 2) mGnil))))) (mSeq (mSet 3 (mTup (mCons (mTup (mCons (mC (.int 0)) (mCons (mTup (mCons (mVar 2) (mCons (mVar 0) mNil))) mNil))) (mCons (mTup (mCons (mC (.int 1)) (mCons (mTup (mCons (mVar 1) (mCons (mVar 0) mNil))) mNil))) (mCons (mTup (mCons (mC (.int 0)) (mCons (mTup (mCons (mVar 0) (mCons (mVar 2) mNil))) mNil))) (mCons (mTup (mCons (mC (.int 1)) (mCons (mTup (mCons (mVar 1) (mCons (mVar 2) mNil))) mNil))) mNil)))))) (mSeq (mSet 4 (mLst (mCons (mCall (cl 19) (rVal (mVar 3) (rVal (mTup mNil) rNil))) (mCons (mCall (cl 19) (rVal (mTup mNil) (rVal (mVar 3) rNil))) (mCons (mCall (cl 19) (rVal (mVar 3) (rVal (mVar 3) rNil))) (mCons (mCall (cl 19) (rVal (mTup (mCons (mTup (mCons (mC (.int 0)) (mCons (mTup (mCons (mVar 1) (mCons (mVar 0) mNil))) mNil))) (mCons (mTup (mCons (mC (.int 0)) (mCons (mTup (mCons (mVar 1) (mCons (mVar 2) mNil))) mNil))) mNil))) (rVal (mTup mNil) rNil))) mNil)))))) (mSeq (mSet 5 (mLst (mCons (mTup (mCons (mVar 1) (mCons (mVar 0) mNil))) (mCons (mTup (mCons (mVar 1) (mCons (mVar 0) mNil))) (mCons (mC .none) (mCons (mC .none) mNil)))))) (mSeq (mSet 4 (bin dAdd (mVar 4) (mLst (mCons (mCall (cl 19) (rVal (mTup (mCons (mTup (mCons (mC (.int 0)) (mCons (mTup (mCons (mVar 1) (mCons (mVar 0) mNil))) mNil))) (mCons (mTup (mCons (mC (.int 1)) (mCons (mTup (mCons (mVar 0) (mCons (mVar 1) mNil))) mNil))) (mCons (mTup (mCons (mC (.int 0)) (mCons (mTup (mCons (mVar 1) (mCons (mVar 2) mNil))) mNil))) mNil)))) (rVal (mTup (mCons (mTup (mCons (mC (.int 1)) (mCons (mTup (mCons (mVar 0) (mCons (mVar 1) mNil))) mNil))) mNil)) rNil))) (mCons (mCall (cl 19) (rVal (mTup (mCons (mTup (mCons (mC (.int 0)) (mCons (mTup (mCons (mVar 0) (mCons (mVar 0) mNil))) mNil))) mNil)) (rVal (mTup (mCons (mTup (mCons (mC (.int 1)) (mCons (mTup (mCons (mVar 0) (mCons (mVar 0) mNil))) mNil))) mNil)) rNil))) mNil))))) (mSeq (mSet 5 (bin dAdd (mVar 5) (mLst (mCons (mTup (mCons (mVar 1) mNil)) (mCons (mTup (mCons (mVar 2) mNil)) mNil))))) (mSeq (mSet 4 (bin dAdd (mVar 4) (mLst (mCons (mCall (cl 19) (rVal (mTup (mCons (mTup (mCons (mC (.int 0)) (mCons (mTup (mCons (mVar 1) (mCons (mVar 0) mNil))) mNil))) (mCons (mTup (mCons (mC (.int 1)) (mCons (mTup (mCons (mVar 0) (mCons (mVar 1) mNil))) mNil))) mNil))) (rVal (mTup mNil) rNil))) (mCons (mCall (cl 19) (rVal (mTup (mCons (mTup (mCons (mC (.int 0)) (mCons (mTup (mCons (mVar 0) (mCons (mTup (mCons (un dNeg (mC (.int 3))) (mCons (mC (.int 1)) mNil))) mNil))) mNil))) (mCons (mTup (mCons (mC (.int 1)) (mCons (mTup (mCons (mVar 1) (mCons (mVar 1) mNil))) mNil))) mNil))) (rVal (mTup (mCons (mTup (mCons (mC (.int 2)) (mCons (mTup (mCons (mVar 1) (mCons (mVar 1) mNil))) mNil))) mNil)) rNil))) mNil))))) (mRet (mCall (cl 26) (rVal (mVar 4) (rVal (bin dAdd (mVar 5) (mLst (mCons (mTup mNil) (mCons (mTup (mCons (mTup (mCons (mC (.int 1)) (mCons (mC (.int 3)) mNil))) mNil)) mNil)))) rNil))))))))))))
/-- law -/
def fn41 (cl : Nat → Fn) : Fn := mFn 3 1 ((mSeq (mIfS (mNotT (mTru (mCall (cl 40) rNil))) (mRet (mC (.bool false))) mNext) (mSeq (mSet 1 (mCall (cl 21) (rVal (mCall (cl 23) (rVal (mVar 0) (rVal (mC (.int 1)) rNil))) (rVal (mC (.int 0)) rNil)))) (mRet (un dAll (mComp (mIRng1 (mCons (mC (.int 3)) mNil)) (mN 2) mYes (mCall (cl 39) (rSlot 1 rNil)) [2]))))))
def run : Nat → Nat → Fn
  | 0, _ => fun _ => none
  | k + 1, i => match i with
    | 5 => fn5 (run k)
    | 6 => fn6 (run k)
    | 7 => fn7 (run k)
    | 8 => fn8 (run k)
    | 9 => fn9 (run k)
    | 10 => fn10 (run k)
    | 12 => fn12 (run k)
    | 13 => fn13 (run k)
    | 14 => fn14 (run k)
    | 15 => fn15 (run k)
    | 17 => fn17 (run k)
    | 18 => fn18 (run k)
    | 19 => fn19 (run k)
    | 21 => fn21 (run k)
    | 22 => fn22 (run k)
    | 23 => fn23 (run k)
    | 24 => fn24 (run k)
    | 25 => fn25 (run k)
    | 26 => fn26 (run k)
    | 27 => fn27 (run k)
    | 28 => fn28 (run k)
    | 29 => fn29 (run k)
    | 30 => fn30 (run k)
    | 31 => fn31 (run k)
    | 32 => fn32 (run k)
    | 33 => fn33 (run k)
    | 34 => fn34 (run k)
    | 35 => fn35 (run k)
    | 36 => fn36 (run k)
    | 37 => fn37 (run k)
    | 38 => fn38 (run k)
    | 39 => fn39 (run k)
    | 40 => fn40 (run k)
    | 41 => fn41 (run k)
    | _ => fun _ => none
theorem rs5 (k : Nat) : run (k + 1) 5 = fn5 (run k) := rfl
theorem rs6 (k : Nat) : run (k + 1) 6 = fn6 (run k) := rfl
theorem rs7 (k : Nat) : run (k + 1) 7 = fn7 (run k) := rfl
theorem rs8 (k : Nat) : run (k + 1) 8 = fn8 (run k) := rfl
theorem rs9 (k : Nat) : run (k + 1) 9 = fn9 (run k) := rfl
theorem rs10 (k : Nat) : run (k + 1) 10 = fn10 (run k) := rfl
theorem rs12 (k : Nat) : run (k + 1) 12 = fn12 (run k) := rfl
theorem rs13 (k : Nat) : run (k + 1) 13 = fn13 (run k) := rfl
theorem rs14 (k : Nat) : run (k + 1) 14 = fn14 (run k) := rfl
theorem rs15 (k : Nat) : run (k + 1) 15 = fn15 (run k) := rfl
theorem rs17 (k : Nat) : run (k + 1) 17 = fn17 (run k) := rfl
theorem rs18 (k : Nat) : run (k + 1) 18 = fn18 (run k) := rfl
theorem rs19 (k : Nat) : run (k + 1) 19 = fn19 (run k) := rfl
theorem rs21 (k : Nat) : run (k + 1) 21 = fn21 (run k) := rfl
theorem rs22 (k : Nat) : run (k + 1) 22 = fn22 (run k) := rfl
theorem rs23 (k : Nat) : run (k + 1) 23 = fn23 (run k) := rfl
theorem rs24 (k : Nat) : run (k + 1) 24 = fn24 (run k) := rfl
theorem rs25 (k : Nat) : run (k + 1) 25 = fn25 (run k) := rfl
theorem rs26 (k : Nat) : run (k + 1) 26 = fn26 (run k) := rfl
theorem rs27 (k : Nat) : run (k + 1) 27 = fn27 (run k) := rfl
theorem rs28 (k : Nat) : run (k + 1) 28 = fn28 (run k) := rfl
theorem rs29 (k : Nat) : run (k + 1) 29 = fn29 (run k) := rfl
theorem rs30 (k : Nat) : run (k + 1) 30 = fn30 (run k) := rfl
theorem rs31 (k : Nat) : run (k + 1) 31 = fn31 (run k) := rfl
theorem rs32 (k : Nat) : run (k + 1) 32 = fn32 (run k) := rfl
theorem rs33 (k : Nat) : run (k + 1) 33 = fn33 (run k) := rfl
theorem rs34 (k : Nat) : run (k + 1) 34 = fn34 (run k) := rfl
theorem rs35 (k : Nat) : run (k + 1) 35 = fn35 (run k) := rfl
theorem rs36 (k : Nat) : run (k + 1) 36 = fn36 (run k) := rfl
theorem rs37 (k : Nat) : run (k + 1) 37 = fn37 (run k) := rfl
theorem rs38 (k : Nat) : run (k + 1) 38 = fn38 (run k) := rfl
theorem rs39 (k : Nat) : run (k + 1) 39 = fn39 (run k) := rfl
theorem rs40 (k : Nat) : run (k + 1) 40 = fn40 (run k) := rfl
theorem rs41 (k : Nat) : run (k + 1) 41 = fn41 (run k) := rfl
/-- what the top has written -/
structure Top (K : PySem.W.Frag) (mg : Str → Option Value) (fa : Nat → Addr) (fd : Nat → FuncData) : Prop where
  F5 : Fun K "fraction" "fraction" (topS 5) (fa 5) (fd 5)
  g5 : mg "fraction" = some (.ref (fa 5))
  b5 : Binds K (fd 5) ["top", "bottom"] []
  F6 : Fun K "whole" "whole" (topS 6) (fa 6) (fd 6)
  g6 : mg "whole" = some (.ref (fa 6))
  b6 : Binds K (fd 6) ["number"] []
  F7 : Fun K "plus" "plus" (topS 7) (fa 7) (fd 7)
  g7 : mg "plus" = some (.ref (fa 7))
  b7 : Binds K (fd 7) ["x", "y"] []
  F8 : Fun K "minus" "minus" (topS 8) (fa 8) (fd 8)
  g8 : mg "minus" = some (.ref (fa 8))
  b8 : Binds K (fd 8) ["x", "y"] []
  F9 : Fun K "times" "times" (topS 9) (fa 9) (fd 9)
  g9 : mg "times" = some (.ref (fa 9))
  b9 : Binds K (fd 9) ["x", "y"] []
  F10 : Fun K "over" "over" (topS 10) (fa 10) (fd 10)
  g10 : mg "over" = some (.ref (fa 10))
  b10 : Binds K (fd 10) ["x", "y"] []
  F12 : Fun K "_go_together" "_go_together" (topS 12) (fa 12) (fd 12)
  g12 : mg "_go_together" = some (.ref (fa 12))
  b12 : Binds K (fd 12) ["part", "other", "meets"] []
  F13 : Fun K "_place_to_join" "_place_to_join" (topS 13) (fa 13) (fd 13)
  g13 : mg "_place_to_join" = some (.ref (fa 13))
  b13 : Binds K (fd 13) ["row", "part", "meets"] []
  F14 : Fun K "_shortest" "_shortest" (topS 14) (fa 14) (fd 14)
  g14 : mg "_shortest" = some (.ref (fa 14))
  b14 : Binds K (fd 14) ["row", "meets"] []
  F15 : Fun K "normal_row" "normal_row" (topS 15) (fa 15) (fd 15)
  g15 : mg "normal_row" = some (.ref (fa 15))
  b15 : Binds K (fd 15) ["row"] []
  F17 : Fun K "_form_rest" "_form_rest" (topS 17) (fa 17) (fd 17)
  g17 : mg "_form_rest" = some (.ref (fa 17))
  b17 : Binds K (fd 17) ["row", "other"] []
  F18 : Fun K "_row_at" "_row_at" (topS 18) (fa 18) (fd 18)
  g18 : mg "_row_at" = some (.ref (fa 18))
  b18 : Binds K (fd 18) ["row", "n"] []
  F19 : Fun K "same_at" "same_at" (topS 19) (fa 19) (fd 19)
  g19 : mg "same_at" = some (.ref (fa 19))
  b19 : Binds K (fd 19) ["row", "other"] []
  F21 : Fun K "_law_box" "_law_box" (topS 21) (fa 21) (fd 21)
  g21 : mg "_law_box" = some (.ref (fa 21))
  b21 : Binds K (fd 21) ["_law_script", "_law_k"] []
  F22 : Fun K "_law_take" "_law_take" (topS 22) (fa 22) (fd 22)
  g22 : mg "_law_take" = some (.ref (fa 22))
  b22 : Binds K (fd 22) ["_law_urn", "_law_low_so"] []
  F23 : Fun K "_law_cells" "_law_cells" (topS 23) (fa 23) (fd 23)
  g23 : mg "_law_cells" = some (.ref (fa 23))
  b23 : Binds K (fd 23) ["_law_script", "_law_roof_so"] []
  F24 : Fun K "_law_of" "_law_of" (topS 24) (fa 24) (fd 24)
  g24 : mg "_law_of" = some (.ref (fa 24))
  b24 : Binds K (fd 24) ["_law_urn", "_law_some_so"] []
  F25 : Fun K "_law_lists" "_law_lists" (topS 25) (fa 25) (fd 25)
  g25 : mg "_law_lists" = some (.ref (fa 25))
  b25 : Binds K (fd 25) ["_law_matter"] []
  F26 : Fun K "_law_same" "_law_same" (topS 26) (fa 26) (fd 26)
  g26 : mg "_law_same" = some (.ref (fa 26))
  b26 : Binds K (fd 26) ["_law_mine", "_law_due"] []
  F27 : Fun K "_law_low" "_law_low" (topS 27) (fa 27) (fd 27)
  g27 : mg "_law_low" = some (.ref (fa 27))
  b27 : Binds K (fd 27) ["_law_top_so", "_law_down_so"] []
  F28 : Fun K "_law_add" "_law_add" (topS 28) (fa 28) (fd 28)
  g28 : mg "_law_add" = some (.ref (fa 28))
  b28 : Binds K (fd 28) ["_law_own", "_law_far"] []
  F29 : Fun K "_law_mul" "_law_mul" (topS 29) (fa 29) (fd 29)
  g29 : mg "_law_mul" = some (.ref (fa 29))
  b29 : Binds K (fd 29) ["_law_own", "_law_far"] []
  F30 : Fun K "_law_less" "_law_less" (topS 30) (fa 30) (fd 30)
  g30 : mg "_law_less" = some (.ref (fa 30))
  b30 : Binds K (fd 30) ["_law_one", "_law_two"] []
  F31 : Fun K "_law_sub" "_law_sub" (topS 31) (fa 31) (fd 31)
  g31 : mg "_law_sub" = some (.ref (fa 31))
  b31 : Binds K (fd 31) ["_law_one", "_law_two"] []
  F32 : Fun K "_law_normal" "_law_normal" (topS 32) (fa 32) (fd 32)
  g32 : mg "_law_normal" = some (.ref (fa 32))
  b32 : Binds K (fd 32) ["_law_row_so"] []
  F33 : Fun K "_law_much" "_law_much" (topS 33) (fa 33) (fd 33)
  g33 : mg "_law_much" = some (.ref (fa 33))
  b33 : Binds K (fd 33) ["_law_urn"] []
  F34 : Fun K "_law_form_at" "_law_form_at" (topS 34) (fa 34) (fd 34)
  g34 : mg "_law_form_at" = some (.ref (fa 34))
  b34 : Binds K (fd 34) ["_law_row_so", "_law_n"] []
  F35 : Fun K "_law_forms_left" "_law_forms_left" (topS 35) (fa 35) (fd 35)
  g35 : mg "_law_forms_left" = some (.ref (fa 35))
  b35 : Binds K (fd 35) ["_law_row_so", "_law_other_so"] []
  F36 : Fun K "_law_form" "_law_form" (topS 36) (fa 36) (fd 36)
  g36 : mg "_law_form" = some (.ref (fa 36))
  b36 : Binds K (fd 36) ["_law_urn"] []
  F37 : Fun K "_law_form_undone" "_law_form_undone" (topS 37) (fa 37) (fd 37)
  g37 : mg "_law_form_undone" = some (.ref (fa 37))
  b37 : Binds K (fd 37) ["_law_row_so"] []
  F38 : Fun K "_law_made" "_law_made" (topS 38) (fa 38) (fd 38)
  g38 : mg "_law_made" = some (.ref (fa 38))
  b38 : Binds K (fd 38) ["_law_urn", "_law_many"] []
  F39 : Fun K "_law_right" "_law_right" (topS 39) (fa 39) (fd 39)
  g39 : mg "_law_right" = some (.ref (fa 39))
  b39 : Binds K (fd 39) ["_law_urn"] []
  F40 : Fun K "_law_by_hand_right" "_law_by_hand_right" (topS 40) (fa 40) (fd 40)
  g40 : mg "_law_by_hand_right" = some (.ref (fa 40))
  b40 : Binds K (fd 40) [] []
  F41 : Fun K "law" "law" (topS 41) (fa 41) (fd 41)
  g41 : mg "law" = some (.ref (fa 41))
  b41 : Binds K (fd 41) ["_law_script"] []
  k19_0_other_row : KBinds K (fd 19) ["row", "other"] ["other", "row"] (perm 0 2 [1, 0]) (perm 0 2 [1, 0])
  m_ZERO : ConstT K mg "ZERO" [0, 1]
  f_gcd : mg "gcd" = some (.builtin "math.gcd")
  f_lcm : mg "lcm" = some (.builtin "math.lcm")
  z_abs : mg "abs" = none
  z_all : mg "all" = none
  z_bool : mg "bool" = none
  z_enumerate : mg "enumerate" = none
  z_int : mg "int" = none
  z_isinstance : mg "isinstance" = none
  z_len : mg "len" = none
  z_list : mg "list" = none
  z_max : mg "max" = none
  z_min : mg "min" = none
  z_range : mg "range" = none
  z_reversed : mg "reversed" = none
  z_set : mg "set" = none
  z_sorted : mg "sorted" = none
  z_str : mg "str" = none
  z_tuple : mg "tuple" = none
  z_zip : mg "zip" = none
structure Gs (P : Program) (w : World) (K : PySem.W.Frag) (mg : Str → Option Value) (base : Heap) (fa : Nat → Addr) (fd : Nat → FuncData) (k : Nat) (cl : Nat → Fn) : Prop where
  c5 : FnOk P w K mg base CX0 k (fa 5) (fd 5) ["top", "bottom"] (spD K 2 (cl 5))
  c6 : FnOk P w K mg base CX0 k (fa 6) (fd 6) ["number"] (spD K 1 (cl 6))
  c7 : FnOk P w K mg base CX0 k (fa 7) (fd 7) ["x", "y"] (spD K 2 (cl 7))
  c8 : FnOk P w K mg base CX0 k (fa 8) (fd 8) ["x", "y"] (spD K 2 (cl 8))
  c9 : FnOk P w K mg base CX0 k (fa 9) (fd 9) ["x", "y"] (spD K 2 (cl 9))
  c10 : FnOk P w K mg base CX0 k (fa 10) (fd 10) ["x", "y"] (spD K 2 (cl 10))
  c12 : FnOk P w K mg base CX0 k (fa 12) (fd 12) ["part", "other", "meets"] (spD K 3 (cl 12))
  c13 : FnOk P w K mg base CX0 k (fa 13) (fd 13) ["row", "part", "meets"] (spD K 3 (cl 13))
  c14 : FnOk P w K mg base CX0 k (fa 14) (fd 14) ["row", "meets"] (spD K 2 (cl 14))
  c15 : FnOk P w K mg base CX0 k (fa 15) (fd 15) ["row"] (spD K 1 (cl 15))
  c17 : FnOk P w K mg base CX0 k (fa 17) (fd 17) ["row", "other"] (spD K 2 (cl 17))
  c18 : FnOk P w K mg base CX0 k (fa 18) (fd 18) ["row", "n"] (spD K 2 (cl 18))
  c19 : FnOk P w K mg base CX0 k (fa 19) (fd 19) ["row", "other"] (spD K 2 (cl 19))
  c21 : FnOk P w K mg base CX0 k (fa 21) (fd 21) ["_law_script", "_law_k"] (spD K 2 (cl 21))
  c22 : FnOk P w K mg base CX0 k (fa 22) (fd 22) ["_law_urn", "_law_low_so"] (spD K 2 (cl 22))
  c23 : FnOk P w K mg base CX0 k (fa 23) (fd 23) ["_law_script", "_law_roof_so"] (spD K 2 (cl 23))
  c24 : FnOk P w K mg base CX0 k (fa 24) (fd 24) ["_law_urn", "_law_some_so"] (spD K 2 (cl 24))
  c25 : FnOk P w K mg base CX0 k (fa 25) (fd 25) ["_law_matter"] (spD K 1 (cl 25))
  c26 : FnOk P w K mg base CX0 k (fa 26) (fd 26) ["_law_mine", "_law_due"] (spD K 2 (cl 26))
  c27 : FnOk P w K mg base CX0 k (fa 27) (fd 27) ["_law_top_so", "_law_down_so"] (spD K 2 (cl 27))
  c28 : FnOk P w K mg base CX0 k (fa 28) (fd 28) ["_law_own", "_law_far"] (spD K 2 (cl 28))
  c29 : FnOk P w K mg base CX0 k (fa 29) (fd 29) ["_law_own", "_law_far"] (spD K 2 (cl 29))
  c30 : FnOk P w K mg base CX0 k (fa 30) (fd 30) ["_law_one", "_law_two"] (spD K 2 (cl 30))
  c31 : FnOk P w K mg base CX0 k (fa 31) (fd 31) ["_law_one", "_law_two"] (spD K 2 (cl 31))
  c32 : FnOk P w K mg base CX0 k (fa 32) (fd 32) ["_law_row_so"] (spD K 1 (cl 32))
  c33 : FnOk P w K mg base CX0 k (fa 33) (fd 33) ["_law_urn"] (spD K 1 (cl 33))
  c34 : FnOk P w K mg base CX0 k (fa 34) (fd 34) ["_law_row_so", "_law_n"] (spD K 2 (cl 34))
  c35 : FnOk P w K mg base CX0 k (fa 35) (fd 35) ["_law_row_so", "_law_other_so"] (spD K 2 (cl 35))
  c36 : FnOk P w K mg base CX0 k (fa 36) (fd 36) ["_law_urn"] (spD K 1 (cl 36))
  c37 : FnOk P w K mg base CX0 k (fa 37) (fd 37) ["_law_row_so"] (spD K 1 (cl 37))
  c38 : FnOk P w K mg base CX0 k (fa 38) (fd 38) ["_law_urn", "_law_many"] (spD K 2 (cl 38))
  c39 : FnOk P w K mg base CX0 k (fa 39) (fd 39) ["_law_urn"] (spD K 1 (cl 39))
  c40 : FnOk P w K mg base CX0 k (fa 40) (fd 40) [] (spD K 0 (cl 40))
  c41 : FnOk P w K mg base CX0 k (fa 41) (fd 41) ["_law_script"] (spD K 1 (cl 41))
section
variable {P : Program} {w : World} {K : PySem.W.Frag} {mg : Str → Option Value} {base : Heap} {fa : Nat → Addr} {fd : Nat → FuncData} {k : Nat} {cl : Nat → Fn}
theorem ok5 (T : Top K mg fa fd) (G : Gs P w K mg base fa fd k cl) : FnOk P w K mg base CX0 (k + 1) (fa 5) (fd 5) ["top", "bottom"] (spD K 2 (fn5 cl)) :=
  fn_ok T.F5 sc5 fun cdv A outer s H E hr => (dss_cons (ds_if (dt_cmp (op_eqD (room64 hr)) os_eq (de_var (pv 1)) de_int (nomark _)) (dss_one ds_never) dss_nil)
    (dss_cons (ds_set (fun te h => ps_set sc5.nd rfl (by first | exact Or.inl rfl | exact Or.inr rfl) h) (de_callF cr_gcd as_gcd (by rfl) T.f_gcd (da_cons (de_var (pv 0)) (da_cons (de_var (pv 1)) da_nil))))
    (dss_cons (ds_if (dt_cmp op_lt os_cmpI (de_var (pv 1)) de_int (nomark _)) (dss_one (ds_set (fun te h => ps_set sc5.nd rfl (by first | exact Or.inl rfl | exact Or.inr rfl) h) (de_un un_neg us_neg (de_var (pv 2))))) dss_nil)
    (dss_one (ds_ret (de_tup (da_cons (de_op op_fdivA os_divN (de_var (pv 0)) (de_var (pv 2))) (da_cons (de_op op_fdivA os_divN (de_var (pv 1)) (de_var (pv 2))) da_nil))))))))
theorem ok6 (T : Top K mg fa fd) (G : Gs P w K mg base fa fd k cl) : FnOk P w K mg base CX0 (k + 1) (fa 6) (fd 6) ["number"] (spD K 1 (fn6 cl)) :=
  fn_ok T.F6 sc6 fun cdv A outer s H E hr => (dss_one (ds_ret (de_tup (da_cons (de_var (pv 0)) (da_cons de_int da_nil)))))
theorem ok7 (T : Top K mg fa fd) (G : Gs P w K mg base fa fd k cl) : FnOk P w K mg base CX0 (k + 1) (fa 7) (fd 7) ["x", "y"] (spD K 2 (fn7 cl)) :=
  fn_ok T.F7 sc7 fun cdv A outer s H E hr => (dss_cons (ds_if (dt_cmp (op_eqD (room64 hr)) os_eq (de_ix ix_A os_ix (de_var (pv 0)) de_int (fun _ _ => rfl)) (de_ix ix_A os_ix (de_var (pv 1)) de_int (fun _ _ => rfl)) (nomark _)) (dss_one (ds_ret (de_call G.c5 hr (by rfl) T.g5 T.F5.kp T.b5 (dr_val (de_op op_addA os_add (de_ix ix_A os_ix (de_var (pv 0)) de_int (fun _ _ => rfl)) (de_ix ix_A os_ix (de_var (pv 1)) de_int (fun _ _ => rfl))) (dr_val (de_ix ix_A os_ix (de_var (pv 0)) de_int (fun _ _ => rfl)) dr_nil)) (rl_val (rl_val (rl_nil rfl)))))) dss_nil)
    (dss_one (ds_ret (de_call G.c5 hr (by rfl) T.g5 T.F5.kp T.b5 (dr_val (de_op op_addA os_add (de_op op_mulA os_mul (de_ix ix_A os_ix (de_var (pv 0)) de_int (fun _ _ => rfl)) (de_ix ix_A os_ix (de_var (pv 1)) de_int (fun _ _ => rfl))) (de_op op_mulA os_mul (de_ix ix_A os_ix (de_var (pv 1)) de_int (fun _ _ => rfl)) (de_ix ix_A os_ix (de_var (pv 0)) de_int (fun _ _ => rfl)))) (dr_val (de_op op_mulA os_mul (de_ix ix_A os_ix (de_var (pv 0)) de_int (fun _ _ => rfl)) (de_ix ix_A os_ix (de_var (pv 1)) de_int (fun _ _ => rfl))) dr_nil)) (rl_val (rl_val (rl_nil rfl)))))))
theorem ok8 (T : Top K mg fa fd) (G : Gs P w K mg base fa fd k cl) : FnOk P w K mg base CX0 (k + 1) (fa 8) (fd 8) ["x", "y"] (spD K 2 (fn8 cl)) :=
  fn_ok T.F8 sc8 fun cdv A outer s H E hr => (dss_one (ds_ret (de_call G.c7 hr (by rfl) T.g7 T.F7.kp T.b7 (dr_val (de_var (pv 0)) (dr_val (de_tup (da_cons (de_un un_neg us_neg (de_ix ix_A os_ix (de_var (pv 1)) de_int (fun _ _ => rfl))) (da_cons (de_ix ix_A os_ix (de_var (pv 1)) de_int (fun _ _ => rfl)) da_nil))) dr_nil)) (rl_val (rl_val (rl_nil rfl))))))
theorem ok9 (T : Top K mg fa fd) (G : Gs P w K mg base fa fd k cl) : FnOk P w K mg base CX0 (k + 1) (fa 9) (fd 9) ["x", "y"] (spD K 2 (fn9 cl)) :=
  fn_ok T.F9 sc9 fun cdv A outer s H E hr => (dss_one (ds_ret (de_call G.c5 hr (by rfl) T.g5 T.F5.kp T.b5 (dr_val (de_op op_mulA os_mul (de_ix ix_A os_ix (de_var (pv 0)) de_int (fun _ _ => rfl)) (de_ix ix_A os_ix (de_var (pv 1)) de_int (fun _ _ => rfl))) (dr_val (de_op op_mulA os_mul (de_ix ix_A os_ix (de_var (pv 0)) de_int (fun _ _ => rfl)) (de_ix ix_A os_ix (de_var (pv 1)) de_int (fun _ _ => rfl))) dr_nil)) (rl_val (rl_val (rl_nil rfl))))))
theorem ok10 (T : Top K mg fa fd) (G : Gs P w K mg base fa fd k cl) : FnOk P w K mg base CX0 (k + 1) (fa 10) (fd 10) ["x", "y"] (spD K 2 (fn10 cl)) :=
  fn_ok T.F10 sc10 fun cdv A outer s H E hr => (dss_one (ds_ret (de_call G.c5 hr (by rfl) T.g5 T.F5.kp T.b5 (dr_val (de_op op_mulA os_mul (de_ix ix_A os_ix (de_var (pv 0)) de_int (fun _ _ => rfl)) (de_ix ix_A os_ix (de_var (pv 1)) de_int (fun _ _ => rfl))) (dr_val (de_op op_mulA os_mul (de_ix ix_A os_ix (de_var (pv 0)) de_int (fun _ _ => rfl)) (de_ix ix_A os_ix (de_var (pv 1)) de_int (fun _ _ => rfl))) dr_nil)) (rl_val (rl_val (rl_nil rfl))))))
theorem ok12 (T : Top K mg fa fd) (G : Gs P w K mg base fa fd k cl) : FnOk P w K mg base CX0 (k + 1) (fa 12) (fd 12) ["part", "other", "meets"] (spD K 3 (fn12 cl)) :=
  fn_ok T.F12 sc12 fun cdv A outer s H E hr => (dss_one (ds_ret (de_cmp (op_inB (room65 hr)) (os_inB false) (de_tup (da_cons (de_callA (call_min2 rfl) as_min2 (by rfl) T.z_min boot_min (da_cons (de_var (pv 0)) (da_cons (de_var (pv 1)) da_nil))) (da_cons (de_callA (call_max2 rfl) as_max2 (by rfl) T.z_max boot_max (da_cons (de_var (pv 0)) (da_cons (de_var (pv 1)) da_nil))) da_nil))) (de_var (pv 2)) (by with_unfolding_all rfl))))
theorem ok13 (T : Top K mg fa fd) (G : Gs P w K mg base fa fd k cl) : FnOk P w K mg base CX0 (k + 1) (fa 13) (fd 13) ["row", "part", "meets"] (spD K 3 (fn13 cl)) :=
  fn_ok T.F13 sc13 fun cdv A outer s H E hr => (dss_cons (ds_for PassesOwn.never rfl (di_down (by rfl) T.z_range (da_cons (de_op op_sub os_sub (de_call1 call_len_seq us_len (by rfl) T.z_len boot_len (de_var (pv 0))) de_int) (da_cons (de_un un_neg us_neg de_int) (da_cons (de_un un_neg us_neg de_int) da_nil)))) (dg_name (pg_name sc13.nd rfl (by first | exact Or.inl rfl | exact Or.inr rfl))) (dss_cons (ds_if (dt_cmp (op_eqD (room64 hr)) os_eq (de_ix ix_A os_ix (de_ix ix_A os_ix (de_var (pv 0)) (de_var (pv 3)) (fun _ _ => rfl)) de_int (fun _ _ => rfl)) (de_var (pv 1)) (nomark _)) (dss_one (ds_ret (de_var (pv 3)))) dss_nil)
    (dss_one (ds_if (dt_not (dt_tru (de_call G.c12 hr (by rfl) T.g12 T.F12.kp T.b12 (dr_val (de_ix ix_A os_ix (de_ix ix_A os_ix (de_var (pv 0)) (de_var (pv 3)) (fun _ _ => rfl)) de_int (fun _ _ => rfl)) (dr_val (de_var (pv 1)) (dr_val (de_var (pv 2)) dr_nil))) (rl_val (rl_val (rl_val (rl_nil rfl))))))) (dss_one (ds_ret de_non)) dss_nil))))
    (dss_one (ds_ret de_non)))
theorem ok14 (T : Top K mg fa fd) (G : Gs P w K mg base fa fd k cl) : FnOk P w K mg base CX0 (k + 1) (fa 14) (fd 14) ["row", "meets"] (spD K 2 (fn14 cl)) :=
  fn_ok T.F14 sc14 fun cdv A outer s H E hr => (dss_cons (ds_set (fun te h => ps_set sc14.nd rfl (by first | exact Or.inl rfl | exact Or.inr rfl) h) (de_lst da_nil))
    (dss_cons (ds_for PassesOwn.never rfl (di_seq (de_var (pv 0))) (dg_seq rfl (dgs_cons (dg_name (pg_name sc14.nd rfl (by first | exact Or.inl rfl | exact Or.inr rfl))) (dgs_cons (dg_name (pg_name sc14.nd rfl (by first | exact Or.inl rfl | exact Or.inr rfl))) dgs_nil))) (dss_cons (ds_set (fun te h => ps_set sc14.nd rfl (by first | exact Or.inl rfl | exact Or.inr rfl) h) (de_call G.c13 hr (by rfl) T.g13 T.F13.kp T.b13 (dr_slot (pv 2) (dr_val (de_var (pv 3)) (dr_val (de_var (pv 1)) dr_nil))) (rl_slot (rl_val (rl_val (rl_nil rfl))))))
    (dss_cons (ds_if (dt_cmp op_isN os_is (de_var (pv 5)) de_non (nomark _)) (dss_one (ds_par (fun ta h => ps_par rfl sc14.nd rfl rfl (by decide) rfl rfl h (by rfl)) (de_call1 call_len_seq us_len (by rfl) T.z_len boot_len (de_var (pv 2))) (de_const (by rfl) T.m_ZERO))) (dss_one (ds_set (fun te h => ps_set sc14.nd rfl (by first | exact Or.inl rfl | exact Or.inr rfl) h) (de_ix ix_A os_ix (de_ix ix_A os_ix (de_var (pv 2)) (de_var (pv 5)) (fun _ _ => rfl)) de_int (fun _ _ => rfl)))))
    (dss_cons (ds_set (fun te h => ps_set sc14.nd rfl (by first | exact Or.inl rfl | exact Or.inr rfl) h) (de_call G.c7 hr (by rfl) T.g7 T.F7.kp T.b7 (dr_val (de_var (pv 6)) (dr_val (de_var (pv 4)) dr_nil)) (rl_val (rl_val (rl_nil rfl)))))
    (dss_one (ds_slx (fun te ta tc h h1 h2 => ps_asg h (pg_slx (pv 2) h1 h2)) (de_if (dt_tru (de_ix ix_A os_ix (de_var (pv 7)) de_int (fun _ _ => rfl))) (de_lst (da_cons (de_tup (da_cons (de_var (pv 3)) (da_cons (de_var (pv 7)) da_nil))) da_nil)) (de_lst da_nil)) (do_some (de_var (pv 5))) (do_some (de_op op_addA os_add (de_var (pv 5)) de_int))))))))
    (dss_one (ds_ret (de_var (pv 2))))))
theorem ok15 (T : Top K mg fa fd) (G : Gs P w K mg base fa fd k cl) : FnOk P w K mg base CX0 (k + 1) (fa 15) (fd 15) ["row"] (spD K 1 (fn15 cl)) :=
  fn_ok T.F15 sc15 fun cdv A outer s H E hr => (dss_one (ds_ret (de_callT1 call_tuple_of us_tuple (by rfl) T.z_tuple boot_tuple (de_call G.c14 hr (by rfl) T.g14 T.F14.kp T.b14 (dr_val (de_var (pv 0)) (dr_val (de_tup da_nil) dr_nil)) (rl_val (rl_val (rl_nil rfl)))))))
theorem ok17 (T : Top K mg fa fd) (G : Gs P w K mg base fa fd k cl) : FnOk P w K mg base CX0 (k + 1) (fa 17) (fd 17) ["row", "other"] (spD K 2 (fn17 cl)) :=
  fn_ok T.F17 sc17 fun cdv A outer s H E hr => (dss_cons (ds_setLc rfl sc17.nd rfl rfl (sw_true rfl rfl rfl (by decide +kernel)) (di_rev (by rfl) T.z_reversed (de_var (pv 1))) (own := [("part", 4), ("u", 5), ("v", 6)]) (blkOk_by (by kernel_rfl)) (fun _ _ _ _ _ => (dg_seq rfl (dgs_cons (dg_name (pg_name sc17.nd rfl (by first | exact Or.inl rfl | exact Or.inr rfl))) (dgs_cons (dg_seq rfl (dgs_cons (dg_name (pg_name sc17.nd rfl (by first | exact Or.inl rfl | exact Or.inr rfl))) (dgs_cons (dg_name (pg_name sc17.nd rfl (by first | exact Or.inl rfl | exact Or.inr rfl))) dgs_nil))) dgs_nil)))) (fun _ _ _ _ _ => dts_nil) (fun _ _ _ _ _ => (de_tup (da_cons (de_var (pv 4)) (da_cons (de_tup (da_cons (de_call G.c8 hr (by rfl) T.g8 T.F8.kp T.b8 (dr_val (de_const (by rfl) T.m_ZERO) (dr_val (de_var (pv 5)) dr_nil)) (rl_val (rl_val (rl_nil rfl)))) (da_cons (de_call G.c8 hr (by rfl) T.g8 T.F8.kp T.b8 (dr_val (de_const (by rfl) T.m_ZERO) (dr_val (de_var (pv 6)) dr_nil)) (rl_val (rl_val (rl_nil rfl)))) da_nil))) da_nil)))) (by decide))
    (dss_cons (ds_set (fun te h => ps_set sc17.nd rfl (by first | exact Or.inl rfl | exact Or.inr rfl) h) (de_lst da_nil))
    (dss_cons (ds_for PassesOwn.never rfl (di_seq (de_op op_addA os_add (de_callT1 call_list_of us_list (by rfl) T.z_list boot_list (de_var (pv 0))) (de_var (pv 2)))) (dg_seq rfl (dgs_cons (dg_name (pg_name sc17.nd rfl (by first | exact Or.inl rfl | exact Or.inr rfl))) (dgs_cons (dg_seq rfl (dgs_cons (dg_name (pg_name sc17.nd rfl (by first | exact Or.inl rfl | exact Or.inr rfl))) (dgs_cons (dg_name (pg_name sc17.nd rfl (by first | exact Or.inl rfl | exact Or.inr rfl))) dgs_nil))) dgs_nil))) (dss_cons (ds_if (dt_w (dw_and (dt_tru (de_var (pv 3))) (dw_and1 (dt_cmp (op_eqD (room64 hr)) os_eq (de_ix ix_A os_ix (de_ix ix_A os_ix (de_var (pv 3)) (de_un un_neg us_neg de_int) (fun _ _ => rfl)) de_int (fun _ _ => rfl)) (de_var (pv 4)) (nomark _))))) (dss_cons (ds_asgG (fun te g h1 h2 => ps_asg h1 h2) (de_pop (pe_bm0 PySem.F.plainAttrs_list PySem.F.slot_list_pop PySem.F.type_list_pop mt_pop (pv 3))) (dg_tup rfl (dgs_cons (dg_name (pg_name sc17.nd rfl (by first | exact Or.inl rfl | exact Or.inr rfl))) (dgs_cons (dg_tup rfl (dgs_cons (dg_name (pg_name sc17.nd rfl (by first | exact Or.inl rfl | exact Or.inr rfl))) (dgs_cons (dg_name (pg_name sc17.nd rfl (by first | exact Or.inl rfl | exact Or.inr rfl))) dgs_nil))) dgs_nil))))
    (dss_one (ds_par (fun ta h => ps_par rfl sc17.nd rfl rfl (by decide) rfl rfl h (by rfl)) (de_call G.c7 hr (by rfl) T.g7 T.F7.kp T.b7 (dr_val (de_var (pv 8)) (dr_val (de_var (pv 5)) dr_nil)) (rl_val (rl_val (rl_nil rfl)))) (de_call G.c7 hr (by rfl) T.g7 T.F7.kp T.b7 (dr_val (de_var (pv 9)) (dr_val (de_var (pv 6)) dr_nil)) (rl_val (rl_val (rl_nil rfl))))))) dss_nil)
    (dss_one (ds_if (dt_w (dw_or (dt_tru (de_ix ix_A os_ix (de_var (pv 5)) de_int (fun _ _ => rfl))) (dw_or1 (dt_tru (de_ix ix_A os_ix (de_var (pv 6)) de_int (fun _ _ => rfl)))))) (dss_one (ds_expr (de_app (fun t h => pe_bm PySem.F.plainAttrs_list PySem.F.slot_list_append PySem.F.type_list_append mt_append (pv 3) h) (de_tup (da_cons (de_var (pv 4)) (da_cons (de_tup (da_cons (de_var (pv 5)) (da_cons (de_var (pv 6)) da_nil))) da_nil)))))) dss_nil))))
    (dss_one (ds_ret (de_var (pv 3)))))))
theorem ok18 (T : Top K mg fa fd) (G : Gs P w K mg base fa fd k cl) : FnOk P w K mg base CX0 (k + 1) (fa 18) (fd 18) ["row", "n"] (spD K 2 (fn18 cl)) :=
  fn_ok T.F18 sc18 fun cdv A outer s H E hr => (dss_one (ds_ret (de_callT1 call_tuple_of us_tuple (by rfl) T.z_tuple boot_tuple (de_lc rfl sc18.nd (di_seq (de_var (pv 0))) (own := [("part", 2), ("u", 3), ("v", 4)]) (blkOk_by (by kernel_rfl)) (fun _ _ _ _ _ => (dg_seq rfl (dgs_cons (dg_name (pg_name sc18.nd rfl (by first | exact Or.inl rfl | exact Or.inr rfl))) (dgs_cons (dg_seq rfl (dgs_cons (dg_name (pg_name sc18.nd rfl (by first | exact Or.inl rfl | exact Or.inr rfl))) (dgs_cons (dg_name (pg_name sc18.nd rfl (by first | exact Or.inl rfl | exact Or.inr rfl))) dgs_nil))) dgs_nil)))) (fun _ _ _ _ _ => dts_nil) (fun _ _ _ _ _ => (de_tup (da_cons (de_var (pv 2)) (da_cons (de_call G.c7 hr (by rfl) T.g7 T.F7.kp T.b7 (dr_val (de_var (pv 3)) (dr_val (de_call G.c9 hr (by rfl) T.g9 T.F9.kp T.b9 (dr_val (de_var (pv 4)) (dr_val (de_var (pv 1)) dr_nil)) (rl_val (rl_val (rl_nil rfl)))) dr_nil)) (rl_val (rl_val (rl_nil rfl)))) da_nil)))) (by decide)))))
theorem ok19 (T : Top K mg fa fd) (G : Gs P w K mg base fa fd k cl) : FnOk P w K mg base CX0 (k + 1) (fa 19) (fd 19) ["row", "other"] (spD K 2 (fn19 cl)) :=
  fn_ok T.F19 sc19 fun cdv A outer s H E hr => (dss_cons (ds_set (fun te h => ps_set sc19.nd rfl (by first | exact Or.inl rfl | exact Or.inr rfl) h) (de_call G.c17 hr (by rfl) T.g17 T.F17.kp T.b17 (dr_val (de_var (pv 0)) (dr_val (de_var (pv 1)) dr_nil)) (rl_val (rl_val (rl_nil rfl)))))
    (dss_cons (ds_if (dt_not (dt_tru (de_var (pv 2)))) (dss_one (ds_ret de_non)) dss_nil)
    (dss_cons (ds_setLc rfl sc19.nd rfl rfl (sw_true rfl rfl rfl (by decide +kernel)) (di_seq (de_var (pv 2))) (own := [("_", 5), ("u", 8), ("v", 9)]) (blkOk_by (by kernel_rfl)) (fun _ _ _ _ _ => (dg_seq rfl (dgs_cons (dg_name (pg_name sc19.nd rfl (by first | exact Or.inl rfl | exact Or.inr rfl))) (dgs_cons (dg_seq rfl (dgs_cons (dg_name (pg_name sc19.nd rfl (by first | exact Or.inl rfl | exact Or.inr rfl))) (dgs_cons (dg_name (pg_name sc19.nd rfl (by first | exact Or.inl rfl | exact Or.inr rfl))) dgs_nil))) dgs_nil)))) (fun _ _ _ _ _ => (dts_one (dt_tru (de_ix ix_A os_ix (de_var (pv 9)) de_int (fun _ _ => rfl))))) (fun _ _ _ _ _ => (de_call G.c10 hr (by rfl) T.g10 T.F10.kp T.b10 (dr_val (de_call G.c8 hr (by rfl) T.g8 T.F8.kp T.b8 (dr_val (de_const (by rfl) T.m_ZERO) (dr_val (de_var (pv 8)) dr_nil)) (rl_val (rl_val (rl_nil rfl)))) (dr_val (de_var (pv 9)) dr_nil)) (rl_val (rl_val (rl_nil rfl))))) (by decide))
    (dss_cons (ds_set (fun te h => ps_set sc19.nd rfl (by first | exact Or.inl rfl | exact Or.inr rfl) h) de_int)
    (dss_cons (ds_for PassesOwn.never rfl (di_seq (de_var (pv 3))) (dg_seq rfl (dgs_cons (dg_name (pg_name sc19.nd rfl (by first | exact Or.inl rfl | exact Or.inr rfl))) (dgs_cons (dg_name (pg_name sc19.nd rfl (by first | exact Or.inl rfl | exact Or.inr rfl))) dgs_nil))) (dss_one (ds_set (fun te h => ps_set sc19.nd rfl (by first | exact Or.inl rfl | exact Or.inr rfl) h) (de_callF cr_lcm as_lcm (by rfl) T.f_lcm (da_cons (de_var (pv 4)) (da_cons (de_var (pv 6)) da_nil))))))
    (dss_cons (ds_set (fun te h => ps_set sc19.nd rfl (by first | exact Or.inl rfl | exact Or.inr rfl) h) (de_sortsetI (cr_setI rfl) (cr_sortedSet rfl) us_sortsetI (by rfl) T.z_sorted boot_sorted (by rfl) T.z_set boot_set (de_lc rfl sc19.nd (di_seq (de_var (pv 3))) (own := [("top", 10), ("bottom", 6)]) (blkOk_by (by kernel_rfl)) (fun _ _ _ _ _ => (dg_seq rfl (dgs_cons (dg_name (pg_name sc19.nd rfl (by first | exact Or.inl rfl | exact Or.inr rfl))) (dgs_cons (dg_name (pg_name sc19.nd rfl (by first | exact Or.inl rfl | exact Or.inr rfl))) dgs_nil)))) (fun _ _ _ _ _ => dts_nil) (fun _ _ _ _ _ => (de_op op_mulA os_mul (de_var (pv 10)) (de_op op_fdivW os_div (de_var (pv 4)) (de_var (pv 6))))) (by decide))))
    (dss_one (ds_ret (de_callT1 call_tuple_of us_tuple (by rfl) T.z_tuple boot_tuple (de_lc rfl sc19.nd (di_seq (de_lc rfl sc19.nd (di_seq (de_var (pv 7))) (own := [("top", 10)]) (blkOk_by (by kernel_rfl)) (fun _ _ _ _ _ => (dg_name (pg_name sc19.nd rfl (by first | exact Or.inl rfl | exact Or.inr rfl)))) (fun _ _ _ _ _ => dts_nil) (fun _ _ _ _ _ => (de_call G.c10 hr (by rfl) T.g10 T.F10.kp T.b10 (dr_val (de_call G.c6 hr (by rfl) T.g6 T.F6.kp T.b6 (dr_val (de_var (pv 10)) dr_nil) (rl_val (rl_nil rfl))) (dr_val (de_call G.c6 hr (by rfl) T.g6 T.F6.kp T.b6 (dr_val (de_var (pv 4)) dr_nil) (rl_val (rl_nil rfl))) dr_nil)) (rl_val (rl_val (rl_nil rfl))))) (by decide))) (own := [("n", 11)]) (blkOk_by (by kernel_rfl)) (fun _ _ _ _ _ => (dg_name (pg_name sc19.nd rfl (by first | exact Or.inl rfl | exact Or.inr rfl)))) (fun _ _ _ _ _ => (dts_one (dt_cmp (op_eqD (room64 hr)) os_eq (de_call G.c15 hr (by rfl) T.g15 T.F15.kp T.b15 (dr_val (de_call G.c18 hr (by rfl) T.g18 T.F18.kp T.b18 (dr_val (de_var (pv 2)) (dr_val (de_var (pv 11)) dr_nil)) (rl_val (rl_val (rl_nil rfl)))) dr_nil) (rl_val (rl_nil rfl))) (de_tup da_nil) (nomark _)))) (fun _ _ _ _ _ => (de_var (pv 11))) (by decide)))))))))))
theorem ok21 (T : Top K mg fa fd) (G : Gs P w K mg base fa fd k cl) : FnOk P w K mg base CX0 (k + 1) (fa 21) (fd 21) ["_law_script", "_law_k"] (spD K 2 (fn21 cl)) :=
  fn_ok T.F21 sc21 fun cdv A outer s H E hr => (dss_cons (ds_set (fun te h => ps_set sc21.nd rfl (by first | exact Or.inl rfl | exact Or.inr rfl) h) (de_if (dt_cmp op_lt os_cmpI (de_var (pv 1)) (de_call1 call_len_seq us_len (by rfl) T.z_len boot_len (de_var (pv 0))) (nomark _)) (de_ix ix_A os_ix (de_var (pv 0)) (de_var (pv 1)) (fun _ _ => rfl)) de_int))
    (dss_one (ds_ret (de_lst (da_cons (de_op op_mulA os_mul (de_call1 call_abs us_abs (by rfl) T.z_abs boot_abs (de_var (pv 2))) (de_callT1 call_int1 us_int (by rfl) T.z_int boot_int (de_cmp op_ge os_cmpI (de_call1 call_abs us_abs (by rfl) T.z_abs boot_abs (de_var (pv 2))) (de_op op_pow os_pow de_int de_int) (nomark _)))) (da_cons (de_op op_addA os_add (de_op op_addA os_add (de_op op_mod os_mod (de_callT1 call_int1 us_int (by rfl) T.z_int boot_int (de_var (pv 2))) de_int) (de_op op_mulA os_mul de_int (de_var (pv 1)))) de_int) (da_cons de_int da_nil)))))))
theorem ok22 (T : Top K mg fa fd) (G : Gs P w K mg base fa fd k cl) : FnOk P w K mg base CX0 (k + 1) (fa 22) (fd 22) ["_law_urn", "_law_low_so"] (spD K 2 (fn22 cl)) :=
  fn_ok T.F22 sc22 fun cdv A outer s H E hr => (dss_cons (ds_if (dt_cmp op_gt os_cmpI (de_ix ix_A os_ix (de_var (pv 0)) de_int (fun _ _ => rfl)) de_int (nomark _)) (dss_cons (ds_set (fun te h => ps_set sc22.nd rfl (by first | exact Or.inl rfl | exact Or.inr rfl) h) (de_op op_mod os_mod (de_callT1 call_int1 us_int (by rfl) T.z_int boot_int (de_ix ix_A os_ix (de_var (pv 0)) de_int (fun _ _ => rfl))) (de_var (pv 1))))
    (dss_cons (ds_store (fun te tk h1 h2 => ps_asg h1 (pg_sub (pv 0) h2 set_list)) (de_op op_fdivW os_div (de_ix ix_A os_ix (de_var (pv 0)) de_int (fun _ _ => rfl)) (de_var (pv 1))) de_int)
    (dss_one (ds_ret (de_var (pv 2)))))) dss_nil)
    (dss_cons (ds_store (fun te tk h1 h2 => ps_asg h1 (pg_sub (pv 0) h2 set_list)) (de_op op_addA os_add (de_ix ix_A os_ix (de_var (pv 0)) de_int (fun _ _ => rfl)) de_int) de_int)
    (dss_cons (ds_set (fun te h => ps_set sc22.nd rfl (by first | exact Or.inl rfl | exact Or.inr rfl) h) (de_op op_mod os_mod (de_callT1 call_int1 us_int (by rfl) T.z_int boot_int (de_op op_mulA os_mul (de_op op_addA os_add (de_ix ix_A os_ix (de_var (pv 0)) de_int (fun _ _ => rfl)) (de_op op_mulA os_mul de_int (de_ix ix_A os_ix (de_var (pv 0)) de_int (fun _ _ => rfl)))) (de_op op_addA os_add de_int (de_ix ix_A os_ix (de_var (pv 0)) de_int (fun _ _ => rfl))))) de_int))
    (dss_cons (ds_set (fun te h => ps_set sc22.nd rfl (by first | exact Or.inl rfl | exact Or.inr rfl) h) (de_op op_addA os_add (de_op op_mod os_mod (de_callT1 call_int1 us_int (by rfl) T.z_int boot_int (de_var (pv 3))) de_int) de_int))
    (dss_cons (ds_set (fun te h => ps_set sc22.nd rfl (by first | exact Or.inl rfl | exact Or.inr rfl) h) (de_op op_mod os_mod (de_callT1 call_int1 us_int (by rfl) T.z_int boot_int (de_op op_mulA os_mul (de_op op_addA os_add (de_op op_addA os_add (de_var (pv 3)) (de_ix ix_A os_ix (de_var (pv 0)) de_int (fun _ _ => rfl))) (de_op op_fdivW os_div (de_ix ix_A os_ix (de_var (pv 0)) de_int (fun _ _ => rfl)) de_int)) (de_var (pv 4)))) de_int))
    (dss_one (ds_ret (de_op op_mod os_mod (de_callT1 call_int1 us_int (by rfl) T.z_int boot_int (de_op op_fdivW os_div (de_op op_mod os_mod (de_callT1 call_int1 us_int (by rfl) T.z_int boot_int (de_op op_addA os_add (de_op op_mulA os_mul (de_var (pv 5)) de_int) (de_var (pv 3)))) de_int) de_int)) (de_var (pv 1))))))))))
theorem ok23 (T : Top K mg fa fd) (G : Gs P w K mg base fa fd k cl) : FnOk P w K mg base CX0 (k + 1) (fa 23) (fd 23) ["_law_script", "_law_roof_so"] (spD K 2 (fn23 cl)) :=
  fn_ok T.F23 sc23 fun cdv A outer s H E hr => (dss_cons (ds_set (fun te h => ps_set sc23.nd rfl (by first | exact Or.inl rfl | exact Or.inr rfl) h) (de_or (de_callT1 call_list_of us_list (by rfl) T.z_list boot_list (de_sl (de_var (pv 0)) do_none (do_some (de_var (pv 1))))) (de_one (de_lst (da_cons de_int da_nil)))))
    (dss_cons (ds_for PassesOwn.never rfl (di_enum (by rfl) T.z_enumerate (da_cons (de_sl (de_var (pv 0)) (do_some (de_var (pv 1))) (do_some de_int)) da_nil)) (dg_tup rfl (dgs_cons (dg_name (pg_name sc23.nd rfl (by first | exact Or.inl rfl | exact Or.inr rfl))) (dgs_cons (dg_name (pg_name sc23.nd rfl (by first | exact Or.inl rfl | exact Or.inr rfl))) dgs_nil))) (dss_cons (ds_set (fun te h => ps_set sc23.nd rfl (by first | exact Or.inl rfl | exact Or.inr rfl) h) (de_op op_mod os_mod (de_callT1 call_int1 us_int (by rfl) T.z_int boot_int (de_var (pv 3))) (de_var (pv 1))))
    (dss_one (ds_store (fun te tk h1 h2 => ps_asg h1 (pg_sub (pv 2) h2 set_list)) (de_op op_addA os_add (de_ix ix_A os_ix (de_var (pv 2)) (de_var (pv 5)) (fun _ _ => rfl)) (de_op op_mulA os_mul (de_var (pv 4)) (de_op op_addA os_add (de_var (pv 3)) de_int))) (de_var (pv 5))))))
    (dss_one (ds_ret (de_var (pv 2))))))
theorem ok24 (T : Top K mg fa fd) (G : Gs P w K mg base fa fd k cl) : FnOk P w K mg base CX0 (k + 1) (fa 24) (fd 24) ["_law_urn", "_law_some_so"] (spD K 2 (fn24 cl)) :=
  fn_ok T.F24 sc24 fun cdv A outer s H E hr => (dss_one (ds_ret (de_ix ix_A os_ix (de_var (pv 1)) (de_call G.c22 hr (by rfl) T.g22 T.F22.kp T.b22 (dr_slot (pv 0) (dr_val (de_call1 call_len_seq us_len (by rfl) T.z_len boot_len (de_var (pv 1))) dr_nil)) (rl_slot (rl_val (rl_nil rfl)))) (fun _ _ => rfl))))
theorem ok25 (T : Top K mg fa fd) (G : Gs P w K mg base fa fd k cl) : FnOk P w K mg base CX0 (k + 1) (fa 25) (fd 25) ["_law_matter"] (spD K 1 (fn25 cl)) :=
  fn_ok T.F25 sc25 fun cdv A outer s H E hr => (dss_one (ds_ret (de_if (dt_tru (de_isi2 (t := Ty.list) (u := Ty.tuple) (by rfl) T.z_isinstance boot_isinstance (de_var (pv 0)) (pe_bltn (by rfl) T.z_list boot_list rfl) (pe_bltn (by rfl) T.z_tuple boot_tuple rfl))) (de_lc rfl sc25.nd (di_seq (de_var (pv 0))) (own := [("_law_bit", 1)]) (blkOk_by (by kernel_rfl)) (fun _ _ _ _ _ => (dg_name (pg_name sc25.nd rfl (by first | exact Or.inl rfl | exact Or.inr rfl)))) (fun _ _ _ _ _ => dts_nil) (fun _ _ _ _ _ => (de_call G.c25 hr (by rfl) T.g25 T.F25.kp T.b25 (dr_val (de_var (pv 1)) dr_nil) (rl_val (rl_nil rfl)))) (by decide)) (de_var (pv 0)))))
theorem ok26 (T : Top K mg fa fd) (G : Gs P w K mg base fa fd k cl) : FnOk P w K mg base CX0 (k + 1) (fa 26) (fd 26) ["_law_mine", "_law_due"] (spD K 2 (fn26 cl)) :=
  fn_ok T.F26 sc26 fun cdv A outer s H E hr => (dss_cons (ds_if (dt_tru (de_isi2 (t := Ty.list) (u := Ty.tuple) (by rfl) T.z_isinstance boot_isinstance (de_var (pv 1)) (pe_bltn (by rfl) T.z_list boot_list rfl) (pe_bltn (by rfl) T.z_tuple boot_tuple rfl))) (dss_cons (ds_if (dt_w (dw_or (dt_cmp (op_neD (room64 hr)) os_ne (de_isi (t := Ty.list) (by rfl) T.z_isinstance boot_isinstance (de_var (pv 0)) (pe_bltn (by rfl) T.z_list boot_list rfl)) (de_isi (t := Ty.list) (by rfl) T.z_isinstance boot_isinstance (de_var (pv 1)) (pe_bltn (by rfl) T.z_list boot_list rfl)) (nomark _)) (dw_or1 (dt_cmp (op_neD (room64 hr)) os_ne (de_isi (t := Ty.tuple) (by rfl) T.z_isinstance boot_isinstance (de_var (pv 0)) (pe_bltn (by rfl) T.z_tuple boot_tuple rfl)) (de_isi (t := Ty.tuple) (by rfl) T.z_isinstance boot_isinstance (de_var (pv 1)) (pe_bltn (by rfl) T.z_tuple boot_tuple rfl)) (nomark _))))) (dss_one (ds_ret de_bl)) dss_nil)
    (dss_one (ds_ret (de_and (de_cmp (op_eqD (room64 hr)) os_eq (de_call1 call_len_seq us_len (by rfl) T.z_len boot_len (de_var (pv 0))) (de_call1 call_len_seq us_len (by rfl) T.z_len boot_len (de_var (pv 1))) (nomark _)) (de_one (de_call1 (cr_all rfl) us_all (by rfl) T.z_all boot_all (de_lc rfl sc26.nd (di_zip (by rfl) T.z_zip (da_cons (de_var (pv 0)) (da_cons (de_var (pv 1)) da_nil))) (own := [("_law_near", 2), ("_law_far", 3)]) (blkOk_by (by kernel_rfl)) (fun _ _ _ _ _ => (dg_tup rfl (dgs_cons (dg_name (pg_name sc26.nd rfl (by first | exact Or.inl rfl | exact Or.inr rfl))) (dgs_cons (dg_name (pg_name sc26.nd rfl (by first | exact Or.inl rfl | exact Or.inr rfl))) dgs_nil)))) (fun _ _ _ _ _ => dts_nil) (fun _ _ _ _ _ => (de_call G.c26 hr (by rfl) T.g26 T.F26.kp T.b26 (dr_val (de_var (pv 2)) (dr_val (de_var (pv 3)) dr_nil)) (rl_val (rl_val (rl_nil rfl))))) (by decide)))))))) dss_nil)
    (dss_cons (ds_if (dt_w (dw_or (dt_cmp op_isN os_is (de_var (pv 1)) de_non (nomark _)) (dw_or1 (dt_tru (de_isi2 (t := Ty.bool) (u := Ty.str) (by rfl) T.z_isinstance boot_isinstance (de_var (pv 1)) (pe_bltn (by rfl) T.z_bool boot_bool rfl) (pe_bltn (by rfl) T.z_str boot_str rfl)))))) (dss_one (ds_ret (de_and (de_cmp (op_eqD (room64 hr)) os_eq (de_var (pv 0)) (de_var (pv 1)) (nomark _)) (de_and (de_cmp (op_eqD (room64 hr)) os_eq (de_isi (t := Ty.bool) (by rfl) T.z_isinstance boot_isinstance (de_var (pv 0)) (pe_bltn (by rfl) T.z_bool boot_bool rfl)) (de_isi (t := Ty.bool) (by rfl) T.z_isinstance boot_isinstance (de_var (pv 1)) (pe_bltn (by rfl) T.z_bool boot_bool rfl)) (nomark _)) (de_one (de_cmp (op_eqD (room64 hr)) os_eq (de_cmp op_isN os_is (de_var (pv 0)) de_non (nomark _)) (de_cmp op_isN os_is (de_var (pv 1)) de_non (nomark _)) (nomark _))))))) dss_nil)
    (dss_one (ds_ret (de_and (de_isi (t := Ty.int) (by rfl) T.z_isinstance boot_isinstance (de_var (pv 0)) (pe_bltn (by rfl) T.z_int boot_int rfl)) (de_and (de_not (de_isi (t := Ty.bool) (by rfl) T.z_isinstance boot_isinstance (de_var (pv 0)) (pe_bltn (by rfl) T.z_bool boot_bool rfl))) (de_one (de_cmp (op_eqD (room64 hr)) os_eq (de_var (pv 0)) (de_var (pv 1)) (nomark _)))))))))
theorem ok27 (T : Top K mg fa fd) (G : Gs P w K mg base fa fd k cl) : FnOk P w K mg base CX0 (k + 1) (fa 27) (fd 27) ["_law_top_so", "_law_down_so"] (spD K 2 (fn27 cl)) :=
  fn_ok T.F27 sc27 fun cdv A outer s H E hr => (dss_cons (ds_par (fun ta h => ps_par rfl sc27.nd rfl rfl (by decide) rfl rfl h (by rfl)) (de_call1 call_abs us_abs (by rfl) T.z_abs boot_abs (de_var (pv 0))) (de_call1 call_abs us_abs (by rfl) T.z_abs boot_abs (de_var (pv 1))))
    (dss_cons (ds_while (n := 400) PassesOwn.never (dt_cmp op_gt os_cmpI (de_var (pv 3)) de_int (nomark _)) (dss_one (ds_par (fun ta h => ps_par rfl sc27.nd rfl rfl (by decide) rfl rfl h (by rfl)) (de_var (pv 3)) (de_op op_mod os_mod (de_callT1 call_int1 us_int (by rfl) T.z_int boot_int (de_var (pv 2))) (de_var (pv 3))))))
    (dss_cons (ds_if (dt_cmp op_lt os_cmpI (de_var (pv 1)) de_int (nomark _)) (dss_one (ds_set (fun te h => ps_set sc27.nd rfl (by first | exact Or.inl rfl | exact Or.inr rfl) h) (de_op op_sub os_sub de_int (de_var (pv 2))))) dss_nil)
    (dss_one (ds_ret (de_tup (da_cons (de_op op_fdivA os_divN (de_var (pv 0)) (de_var (pv 2))) (da_cons (de_op op_fdivA os_divN (de_var (pv 1)) (de_var (pv 2))) da_nil))))))))
theorem ok28 (T : Top K mg fa fd) (G : Gs P w K mg base fa fd k cl) : FnOk P w K mg base CX0 (k + 1) (fa 28) (fd 28) ["_law_own", "_law_far"] (spD K 2 (fn28 cl)) :=
  fn_ok T.F28 sc28 fun cdv A outer s H E hr => (dss_one (ds_ret (de_call G.c27 hr (by rfl) T.g27 T.F27.kp T.b27 (dr_val (de_op op_addA os_add (de_op op_mulA os_mul (de_ix ix_A os_ix (de_var (pv 0)) de_int (fun _ _ => rfl)) (de_ix ix_A os_ix (de_var (pv 1)) de_int (fun _ _ => rfl))) (de_op op_mulA os_mul (de_ix ix_A os_ix (de_var (pv 1)) de_int (fun _ _ => rfl)) (de_ix ix_A os_ix (de_var (pv 0)) de_int (fun _ _ => rfl)))) (dr_val (de_op op_mulA os_mul (de_ix ix_A os_ix (de_var (pv 0)) de_int (fun _ _ => rfl)) (de_ix ix_A os_ix (de_var (pv 1)) de_int (fun _ _ => rfl))) dr_nil)) (rl_val (rl_val (rl_nil rfl))))))
theorem ok29 (T : Top K mg fa fd) (G : Gs P w K mg base fa fd k cl) : FnOk P w K mg base CX0 (k + 1) (fa 29) (fd 29) ["_law_own", "_law_far"] (spD K 2 (fn29 cl)) :=
  fn_ok T.F29 sc29 fun cdv A outer s H E hr => (dss_one (ds_ret (de_call G.c27 hr (by rfl) T.g27 T.F27.kp T.b27 (dr_val (de_op op_mulA os_mul (de_ix ix_A os_ix (de_var (pv 0)) de_int (fun _ _ => rfl)) (de_ix ix_A os_ix (de_var (pv 1)) de_int (fun _ _ => rfl))) (dr_val (de_op op_mulA os_mul (de_ix ix_A os_ix (de_var (pv 0)) de_int (fun _ _ => rfl)) (de_ix ix_A os_ix (de_var (pv 1)) de_int (fun _ _ => rfl))) dr_nil)) (rl_val (rl_val (rl_nil rfl))))))
theorem ok30 (T : Top K mg fa fd) (G : Gs P w K mg base fa fd k cl) : FnOk P w K mg base CX0 (k + 1) (fa 30) (fd 30) ["_law_one", "_law_two"] (spD K 2 (fn30 cl)) :=
  fn_ok T.F30 sc30 fun cdv A outer s H E hr => (dss_one (ds_ret (de_cmp op_lt os_cmpI (de_op op_mulA os_mul (de_ix ix_A os_ix (de_var (pv 0)) de_int (fun _ _ => rfl)) (de_ix ix_A os_ix (de_var (pv 1)) de_int (fun _ _ => rfl))) (de_op op_mulA os_mul (de_ix ix_A os_ix (de_var (pv 1)) de_int (fun _ _ => rfl)) (de_ix ix_A os_ix (de_var (pv 0)) de_int (fun _ _ => rfl))) (nomark _))))
theorem ok31 (T : Top K mg fa fd) (G : Gs P w K mg base fa fd k cl) : FnOk P w K mg base CX0 (k + 1) (fa 31) (fd 31) ["_law_one", "_law_two"] (spD K 2 (fn31 cl)) :=
  fn_ok T.F31 sc31 fun cdv A outer s H E hr => (dss_one (ds_ret (de_call G.c27 hr (by rfl) T.g27 T.F27.kp T.b27 (dr_val (de_op op_sub os_sub (de_op op_mulA os_mul (de_ix ix_A os_ix (de_var (pv 0)) de_int (fun _ _ => rfl)) (de_ix ix_A os_ix (de_var (pv 1)) de_int (fun _ _ => rfl))) (de_op op_mulA os_mul (de_ix ix_A os_ix (de_var (pv 1)) de_int (fun _ _ => rfl)) (de_ix ix_A os_ix (de_var (pv 0)) de_int (fun _ _ => rfl)))) (dr_val (de_op op_mulA os_mul (de_ix ix_A os_ix (de_var (pv 0)) de_int (fun _ _ => rfl)) (de_ix ix_A os_ix (de_var (pv 1)) de_int (fun _ _ => rfl))) dr_nil)) (rl_val (rl_val (rl_nil rfl))))))
theorem ok32 (T : Top K mg fa fd) (G : Gs P w K mg base fa fd k cl) : FnOk P w K mg base CX0 (k + 1) (fa 32) (fd 32) ["_law_row_so"] (spD K 1 (fn32 cl)) :=
  fn_ok T.F32 sc32 fun cdv A outer s H E hr => (dss_cons (ds_set (fun te h => ps_set sc32.nd rfl (by first | exact Or.inl rfl | exact Or.inr rfl) h) (de_lst da_nil))
    (dss_cons (ds_for PassesOwn.never rfl (di_seq (de_var (pv 0))) (dg_seq rfl (dgs_cons (dg_name (pg_name sc32.nd rfl (by first | exact Or.inl rfl | exact Or.inr rfl))) (dgs_cons (dg_name (pg_name sc32.nd rfl (by first | exact Or.inl rfl | exact Or.inr rfl))) dgs_nil))) (dss_cons (ds_if (dt_w (dw_and (dt_cmp (op_neD (room64 hr)) os_ne (de_var (pv 1)) (de_lst da_nil) (nomark _)) (dw_and1 (dt_cmp (op_eqD (room64 hr)) os_eq (de_ix ix_A os_ix (de_ix ix_A os_ix (de_var (pv 1)) (de_un un_neg us_neg de_int) (fun _ _ => rfl)) de_int (fun _ _ => rfl)) (de_var (pv 2)) (nomark _))))) (dss_one (ds_set (fun te h => ps_set sc32.nd rfl (by first | exact Or.inl rfl | exact Or.inr rfl) h) (de_call G.c28 hr (by rfl) T.g28 T.F28.kp T.b28 (dr_val (de_ix ix_A os_ix (de_pop (pe_bm0 PySem.F.plainAttrs_list PySem.F.slot_list_pop PySem.F.type_list_pop mt_pop (pv 1))) de_int (fun _ _ => rfl)) (dr_val (de_var (pv 3)) dr_nil)) (rl_val (rl_val (rl_nil rfl)))))) dss_nil)
    (dss_one (ds_if (dt_cmp (op_neD (room64 hr)) os_ne (de_ix ix_A os_ix (de_var (pv 3)) de_int (fun _ _ => rfl)) de_int (nomark _)) (dss_one (ds_expr (de_app (fun t h => pe_bm PySem.F.plainAttrs_list PySem.F.slot_list_append PySem.F.type_list_append mt_append (pv 1) h) (de_tup (da_cons (de_var (pv 2)) (da_cons (de_var (pv 3)) da_nil)))))) dss_nil))))
    (dss_one (ds_ret (de_callT1 call_tuple_of us_tuple (by rfl) T.z_tuple boot_tuple (de_var (pv 1)))))))
theorem ok33 (T : Top K mg fa fd) (G : Gs P w K mg base fa fd k cl) : FnOk P w K mg base CX0 (k + 1) (fa 33) (fd 33) ["_law_urn"] (spD K 1 (fn33 cl)) :=
  fn_ok T.F33 sc33 fun cdv A outer s H E hr => (dss_one (ds_ret (de_call G.c24 hr (by rfl) T.g24 T.F24.kp T.b24 (dr_slot (pv 0) (dr_val (de_lst (da_cons (de_tup (da_cons de_int (da_cons de_int da_nil))) (da_cons (de_tup (da_cons (de_un un_neg us_neg de_int) (da_cons de_int da_nil))) (da_cons (de_tup (da_cons de_int (da_cons de_int da_nil))) (da_cons (de_tup (da_cons (de_un un_neg us_neg de_int) (da_cons de_int da_nil))) (da_cons (de_tup (da_cons de_int (da_cons de_int da_nil))) (da_cons (de_tup (da_cons (de_un un_neg us_neg de_int) (da_cons de_int da_nil))) (da_cons (de_tup (da_cons de_int (da_cons de_int da_nil))) (da_cons (de_tup (da_cons (de_un un_neg us_neg de_int) (da_cons de_int da_nil))) (da_cons (de_tup (da_cons de_int (da_cons de_int da_nil))) (da_cons (de_tup (da_cons de_int (da_cons de_int da_nil))) da_nil))))))))))) dr_nil)) (rl_slot (rl_val (rl_nil rfl))))))
theorem ok34 (T : Top K mg fa fd) (G : Gs P w K mg base fa fd k cl) : FnOk P w K mg base CX0 (k + 1) (fa 34) (fd 34) ["_law_row_so", "_law_n"] (spD K 2 (fn34 cl)) :=
  fn_ok T.F34 sc34 fun cdv A outer s H E hr => (dss_one (ds_ret (de_call G.c32 hr (by rfl) T.g32 T.F32.kp T.b32 (dr_val (de_callT1 call_tuple_of us_tuple (by rfl) T.z_tuple boot_tuple (de_lc rfl sc34.nd (di_seq (de_var (pv 0))) (own := [("_law_part", 2), ("_law_own", 3)]) (blkOk_by (by kernel_rfl)) (fun _ _ _ _ _ => (dg_seq rfl (dgs_cons (dg_name (pg_name sc34.nd rfl (by first | exact Or.inl rfl | exact Or.inr rfl))) (dgs_cons (dg_name (pg_name sc34.nd rfl (by first | exact Or.inl rfl | exact Or.inr rfl))) dgs_nil)))) (fun _ _ _ _ _ => dts_nil) (fun _ _ _ _ _ => (de_tup (da_cons (de_var (pv 2)) (da_cons (de_call G.c28 hr (by rfl) T.g28 T.F28.kp T.b28 (dr_val (de_ix ix_A os_ix (de_var (pv 3)) de_int (fun _ _ => rfl)) (dr_val (de_call G.c29 hr (by rfl) T.g29 T.F29.kp T.b29 (dr_val (de_ix ix_A os_ix (de_var (pv 3)) de_int (fun _ _ => rfl)) (dr_val (de_var (pv 1)) dr_nil)) (rl_val (rl_val (rl_nil rfl)))) dr_nil)) (rl_val (rl_val (rl_nil rfl)))) da_nil)))) (by decide))) dr_nil) (rl_val (rl_nil rfl)))))
theorem ok35 (T : Top K mg fa fd) (G : Gs P w K mg base fa fd k cl) : FnOk P w K mg base CX0 (k + 1) (fa 35) (fd 35) ["_law_row_so", "_law_other_so"] (spD K 2 (fn35 cl)) :=
  fn_ok T.F35 sc35 fun cdv A outer s H E hr => (dss_cons (ds_set (fun te h => ps_set sc35.nd rfl (by first | exact Or.inl rfl | exact Or.inr rfl) h) (de_lst da_nil))
    (dss_cons (ds_setLc rfl sc35.nd rfl rfl (sw_true rfl rfl rfl (by decide +kernel)) (di_seq (de_rev (de_var (pv 1)))) (own := [("_law_part", 4), ("_law_own", 5)]) (blkOk_by (by kernel_rfl)) (fun _ _ _ _ _ => (dg_seq rfl (dgs_cons (dg_name (pg_name sc35.nd rfl (by first | exact Or.inl rfl | exact Or.inr rfl))) (dgs_cons (dg_name (pg_name sc35.nd rfl (by first | exact Or.inl rfl | exact Or.inr rfl))) dgs_nil)))) (fun _ _ _ _ _ => dts_nil) (fun _ _ _ _ _ => (de_tup (da_cons (de_var (pv 4)) (da_cons (de_tup (da_cons (de_call G.c31 hr (by rfl) T.g31 T.F31.kp T.b31 (dr_val (de_tup (da_cons de_int (da_cons de_int da_nil))) (dr_val (de_ix ix_A os_ix (de_var (pv 5)) de_int (fun _ _ => rfl)) dr_nil)) (rl_val (rl_val (rl_nil rfl)))) (da_cons (de_call G.c31 hr (by rfl) T.g31 T.F31.kp T.b31 (dr_val (de_tup (da_cons de_int (da_cons de_int da_nil))) (dr_val (de_ix ix_A os_ix (de_var (pv 5)) de_int (fun _ _ => rfl)) dr_nil)) (rl_val (rl_val (rl_nil rfl)))) da_nil))) da_nil)))) (by decide))
    (dss_cons (ds_for PassesOwn.never rfl (di_seq (de_op op_addA os_add (de_callT1 call_list_of us_list (by rfl) T.z_list boot_list (de_var (pv 0))) (de_var (pv 3)))) (dg_seq rfl (dgs_cons (dg_name (pg_name sc35.nd rfl (by first | exact Or.inl rfl | exact Or.inr rfl))) (dgs_cons (dg_name (pg_name sc35.nd rfl (by first | exact Or.inl rfl | exact Or.inr rfl))) dgs_nil))) (dss_cons (ds_if (dt_w (dw_and (dt_cmp (op_neD (room64 hr)) os_ne (de_var (pv 2)) (de_lst da_nil) (nomark _)) (dw_and1 (dt_cmp (op_eqD (room64 hr)) os_eq (de_ix ix_A os_ix (de_ix ix_A os_ix (de_var (pv 2)) (de_un un_neg us_neg de_int) (fun _ _ => rfl)) de_int (fun _ _ => rfl)) (de_var (pv 4)) (nomark _))))) (dss_cons (ds_set (fun te h => ps_set sc35.nd rfl (by first | exact Or.inl rfl | exact Or.inr rfl) h) (de_ix ix_A os_ix (de_pop (pe_bm0 PySem.F.plainAttrs_list PySem.F.slot_list_pop PySem.F.type_list_pop mt_pop (pv 2))) de_int (fun _ _ => rfl)))
    (dss_one (ds_set (fun te h => ps_set sc35.nd rfl (by first | exact Or.inl rfl | exact Or.inr rfl) h) (de_tup (da_cons (de_call G.c28 hr (by rfl) T.g28 T.F28.kp T.b28 (dr_val (de_ix ix_A os_ix (de_var (pv 6)) de_int (fun _ _ => rfl)) (dr_val (de_ix ix_A os_ix (de_var (pv 5)) de_int (fun _ _ => rfl)) dr_nil)) (rl_val (rl_val (rl_nil rfl)))) (da_cons (de_call G.c28 hr (by rfl) T.g28 T.F28.kp T.b28 (dr_val (de_ix ix_A os_ix (de_var (pv 6)) de_int (fun _ _ => rfl)) (dr_val (de_ix ix_A os_ix (de_var (pv 5)) de_int (fun _ _ => rfl)) dr_nil)) (rl_val (rl_val (rl_nil rfl)))) da_nil)))))) dss_nil)
    (dss_one (ds_if (dt_cmp (op_neD (room64 hr)) os_ne (de_var (pv 5)) (de_tup (da_cons (de_tup (da_cons de_int (da_cons de_int da_nil))) (da_cons (de_tup (da_cons de_int (da_cons de_int da_nil))) da_nil))) (nomark _)) (dss_one (ds_expr (de_app (fun t h => pe_bm PySem.F.plainAttrs_list PySem.F.slot_list_append PySem.F.type_list_append mt_append (pv 2) h) (de_tup (da_cons (de_var (pv 4)) (da_cons (de_var (pv 5)) da_nil)))))) dss_nil))))
    (dss_one (ds_ret (de_var (pv 2)))))))
theorem ok36 (T : Top K mg fa fd) (G : Gs P w K mg base fa fd k cl) : FnOk P w K mg base CX0 (k + 1) (fa 36) (fd 36) ["_law_urn"] (spD K 1 (fn36 cl)) :=
  fn_ok T.F36 sc36 fun cdv A outer s H E hr => (dss_cons (ds_set (fun te h => ps_set sc36.nd rfl (by first | exact Or.inl rfl | exact Or.inr rfl) h) (de_call G.c24 hr (by rfl) T.g24 T.F24.kp T.b24 (dr_slot (pv 0) (dr_val (de_lst (da_cons (de_tup (da_cons de_int (da_cons de_int da_nil))) (da_cons (de_tup (da_cons de_int (da_cons de_int da_nil))) (da_cons (de_tup (da_cons (de_un un_neg us_neg de_int) (da_cons de_int da_nil))) (da_cons (de_tup (da_cons de_int (da_cons de_int da_nil))) (da_cons (de_tup (da_cons de_int (da_cons de_int da_nil))) da_nil)))))) dr_nil)) (rl_slot (rl_val (rl_nil rfl)))))
    (dss_cons (ds_set (fun te h => ps_set sc36.nd rfl (by first | exact Or.inl rfl | exact Or.inr rfl) h) (de_call G.c24 hr (by rfl) T.g24 T.F24.kp T.b24 (dr_slot (pv 0) (dr_val (de_lst (da_cons (de_tup (da_cons de_int (da_cons de_int da_nil))) (da_cons (de_tup (da_cons de_int (da_cons de_int da_nil))) (da_cons (de_tup (da_cons (de_un un_neg us_neg de_int) (da_cons de_int da_nil))) (da_cons (de_tup (da_cons de_int (da_cons de_int da_nil))) da_nil))))) dr_nil)) (rl_slot (rl_val (rl_nil rfl)))))
    (dss_one (ds_ret (de_if (dt_cmp (op_neD (room64 hr)) os_ne (de_ix ix_A os_ix (de_var (pv 2)) de_int (fun _ _ => rfl)) de_int (nomark _)) (de_tup (da_cons (de_call G.c31 hr (by rfl) T.g31 T.F31.kp T.b31 (dr_val (de_tup (da_cons de_int (da_cons de_int da_nil))) (dr_val (de_call G.c29 hr (by rfl) T.g29 T.F29.kp T.b29 (dr_val (de_var (pv 2)) (dr_val (de_var (pv 1)) dr_nil)) (rl_val (rl_val (rl_nil rfl)))) dr_nil)) (rl_val (rl_val (rl_nil rfl)))) (da_cons (de_var (pv 2)) da_nil))) (de_tup (da_cons (de_call G.c33 hr (by rfl) T.g33 T.F33.kp T.b33 (dr_slot (pv 0) dr_nil) (rl_slot (rl_nil rfl))) (da_cons (de_var (pv 2)) da_nil))))))))
theorem ok37 (T : Top K mg fa fd) (G : Gs P w K mg base fa fd k cl) : FnOk P w K mg base CX0 (k + 1) (fa 37) (fd 37) ["_law_row_so"] (spD K 1 (fn37 cl)) :=
  fn_ok T.F37 sc37 fun cdv A outer s H E hr => (dss_one (ds_ret (de_callT1 call_tuple_of us_tuple (by rfl) T.z_tuple boot_tuple (de_lc rfl sc37.nd (di_seq (de_rev (de_var (pv 0)))) (own := [("_law_part", 1), ("_law_own", 2)]) (blkOk_by (by kernel_rfl)) (fun _ _ _ _ _ => (dg_seq rfl (dgs_cons (dg_name (pg_name sc37.nd rfl (by first | exact Or.inl rfl | exact Or.inr rfl))) (dgs_cons (dg_name (pg_name sc37.nd rfl (by first | exact Or.inl rfl | exact Or.inr rfl))) dgs_nil)))) (fun _ _ _ _ _ => dts_nil) (fun _ _ _ _ _ => (de_tup (da_cons (de_var (pv 1)) (da_cons (de_tup (da_cons (de_call G.c31 hr (by rfl) T.g31 T.F31.kp T.b31 (dr_val (de_tup (da_cons de_int (da_cons de_int da_nil))) (dr_val (de_ix ix_A os_ix (de_var (pv 2)) de_int (fun _ _ => rfl)) dr_nil)) (rl_val (rl_val (rl_nil rfl)))) (da_cons (de_call G.c31 hr (by rfl) T.g31 T.F31.kp T.b31 (dr_val (de_tup (da_cons de_int (da_cons de_int da_nil))) (dr_val (de_ix ix_A os_ix (de_var (pv 2)) de_int (fun _ _ => rfl)) dr_nil)) (rl_val (rl_val (rl_nil rfl)))) da_nil))) da_nil)))) (by decide)))))
theorem ok38 (T : Top K mg fa fd) (G : Gs P w K mg base fa fd k cl) : FnOk P w K mg base CX0 (k + 1) (fa 38) (fd 38) ["_law_urn", "_law_many"] (spD K 2 (fn38 cl)) :=
  fn_ok T.F38 sc38 fun cdv A outer s H E hr => (dss_cons (ds_set (fun te h => ps_set sc38.nd rfl (by first | exact Or.inl rfl | exact Or.inr rfl) h) (de_callT1 call_tuple_of us_tuple (by rfl) T.z_tuple boot_tuple (de_lc rfl sc38.nd (di_rng1 (by rfl) T.z_range (da_cons (de_op op_addA os_add de_int (de_call G.c22 hr (by rfl) T.g22 T.F22.kp T.b22 (dr_slot (pv 0) (dr_val de_int dr_nil)) (rl_slot (rl_val (rl_nil rfl))))) da_nil)) (own := [("_law_lap", 6)]) (blkOk_by (by kernel_rfl)) (fun _ _ _ _ _ => (dg_name (pg_name sc38.nd rfl (by first | exact Or.inl rfl | exact Or.inr rfl)))) (fun _ _ _ _ _ => dts_nil) (fun _ _ _ _ _ => (de_tup (da_cons (de_call G.c22 hr (by rfl) T.g22 T.F22.kp T.b22 (dr_slot (pv 0) (dr_val (de_var (pv 1)) dr_nil)) (rl_slot (rl_val (rl_nil rfl)))) (da_cons (de_call G.c36 hr (by rfl) T.g36 T.F36.kp T.b36 (dr_slot (pv 0) dr_nil) (rl_slot (rl_nil rfl))) da_nil)))) (by decide))))
    (dss_cons (ds_par (fun ta h => ps_par rfl sc38.nd rfl rfl (by decide) rfl rfl h (by rfl)) (de_tup (da_cons de_int (da_cons (de_call G.c36 hr (by rfl) T.g36 T.F36.kp T.b36 (dr_slot (pv 0) dr_nil) (rl_slot (rl_nil rfl))) da_nil))) (de_tup (da_cons (de_op op_sub os_sub (de_var (pv 1)) de_int) (da_cons (de_call G.c36 hr (by rfl) T.g36 T.F36.kp T.b36 (dr_slot (pv 0) dr_nil) (rl_slot (rl_nil rfl))) da_nil))))
    (dss_cons (ds_set (fun te h => ps_set sc38.nd rfl (by first | exact Or.inl rfl | exact Or.inr rfl) h) (de_call G.c22 hr (by rfl) T.g22 T.F22.kp T.b22 (dr_slot (pv 0) (dr_val de_int dr_nil)) (rl_slot (rl_val (rl_nil rfl)))))
    (dss_cons (ds_if (dt_cmp (op_eqD (room64 hr)) os_eq (de_var (pv 5)) de_int (nomark _)) (dss_one (ds_ret (de_tup (da_cons (de_var (pv 2)) (da_cons (de_callT1 call_tuple_of us_tuple (by rfl) T.z_tuple boot_tuple (de_lc rfl sc38.nd (di_rng1 (by rfl) T.z_range (da_cons (de_call G.c22 hr (by rfl) T.g22 T.F22.kp T.b22 (dr_slot (pv 0) (dr_val de_int dr_nil)) (rl_slot (rl_val (rl_nil rfl)))) da_nil)) (own := [("_law_lap", 6)]) (blkOk_by (by kernel_rfl)) (fun _ _ _ _ _ => (dg_name (pg_name sc38.nd rfl (by first | exact Or.inl rfl | exact Or.inr rfl)))) (fun _ _ _ _ _ => dts_nil) (fun _ _ _ _ _ => (de_tup (da_cons (de_call G.c22 hr (by rfl) T.g22 T.F22.kp T.b22 (dr_slot (pv 0) (dr_val (de_var (pv 1)) dr_nil)) (rl_slot (rl_val (rl_nil rfl)))) (da_cons (de_call G.c36 hr (by rfl) T.g36 T.F36.kp T.b36 (dr_slot (pv 0) dr_nil) (rl_slot (rl_nil rfl))) da_nil)))) (by decide))) da_nil))))) dss_nil)
    (dss_cons (ds_if (dt_cmp (op_eqD (room64 hr)) os_eq (de_var (pv 5)) de_int (nomark _)) (dss_one (ds_ret (de_tup (da_cons (de_var (pv 2)) (da_cons (de_op op_addA os_add (de_op op_addA os_add (de_op op_addA os_add (de_sl (de_var (pv 2)) do_none (do_some de_int)) (de_tup (da_cons (de_var (pv 3)) da_nil))) (de_call G.c37 hr (by rfl) T.g37 T.F37.kp T.b37 (dr_val (de_tup (da_cons (de_var (pv 3)) da_nil)) dr_nil) (rl_val (rl_nil rfl)))) (de_sl (de_var (pv 2)) (do_some de_int) do_none)) da_nil))))) dss_nil)
    (dss_cons (ds_if (dt_cmp (op_eqD (room64 hr)) os_eq (de_var (pv 5)) de_int (nomark _)) (dss_one (ds_ret (de_tup (da_cons (de_var (pv 2)) (da_cons (de_op op_addA os_add (de_op op_addA os_add (de_var (pv 2)) (de_tup (da_cons (de_var (pv 3)) (da_cons (de_var (pv 4)) da_nil)))) (de_call G.c37 hr (by rfl) T.g37 T.F37.kp T.b37 (dr_val (de_tup (da_cons (de_var (pv 4)) (da_cons (de_var (pv 3)) da_nil))) dr_nil) (rl_val (rl_nil rfl)))) da_nil))))) dss_nil)
    (dss_cons (ds_if (dt_cmp (op_eqD (room64 hr)) os_eq (de_var (pv 5)) de_int (nomark _)) (dss_one (ds_ret (de_tup (da_cons (de_op op_addA os_add (de_var (pv 2)) (de_tup (da_cons (de_var (pv 3)) (da_cons (de_var (pv 4)) da_nil)))) (da_cons (de_op op_addA os_add (de_var (pv 2)) (de_tup (da_cons (de_var (pv 4)) (da_cons (de_var (pv 3)) da_nil)))) da_nil))))) dss_nil)
    (dss_one (ds_ret (de_tup (da_cons (de_op op_addA os_add (de_op op_addA os_add (de_tup (da_cons (de_var (pv 3)) da_nil)) (de_sl (de_var (pv 2)) do_none (do_some de_int))) (de_call G.c37 hr (by rfl) T.g37 T.F37.kp T.b37 (dr_val (de_tup (da_cons (de_var (pv 3)) da_nil)) dr_nil) (rl_val (rl_nil rfl)))) (da_cons (de_sl (de_var (pv 2)) do_none (do_some de_int)) da_nil))))))))))))
theorem ok39 (T : Top K mg fa fd) (G : Gs P w K mg base fa fd k cl) : FnOk P w K mg base CX0 (k + 1) (fa 39) (fd 39) ["_law_urn"] (spD K 1 (fn39 cl)) :=
  fn_ok T.F39 sc39 fun cdv A outer s H E hr => (dss_cons (ds_set (fun te h => ps_set sc39.nd rfl (by first | exact Or.inl rfl | exact Or.inr rfl) h) (de_op op_addA os_add de_int (de_call G.c22 hr (by rfl) T.g22 T.F22.kp T.b22 (dr_slot (pv 0) (dr_val de_int dr_nil)) (rl_slot (rl_val (rl_nil rfl))))))
    (dss_cons (ds_asgG (fun te g h1 h2 => ps_asg h1 h2) (de_call G.c38 hr (by rfl) T.g38 T.F38.kp T.b38 (dr_slot (pv 0) (dr_val (de_var (pv 1)) dr_nil)) (rl_slot (rl_val (rl_nil rfl)))) (dg_tup rfl (dgs_cons (dg_name (pg_name sc39.nd rfl (by first | exact Or.inl rfl | exact Or.inr rfl))) (dgs_cons (dg_name (pg_name sc39.nd rfl (by first | exact Or.inl rfl | exact Or.inr rfl))) dgs_nil))))
    (dss_cons (ds_parC (fun ta h => ps_asg (pe_tup h) (pg_tup rfl (pgs_cons (pg_name sc39.nd rfl (by first | exact Or.inl rfl | exact Or.inr rfl)) (pgs_cons (pg_name sc39.nd rfl (by first | exact Or.inl rfl | exact Or.inr rfl)) pgs_nil)))) (de_call G.c35 hr (by rfl) T.g35 T.F35.kp T.b35 (dr_val (de_var (pv 2)) (dr_val (de_var (pv 3)) dr_nil)) (rl_val (rl_val (rl_nil rfl)))) (de_call G.c19 hr (by rfl) T.g19 T.F19.kp T.b19 (dr_val (de_var (pv 2)) (dr_val (de_var (pv 3)) dr_nil)) (rl_val (rl_val (rl_nil rfl)))))
    (dss_cons (ds_set (fun te h => ps_set sc39.nd rfl (by first | exact Or.inl rfl | exact Or.inr rfl) h) (de_op op_addA os_add (de_lc rfl sc39.nd (di_rng2 (by rfl) T.z_range (da_cons (de_un un_neg us_neg de_int) (da_cons de_int da_nil))) (own := [("_law_n", 11)]) (blkOk_by (by kernel_rfl)) (fun _ _ _ _ _ => (dg_name (pg_name sc39.nd rfl (by first | exact Or.inl rfl | exact Or.inr rfl)))) (fun _ _ _ _ _ => dts_nil) (fun _ _ _ _ _ => (de_tup (da_cons (de_var (pv 11)) (da_cons de_int da_nil)))) (by decide)) (de_lst (da_cons (de_tup (da_cons de_int (da_cons de_int da_nil))) (da_cons (de_tup (da_cons (de_un un_neg us_neg de_int) (da_cons de_int da_nil))) (da_cons (de_tup (da_cons de_int (da_cons de_int da_nil))) (da_cons (de_tup (da_cons de_int (da_cons de_int da_nil))) da_nil)))))))
    (dss_cons (ds_setLc rfl sc39.nd rfl rfl (sw_true rfl rfl rfl (by decide +kernel)) (di_seq (de_var (pv 6))) (own := [("_law_n", 11)]) (blkOk_by (by kernel_rfl)) (fun _ _ _ _ _ => (dg_name (pg_name sc39.nd rfl (by first | exact Or.inl rfl | exact Or.inr rfl)))) (fun _ _ _ _ _ => (dts_one (dt_cmp (op_eqD (room64 hr)) os_eq (de_call G.c34 hr (by rfl) T.g34 T.F34.kp T.b34 (dr_val (de_var (pv 2)) (dr_val (de_var (pv 11)) dr_nil)) (rl_val (rl_val (rl_nil rfl)))) (de_call G.c34 hr (by rfl) T.g34 T.F34.kp T.b34 (dr_val (de_var (pv 3)) (dr_val (de_var (pv 11)) dr_nil)) (rl_val (rl_val (rl_nil rfl)))) (nomark _)))) (fun _ _ _ _ _ => (de_var (pv 11))) (by decide))
    (dss_cons (ds_if (dt_cmp (op_eqD (room64 hr)) os_eq (de_var (pv 4)) (de_lst da_nil) (nomark _)) (dss_one (ds_ret (de_and (de_cmp op_isN os_is (de_var (pv 5)) de_non (nomark _)) (de_one (de_cmp (op_eqD (room64 hr)) os_eq (de_var (pv 7)) (de_var (pv 6)) (nomark _)))))) dss_nil)
    (dss_cons (ds_if (dt_w (dw_or (dt_not (dt_tru (de_isi (t := Ty.tuple) (by rfl) T.z_isinstance boot_isinstance (de_var (pv 5)) (pe_bltn (by rfl) T.z_tuple boot_tuple rfl)))) (dw_or1 (dt_cmp op_gt os_cmpI (de_call1 call_len_seq us_len (by rfl) T.z_len boot_len (de_var (pv 5))) (de_op op_addA os_add (de_call1 call_len_seq us_len (by rfl) T.z_len boot_len (de_var (pv 2))) (de_call1 call_len_seq us_len (by rfl) T.z_len boot_len (de_var (pv 3)))) (nomark _))))) (dss_one (ds_ret de_bl)) dss_nil)
    (dss_cons (ds_setLc rfl sc39.nd rfl rfl (sw_true rfl rfl rfl (by decide +kernel)) (di_seq (de_var (pv 4))) (own := [("_law_part", 12), ("_law_own", 13)]) (blkOk_by (by kernel_rfl)) (fun _ _ _ _ _ => (dg_seq rfl (dgs_cons (dg_name (pg_name sc39.nd rfl (by first | exact Or.inl rfl | exact Or.inr rfl))) (dgs_cons (dg_name (pg_name sc39.nd rfl (by first | exact Or.inl rfl | exact Or.inr rfl))) dgs_nil)))) (fun _ _ _ _ _ => (dts_one (dt_cmp (op_neD (room64 hr)) os_ne (de_ix ix_A os_ix (de_ix ix_A os_ix (de_var (pv 13)) de_int (fun _ _ => rfl)) de_int (fun _ _ => rfl)) de_int (nomark _)))) (fun _ _ _ _ _ => (de_call G.c27 hr (by rfl) T.g27 T.F27.kp T.b27 (dr_val (de_op op_sub os_sub de_int (de_op op_mulA os_mul (de_ix ix_A os_ix (de_ix ix_A os_ix (de_var (pv 13)) de_int (fun _ _ => rfl)) de_int (fun _ _ => rfl)) (de_ix ix_A os_ix (de_ix ix_A os_ix (de_var (pv 13)) de_int (fun _ _ => rfl)) de_int (fun _ _ => rfl)))) (dr_val (de_op op_mulA os_mul (de_ix ix_A os_ix (de_ix ix_A os_ix (de_var (pv 13)) de_int (fun _ _ => rfl)) de_int (fun _ _ => rfl)) (de_ix ix_A os_ix (de_ix ix_A os_ix (de_var (pv 13)) de_int (fun _ _ => rfl)) de_int (fun _ _ => rfl))) dr_nil)) (rl_val (rl_val (rl_nil rfl))))) (by decide))
    (dss_cons (ds_setLc rfl sc39.nd rfl rfl (sw_true rfl rfl rfl (by decide +kernel)) (di_seq (de_var (pv 8))) (own := [("_law_n", 11)]) (blkOk_by (by kernel_rfl)) (fun _ _ _ _ _ => (dg_name (pg_name sc39.nd rfl (by first | exact Or.inl rfl | exact Or.inr rfl)))) (fun _ _ _ _ _ => (dts_one (dt_cmp (op_eqD (room64 hr)) os_eq (de_call G.c34 hr (by rfl) T.g34 T.F34.kp T.b34 (dr_val (de_var (pv 2)) (dr_val (de_var (pv 11)) dr_nil)) (rl_val (rl_val (rl_nil rfl)))) (de_call G.c34 hr (by rfl) T.g34 T.F34.kp T.b34 (dr_val (de_var (pv 3)) (dr_val (de_var (pv 11)) dr_nil)) (rl_val (rl_val (rl_nil rfl)))) (nomark _)))) (fun _ _ _ _ _ => (de_var (pv 11))) (by decide))
    (dss_cons (ds_set (fun te h => ps_set sc39.nd rfl (by first | exact Or.inl rfl | exact Or.inr rfl) h) (de_lst da_nil))
    (dss_cons (ds_for PassesOwn.never rfl (di_seq (de_var (pv 9))) (dg_name (pg_name sc39.nd rfl (by first | exact Or.inl rfl | exact Or.inr rfl))) (dss_one (ds_if (dt_cmp (op_notInB (room65 hr)) (os_inB true) (de_var (pv 11)) (de_var (pv 10)) (by with_unfolding_all rfl)) (dss_one (ds_set (fun te h => ps_set sc39.nd rfl (by first | exact Or.inl rfl | exact Or.inr rfl) h) (de_op op_addA os_add (de_op op_addA os_add (de_lc rfl sc39.nd (di_seq (de_var (pv 10))) (own := [("_law_own", 13)]) (blkOk_by (by kernel_rfl)) (fun _ _ _ _ _ => (dg_name (pg_name sc39.nd rfl (by first | exact Or.inl rfl | exact Or.inr rfl)))) (fun _ _ _ _ _ => (dts_one (dt_tru (de_call G.c30 hr (by rfl) T.g30 T.F30.kp T.b30 (dr_val (de_var (pv 13)) (dr_val (de_var (pv 11)) dr_nil)) (rl_val (rl_val (rl_nil rfl))))))) (fun _ _ _ _ _ => (de_var (pv 13))) (by decide)) (de_lst (da_cons (de_var (pv 11)) da_nil))) (de_lc rfl sc39.nd (di_seq (de_var (pv 10))) (own := [("_law_own", 13)]) (blkOk_by (by kernel_rfl)) (fun _ _ _ _ _ => (dg_name (pg_name sc39.nd rfl (by first | exact Or.inl rfl | exact Or.inr rfl)))) (fun _ _ _ _ _ => (dts_one (dt_tru (de_call G.c30 hr (by rfl) T.g30 T.F30.kp T.b30 (dr_val (de_var (pv 11)) (dr_val (de_var (pv 13)) dr_nil)) (rl_val (rl_val (rl_nil rfl))))))) (fun _ _ _ _ _ => (de_var (pv 13))) (by decide))))) dss_nil)))
    (dss_cons (ds_if (dt_w (dw_or (dt_not (dt_tru (de_call G.c26 hr (by rfl) T.g26 T.F26.kp T.b26 (dr_val (de_var (pv 5)) (dr_val (de_callT1 call_tuple_of us_tuple (by rfl) T.z_tuple boot_tuple (de_var (pv 10))) dr_nil)) (rl_val (rl_val (rl_nil rfl)))))) (dw_or1 (dt_not (dt_tru (de_call G.c26 hr (by rfl) T.g26 T.F26.kp T.b26 (dr_val (de_callK0 G.c19 hr (by rfl) T.g19 T.F19.kp T.k19_0_other_row (dk_val (de_call G.c25 hr (by rfl) T.g25 T.F25.kp T.b25 (dr_val (de_var (pv 3)) dr_nil) (rl_val (rl_nil rfl))) (dk_val (de_call G.c25 hr (by rfl) T.g25 T.F25.kp T.b25 (dr_val (de_var (pv 2)) dr_nil) (rl_val (rl_nil rfl))) dk_nil)) (rl_perm (rl_nil rfl) (rl_val (rl_val (rl_nil rfl))) rfl)) (dr_val (de_var (pv 5)) dr_nil)) (rl_val (rl_val (rl_nil rfl))))))))) (dss_one (ds_ret de_bl)) dss_nil)
    (dss_one (ds_ret (de_cmp (op_eqD (room64 hr)) os_eq (de_lc rfl sc39.nd (di_seq (de_var (pv 7))) (own := [("_law_n", 11)]) (blkOk_by (by kernel_rfl)) (fun _ _ _ _ _ => (dg_name (pg_name sc39.nd rfl (by first | exact Or.inl rfl | exact Or.inr rfl)))) (fun _ _ _ _ _ => (dts_one (dt_cmp (op_notInB (room65 hr)) (os_inB true) (de_var (pv 11)) (de_var (pv 5)) (by with_unfolding_all rfl)))) (fun _ _ _ _ _ => (de_var (pv 11))) (by decide)) (de_lst da_nil) (nomark _))))))))))))))))
theorem ok40 (T : Top K mg fa fd) (G : Gs P w K mg base fa fd k cl) : FnOk P w K mg base CX0 (k + 1) (fa 40) (fd 40) [] (spD K 0 (fn40 cl)) :=
  fn_ok T.F40 sc40 fun cdv A outer s H E hr => (dss_cons (ds_asgG (fun te g h1 h2 => ps_asg h1 h2) (de_tup (da_cons (de_tup (da_cons de_int (da_cons de_int da_nil))) (da_cons (de_tup (da_cons de_int (da_cons de_int da_nil))) (da_cons (de_tup (da_cons (de_un un_neg us_neg de_int) (da_cons de_int da_nil))) da_nil)))) (dg_tup rfl (dgs_cons (dg_name (pg_name sc40.nd rfl (by first | exact Or.inl rfl | exact Or.inr rfl))) (dgs_cons (dg_name (pg_name sc40.nd rfl (by first | exact Or.inl rfl | exact Or.inr rfl))) (dgs_cons (dg_name (pg_name sc40.nd rfl (by first | exact Or.inl rfl | exact Or.inr rfl))) dgs_nil)))))
    (dss_cons (ds_set (fun te h => ps_set sc40.nd rfl (by first | exact Or.inl rfl | exact Or.inr rfl) h) (de_tup (da_cons (de_tup (da_cons de_int (da_cons (de_tup (da_cons (de_var (pv 2)) (da_cons (de_var (pv 0)) da_nil))) da_nil))) (da_cons (de_tup (da_cons de_int (da_cons (de_tup (da_cons (de_var (pv 1)) (da_cons (de_var (pv 0)) da_nil))) da_nil))) (da_cons (de_tup (da_cons de_int (da_cons (de_tup (da_cons (de_var (pv 0)) (da_cons (de_var (pv 2)) da_nil))) da_nil))) (da_cons (de_tup (da_cons de_int (da_cons (de_tup (da_cons (de_var (pv 1)) (da_cons (de_var (pv 2)) da_nil))) da_nil))) da_nil))))))
    (dss_cons (ds_set (fun te h => ps_set sc40.nd rfl (by first | exact Or.inl rfl | exact Or.inr rfl) h) (de_lst (da_cons (de_call G.c19 hr (by rfl) T.g19 T.F19.kp T.b19 (dr_val (de_var (pv 3)) (dr_val (de_tup da_nil) dr_nil)) (rl_val (rl_val (rl_nil rfl)))) (da_cons (de_call G.c19 hr (by rfl) T.g19 T.F19.kp T.b19 (dr_val (de_tup da_nil) (dr_val (de_var (pv 3)) dr_nil)) (rl_val (rl_val (rl_nil rfl)))) (da_cons (de_call G.c19 hr (by rfl) T.g19 T.F19.kp T.b19 (dr_val (de_var (pv 3)) (dr_val (de_var (pv 3)) dr_nil)) (rl_val (rl_val (rl_nil rfl)))) (da_cons (de_call G.c19 hr (by rfl) T.g19 T.F19.kp T.b19 (dr_val (de_tup (da_cons (de_tup (da_cons de_int (da_cons (de_tup (da_cons (de_var (pv 1)) (da_cons (de_var (pv 0)) da_nil))) da_nil))) (da_cons (de_tup (da_cons de_int (da_cons (de_tup (da_cons (de_var (pv 1)) (da_cons (de_var (pv 2)) da_nil))) da_nil))) da_nil))) (dr_val (de_tup da_nil) dr_nil)) (rl_val (rl_val (rl_nil rfl)))) da_nil))))))
    (dss_cons (ds_set (fun te h => ps_set sc40.nd rfl (by first | exact Or.inl rfl | exact Or.inr rfl) h) (de_lst (da_cons (de_tup (da_cons (de_var (pv 1)) (da_cons (de_var (pv 0)) da_nil))) (da_cons (de_tup (da_cons (de_var (pv 1)) (da_cons (de_var (pv 0)) da_nil))) (da_cons de_non (da_cons de_non da_nil))))))
    (dss_cons (ds_set (fun te h => ps_set sc40.nd rfl (by first | exact Or.inl rfl | exact Or.inr rfl) h) (de_op op_addA os_add (de_var (pv 4)) (de_lst (da_cons (de_call G.c19 hr (by rfl) T.g19 T.F19.kp T.b19 (dr_val (de_tup (da_cons (de_tup (da_cons de_int (da_cons (de_tup (da_cons (de_var (pv 1)) (da_cons (de_var (pv 0)) da_nil))) da_nil))) (da_cons (de_tup (da_cons de_int (da_cons (de_tup (da_cons (de_var (pv 0)) (da_cons (de_var (pv 1)) da_nil))) da_nil))) (da_cons (de_tup (da_cons de_int (da_cons (de_tup (da_cons (de_var (pv 1)) (da_cons (de_var (pv 2)) da_nil))) da_nil))) da_nil)))) (dr_val (de_tup (da_cons (de_tup (da_cons de_int (da_cons (de_tup (da_cons (de_var (pv 0)) (da_cons (de_var (pv 1)) da_nil))) da_nil))) da_nil)) dr_nil)) (rl_val (rl_val (rl_nil rfl)))) (da_cons (de_call G.c19 hr (by rfl) T.g19 T.F19.kp T.b19 (dr_val (de_tup (da_cons (de_tup (da_cons de_int (da_cons (de_tup (da_cons (de_var (pv 0)) (da_cons (de_var (pv 0)) da_nil))) da_nil))) da_nil)) (dr_val (de_tup (da_cons (de_tup (da_cons de_int (da_cons (de_tup (da_cons (de_var (pv 0)) (da_cons (de_var (pv 0)) da_nil))) da_nil))) da_nil)) dr_nil)) (rl_val (rl_val (rl_nil rfl)))) da_nil)))))
    (dss_cons (ds_set (fun te h => ps_set sc40.nd rfl (by first | exact Or.inl rfl | exact Or.inr rfl) h) (de_op op_addA os_add (de_var (pv 5)) (de_lst (da_cons (de_tup (da_cons (de_var (pv 1)) da_nil)) (da_cons (de_tup (da_cons (de_var (pv 2)) da_nil)) da_nil)))))
    (dss_cons (ds_set (fun te h => ps_set sc40.nd rfl (by first | exact Or.inl rfl | exact Or.inr rfl) h) (de_op op_addA os_add (de_var (pv 4)) (de_lst (da_cons (de_call G.c19 hr (by rfl) T.g19 T.F19.kp T.b19 (dr_val (de_tup (da_cons (de_tup (da_cons de_int (da_cons (de_tup (da_cons (de_var (pv 1)) (da_cons (de_var (pv 0)) da_nil))) da_nil))) (da_cons (de_tup (da_cons de_int (da_cons (de_tup (da_cons (de_var (pv 0)) (da_cons (de_var (pv 1)) da_nil))) da_nil))) da_nil))) (dr_val (de_tup da_nil) dr_nil)) (rl_val (rl_val (rl_nil rfl)))) (da_cons (de_call G.c19 hr (by rfl) T.g19 T.F19.kp T.b19 (dr_val (de_tup (da_cons (de_tup (da_cons de_int (da_cons (de_tup (da_cons (de_var (pv 0)) (da_cons (de_tup (da_cons (de_un un_neg us_neg de_int) (da_cons de_int da_nil))) da_nil))) da_nil))) (da_cons (de_tup (da_cons de_int (da_cons (de_tup (da_cons (de_var (pv 1)) (da_cons (de_var (pv 1)) da_nil))) da_nil))) da_nil))) (dr_val (de_tup (da_cons (de_tup (da_cons de_int (da_cons (de_tup (da_cons (de_var (pv 1)) (da_cons (de_var (pv 1)) da_nil))) da_nil))) da_nil)) dr_nil)) (rl_val (rl_val (rl_nil rfl)))) da_nil)))))
    (dss_one (ds_ret (de_call G.c26 hr (by rfl) T.g26 T.F26.kp T.b26 (dr_val (de_var (pv 4)) (dr_val (de_op op_addA os_add (de_var (pv 5)) (de_lst (da_cons (de_tup da_nil) (da_cons (de_tup (da_cons (de_tup (da_cons de_int (da_cons de_int da_nil))) da_nil)) da_nil)))) dr_nil)) (rl_val (rl_val (rl_nil rfl)))))))))))))
theorem ok41 (T : Top K mg fa fd) (G : Gs P w K mg base fa fd k cl) : FnOk P w K mg base CX0 (k + 1) (fa 41) (fd 41) ["_law_script"] (spD K 1 (fn41 cl)) :=
  fn_ok T.F41 sc41 fun cdv A outer s H E hr => (dss_cons (ds_if (dt_not (dt_tru (de_call0 G.c40 hr (by rfl) T.g40 T.F40.kp T.b40))) (dss_one (ds_ret de_bl)) dss_nil)
    (dss_cons (ds_set (fun te h => ps_set sc41.nd rfl (by first | exact Or.inl rfl | exact Or.inr rfl) h) (de_call G.c21 hr (by rfl) T.g21 T.F21.kp T.b21 (dr_val (de_call G.c23 hr (by rfl) T.g23 T.F23.kp T.b23 (dr_val (de_var (pv 0)) (dr_val de_int dr_nil)) (rl_val (rl_val (rl_nil rfl)))) (dr_val de_int dr_nil)) (rl_val (rl_val (rl_nil rfl)))))
    (dss_one (ds_ret (de_call1 (cr_all rfl) us_all (by rfl) T.z_all boot_all (de_lc rfl sc41.nd (di_rng1 (by rfl) T.z_range (da_cons de_int da_nil)) (own := [("_law_lap", 2)]) (blkOk_by (by kernel_rfl)) (fun _ _ _ _ _ => (dg_name (pg_name sc41.nd rfl (by first | exact Or.inl rfl | exact Or.inr rfl)))) (fun _ _ _ _ _ => dts_nil) (fun _ _ _ _ _ => (de_call G.c39 hr (by rfl) T.g39 T.F39.kp T.b39 (dr_slot (pv 1) dr_nil) (rl_slot (rl_nil rfl)))) (by decide)))))))
theorem all_ok (T : Top K mg fa fd) : ∀ k : Nat, Gs P w K mg base fa fd k (run k)
  | 0 => ⟨fn_zero, fn_zero, fn_zero, fn_zero, fn_zero, fn_zero, fn_zero, fn_zero, fn_zero, fn_zero, fn_zero, fn_zero, fn_zero, fn_zero, fn_zero, fn_zero, fn_zero, fn_zero, fn_zero, fn_zero, fn_zero, fn_zero, fn_zero, fn_zero, fn_zero, fn_zero, fn_zero, fn_zero, fn_zero, fn_zero, fn_zero, fn_zero, fn_zero, fn_zero⟩
  | k + 1 => ⟨ok5 T (all_ok T k), ok6 T (all_ok T k), ok7 T (all_ok T k), ok8 T (all_ok T k), ok9 T (all_ok T k), ok10 T (all_ok T k), ok12 T (all_ok T k), ok13 T (all_ok T k), ok14 T (all_ok T k), ok15 T (all_ok T k), ok17 T (all_ok T k), ok18 T (all_ok T k), ok19 T (all_ok T k), ok21 T (all_ok T k), ok22 T (all_ok T k), ok23 T (all_ok T k), ok24 T (all_ok T k), ok25 T (all_ok T k), ok26 T (all_ok T k), ok27 T (all_ok T k), ok28 T (all_ok T k), ok29 T (all_ok T k), ok30 T (all_ok T k), ok31 T (all_ok T k), ok32 T (all_ok T k), ok33 T (all_ok T k), ok34 T (all_ok T k), ok35 T (all_ok T k), ok36 T (all_ok T k), ok37 T (all_ok T k), ok38 T (all_ok T k), ok39 T (all_ok T k), ok40 T (all_ok T k), ok41 T (all_ok T k)⟩
end
/-! ### what the top has written -/
theorem all_mk {l : PySem.W.OpenLaw} {w : World} {K : PySem.W.Frag} {h : Heap} {mg : Str → Option Value} {fl f5 f6 f7 f8 f9 f10 f12 f13 f14 f15 f17 f18 f19 f21 f22 f23 f24 f25 f26 f27 f28 f29 f30 f31 f32 f33 f34 f35 f36 f37 f38 f39 f40 f41 : Addr} (X : K.In h) (G : h.Ns mainGlobals mg) (hfa : mg "law" = some (.ref fl))
    {od5 an5 od6 an6 od7 an7 od8 an8 od9 an9 od10 an10 od12 an12 od13 an13 od14 an14 od15 an15 od17 an17 od18 an18 od19 an19 od21 an21 od22 an22 od23 an23 od24 an24 od25 an25 od26 an26 od27 an27 od28 an28 od29 an29 od30 an30 od31 an31 od32 an32 od33 an33 od34 an34 od35 an35 od36 an36 od37 an37 od38 an38 od39 an39 od40 an40 od41 an41 : Option Addr} {sl5 sl6 sl7 sl8 sl9 sl10 sl12 sl13 sl14 sl15 sl17 sl18 sl19 sl21 sl22 sl23 sl24 sl25 sl26 sl27 sl28 sl29 sl30 sl31 sl32 sl33 sl34 sl35 sl36 sl37 sl38 sl39 sl40 sl41 : Array (Option Value)} {oc5 kV5 dc5 pm5 cd5 ct5 oc6 kV6 dc6 pm6 cd6 ct6 oc7 kV7 dc7 pm7 cd7 ct7 oc8 kV8 dc8 pm8 cd8 ct8 oc9 kV9 dc9 pm9 cd9 ct9 oc10 kV10 dc10 pm10 cd10 ct10 oc12 kV12 dc12 pm12 cd12 ct12 oc13 kV13 dc13 pm13 cd13 ct13 oc14 kV14 dc14 pm14 cd14 ct14 oc15 kV15 dc15 pm15 cd15 ct15 oc17 kV17 dc17 pm17 cd17 ct17 oc18 kV18 dc18 pm18 cd18 ct18 oc19 kV19 dc19 pm19 cd19 ct19 oc21 kV21 dc21 pm21 cd21 ct21 oc22 kV22 dc22 pm22 cd22 ct22 oc23 kV23 dc23 pm23 cd23 ct23 oc24 kV24 dc24 pm24 cd24 ct24 oc25 kV25 dc25 pm25 cd25 ct25 oc26 kV26 dc26 pm26 cd26 ct26 oc27 kV27 dc27 pm27 cd27 ct27 oc28 kV28 dc28 pm28 cd28 ct28 oc29 kV29 dc29 pm29 cd29 ct29 oc30 kV30 dc30 pm30 cd30 ct30 oc31 kV31 dc31 pm31 cd31 ct31 oc32 kV32 dc32 pm32 cd32 ct32 oc33 kV33 dc33 pm33 cd33 ct33 oc34 kV34 dc34 pm34 cd34 ct34 oc35 kV35 dc35 pm35 cd35 ct35 oc36 kV36 dc36 pm36 cd36 ct36 oc37 kV37 dc37 pm37 cd37 ct37 oc38 kV38 dc38 pm38 cd38 ct38 oc39 kV39 dc39 pm39 cd39 ct39 oc40 kV40 dc40 pm40 cd40 ct40 oc41 kV41 dc41 pm41 cd41 ct41 : Value}
    (a5 : PySem.W.nsIn K mainGlobals "fraction" = some (some (.ref f5))) (l5 : K.lookup f5 = some ⟨oc5, od5, .func (PySem.W.fnOf "fraction" "fraction" (defArgs (topS 5)) (defBody (topS 5)) (defScope (topS 5)) .none kV5 dc5 pm5 an5 cd5 ct5), sl5⟩) (c5 : PySem.W.codeIn K cd5 "fraction" = true) (k5 : PySem.W.keepIn K (.ref f5) = true)
    (a6 : PySem.W.nsIn K mainGlobals "whole" = some (some (.ref f6))) (l6 : K.lookup f6 = some ⟨oc6, od6, .func (PySem.W.fnOf "whole" "whole" (defArgs (topS 6)) (defBody (topS 6)) (defScope (topS 6)) .none kV6 dc6 pm6 an6 cd6 ct6), sl6⟩) (c6 : PySem.W.codeIn K cd6 "whole" = true) (k6 : PySem.W.keepIn K (.ref f6) = true)
    (a7 : PySem.W.nsIn K mainGlobals "plus" = some (some (.ref f7))) (l7 : K.lookup f7 = some ⟨oc7, od7, .func (PySem.W.fnOf "plus" "plus" (defArgs (topS 7)) (defBody (topS 7)) (defScope (topS 7)) .none kV7 dc7 pm7 an7 cd7 ct7), sl7⟩) (c7 : PySem.W.codeIn K cd7 "plus" = true) (k7 : PySem.W.keepIn K (.ref f7) = true)
    (a8 : PySem.W.nsIn K mainGlobals "minus" = some (some (.ref f8))) (l8 : K.lookup f8 = some ⟨oc8, od8, .func (PySem.W.fnOf "minus" "minus" (defArgs (topS 8)) (defBody (topS 8)) (defScope (topS 8)) .none kV8 dc8 pm8 an8 cd8 ct8), sl8⟩) (c8 : PySem.W.codeIn K cd8 "minus" = true) (k8 : PySem.W.keepIn K (.ref f8) = true)
    (a9 : PySem.W.nsIn K mainGlobals "times" = some (some (.ref f9))) (l9 : K.lookup f9 = some ⟨oc9, od9, .func (PySem.W.fnOf "times" "times" (defArgs (topS 9)) (defBody (topS 9)) (defScope (topS 9)) .none kV9 dc9 pm9 an9 cd9 ct9), sl9⟩) (c9 : PySem.W.codeIn K cd9 "times" = true) (k9 : PySem.W.keepIn K (.ref f9) = true)
    (a10 : PySem.W.nsIn K mainGlobals "over" = some (some (.ref f10))) (l10 : K.lookup f10 = some ⟨oc10, od10, .func (PySem.W.fnOf "over" "over" (defArgs (topS 10)) (defBody (topS 10)) (defScope (topS 10)) .none kV10 dc10 pm10 an10 cd10 ct10), sl10⟩) (c10 : PySem.W.codeIn K cd10 "over" = true) (k10 : PySem.W.keepIn K (.ref f10) = true)
    (a12 : PySem.W.nsIn K mainGlobals "_go_together" = some (some (.ref f12))) (l12 : K.lookup f12 = some ⟨oc12, od12, .func (PySem.W.fnOf "_go_together" "_go_together" (defArgs (topS 12)) (defBody (topS 12)) (defScope (topS 12)) .none kV12 dc12 pm12 an12 cd12 ct12), sl12⟩) (c12 : PySem.W.codeIn K cd12 "_go_together" = true) (k12 : PySem.W.keepIn K (.ref f12) = true)
    (a13 : PySem.W.nsIn K mainGlobals "_place_to_join" = some (some (.ref f13))) (l13 : K.lookup f13 = some ⟨oc13, od13, .func (PySem.W.fnOf "_place_to_join" "_place_to_join" (defArgs (topS 13)) (defBody (topS 13)) (defScope (topS 13)) .none kV13 dc13 pm13 an13 cd13 ct13), sl13⟩) (c13 : PySem.W.codeIn K cd13 "_place_to_join" = true) (k13 : PySem.W.keepIn K (.ref f13) = true)
    (a14 : PySem.W.nsIn K mainGlobals "_shortest" = some (some (.ref f14))) (l14 : K.lookup f14 = some ⟨oc14, od14, .func (PySem.W.fnOf "_shortest" "_shortest" (defArgs (topS 14)) (defBody (topS 14)) (defScope (topS 14)) .none kV14 dc14 pm14 an14 cd14 ct14), sl14⟩) (c14 : PySem.W.codeIn K cd14 "_shortest" = true) (k14 : PySem.W.keepIn K (.ref f14) = true)
    (a15 : PySem.W.nsIn K mainGlobals "normal_row" = some (some (.ref f15))) (l15 : K.lookup f15 = some ⟨oc15, od15, .func (PySem.W.fnOf "normal_row" "normal_row" (defArgs (topS 15)) (defBody (topS 15)) (defScope (topS 15)) .none kV15 dc15 pm15 an15 cd15 ct15), sl15⟩) (c15 : PySem.W.codeIn K cd15 "normal_row" = true) (k15 : PySem.W.keepIn K (.ref f15) = true)
    (a17 : PySem.W.nsIn K mainGlobals "_form_rest" = some (some (.ref f17))) (l17 : K.lookup f17 = some ⟨oc17, od17, .func (PySem.W.fnOf "_form_rest" "_form_rest" (defArgs (topS 17)) (defBody (topS 17)) (defScope (topS 17)) .none kV17 dc17 pm17 an17 cd17 ct17), sl17⟩) (c17 : PySem.W.codeIn K cd17 "_form_rest" = true) (k17 : PySem.W.keepIn K (.ref f17) = true)
    (a18 : PySem.W.nsIn K mainGlobals "_row_at" = some (some (.ref f18))) (l18 : K.lookup f18 = some ⟨oc18, od18, .func (PySem.W.fnOf "_row_at" "_row_at" (defArgs (topS 18)) (defBody (topS 18)) (defScope (topS 18)) .none kV18 dc18 pm18 an18 cd18 ct18), sl18⟩) (c18 : PySem.W.codeIn K cd18 "_row_at" = true) (k18 : PySem.W.keepIn K (.ref f18) = true)
    (a19 : PySem.W.nsIn K mainGlobals "same_at" = some (some (.ref f19))) (l19 : K.lookup f19 = some ⟨oc19, od19, .func (PySem.W.fnOf "same_at" "same_at" (defArgs (topS 19)) (defBody (topS 19)) (defScope (topS 19)) .none kV19 dc19 pm19 an19 cd19 ct19), sl19⟩) (c19 : PySem.W.codeIn K cd19 "same_at" = true) (k19 : PySem.W.keepIn K (.ref f19) = true)
    (a21 : PySem.W.nsIn K mainGlobals "_law_box" = some (some (.ref f21))) (l21 : K.lookup f21 = some ⟨oc21, od21, .func (PySem.W.fnOf "_law_box" "_law_box" (defArgs (topS 21)) (defBody (topS 21)) (defScope (topS 21)) .none kV21 dc21 pm21 an21 cd21 ct21), sl21⟩) (c21 : PySem.W.codeIn K cd21 "_law_box" = true) (k21 : PySem.W.keepIn K (.ref f21) = true)
    (a22 : PySem.W.nsIn K mainGlobals "_law_take" = some (some (.ref f22))) (l22 : K.lookup f22 = some ⟨oc22, od22, .func (PySem.W.fnOf "_law_take" "_law_take" (defArgs (topS 22)) (defBody (topS 22)) (defScope (topS 22)) .none kV22 dc22 pm22 an22 cd22 ct22), sl22⟩) (c22 : PySem.W.codeIn K cd22 "_law_take" = true) (k22 : PySem.W.keepIn K (.ref f22) = true)
    (a23 : PySem.W.nsIn K mainGlobals "_law_cells" = some (some (.ref f23))) (l23 : K.lookup f23 = some ⟨oc23, od23, .func (PySem.W.fnOf "_law_cells" "_law_cells" (defArgs (topS 23)) (defBody (topS 23)) (defScope (topS 23)) .none kV23 dc23 pm23 an23 cd23 ct23), sl23⟩) (c23 : PySem.W.codeIn K cd23 "_law_cells" = true) (k23 : PySem.W.keepIn K (.ref f23) = true)
    (a24 : PySem.W.nsIn K mainGlobals "_law_of" = some (some (.ref f24))) (l24 : K.lookup f24 = some ⟨oc24, od24, .func (PySem.W.fnOf "_law_of" "_law_of" (defArgs (topS 24)) (defBody (topS 24)) (defScope (topS 24)) .none kV24 dc24 pm24 an24 cd24 ct24), sl24⟩) (c24 : PySem.W.codeIn K cd24 "_law_of" = true) (k24 : PySem.W.keepIn K (.ref f24) = true)
    (a25 : PySem.W.nsIn K mainGlobals "_law_lists" = some (some (.ref f25))) (l25 : K.lookup f25 = some ⟨oc25, od25, .func (PySem.W.fnOf "_law_lists" "_law_lists" (defArgs (topS 25)) (defBody (topS 25)) (defScope (topS 25)) .none kV25 dc25 pm25 an25 cd25 ct25), sl25⟩) (c25 : PySem.W.codeIn K cd25 "_law_lists" = true) (k25 : PySem.W.keepIn K (.ref f25) = true)
    (a26 : PySem.W.nsIn K mainGlobals "_law_same" = some (some (.ref f26))) (l26 : K.lookup f26 = some ⟨oc26, od26, .func (PySem.W.fnOf "_law_same" "_law_same" (defArgs (topS 26)) (defBody (topS 26)) (defScope (topS 26)) .none kV26 dc26 pm26 an26 cd26 ct26), sl26⟩) (c26 : PySem.W.codeIn K cd26 "_law_same" = true) (k26 : PySem.W.keepIn K (.ref f26) = true)
    (a27 : PySem.W.nsIn K mainGlobals "_law_low" = some (some (.ref f27))) (l27 : K.lookup f27 = some ⟨oc27, od27, .func (PySem.W.fnOf "_law_low" "_law_low" (defArgs (topS 27)) (defBody (topS 27)) (defScope (topS 27)) .none kV27 dc27 pm27 an27 cd27 ct27), sl27⟩) (c27 : PySem.W.codeIn K cd27 "_law_low" = true) (k27 : PySem.W.keepIn K (.ref f27) = true)
    (a28 : PySem.W.nsIn K mainGlobals "_law_add" = some (some (.ref f28))) (l28 : K.lookup f28 = some ⟨oc28, od28, .func (PySem.W.fnOf "_law_add" "_law_add" (defArgs (topS 28)) (defBody (topS 28)) (defScope (topS 28)) .none kV28 dc28 pm28 an28 cd28 ct28), sl28⟩) (c28 : PySem.W.codeIn K cd28 "_law_add" = true) (k28 : PySem.W.keepIn K (.ref f28) = true)
    (a29 : PySem.W.nsIn K mainGlobals "_law_mul" = some (some (.ref f29))) (l29 : K.lookup f29 = some ⟨oc29, od29, .func (PySem.W.fnOf "_law_mul" "_law_mul" (defArgs (topS 29)) (defBody (topS 29)) (defScope (topS 29)) .none kV29 dc29 pm29 an29 cd29 ct29), sl29⟩) (c29 : PySem.W.codeIn K cd29 "_law_mul" = true) (k29 : PySem.W.keepIn K (.ref f29) = true)
    (a30 : PySem.W.nsIn K mainGlobals "_law_less" = some (some (.ref f30))) (l30 : K.lookup f30 = some ⟨oc30, od30, .func (PySem.W.fnOf "_law_less" "_law_less" (defArgs (topS 30)) (defBody (topS 30)) (defScope (topS 30)) .none kV30 dc30 pm30 an30 cd30 ct30), sl30⟩) (c30 : PySem.W.codeIn K cd30 "_law_less" = true) (k30 : PySem.W.keepIn K (.ref f30) = true)
    (a31 : PySem.W.nsIn K mainGlobals "_law_sub" = some (some (.ref f31))) (l31 : K.lookup f31 = some ⟨oc31, od31, .func (PySem.W.fnOf "_law_sub" "_law_sub" (defArgs (topS 31)) (defBody (topS 31)) (defScope (topS 31)) .none kV31 dc31 pm31 an31 cd31 ct31), sl31⟩) (c31 : PySem.W.codeIn K cd31 "_law_sub" = true) (k31 : PySem.W.keepIn K (.ref f31) = true)
    (a32 : PySem.W.nsIn K mainGlobals "_law_normal" = some (some (.ref f32))) (l32 : K.lookup f32 = some ⟨oc32, od32, .func (PySem.W.fnOf "_law_normal" "_law_normal" (defArgs (topS 32)) (defBody (topS 32)) (defScope (topS 32)) .none kV32 dc32 pm32 an32 cd32 ct32), sl32⟩) (c32 : PySem.W.codeIn K cd32 "_law_normal" = true) (k32 : PySem.W.keepIn K (.ref f32) = true)
    (a33 : PySem.W.nsIn K mainGlobals "_law_much" = some (some (.ref f33))) (l33 : K.lookup f33 = some ⟨oc33, od33, .func (PySem.W.fnOf "_law_much" "_law_much" (defArgs (topS 33)) (defBody (topS 33)) (defScope (topS 33)) .none kV33 dc33 pm33 an33 cd33 ct33), sl33⟩) (c33 : PySem.W.codeIn K cd33 "_law_much" = true) (k33 : PySem.W.keepIn K (.ref f33) = true)
    (a34 : PySem.W.nsIn K mainGlobals "_law_form_at" = some (some (.ref f34))) (l34 : K.lookup f34 = some ⟨oc34, od34, .func (PySem.W.fnOf "_law_form_at" "_law_form_at" (defArgs (topS 34)) (defBody (topS 34)) (defScope (topS 34)) .none kV34 dc34 pm34 an34 cd34 ct34), sl34⟩) (c34 : PySem.W.codeIn K cd34 "_law_form_at" = true) (k34 : PySem.W.keepIn K (.ref f34) = true)
    (a35 : PySem.W.nsIn K mainGlobals "_law_forms_left" = some (some (.ref f35))) (l35 : K.lookup f35 = some ⟨oc35, od35, .func (PySem.W.fnOf "_law_forms_left" "_law_forms_left" (defArgs (topS 35)) (defBody (topS 35)) (defScope (topS 35)) .none kV35 dc35 pm35 an35 cd35 ct35), sl35⟩) (c35 : PySem.W.codeIn K cd35 "_law_forms_left" = true) (k35 : PySem.W.keepIn K (.ref f35) = true)
    (a36 : PySem.W.nsIn K mainGlobals "_law_form" = some (some (.ref f36))) (l36 : K.lookup f36 = some ⟨oc36, od36, .func (PySem.W.fnOf "_law_form" "_law_form" (defArgs (topS 36)) (defBody (topS 36)) (defScope (topS 36)) .none kV36 dc36 pm36 an36 cd36 ct36), sl36⟩) (c36 : PySem.W.codeIn K cd36 "_law_form" = true) (k36 : PySem.W.keepIn K (.ref f36) = true)
    (a37 : PySem.W.nsIn K mainGlobals "_law_form_undone" = some (some (.ref f37))) (l37 : K.lookup f37 = some ⟨oc37, od37, .func (PySem.W.fnOf "_law_form_undone" "_law_form_undone" (defArgs (topS 37)) (defBody (topS 37)) (defScope (topS 37)) .none kV37 dc37 pm37 an37 cd37 ct37), sl37⟩) (c37 : PySem.W.codeIn K cd37 "_law_form_undone" = true) (k37 : PySem.W.keepIn K (.ref f37) = true)
    (a38 : PySem.W.nsIn K mainGlobals "_law_made" = some (some (.ref f38))) (l38 : K.lookup f38 = some ⟨oc38, od38, .func (PySem.W.fnOf "_law_made" "_law_made" (defArgs (topS 38)) (defBody (topS 38)) (defScope (topS 38)) .none kV38 dc38 pm38 an38 cd38 ct38), sl38⟩) (c38 : PySem.W.codeIn K cd38 "_law_made" = true) (k38 : PySem.W.keepIn K (.ref f38) = true)
    (a39 : PySem.W.nsIn K mainGlobals "_law_right" = some (some (.ref f39))) (l39 : K.lookup f39 = some ⟨oc39, od39, .func (PySem.W.fnOf "_law_right" "_law_right" (defArgs (topS 39)) (defBody (topS 39)) (defScope (topS 39)) .none kV39 dc39 pm39 an39 cd39 ct39), sl39⟩) (c39 : PySem.W.codeIn K cd39 "_law_right" = true) (k39 : PySem.W.keepIn K (.ref f39) = true)
    (a40 : PySem.W.nsIn K mainGlobals "_law_by_hand_right" = some (some (.ref f40))) (l40 : K.lookup f40 = some ⟨oc40, od40, .func (PySem.W.fnOf "_law_by_hand_right" "_law_by_hand_right" (defArgs (topS 40)) (defBody (topS 40)) (defScope (topS 40)) .none kV40 dc40 pm40 an40 cd40 ct40), sl40⟩) (c40 : PySem.W.codeIn K cd40 "_law_by_hand_right" = true) (k40 : PySem.W.keepIn K (.ref f40) = true)
    (a41 : PySem.W.nsIn K mainGlobals "law" = some (some (.ref f41))) (l41 : K.lookup f41 = some ⟨oc41, od41, .func (PySem.W.fnOf "law" "law" (defArgs (topS 41)) (defBody (topS 41)) (defScope (topS 41)) .none kV41 dc41 pm41 an41 cd41 ct41), sl41⟩) (c41 : PySem.W.codeIn K cd41 "law" = true) (k41 : PySem.W.keepIn K (.ref f41) = true)
    {moZERO : Addr} {odZERO : Option Addr} {nnZERO : Nat} {slZERO : Array (Option Value)} {tZERO0 tZERO1 : Tok}
    (m_ZERO : PySem.W.nsIn K mainGlobals "ZERO" = some (some (.ref moZERO))) (k_ZERO : K.lookup moZERO = some ⟨.type "tuple", odZERO, .seq #[.int (0) tZERO0, .int (1) tZERO1] nnZERO, slZERO⟩)
    (f_gcd : PySem.W.nsIn K mainGlobals "gcd" = some (some (.builtin "math.gcd")))
    (f_lcm : PySem.W.nsIn K mainGlobals "lcm" = some (some (.builtin "math.lcm")))
    (z_abs : PySem.W.nsIn K mainGlobals "abs" = some none) (z_all : PySem.W.nsIn K mainGlobals "all" = some none) (z_bool : PySem.W.nsIn K mainGlobals "bool" = some none) (z_enumerate : PySem.W.nsIn K mainGlobals "enumerate" = some none) (z_int : PySem.W.nsIn K mainGlobals "int" = some none) (z_isinstance : PySem.W.nsIn K mainGlobals "isinstance" = some none) (z_len : PySem.W.nsIn K mainGlobals "len" = some none) (z_list : PySem.W.nsIn K mainGlobals "list" = some none) (z_max : PySem.W.nsIn K mainGlobals "max" = some none) (z_min : PySem.W.nsIn K mainGlobals "min" = some none) (z_range : PySem.W.nsIn K mainGlobals "range" = some none) (z_reversed : PySem.W.nsIn K mainGlobals "reversed" = some none) (z_set : PySem.W.nsIn K mainGlobals "set" = some none) (z_sorted : PySem.W.nsIn K mainGlobals "sorted" = some none) (z_str : PySem.W.nsIn K mainGlobals "str" = some none) (z_tuple : PySem.W.nsIn K mainGlobals "tuple" = some none) (z_zip : PySem.W.nsIn K mainGlobals "zip" = some none) :
    ∃ fd : FuncData, (∀ (s : Shared) (v : Value), BindsTo s fd ⟨[v], []⟩ [("_law_script", v)]) ∧ ∀ base : Heap, K.In base → base.Ns mainGlobals mg → FnOk l.prog w K mg base CX0 60 fl fd ["_law_script"] (spD K 1 (run 60 41)) := by
  have e : fl = f41 := by
    have e := hfa.symm.trans (PySem.W.mg_of X G a41)
    injection e with e
    injection e with e
  rw [e]
  let fa : Nat → Addr := fun i => match i with | 5 => f5 | 6 => f6 | 7 => f7 | 8 => f8 | 9 => f9 | 10 => f10 | 12 => f12 | 13 => f13 | 14 => f14 | 15 => f15 | 17 => f17 | 18 => f18 | 19 => f19 | 21 => f21 | 22 => f22 | 23 => f23 | 24 => f24 | 25 => f25 | 26 => f26 | 27 => f27 | 28 => f28 | 29 => f29 | 30 => f30 | 31 => f31 | 32 => f32 | 33 => f33 | 34 => f34 | 35 => f35 | 36 => f36 | 37 => f37 | 38 => f38 | 39 => f39 | 40 => f40 | 41 => f41 | _ => f41
  let fd : Nat → FuncData := fun i => match i with | 5 => PySem.W.fnOf "fraction" "fraction" (defArgs (topS 5)) (defBody (topS 5)) (defScope (topS 5)) .none kV5 dc5 pm5 an5 cd5 ct5 | 6 => PySem.W.fnOf "whole" "whole" (defArgs (topS 6)) (defBody (topS 6)) (defScope (topS 6)) .none kV6 dc6 pm6 an6 cd6 ct6 | 7 => PySem.W.fnOf "plus" "plus" (defArgs (topS 7)) (defBody (topS 7)) (defScope (topS 7)) .none kV7 dc7 pm7 an7 cd7 ct7 | 8 => PySem.W.fnOf "minus" "minus" (defArgs (topS 8)) (defBody (topS 8)) (defScope (topS 8)) .none kV8 dc8 pm8 an8 cd8 ct8 | 9 => PySem.W.fnOf "times" "times" (defArgs (topS 9)) (defBody (topS 9)) (defScope (topS 9)) .none kV9 dc9 pm9 an9 cd9 ct9 | 10 => PySem.W.fnOf "over" "over" (defArgs (topS 10)) (defBody (topS 10)) (defScope (topS 10)) .none kV10 dc10 pm10 an10 cd10 ct10 | 12 => PySem.W.fnOf "_go_together" "_go_together" (defArgs (topS 12)) (defBody (topS 12)) (defScope (topS 12)) .none kV12 dc12 pm12 an12 cd12 ct12 | 13 => PySem.W.fnOf "_place_to_join" "_place_to_join" (defArgs (topS 13)) (defBody (topS 13)) (defScope (topS 13)) .none kV13 dc13 pm13 an13 cd13 ct13 | 14 => PySem.W.fnOf "_shortest" "_shortest" (defArgs (topS 14)) (defBody (topS 14)) (defScope (topS 14)) .none kV14 dc14 pm14 an14 cd14 ct14 | 15 => PySem.W.fnOf "normal_row" "normal_row" (defArgs (topS 15)) (defBody (topS 15)) (defScope (topS 15)) .none kV15 dc15 pm15 an15 cd15 ct15 | 17 => PySem.W.fnOf "_form_rest" "_form_rest" (defArgs (topS 17)) (defBody (topS 17)) (defScope (topS 17)) .none kV17 dc17 pm17 an17 cd17 ct17 | 18 => PySem.W.fnOf "_row_at" "_row_at" (defArgs (topS 18)) (defBody (topS 18)) (defScope (topS 18)) .none kV18 dc18 pm18 an18 cd18 ct18 | 19 => PySem.W.fnOf "same_at" "same_at" (defArgs (topS 19)) (defBody (topS 19)) (defScope (topS 19)) .none kV19 dc19 pm19 an19 cd19 ct19 | 21 => PySem.W.fnOf "_law_box" "_law_box" (defArgs (topS 21)) (defBody (topS 21)) (defScope (topS 21)) .none kV21 dc21 pm21 an21 cd21 ct21 | 22 => PySem.W.fnOf "_law_take" "_law_take" (defArgs (topS 22)) (defBody (topS 22)) (defScope (topS 22)) .none kV22 dc22 pm22 an22 cd22 ct22 | 23 => PySem.W.fnOf "_law_cells" "_law_cells" (defArgs (topS 23)) (defBody (topS 23)) (defScope (topS 23)) .none kV23 dc23 pm23 an23 cd23 ct23 | 24 => PySem.W.fnOf "_law_of" "_law_of" (defArgs (topS 24)) (defBody (topS 24)) (defScope (topS 24)) .none kV24 dc24 pm24 an24 cd24 ct24 | 25 => PySem.W.fnOf "_law_lists" "_law_lists" (defArgs (topS 25)) (defBody (topS 25)) (defScope (topS 25)) .none kV25 dc25 pm25 an25 cd25 ct25 | 26 => PySem.W.fnOf "_law_same" "_law_same" (defArgs (topS 26)) (defBody (topS 26)) (defScope (topS 26)) .none kV26 dc26 pm26 an26 cd26 ct26 | 27 => PySem.W.fnOf "_law_low" "_law_low" (defArgs (topS 27)) (defBody (topS 27)) (defScope (topS 27)) .none kV27 dc27 pm27 an27 cd27 ct27 | 28 => PySem.W.fnOf "_law_add" "_law_add" (defArgs (topS 28)) (defBody (topS 28)) (defScope (topS 28)) .none kV28 dc28 pm28 an28 cd28 ct28 | 29 => PySem.W.fnOf "_law_mul" "_law_mul" (defArgs (topS 29)) (defBody (topS 29)) (defScope (topS 29)) .none kV29 dc29 pm29 an29 cd29 ct29 | 30 => PySem.W.fnOf "_law_less" "_law_less" (defArgs (topS 30)) (defBody (topS 30)) (defScope (topS 30)) .none kV30 dc30 pm30 an30 cd30 ct30 | 31 => PySem.W.fnOf "_law_sub" "_law_sub" (defArgs (topS 31)) (defBody (topS 31)) (defScope (topS 31)) .none kV31 dc31 pm31 an31 cd31 ct31 | 32 => PySem.W.fnOf "_law_normal" "_law_normal" (defArgs (topS 32)) (defBody (topS 32)) (defScope (topS 32)) .none kV32 dc32 pm32 an32 cd32 ct32 | 33 => PySem.W.fnOf "_law_much" "_law_much" (defArgs (topS 33)) (defBody (topS 33)) (defScope (topS 33)) .none kV33 dc33 pm33 an33 cd33 ct33 | 34 => PySem.W.fnOf "_law_form_at" "_law_form_at" (defArgs (topS 34)) (defBody (topS 34)) (defScope (topS 34)) .none kV34 dc34 pm34 an34 cd34 ct34 | 35 => PySem.W.fnOf "_law_forms_left" "_law_forms_left" (defArgs (topS 35)) (defBody (topS 35)) (defScope (topS 35)) .none kV35 dc35 pm35 an35 cd35 ct35 | 36 => PySem.W.fnOf "_law_form" "_law_form" (defArgs (topS 36)) (defBody (topS 36)) (defScope (topS 36)) .none kV36 dc36 pm36 an36 cd36 ct36 | 37 => PySem.W.fnOf "_law_form_undone" "_law_form_undone" (defArgs (topS 37)) (defBody (topS 37)) (defScope (topS 37)) .none kV37 dc37 pm37 an37 cd37 ct37 | 38 => PySem.W.fnOf "_law_made" "_law_made" (defArgs (topS 38)) (defBody (topS 38)) (defScope (topS 38)) .none kV38 dc38 pm38 an38 cd38 ct38 | 39 => PySem.W.fnOf "_law_right" "_law_right" (defArgs (topS 39)) (defBody (topS 39)) (defScope (topS 39)) .none kV39 dc39 pm39 an39 cd39 ct39 | 40 => PySem.W.fnOf "_law_by_hand_right" "_law_by_hand_right" (defArgs (topS 40)) (defBody (topS 40)) (defScope (topS 40)) .none kV40 dc40 pm40 an40 cd40 ct40 | 41 => PySem.W.fnOf "law" "law" (defArgs (topS 41)) (defBody (topS 41)) (defScope (topS 41)) .none kV41 dc41 pm41 an41 cd41 ct41 | _ => PySem.W.fnOf "law" "law" (defArgs (topS 41)) (defBody (topS 41)) (defScope (topS 41)) .none kV41 dc41 pm41 an41 cd41 ct41
  have F5 : Fun K "fraction" "fraction" (topS 5) (fa 5) (fd 5) := fun_mk (st := topS 5) l5 c5 k5
  have F6 : Fun K "whole" "whole" (topS 6) (fa 6) (fd 6) := fun_mk (st := topS 6) l6 c6 k6
  have F7 : Fun K "plus" "plus" (topS 7) (fa 7) (fd 7) := fun_mk (st := topS 7) l7 c7 k7
  have F8 : Fun K "minus" "minus" (topS 8) (fa 8) (fd 8) := fun_mk (st := topS 8) l8 c8 k8
  have F9 : Fun K "times" "times" (topS 9) (fa 9) (fd 9) := fun_mk (st := topS 9) l9 c9 k9
  have F10 : Fun K "over" "over" (topS 10) (fa 10) (fd 10) := fun_mk (st := topS 10) l10 c10 k10
  have F12 : Fun K "_go_together" "_go_together" (topS 12) (fa 12) (fd 12) := fun_mk (st := topS 12) l12 c12 k12
  have F13 : Fun K "_place_to_join" "_place_to_join" (topS 13) (fa 13) (fd 13) := fun_mk (st := topS 13) l13 c13 k13
  have F14 : Fun K "_shortest" "_shortest" (topS 14) (fa 14) (fd 14) := fun_mk (st := topS 14) l14 c14 k14
  have F15 : Fun K "normal_row" "normal_row" (topS 15) (fa 15) (fd 15) := fun_mk (st := topS 15) l15 c15 k15
  have F17 : Fun K "_form_rest" "_form_rest" (topS 17) (fa 17) (fd 17) := fun_mk (st := topS 17) l17 c17 k17
  have F18 : Fun K "_row_at" "_row_at" (topS 18) (fa 18) (fd 18) := fun_mk (st := topS 18) l18 c18 k18
  have F19 : Fun K "same_at" "same_at" (topS 19) (fa 19) (fd 19) := fun_mk (st := topS 19) l19 c19 k19
  have F21 : Fun K "_law_box" "_law_box" (topS 21) (fa 21) (fd 21) := fun_mk (st := topS 21) l21 c21 k21
  have F22 : Fun K "_law_take" "_law_take" (topS 22) (fa 22) (fd 22) := fun_mk (st := topS 22) l22 c22 k22
  have F23 : Fun K "_law_cells" "_law_cells" (topS 23) (fa 23) (fd 23) := fun_mk (st := topS 23) l23 c23 k23
  have F24 : Fun K "_law_of" "_law_of" (topS 24) (fa 24) (fd 24) := fun_mk (st := topS 24) l24 c24 k24
  have F25 : Fun K "_law_lists" "_law_lists" (topS 25) (fa 25) (fd 25) := fun_mk (st := topS 25) l25 c25 k25
  have F26 : Fun K "_law_same" "_law_same" (topS 26) (fa 26) (fd 26) := fun_mk (st := topS 26) l26 c26 k26
  have F27 : Fun K "_law_low" "_law_low" (topS 27) (fa 27) (fd 27) := fun_mk (st := topS 27) l27 c27 k27
  have F28 : Fun K "_law_add" "_law_add" (topS 28) (fa 28) (fd 28) := fun_mk (st := topS 28) l28 c28 k28
  have F29 : Fun K "_law_mul" "_law_mul" (topS 29) (fa 29) (fd 29) := fun_mk (st := topS 29) l29 c29 k29
  have F30 : Fun K "_law_less" "_law_less" (topS 30) (fa 30) (fd 30) := fun_mk (st := topS 30) l30 c30 k30
  have F31 : Fun K "_law_sub" "_law_sub" (topS 31) (fa 31) (fd 31) := fun_mk (st := topS 31) l31 c31 k31
  have F32 : Fun K "_law_normal" "_law_normal" (topS 32) (fa 32) (fd 32) := fun_mk (st := topS 32) l32 c32 k32
  have F33 : Fun K "_law_much" "_law_much" (topS 33) (fa 33) (fd 33) := fun_mk (st := topS 33) l33 c33 k33
  have F34 : Fun K "_law_form_at" "_law_form_at" (topS 34) (fa 34) (fd 34) := fun_mk (st := topS 34) l34 c34 k34
  have F35 : Fun K "_law_forms_left" "_law_forms_left" (topS 35) (fa 35) (fd 35) := fun_mk (st := topS 35) l35 c35 k35
  have F36 : Fun K "_law_form" "_law_form" (topS 36) (fa 36) (fd 36) := fun_mk (st := topS 36) l36 c36 k36
  have F37 : Fun K "_law_form_undone" "_law_form_undone" (topS 37) (fa 37) (fd 37) := fun_mk (st := topS 37) l37 c37 k37
  have F38 : Fun K "_law_made" "_law_made" (topS 38) (fa 38) (fd 38) := fun_mk (st := topS 38) l38 c38 k38
  have F39 : Fun K "_law_right" "_law_right" (topS 39) (fa 39) (fd 39) := fun_mk (st := topS 39) l39 c39 k39
  have F40 : Fun K "_law_by_hand_right" "_law_by_hand_right" (topS 40) (fa 40) (fd 40) := fun_mk (st := topS 40) l40 c40 k40
  have F41 : Fun K "law" "law" (topS 41) (fa 41) (fd 41) := fun_mk (st := topS 41) l41 c41 k41
  have T : Top K mg fa fd := ⟨F5,
    PySem.W.mg_of X G a5,
    (F5.binds (ps := ["top", "bottom"]) fun _ _ _ _ _ _ us hl => match us, hl with | [_, _], _ => rfl),
    F6,
    PySem.W.mg_of X G a6,
    (F6.binds (ps := ["number"]) fun _ _ _ _ _ _ us hl => match us, hl with | [_], _ => rfl),
    F7,
    PySem.W.mg_of X G a7,
    (F7.binds (ps := ["x", "y"]) fun _ _ _ _ _ _ us hl => match us, hl with | [_, _], _ => rfl),
    F8,
    PySem.W.mg_of X G a8,
    (F8.binds (ps := ["x", "y"]) fun _ _ _ _ _ _ us hl => match us, hl with | [_, _], _ => rfl),
    F9,
    PySem.W.mg_of X G a9,
    (F9.binds (ps := ["x", "y"]) fun _ _ _ _ _ _ us hl => match us, hl with | [_, _], _ => rfl),
    F10,
    PySem.W.mg_of X G a10,
    (F10.binds (ps := ["x", "y"]) fun _ _ _ _ _ _ us hl => match us, hl with | [_, _], _ => rfl),
    F12,
    PySem.W.mg_of X G a12,
    (F12.binds (ps := ["part", "other", "meets"]) fun _ _ _ _ _ _ us hl => match us, hl with | [_, _, _], _ => rfl),
    F13,
    PySem.W.mg_of X G a13,
    (F13.binds (ps := ["row", "part", "meets"]) fun _ _ _ _ _ _ us hl => match us, hl with | [_, _, _], _ => rfl),
    F14,
    PySem.W.mg_of X G a14,
    (F14.binds (ps := ["row", "meets"]) fun _ _ _ _ _ _ us hl => match us, hl with | [_, _], _ => rfl),
    F15,
    PySem.W.mg_of X G a15,
    (F15.binds (ps := ["row"]) fun _ _ _ _ _ _ us hl => match us, hl with | [_], _ => rfl),
    F17,
    PySem.W.mg_of X G a17,
    (F17.binds (ps := ["row", "other"]) fun _ _ _ _ _ _ us hl => match us, hl with | [_, _], _ => rfl),
    F18,
    PySem.W.mg_of X G a18,
    (F18.binds (ps := ["row", "n"]) fun _ _ _ _ _ _ us hl => match us, hl with | [_, _], _ => rfl),
    F19,
    PySem.W.mg_of X G a19,
    (F19.binds (ps := ["row", "other"]) fun _ _ _ _ _ _ us hl => match us, hl with | [_, _], _ => rfl),
    F21,
    PySem.W.mg_of X G a21,
    (F21.binds (ps := ["_law_script", "_law_k"]) fun _ _ _ _ _ _ us hl => match us, hl with | [_, _], _ => rfl),
    F22,
    PySem.W.mg_of X G a22,
    (F22.binds (ps := ["_law_urn", "_law_low_so"]) fun _ _ _ _ _ _ us hl => match us, hl with | [_, _], _ => rfl),
    F23,
    PySem.W.mg_of X G a23,
    (F23.binds (ps := ["_law_script", "_law_roof_so"]) fun _ _ _ _ _ _ us hl => match us, hl with | [_, _], _ => rfl),
    F24,
    PySem.W.mg_of X G a24,
    (F24.binds (ps := ["_law_urn", "_law_some_so"]) fun _ _ _ _ _ _ us hl => match us, hl with | [_, _], _ => rfl),
    F25,
    PySem.W.mg_of X G a25,
    (F25.binds (ps := ["_law_matter"]) fun _ _ _ _ _ _ us hl => match us, hl with | [_], _ => rfl),
    F26,
    PySem.W.mg_of X G a26,
    (F26.binds (ps := ["_law_mine", "_law_due"]) fun _ _ _ _ _ _ us hl => match us, hl with | [_, _], _ => rfl),
    F27,
    PySem.W.mg_of X G a27,
    (F27.binds (ps := ["_law_top_so", "_law_down_so"]) fun _ _ _ _ _ _ us hl => match us, hl with | [_, _], _ => rfl),
    F28,
    PySem.W.mg_of X G a28,
    (F28.binds (ps := ["_law_own", "_law_far"]) fun _ _ _ _ _ _ us hl => match us, hl with | [_, _], _ => rfl),
    F29,
    PySem.W.mg_of X G a29,
    (F29.binds (ps := ["_law_own", "_law_far"]) fun _ _ _ _ _ _ us hl => match us, hl with | [_, _], _ => rfl),
    F30,
    PySem.W.mg_of X G a30,
    (F30.binds (ps := ["_law_one", "_law_two"]) fun _ _ _ _ _ _ us hl => match us, hl with | [_, _], _ => rfl),
    F31,
    PySem.W.mg_of X G a31,
    (F31.binds (ps := ["_law_one", "_law_two"]) fun _ _ _ _ _ _ us hl => match us, hl with | [_, _], _ => rfl),
    F32,
    PySem.W.mg_of X G a32,
    (F32.binds (ps := ["_law_row_so"]) fun _ _ _ _ _ _ us hl => match us, hl with | [_], _ => rfl),
    F33,
    PySem.W.mg_of X G a33,
    (F33.binds (ps := ["_law_urn"]) fun _ _ _ _ _ _ us hl => match us, hl with | [_], _ => rfl),
    F34,
    PySem.W.mg_of X G a34,
    (F34.binds (ps := ["_law_row_so", "_law_n"]) fun _ _ _ _ _ _ us hl => match us, hl with | [_, _], _ => rfl),
    F35,
    PySem.W.mg_of X G a35,
    (F35.binds (ps := ["_law_row_so", "_law_other_so"]) fun _ _ _ _ _ _ us hl => match us, hl with | [_, _], _ => rfl),
    F36,
    PySem.W.mg_of X G a36,
    (F36.binds (ps := ["_law_urn"]) fun _ _ _ _ _ _ us hl => match us, hl with | [_], _ => rfl),
    F37,
    PySem.W.mg_of X G a37,
    (F37.binds (ps := ["_law_row_so"]) fun _ _ _ _ _ _ us hl => match us, hl with | [_], _ => rfl),
    F38,
    PySem.W.mg_of X G a38,
    (F38.binds (ps := ["_law_urn", "_law_many"]) fun _ _ _ _ _ _ us hl => match us, hl with | [_, _], _ => rfl),
    F39,
    PySem.W.mg_of X G a39,
    (F39.binds (ps := ["_law_urn"]) fun _ _ _ _ _ _ us hl => match us, hl with | [_], _ => rfl),
    F40,
    PySem.W.mg_of X G a40,
    (F40.binds (ps := []) fun _ _ _ _ _ _ us hl => match us, hl with | [], _ => rfl),
    F41,
    PySem.W.mg_of X G a41,
    (F41.binds (ps := ["_law_script"]) fun _ _ _ _ _ _ us hl => match us, hl with | [_], _ => rfl),
    (F19.kbinds (n1 := 0) (n2 := 2) (is := [1, 0]) (by decide) fun _ _ _ _ _ _ us ws h1 h2 => match us, h1, ws, h2 with | [], _, [_, _], _ => rfl),
    ⟨_, _, _, _, PySem.W.mg_of X G m_ZERO, k_ZERO, rfl, rfl, (by show 2 ≤ PySem.sizeLine; decide), (.cons ⟨_, rfl⟩ (.cons ⟨_, rfl⟩ .nil))⟩,
    PySem.W.mg_of X G f_gcd,
    PySem.W.mg_of X G f_lcm,
    PySem.W.mg_none_of X G z_abs,
    PySem.W.mg_none_of X G z_all,
    PySem.W.mg_none_of X G z_bool,
    PySem.W.mg_none_of X G z_enumerate,
    PySem.W.mg_none_of X G z_int,
    PySem.W.mg_none_of X G z_isinstance,
    PySem.W.mg_none_of X G z_len,
    PySem.W.mg_none_of X G z_list,
    PySem.W.mg_none_of X G z_max,
    PySem.W.mg_none_of X G z_min,
    PySem.W.mg_none_of X G z_range,
    PySem.W.mg_none_of X G z_reversed,
    PySem.W.mg_none_of X G z_set,
    PySem.W.mg_none_of X G z_sorted,
    PySem.W.mg_none_of X G z_str,
    PySem.W.mg_none_of X G z_tuple,
    PySem.W.mg_none_of X G z_zip⟩
  exact ⟨fd 41, fun s v => .of_eq rfl, fun base _ _ => (all_ok T 60).c41⟩
end K46

namespace K46
open PySem Vi PyProof.Rows
/-! fractions -/
abbrev ii (i : Int) : Option Sv := some (.imm (.int i))
def fr (q : Rat) : D := .tuple [.int q.num, .int (q.den : Int)]
structure IsFr (d : D) (q : Rat) : Prop where
  top : dIx d (.int 0) = some (.imm (.int q.num))
  bot : dIx d (.int 1) = some (.imm (.int (q.den : Int)))
theorem isFr (q : Rat) : IsFr (fr q) q := ⟨rfl, rfl⟩
theorem isFrL (q : Rat) : IsFr (.list [.int q.num, .int (q.den : Int)]) q := ⟨rfl, rfl⟩
theorem div_ok {j : Int} (h : 0 < j) (h2 : j < 2 ^ 250) : divOk j = true := decide_eq_true ⟨h, by
  have : j.natAbs.log2 < 250 := (Nat.log2_lt (by omega)).mpr (by omega)
  omega⟩
theorem mul_ok {i j : Int} (h1 : i.natAbs < 2 ^ 250) (h2 : j.natAbs < 2 ^ 250) : mulOk i j = true := by
  unfold mulOk
  rw [Bool.or_eq_true]
  refine .inr (decide_eq_true ?_)
  have a : i.natAbs.log2 < 250 := by
    by_cases h : i.natAbs = 0
    · rw [h]; decide
    · exact (Nat.log2_lt h).mpr h1
  have b : j.natAbs.log2 < 250 := by
    by_cases h : j.natAbs = 0
    · rw [h]; decide
    · exact (Nat.log2_lt h).mpr h2
  omega
theorem okD_int (i : Int) : okD (.int i) = true := rfl
theorem eqv_int (i j : Int) : PyData.eqv (.int i) (.int j) = (i == j) := by rw [PyData.eqv]
theorem eq_int (i j : Int) : dEq (.int i) (.int j) = some (.imm (.bool (i == j))) := by
  unfold dEq
  rw [okD_int, okD_int, eqv_int]; rfl
/-- the lowest terms -/
theorem low_rat (a : Int) (b : Nat) (hb : 0 < b) : (mkRat a b).num = a / ((Nat.gcd a.natAbs b : Nat) : Int) ∧ ((mkRat a b).den : Int) = (b : Int) / ((Nat.gcd a.natAbs b : Nat) : Int) := by
  rw [Rat.mkRat_def, dif_neg (by omega), Rat.normalize_eq]
  refine ⟨rfl, ?_⟩
  show ((b / Nat.gcd a.natAbs b : Nat) : Int) = _
  rw [Int.natCast_ediv]
theorem fraction_ok {cl : Nat → Fn} (a : Int) (b : Nat) (hb : 0 < b) (h2 : b < 2 ^ 200) : fn5 cl [.imm (.int a), .imm (.int (b : Int))] = some (.imm (fr (mkRat a b)), [none, none]) := by
  have hg : 0 < Nat.gcd a.natAbs b := Nat.gcd_pos_of_pos_right _ hb
  have hg2 : Nat.gcd a.natAbs b ≤ b := Nat.le_of_dvd hb (Nat.gcd_dvd_right _ _)
  obtain ⟨e1, e2⟩ := low_rat a b hb
  have hd : divOk ((Nat.gcd a.natAbs b : Nat) : Int) = true := div_ok (by omega) (by
    have : (2 : Int) ^ 200 < 2 ^ 250 := by decide
    have h3 : ((Nat.gcd a.natAbs b : Nat) : Int) < 2 ^ 200 := by exact_mod_cast Nat.lt_of_le_of_lt hg2 h2
    omega)
  have hab : Nat.gcd a.natAbs (b : Int).natAbs = Nat.gcd a.natAbs b := rfl
  have t1 : (mB (bin dEq (mVar 1) (mC (.int 0)))) [ii a, ii b, none] = some (false, [ii a, ii b, none]) := by
    have : ((b : Int) == 0) = false := by rw [beq_eq_false_iff_ne]; omega
    unfold mB
    rw [c_bin rfl rfl rfl rfl (eq_int (b : Int) 0), this]
  have t2 : (mB (bin dLt (mVar 1) (mC (.int 0)))) [ii a, ii b, ii ((Nat.gcd a.natAbs b : Nat) : Int)] = some (false, [ii a, ii b, ii ((Nat.gcd a.natAbs b : Nat) : Int)]) := by
    have : decide ((b : Int) < 0) = false := decide_eq_false (by omega)
    unfold mB
    rw [c_bin rfl rfl rfl rfl (show dLt (.int (b : Int)) (.int 0) = some (.imm (.bool (decide ((b : Int) < 0)))) from rfl), this]
  have d1 : dDivN (.int a) (.int ((Nat.gcd a.natAbs b : Nat) : Int)) = some (.imm (.int (mkRat a b).num)) := by
    show (if divOk _ = true then _ else _) = _
    rw [if_pos hd, e1]
  have d2 : dDivN (.int (b : Int)) (.int ((Nat.gcd a.natAbs b : Nat) : Int)) = some (.imm (.int ((mkRat a b).den : Int))) := by
    show (if divOk _ = true then _ else _) = _
    rw [if_pos hd, e2]
  unfold fn5
  refine c_fn (ρ0 := [ii a, ii b, none]) rfl rfl (c_seq (c_ifF t1 rfl) (c_seq (ρ1 := [ii a, ii b, ii ((Nat.gcd a.natAbs b : Nat) : Int)]) (c_set rfl rfl) (c_seq (c_ifF t2 rfl) (c_ret (r := .imm (fr (mkRat a b))) (c_tup (c_acons (c_bin rfl rfl rfl rfl d1) rfl (c_acons (c_bin rfl rfl rfl rfl d2) rfl c_anil)) rfl) rfl)))) rfl
/-- small ones -/
structure Sm (q : Rat) : Prop where
  num : q.num.natAbs < 2 ^ 90
  den : q.den < 2 ^ 90
theorem Sm.mul {q r : Rat} (h : Sm q) (k : Sm r) : q.den * r.den < 2 ^ 200 := by
  have : q.den * r.den ≤ 2 ^ 90 * 2 ^ 90 := Nat.mul_le_mul (Nat.le_of_lt h.den) (Nat.le_of_lt k.den)
  have h2 : (2 : Nat) ^ 90 * 2 ^ 90 < 2 ^ 200 := by decide
  omega
theorem lt250 {n : Nat} (h : n < 2 ^ 90) : n < 2 ^ 250 := Nat.lt_trans h (by decide)
theorem Frac_pos (q : Rat) : 0 < q.den := Nat.pos_of_ne_zero q.den_nz
def FracP (f : Fn) : Prop := ∀ (a : Int) (b : Nat), 0 < b → b < 2 ^ 200 → f [.imm (.int a), .imm (.int (b : Int))] = some (.imm (fr (mkRat a b)), [none, none])
theorem add_same {q r : Rat} (h : q.den = r.den) : mkRat (q.num + r.num) q.den = q + r := by
  have e1 := Rat.mkRat_add_mkRat q.num r.num q.den_nz r.den_nz
  rw [Rat.mkRat_self, Rat.mkRat_self] at e1
  rw [e1, ← h, ← Int.add_mul, Rat.mkRat_mul_right q.den_nz]
theorem add_cross (q r : Rat) : mkRat (q.num * (r.den : Int) + r.num * (q.den : Int)) (q.den * r.den) = q + r := by
  have e1 := Rat.mkRat_add_mkRat q.num r.num q.den_nz r.den_nz
  rw [Rat.mkRat_self, Rat.mkRat_self] at e1
  exact e1.symm
theorem mul_cross (q r : Rat) : mkRat (q.num * r.num) (q.den * r.den) = q * r := by
  have e1 := Rat.mkRat_mul_mkRat q.num r.num q.den r.den
  rw [Rat.mkRat_self, Rat.mkRat_self] at e1
  exact e1.symm
theorem mul_int {i j : Int} (h1 : i.natAbs < 2 ^ 90) (h2 : j.natAbs < 2 ^ 90) : dMul (.int i) (.int j) = some (.imm (.int (i * j))) := by
  show (if mulOk i j = true then _ else _) = _
  rw [if_pos (mul_ok (lt250 h1) (lt250 h2))]
theorem plus_ok {cl : Nat → Fn} (F : FracP (cl 5)) {d e : D} {q r : Rat} (hd : IsFr d q) (he : IsFr e r) (hq : Sm q) (hr : Sm r) : fn7 cl [.imm d, .imm e] = some (.imm (fr (q + r)), [none, none]) := by
  have x0 : ∀ ρ, ρ = [some (.imm d), some (.imm e)] → bin dIx (mVar 0) (mC (.int 0)) ρ = some (.val (.imm (.int q.num)), ρ) := fun ρ h => by subst h; exact c_bin rfl rfl rfl rfl hd.top
  have x1 : ∀ ρ, ρ = [some (.imm d), some (.imm e)] → bin dIx (mVar 0) (mC (.int 1)) ρ = some (.val (.imm (.int (q.den : Int))), ρ) := fun ρ h => by subst h; exact c_bin rfl rfl rfl rfl hd.bot
  have y0 : ∀ ρ, ρ = [some (.imm d), some (.imm e)] → bin dIx (mVar 1) (mC (.int 0)) ρ = some (.val (.imm (.int r.num)), ρ) := fun ρ h => by subst h; exact c_bin rfl rfl rfl rfl he.top
  have y1 : ∀ ρ, ρ = [some (.imm d), some (.imm e)] → bin dIx (mVar 1) (mC (.int 1)) ρ = some (.val (.imm (.int (r.den : Int))), ρ) := fun ρ h => by subst h; exact c_bin rfl rfl rfl rfl he.bot
  have t : (mB (bin dEq (bin dIx (mVar 0) (mC (.int 1))) (bin dIx (mVar 1) (mC (.int 1))))) [some (.imm d), some (.imm e)] = some ((q.den : Int) == (r.den : Int), [some (.imm d), some (.imm e)]) := c_b (c_bin (x1 _ rfl) (y1 _ rfl) rfl rfl (eq_int _ _))
  unfold fn7
  refine c_fn (ρ0 := [some (.imm d), some (.imm e)]) (ρ := [some (.imm d), some (.imm e)]) rfl rfl ?_ rfl
  by_cases h : q.den = r.den
  · rw [show ((q.den : Int) == (r.den : Int)) = true by rw [h]; exact beq_self_eq_true _] at t
    have f := F (q.num + r.num) q.den (Frac_pos q) (Nat.lt_trans hq.den (by decide))
    rw [add_same h] at f
    have c : mRet (mCall (cl 5) (rVal (bin dAdd (bin dIx (mVar 0) (mC (.int 0))) (bin dIx (mVar 1) (mC (.int 0)))) (rVal (bin dIx (mVar 0) (mC (.int 1))) rNil))) [some (.imm d), some (.imm e)] = some (.ret (.imm (fr (q + r))), [some (.imm d), some (.imm e)]) :=
      c_ret (c_call (c_rval (c_bin (x0 _ rfl) (y0 _ rfl) rfl rfl rfl) rfl (c_rval (x1 _ rfl) rfl rfl)) rfl rfl f rfl) rfl
    unfold mSeq
    rw [c_ifT t c]
  · have hb : ((q.den : Int) == (r.den : Int)) = false := by rw [beq_eq_false_iff_ne]; omega
    rw [hb] at t
    have f := F (q.num * (r.den : Int) + r.num * (q.den : Int)) (q.den * r.den) (Nat.mul_pos (Frac_pos q) (Frac_pos r)) (hq.mul hr)
    rw [add_cross, Int.natCast_mul] at f
    have m1 := mul_int (i := q.num) (j := (r.den : Int)) hq.num (by exact hr.den)
    have m2 := mul_int (i := r.num) (j := (q.den : Int)) hr.num (by exact hq.den)
    have m3 := mul_int (i := (q.den : Int)) (j := (r.den : Int)) (by exact hq.den) (by exact hr.den)
    exact c_seq (c_ifF t rfl) (c_ret (c_call (c_rval (c_bin (c_bin (x0 _ rfl) (y1 _ rfl) rfl rfl m1) (c_bin (y0 _ rfl) (x1 _ rfl) rfl rfl m2) rfl rfl rfl) rfl (c_rval (c_bin (x1 _ rfl) (y1 _ rfl) rfl rfl m3) rfl rfl)) rfl rfl f rfl) rfl)

theorem minus_ok {cl : Nat → Fn} {d e : D} {q r : Rat} (he : IsFr e r) (P : cl 7 [.imm d, .imm (fr (-r))] = some (.imm (fr (q + -r)), [none, none])) : fn8 cl [.imm d, .imm e] = some (.imm (fr (q + -r)), [none, none]) := by
  have hn : (-r).num = -r.num := rfl
  have hdn : (-r).den = r.den := rfl
  unfold fn8
  have a : mTup (mCons (un dNeg (bin dIx (mVar 1) (mC (.int 0)))) (mCons (bin dIx (mVar 1) (mC (.int 1))) mNil)) [some (.imm d), some (.imm e)] = some (.val (.imm (fr (-r))), [some (.imm d), some (.imm e)]) :=
    c_tup (c_acons (c_un (c_bin rfl rfl rfl rfl he.top) rfl rfl) rfl (c_acons (c_bin rfl rfl rfl rfl he.bot) rfl c_anil)) rfl
  exact c_fn (ρ0 := [some (.imm d), some (.imm e)]) rfl rfl (c_ret (c_call (c_rval rfl rfl (c_rval a rfl rfl)) rfl rfl P rfl) rfl) rfl
/-! the law's own -/
def eB : MS := mPar 2 3 (mVar 3) (bin dMod (un dInt (mVar 2)) (mVar 3))
def eT : MT := mB (bin dGt (mVar 3) (mC (.int 0)))
theorem e_stop {x0 x1 x2 : Option Sv} : eT [x0, x1, x2, ii ((0 : Nat) : Int)] = some (false, [x0, x1, x2, ii ((0 : Nat) : Int)]) := rfl
theorem e_go {x0 x1 x2 : Option Sv} {f : Nat} (h : 0 < f) : eT [x0, x1, x2, ii (f : Int)] = some (true, [x0, x1, x2, ii (f : Int)]) := by
  have : decide ((0 : Int) < (f : Int)) = true := decide_eq_true (by omega)
  unfold eT
  rw [c_b (c_bin rfl rfl rfl rfl (show dGt (.int (f : Int)) (.int 0) = some (.imm (.bool (decide ((0 : Int) < (f : Int))))) from rfl)), this]
theorem e_step {x0 x1 : Option Sv} {n f : Nat} (h : 0 < f) : eB [x0, x1, ii (n : Int), ii (f : Int)] = some (.next, [x0, x1, ii (f : Int), ii ((n % f : Nat) : Int)]) := by
  have hm : dMod (.int (n : Int)) (.int (f : Int)) = some (.imm (.int ((n % f : Nat) : Int))) := by
    show (if decide ((0 : Int) < (f : Int)) = true then some (Sv.imm (.int ((n : Int) % (f : Int)))) else none) = _
    rw [if_pos (decide_eq_true (by omega)), Int.natCast_emod]
  have hi : dInt (.int (n : Int)) = some (.imm (.int (n : Int))) := rfl
  have h1 : un dInt (mVar 2) [x0, x1, ii (n : Int), ii (f : Int)] = some (.val (.imm (.int (n : Int))), [x0, x1, ii (n : Int), ii (f : Int)]) := c_un rfl rfl hi
  have h2 : bin dMod (un dInt (mVar 2)) (mVar 3) [x0, x1, ii (n : Int), ii (f : Int)] = some (.val (.imm (.int ((n % f : Nat) : Int))), [x0, x1, ii (n : Int), ii (f : Int)]) := c_bin h1 rfl rfl rfl hm
  unfold eB mPar
  rw [show mVar 3 [x0, x1, ii (n : Int), ii (f : Int)] = some (.slot 3, [x0, x1, ii (n : Int), ii (f : Int)]) from rfl]
  simp only [show take [x0, x1, ii (n : Int), ii (f : Int)] (.slot 3) = some (.imm (.int (f : Int)), [x0, x1, ii (n : Int), ii (f : Int)]) from rfl, h2, show take [x0, x1, ii (n : Int), ii (f : Int)] (.val (.imm (.int ((n % f : Nat) : Int)))) = some (.imm (.int ((n % f : Nat) : Int)), [x0, x1, ii (n : Int), ii (f : Int)]) from rfl]
  rfl
theorem euclid {x0 x1 : Option Sv} : ∀ (k n f m : Nat), f < 2 ^ k → whl eT eB (2 * k + 1 + m) [x0, x1, ii (n : Int), ii (f : Int)] = some (.next, [x0, x1, ii ((Nat.gcd n f : Nat) : Int), ii ((0 : Nat) : Int)]) := by
  intro k
  induction k with
  | zero =>
    intro n f m h
    obtain rfl : f = 0 := by simpa using h
    rw [show 2 * 0 + 1 + m = m + 1 by omega, Nat.gcd_zero_right]
    exact c_whF e_stop
  | succ k ih =>
    intro n f m h
    rw [show 2 * (k + 1) + 1 + m = (2 * k + 1 + (m + 1)) + 1 by omega]
    by_cases h0 : f = 0
    · subst h0
      rw [Nat.gcd_zero_right]
      exact c_whF e_stop
    · have hf : 0 < f := Nat.pos_of_ne_zero h0
      refine c_whT (e_go hf) (e_step hf) ?_
      rw [show 2 * k + 1 + (m + 1) = (2 * k + 1 + m) + 1 by omega]
      have hg : Nat.gcd n f = Nat.gcd f (n % f) := by rw [Nat.gcd_comm n f, Nat.gcd_rec f n, Nat.gcd_comm]
      have hr : n % f < f := Nat.mod_lt _ hf
      by_cases h1 : n % f = 0
      · rw [hg, h1, Nat.gcd_zero_right]
        exact c_whF e_stop
      · have hp : 0 < n % f := Nat.pos_of_ne_zero h1
        refine c_whT (e_go hp) (e_step hp) ?_
        have h2 : f % (n % f) < n % f := Nat.mod_lt _ hp
        have h3 : f % (n % f) ≤ f - n % f := by
          rw [Nat.mod_eq_sub_mod (Nat.le_of_lt hr)]
          exact Nat.mod_le _ _
        have h4 : f % (n % f) < 2 ^ k := by
          rw [Nat.pow_succ] at h
          omega
        rw [hg, Nat.gcd_comm f (n % f), Nat.gcd_rec (n % f) f, Nat.gcd_comm]
        exact ih (n % f) (f % (n % f)) m h4
theorem abs_int (a : Int) : dAbs (.int a) = some (.imm (.int (a.natAbs : Int))) := by
  show some (Sv.imm (.int (if a < 0 then -a else a))) = _
  congr 3
  split <;> omega
theorem gcd_div (a : Int) (b : Nat) (hb : 0 < b) (h2 : b < 2 ^ 200) : dDivN (.int a) (.int ((Nat.gcd a.natAbs b : Nat) : Int)) = some (.imm (.int (mkRat a b).num)) ∧ dDivN (.int (b : Int)) (.int ((Nat.gcd a.natAbs b : Nat) : Int)) = some (.imm (.int ((mkRat a b).den : Int))) := by
  have hg : 0 < Nat.gcd a.natAbs b := Nat.gcd_pos_of_pos_right _ hb
  have hg2 : Nat.gcd a.natAbs b ≤ b := Nat.le_of_dvd hb (Nat.gcd_dvd_right _ _)
  obtain ⟨e1, e2⟩ := low_rat a b hb
  have hd : divOk ((Nat.gcd a.natAbs b : Nat) : Int) = true := div_ok (by omega) (by
    have : (2 : Int) ^ 200 < 2 ^ 250 := by decide
    have h3 : ((Nat.gcd a.natAbs b : Nat) : Int) < 2 ^ 200 := by exact_mod_cast Nat.lt_of_le_of_lt hg2 h2
    omega)
  refine ⟨?_, ?_⟩
  · show (if divOk _ = true then _ else _) = _
    rw [if_pos hd, e1]
  · show (if divOk _ = true then _ else _) = _
    rw [if_pos hd, e2]
theorem low_ok {cl : Nat → Fn} (a : Int) (b : Nat) (hb : 0 < b) (h2 : b < 2 ^ 190) : fn27 cl [.imm (.int a), .imm (.int (b : Int))] = some (.imm (fr (mkRat a b)), [none, none]) := by
  obtain ⟨d1, d2⟩ := gcd_div a b hb (Nat.lt_trans h2 (by decide))
  have e := euclid (x0 := ii a) (x1 := ii b) 190 a.natAbs b 19 h2
  have p1 : un dAbs (mVar 0) [ii a, ii b, none, none] = some (.val (.imm (.int (a.natAbs : Int))), [ii a, ii b, none, none]) := c_un rfl rfl (abs_int a)
  have p2 : un dAbs (mVar 1) [ii a, ii b, none, none] = some (.val (.imm (.int (b : Int))), [ii a, ii b, none, none]) := c_un rfl rfl (abs_int (b : Int))
  have p : mPar 2 3 (un dAbs (mVar 0)) (un dAbs (mVar 1)) [ii a, ii b, none, none] = some (.next, [ii a, ii b, ii (a.natAbs : Int), ii (b : Int)]) := c_par p1 rfl p2 rfl rfl
  have t : (mB (bin dLt (mVar 1) (mC (.int 0)))) [ii a, ii b, ii ((Nat.gcd a.natAbs b : Nat) : Int), ii ((0 : Nat) : Int)] = some (false, [ii a, ii b, ii ((Nat.gcd a.natAbs b : Nat) : Int), ii ((0 : Nat) : Int)]) := by
    have : decide ((b : Int) < 0) = false := decide_eq_false (by omega)
    rw [c_b (c_bin rfl rfl rfl rfl (show dLt (.int (b : Int)) (.int 0) = some (.imm (.bool (decide ((b : Int) < 0)))) from rfl)), this]
  unfold fn27
  exact c_fn (ρ0 := [ii a, ii b, none, none]) rfl rfl (c_seq p (c_seq e (c_seq (c_ifF t rfl) (c_ret (r := .imm (fr (mkRat a b))) (c_tup (c_acons (c_bin rfl rfl rfl rfl d1) rfl (c_acons (c_bin rfl rfl rfl rfl d2) rfl c_anil)) rfl) rfl)))) rfl
/-- the law's sums and products -/
structure Sd (q : Rat) : Prop where
  num : q.num.natAbs < 2 ^ 90
  den : q.den < 2 ^ 40
theorem Sd.sm {q : Rat} (h : Sd q) : Sm q := ⟨h.num, Nat.lt_trans h.den (by decide)⟩
theorem Sd.mul {q r : Rat} (h : Sd q) (k : Sd r) : q.den * r.den < 2 ^ 190 := by
  have : q.den * r.den ≤ 2 ^ 40 * 2 ^ 40 := Nat.mul_le_mul (Nat.le_of_lt h.den) (Nat.le_of_lt k.den)
  have h2 : (2 : Nat) ^ 15 * 2 ^ 15 < 2 ^ 31 := by decide
  omega
def LowP (f : Fn) : Prop := ∀ (a : Int) (b : Nat), 0 < b → b < 2 ^ 190 → f [.imm (.int a), .imm (.int (b : Int))] = some (.imm (fr (mkRat a b)), [none, none])
theorem ladd_ok {cl : Nat → Fn} (F : LowP (cl 27)) {d e : D} {q r : Rat} (hd : IsFr d q) (he : IsFr e r) (hq : Sd q) (hr : Sd r) : fn28 cl [.imm d, .imm e] = some (.imm (fr (q + r)), [none, none]) := by
  have f := F (q.num * (r.den : Int) + r.num * (q.den : Int)) (q.den * r.den) (Nat.mul_pos (Frac_pos q) (Frac_pos r)) (hq.mul hr)
  rw [add_cross, Int.natCast_mul] at f
  have m1 := mul_int (i := q.num) (j := (r.den : Int)) hq.num hr.sm.den
  have m2 := mul_int (i := r.num) (j := (q.den : Int)) hr.num hq.sm.den
  have m3 := mul_int (i := (q.den : Int)) (j := (r.den : Int)) hq.sm.den hr.sm.den
  unfold fn28
  exact c_fn (ρ0 := [some (.imm d), some (.imm e)]) rfl rfl (c_ret (c_call (c_rval (c_bin (c_bin (c_bin rfl rfl rfl rfl hd.top) (c_bin rfl rfl rfl rfl he.bot) rfl rfl m1) (c_bin (c_bin rfl rfl rfl rfl he.top) (c_bin rfl rfl rfl rfl hd.bot) rfl rfl m2) rfl rfl rfl) rfl (c_rval (c_bin (c_bin rfl rfl rfl rfl hd.bot) (c_bin rfl rfl rfl rfl he.bot) rfl rfl m3) rfl rfl)) rfl rfl f rfl) rfl) rfl

theorem c_cons_ret {mg : MG} {m : MS} {d : D} {ds : List D} {ρ ρ1 ρ2 : Fm} {r : Sv} (h1 : mg d ρ = some ρ1) (h2 : m ρ1 = some (.ret r, ρ2)) : loop mg m (d :: ds) ρ = some (.ret r, ρ2) := by
  rw [loop, h1]
  simp only [h2]
theorem c_seqR {m n : MS} {ρ ρ1 : Fm} {r : Sv} (h : m ρ = some (.ret r, ρ1)) : mSeq m n ρ = some (.ret r, ρ1) := by unfold mSeq; rw [h]
/-! rows: pairs (part, k), k for k / 36 -/
abbrev Pr := Int × Int
abbrev Row := List Pr
def v36 (k : Int) : Rat := mkRat k 192752239680
def f36 (k : Int) : D := fr (v36 k)
def prD (p : Pr) : D := .tuple [.int p.1, f36 p.2]
def dsD (r : Row) : List D := r.map prD
def pushS : Row → Pr → Row
  | [], p => if p.2 = 0 then [] else [p]
  | l :: s, p => if l.1 = p.1 then (if l.2 + p.2 = 0 then s else (p.1, l.2 + p.2) :: s) else if p.2 = 0 then l :: s else p :: l :: s
def nfS (r : Row) : Row := r.foldl pushS []
def nf (r : Row) : Row := (nfS r).reverse
/-- what stands for a pair -/
def IsPr (d : D) (p : Pr) : Prop := ∃ e, (d = .tuple [.int p.1, e] ∨ d = .list [.int p.1, e]) ∧ IsFr e (v36 p.2)
theorem isPr (p : Pr) : IsPr (prD p) p := ⟨f36 p.2, .inl rfl, isFr _⟩
theorem v_add (k l : Int) : v36 k + v36 l = v36 (k + l) := by
  unfold v36
  rw [Rat.mkRat_add_mkRat k l (by decide) (by decide), ← Int.add_mul, Rat.mkRat_mul_right (by decide)]
theorem v_zero : v36 0 = 0 := by unfold v36; rw [Rat.zero_mkRat]
theorem v_num (k : Int) : (v36 k).num = 0 ↔ k = 0 := by
  rw [Rat.num_eq_zero]
  unfold v36
  exact Rat.mkRat_eq_zero (by decide)
theorem v_sd {k : Int} (h : k.natAbs < 2 ^ 80) : Sd (v36 k) := by
  have e := low_rat k 192752239680 (by decide)
  have hg : 0 < Nat.gcd k.natAbs 192752239680 := Nat.gcd_pos_of_pos_right _ (by decide)
  refine ⟨?_, ?_⟩
  · show (mkRat k 192752239680).num.natAbs < _
    rw [e.1]
    have h1 : (k / ((Nat.gcd k.natAbs 192752239680 : Nat) : Int)).natAbs ≤ k.natAbs := by
      rw [Int.natAbs_ediv_of_dvd]
      · exact Nat.div_le_self _ _
      · exact Int.natAbs_dvd_natAbs.mp (by simpa using Nat.gcd_dvd_left k.natAbs 192752239680)
    exact Nat.lt_of_le_of_lt h1 (Nat.lt_trans h (by decide))
  · have h2 : ((mkRat k 192752239680).den : Int) ≤ 192752239680 := by
      rw [e.2]
      exact Int.ediv_le_self _ (by decide)
    show (mkRat k 192752239680).den < _
    have : (192752239680 : Nat) < 2 ^ 40 := by decide
    omega
theorem hasD_nil (x : D) : hasD x [] = false := rfl
theorem ok_two (a b : Int) : okD (.tuple [.int a, .int b]) = true := by
  show (PyData.canLay0 (.tuple [.int a, .int b]) && decide (PyData.depth (.tuple [.int a, .int b]) ≤ 64)) = true
  simp [PyData.canLay0, PyData.canLayAll0, PyData.depth, PyData.depthAll]
theorem together_ok {cl : Nat → Fn} (a b : Int) : fn12 cl [.imm (.int a), .imm (.int b), .imm (.tuple [])] = some (.imm (.bool false), [none, none, none]) := by
  have hm : ∀ x y : Int, dInT false (.tuple [.int x, .int y]) (.tuple []) = some (.imm (.bool false)) := fun x y => by
    unfold dInT
    simp only [ok_two, show okD (.tuple []) = true from rfl, hasD_nil, Bool.and_self, if_true]
    rfl
  have t : mTup (mCons (mA dMin2 (mCons (mVar 0) (mCons (mVar 1) mNil))) (mCons (mA dMax2 (mCons (mVar 0) (mCons (mVar 1) mNil))) mNil)) [ii a, ii b, some (.imm (.tuple []))] = some (.val (.imm (.tuple [.int (if b < a then b else a), .int (if b > a then b else a)])), [ii a, ii b, some (.imm (.tuple []))]) :=
    c_tup (c_acons rfl rfl (c_acons rfl rfl c_anil)) rfl
  unfold fn12
  exact c_fn (ρ0 := [ii a, ii b, some (.imm (.tuple []))]) rfl rfl (c_ret (c_bin t rfl rfl rfl (hm _ _)) rfl) rfl
def TogP (f : Fn) : Prop := ∀ a b : Int, f [.imm (.int a), .imm (.int b), .imm (.tuple [])] = some (.imm (.bool false), [none, none, none])
theorem last_at (ds : List D) (d : D) : L2.atI (ds ++ [d]) ((ds.length : Nat) : Int) = some d := by
  rw [L2.atI_nat (List.getElem?_concat_length ..)]
theorem downD_cons (lo : Int) (n : Nat) : downD lo (n + 1) = .int lo :: (downD lo (n + 1)).tail := by
  unfold downD
  rw [List.range_succ_eq_map, List.map_cons, List.tail_cons]
  have : lo + ((0 : Nat) : Int) * (-1) = lo := by omega
  rw [this]
/-- the place to join at -/
theorem down_nil {x1 x2 x3 : Option Sv} : mIDown (mCons (bin dSub (un dLen (mVar 0)) (mC (.int 1))) (mCons (un dNeg (mC (.int 1))) (mCons (un dNeg (mC (.int 1))) mNil))) [some (.own true []), x1, x2, x3] = some ([], [some (.own true []), x1, x2, x3]) := by
  have h0 : bin dSub (un dLen (mVar 0)) (mC (.int 1)) [some (.own true []), x1, x2, x3] = some (.val (.imm (.int (-1))), [some (.own true []), x1, x2, x3]) := c_bin (c_un rfl rfl (show dLen (.list []) = some (.imm (.int 0)) from rfl)) rfl rfl rfl rfl
  unfold mIDown
  rw [c_acons h0 rfl (c_acons (c_un rfl rfl rfl) rfl (c_acons (c_un rfl rfl rfl) rfl c_anil))]
  have r2 : rngOk (-1) = true := rfl
  show (if (rngOk (-1) && rngOk (-1)) = true then some (downD (-1) ((-1 : Int) - -1).toNat, [some (.own true []), x1, x2, x3]) else none) = _
  rw [r2, show ((-1 : Int) - -1).toNat = 0 by decide]
  rfl
theorem place_nil {cl : Nat → Fn} (k : Int) : fn13 cl [.own true [], .imm (.int k), .imm (.tuple [])] = some (.imm .none, [some [], none, none]) := by
  unfold fn13
  exact c_fn (ρ0 := [some (.own true []), ii k, some (.imm (.tuple [])), none]) rfl rfl (c_seq (c_for down_nil c_nil) (c_ret rfl rfl)) rfl
theorem c_down {ma : MA} {ρ ρ1 : Fm} {i j : Int} {n : Nat} (h : ma ρ = some ([.int i, .int j, .int (-1)], ρ1)) (h1 : rngOk i = true) (h2 : rngOk j = true) (h3 : (i - j).toNat = n) : mIDown ma ρ = some (downD i n, ρ1) := by
  subst h3
  unfold mIDown
  rw [h]
  show (if (rngOk i && rngOk j) = true then some (downD i (i - j).toNat, ρ1) else none) = _
  rw [h1, h2]
  rfl
theorem last_0 {L : List D} {n : Nat} (hlen : L.length = n + 1) {x1 x2 x3 : Option Sv} : bin dSub (un dLen (mVar 0)) (mC (.int 1)) [some (.own true L), x1, x2, x3] = some (.val (.imm (.int (n : Int))), [some (.own true L), x1, x2, x3]) := by
  have hs : dSub (.int (L.length : Int)) (.int 1) = some (.imm (.int (n : Int))) := by
    show some (Sv.imm (.int ((L.length : Int) - 1))) = _
    rw [hlen, show (((n + 1 : Nat) : Int) - 1) = (n : Int) by omega]
  exact c_bin (c_un rfl rfl (show dLen (.list L) = some (.imm (.int (L.length : Int))) from rfl)) rfl rfl rfl hs
theorem last_1 {ρ : Fm} : un dNeg (mC (.int 1)) ρ = some (.val (.imm (.int (-1))), ρ) := rfl
theorem down_last {L : List D} {n : Nat} (hlen : L.length = n + 1) (hn : n ≤ 900) {x1 x2 x3 : Option Sv} : mIDown (mCons (bin dSub (un dLen (mVar 0)) (mC (.int 1))) (mCons (un dNeg (mC (.int 1))) (mCons (un dNeg (mC (.int 1))) mNil))) [some (.own true L), x1, x2, x3] = some (.int (n : Int) :: (downD (n : Int) (n + 1)).tail, [some (.own true L), x1, x2, x3]) := by
  have h3 : ((n : Int) - -1).toNat = n + 1 := by omega
  rw [← downD_cons]
  exact c_down (c_acons (last_0 hlen) rfl (c_acons last_1 rfl (c_acons last_1 rfl c_anil))) (c_rng (by omega)) (c_rng (by omega)) h3
theorem at_last {L : List D} {n : Nat} {j : Int} {e : D} (ha : L2.atI L (n : Int) = some (.tuple [.int j, e])) {x1 x2 : Option Sv} : bin dIx (bin dIx (mVar 0) (mVar 3)) (mC (.int 0)) [some (.own true L), x1, x2, ii (n : Int)] = some (.val (.imm (.int j)), [some (.own true L), x1, x2, ii (n : Int)]) := by
  have h1 : dIx (.list L) (.int (n : Int)) = some (.imm (.tuple [.int j, e])) := by
    show (L2.atI L (n : Int)).map Sv.imm = _
    rw [ha]; rfl
  exact c_bin (c_bin rfl rfl rfl rfl h1) rfl rfl rfl rfl
def pB (cl : Nat → Fn) : MS := (mSeq (mIfS (mB (bin dEq (bin dIx (bin dIx (mVar 0) (mVar 3)) (mC (.int 0))) (mVar 1))) (mRet (mVar 3)) mNext) (mIfS (mNotT (mTru (mCall (cl 12) (rVal (bin dIx (bin dIx (mVar 0) (mVar 3)) (mC (.int 0))) (rVal (mVar 1) (rVal (mVar 2) rNil)))))) (mRet (mC .none)) mNext))
theorem place_body {cl : Nat → Fn} (T : TogP (cl 12)) {L : List D} {n : Nat} {j : Int} {e : D} (ha : L2.atI L (n : Int) = some (.tuple [.int j, e])) (k : Int) : pB cl [some (.own true L), ii k, some (.imm (.tuple [])), ii (n : Int)] = some (.ret (.imm (if j = k then .int (n : Int) else .none)), [some (.own true L), ii k, some (.imm (.tuple [])), ii (n : Int)]) := by
  have x0 := at_last ha (x1 := ii k) (x2 := some (.imm (.tuple [])))
  have t1 : mB (bin dEq (bin dIx (bin dIx (mVar 0) (mVar 3)) (mC (.int 0))) (mVar 1)) [some (.own true L), ii k, some (.imm (.tuple [])), ii (n : Int)] = some (j == k, [some (.own true L), ii k, some (.imm (.tuple [])), ii (n : Int)]) := c_b (c_bin x0 rfl rfl rfl (eq_int j k))
  unfold pB
  by_cases h : j = k
  · rw [show (j == k) = true from beq_iff_eq.mpr h] at t1
    rw [if_pos h]
    exact c_seqR (c_ifT t1 (c_ret rfl rfl))
  · rw [show (j == k) = false from beq_eq_false_iff_ne.mpr h] at t1
    rw [if_neg h]
    have t2 : mNotT (mTru (mCall (cl 12) (rVal (bin dIx (bin dIx (mVar 0) (mVar 3)) (mC (.int 0))) (rVal (mVar 1) (rVal (mVar 2) rNil))))) [some (.own true L), ii k, some (.imm (.tuple [])), ii (n : Int)] = some (true, [some (.own true L), ii k, some (.imm (.tuple [])), ii (n : Int)]) :=
      c_not (b := false) (c_tru (c_call (c_rval x0 rfl rfl) rfl rfl (T j k) rfl) rfl rfl)
    exact c_seq (c_ifF t1 rfl) (c_ifT t2 (c_ret rfl rfl))
theorem place_fn (cl : Nat → Fn) : fn13 cl = mFn 4 3 (mSeq (mFor (mIDown (mCons (bin dSub (un dLen (mVar 0)) (mC (.int 1))) (mCons (un dNeg (mC (.int 1))) (mCons (un dNeg (mC (.int 1))) mNil)))) (mN 3) (pB cl)) (mRet (mC .none))) := rfl
theorem place_last {cl : Nat → Fn} (T : TogP (cl 12)) (ds : List D) (j : Int) (e : D) (k : Int) (hl : ds.length ≤ 900) : fn13 cl [.own true (ds ++ [.tuple [.int j, e]]), .imm (.int k), .imm (.tuple [])] = some (.imm (if j = k then .int (ds.length : Int) else .none), [some (ds ++ [.tuple [.int j, e]]), none, none]) := by
  have hlen : (ds ++ [PyData.tuple [.int j, e]]).length = ds.length + 1 := by simp
  have ha := last_at ds (.tuple [.int j, e])
  generalize ds ++ [PyData.tuple [.int j, e]] = L at *
  generalize ds.length = n at *
  have b := place_body T ha k
  have hi := down_last hlen hl (x1 := ii k) (x2 := some (.imm (.tuple []))) (x3 := none)
  rw [place_fn]
  generalize (downD (n : Int) (n + 1)).tail = tl at hi
  exact c_fn (ρ0 := [some (.own true L), ii k, some (.imm (.tuple [])), none]) rfl rfl (c_seqR (c_for hi (c_cons_ret rfl b))) rfl

/-- the calls that _shortest makes -/
structure ShP (cl : Nat → Fn) : Prop where
  nil : ∀ k : Int, cl 13 [.own true [], .imm (.int k), .imm (.tuple [])] = some (.imm .none, [some [], none, none])
  last : ∀ (ds : List D) (j : Int) (e : D) (k : Int), ds.length ≤ 900 → cl 13 [.own true (ds ++ [.tuple [.int j, e]]), .imm (.int k), .imm (.tuple [])] = some (.imm (if j = k then .int (ds.length : Int) else .none), [some (ds ++ [.tuple [.int j, e]]), none, none])
  plus : ∀ (d e : D) (q r : Rat), IsFr d q → IsFr e r → Sm q → Sm r → cl 7 [.imm d, .imm e] = some (.imm (fr (q + r)), [none, none])
def sB (cl : Nat → Fn) : MS := (mSeq (mSet 5 (mCall (cl 13) (rSlot 2 (rVal (mVar 3) (rVal (mVar 1) rNil))))) (mSeq (mIfS (mB (bin dIs (mVar 5) (mC .none))) (mPar 5 6 (un dLen (mVar 2)) (mC (.tuple ([0, 1].map .int)))) (mSet 6 (bin dIx (bin dIx (mVar 2) (mVar 5)) (mC (.int 1))))) (mSeq (mSet 7 (mCall (cl 7) (rVal (mVar 6) (rVal (mVar 4) rNil)))) (mSlx 2 (mPart (mVar 5)) (mPart (bin dAdd (mVar 5) (mC (.int 1)))) (mIf (mTru (bin dIx (mVar 7) (mC (.int 0)))) (mLst (mCons (mTup (mCons (mVar 3) (mCons (mVar 7) mNil))) mNil)) (mLst mNil))))))
theorem short_fn (cl : Nat → Fn) : fn14 cl = mFn 8 2 (mSeq (mSet 2 (mLst mNil)) (mSeq (mFor (mISeq (mVar 0)) (mGseq 2 (mGcons (mN 3) (mGcons (mN 4) mGnil))) (sB cl)) (mRet (mVar 2)))) := rfl
abbrev nn : Option Sv := some (.imm .none)
abbrev zz : Option Sv := some (.imm (f36 0))
abbrev SF (x0 : Option Sv) (L : List D) (part : Int) (e : D) (x5 x6 x7 : Option Sv) : Fm := [x0, some (.imm (.tuple [])), some (.own false L), ii part, some (.imm e), x5, x6, x7]
theorem z36 : f36 0 = .tuple ([0, 1].map .int) := by
  unfold f36 fr
  rw [v_zero]; rfl
/-- at, before where there is nothing to join at -/
theorem step_none {x0 x6 x7 : Option Sv} {L : List D} {part : Int} {e : D} : (mIfS (mB (bin dIs (mVar 5) (mC .none))) (mPar 5 6 (un dLen (mVar 2)) (mC (.tuple ([0, 1].map .int)))) (mSet 6 (bin dIx (bin dIx (mVar 2) (mVar 5)) (mC (.int 1))))) (SF x0 L part e nn x6 x7) = some (.next, SF x0 L part e (ii (L.length : Int)) zz x7) := by
  have p1 : un dLen (mVar 2) (SF x0 L part e nn x6 x7) = some (.val (.imm (.int (L.length : Int))), SF x0 L part e nn x6 x7) := c_un rfl rfl (show dLen (.list L) = some (.imm (.int (L.length : Int))) from rfl)
  have hp : mPar 5 6 (un dLen (mVar 2)) (mC (.tuple ([0, 1].map .int))) (SF x0 L part e nn x6 x7) = some (.next, SF x0 L part e (ii (L.length : Int)) zz x7) := by
    have := c_par (i := 5) (j := 6) p1 rfl (show mC (.tuple ([0, 1].map .int)) (SF x0 L part e nn x6 x7) = some (.val (.imm (.tuple ([0, 1].map .int))), SF x0 L part e nn x6 x7) from rfl) rfl rfl
    rw [← z36] at this
    exact this
  exact c_ifT (c_b (b := true) (c_bin rfl rfl rfl rfl rfl)) hp
theorem step_at {x0 x6 x7 : Option Sv} {L : List D} {n : Nat} {j : Int} {g : D} {part : Int} {e : D} (ha : L2.atI L (n : Int) = some (.tuple [.int j, g])) : (mIfS (mB (bin dIs (mVar 5) (mC .none))) (mPar 5 6 (un dLen (mVar 2)) (mC (.tuple ([0, 1].map .int)))) (mSet 6 (bin dIx (bin dIx (mVar 2) (mVar 5)) (mC (.int 1))))) (SF x0 L part e (ii (n : Int)) x6 x7) = some (.next, SF x0 L part e (ii (n : Int)) (some (.imm g)) x7) := by
  have h1 : dIx (.list L) (.int (n : Int)) = some (.imm (.tuple [.int j, g])) := by
    show (L2.atI L (n : Int)).map Sv.imm = _
    rw [ha]; rfl
  exact c_ifF (c_b (b := false) (c_bin rfl rfl rfl rfl rfl)) (c_set (c_bin (c_bin rfl rfl rfl rfl h1) rfl rfl rfl rfl) rfl)
/-- what is put in -/
theorem mif_T {t : MT} {a b : ME} {ρ ρ1 : Fm} {x : Option (PR × Fm)} (h : t ρ = some (true, ρ1)) (h2 : a ρ1 = x) : mIf t a b ρ = x := by unfold mIf; rw [h]; exact h2
theorem mif_F {t : MT} {a b : ME} {ρ ρ1 : Fm} {x : Option (PR × Fm)} (h : t ρ = some (false, ρ1)) (h2 : b ρ1 = x) : mIf t a b ρ = x := by unfold mIf; rw [h]; exact h2
theorem step_new {x0 x5 x6 : Option Sv} {L : List D} {part k : Int} {e : D} : mIf (mTru (bin dIx (mVar 7) (mC (.int 0)))) (mLst (mCons (mTup (mCons (mVar 3) (mCons (mVar 7) mNil))) mNil)) (mLst mNil) (SF x0 L part e x5 x6 (some (.imm (f36 k)))) = some (.val (.own false (if k = 0 then [] else [prD (part, k)])), SF x0 L part e x5 x6 (some (.imm (f36 k)))) := by
  have t : mTru (bin dIx (mVar 7) (mC (.int 0))) (SF x0 L part e x5 x6 (some (.imm (f36 k)))) = some ((v36 k).num != 0, SF x0 L part e x5 x6 (some (.imm (f36 k)))) := c_tru (c_bin rfl rfl rfl rfl rfl) rfl rfl
  by_cases h : k = 0
  · rw [show ((v36 k).num != 0) = false by rw [bne_eq_false_iff_eq]; exact (v_num k).mpr h] at t
    rw [if_pos h]
    exact mif_F t (c_lst c_anil rfl)
  · rw [show ((v36 k).num != 0) = true by rw [bne_iff_ne]; exact fun z => h ((v_num k).mp z)] at t
    rw [if_neg h]
    exact mif_T t (c_lst (c_acons (c_tup (c_acons rfl rfl (c_acons rfl rfl c_anil)) rfl) rfl c_anil) rfl)
theorem c_slx {i : Nat} {ma mc : MO} {me : ME} {ρ ρ1 : Fm} {b b0 : Bool} {ys ds : List D} {a c : Nat} (h1 : me ρ = some (.val (.own b0 ys), ρ1)) (h2 : ρ1[i]? = some (some (.own b ds))) (h3 : ma ρ1 = some (some (a : Int), ρ1)) (h4 : mc ρ1 = some (some (c : Int), ρ1)) (h5 : a ≤ c) (h6 : a ≤ ds.length) (h7 : ds.length + ys.length ≤ 10000) :
    mSlx i ma mc me ρ = some (.next, ρ1.set i (some (.own b (ds.take a ++ ys ++ ds.drop c)))) := by
  have f : fits (ds.length + ys.length) = true := c_fits h7
  have g1 : decide ((0 : Int) ≤ (a : Int)) = true := decide_eq_true (by omega)
  have g2 : decide ((a : Int) ≤ (c : Int)) = true := decide_eq_true (by omega)
  have g3 : decide ((a : Int) ≤ (ds.length : Int)) = true := decide_eq_true (by omega)
  unfold mSlx
  rw [h1]
  simp only [h2, h3, h4, g1, g2, g3, f, Bool.and_self, if_true, Int.toNat_natCast]
theorem step_put {x0 x6 : Option Sv} {L : List D} {a : Nat} {part k : Int} {e : D} (ha : a ≤ L.length) (hl : L.length ≤ 900) : mSlx 2 (mPart (mVar 5)) (mPart (bin dAdd (mVar 5) (mC (.int 1)))) (mIf (mTru (bin dIx (mVar 7) (mC (.int 0)))) (mLst (mCons (mTup (mCons (mVar 3) (mCons (mVar 7) mNil))) mNil)) (mLst mNil)) (SF x0 L part e (ii (a : Int)) x6 (some (.imm (f36 k)))) = some (.next, SF x0 (L.take a ++ (if k = 0 then [] else [prD (part, k)]) ++ L.drop (a + 1)) part e (ii (a : Int)) x6 (some (.imm (f36 k)))) := by
  have n := step_new (x0 := x0) (x5 := ii (a : Int)) (x6 := x6) (L := L) (part := part) (k := k) (e := e)
  have hy : (if k = 0 then ([] : List D) else [prD (part, k)]).length ≤ 1 := by split <;> simp
  generalize (if k = 0 then ([] : List D) else [prD (part, k)]) = ys at *
  have h4 : mPart (bin dAdd (mVar 5) (mC (.int 1))) (SF x0 L part e (ii (a : Int)) x6 (some (.imm (f36 k)))) = some (some ((a + 1 : Nat) : Int), SF x0 L part e (ii (a : Int)) x6 (some (.imm (f36 k)))) := rfl
  exact c_slx (a := a) (c := a + 1) n rfl rfl h4 (by omega) ha (by omega)

theorem dsD_app (a b : Row) : dsD (a ++ b) = dsD a ++ dsD b := by unfold dsD; rw [List.map_append]
theorem dsD_len (a : Row) : (dsD a).length = a.length := by unfold dsD; rw [List.length_map]
theorem call5 {cl : Nat → Fn} {x0 x5 x6 x7 : Option Sv} {L : List D} {part : Int} {e r : D} (h : cl 13 [.own true L, .imm (.int part), .imm (.tuple [])] = some (.imm r, [some L, none, none])) : mSet 5 (mCall (cl 13) (rSlot 2 (rVal (mVar 3) (rVal (mVar 1) rNil)))) (SF x0 L part e x5 x6 x7) = some (.next, SF x0 L part e (some (.imm r)) x6 x7) :=
  c_set (c_call (as := [.s 2, .v (.int part), .v (.tuple [])]) rfl rfl rfl h rfl) rfl
theorem call7 {cl : Nat → Fn} {x0 x5 x7 : Option Sv} {L : List D} {part : Int} {e g : D} {k : Int} (h : cl 7 [.imm g, .imm e] = some (.imm (f36 k), [none, none])) : mSet 7 (mCall (cl 7) (rVal (mVar 6) (rVal (mVar 4) rNil))) (SF x0 L part e x5 (some (.imm g)) x7) = some (.next, SF x0 L part e x5 (some (.imm g)) (some (.imm (f36 k)))) :=
  c_set (c_call rfl rfl rfl h rfl) rfl
theorem push_nil (p : Pr) : pushS [] p = if p.2 = 0 then [] else [p] := rfl
theorem push_cons (l : Pr) (s : Row) (p : Pr) : pushS (l :: s) p = if l.1 = p.1 then (if l.2 + p.2 = 0 then s else (p.1, l.2 + p.2) :: s) else if p.2 = 0 then l :: s else p :: l :: s := rfl
def lm (s : Row) : Prop := ∀ p ∈ s, p.2.natAbs < 2 ^ 80
theorem plus36 {cl : Nat → Fn} (P : ShP cl) {e : D} {a k : Int} (he : IsFr e (v36 k)) (ha : a.natAbs < 2 ^ 80) (hk : k.natAbs < 2 ^ 80) : cl 7 [.imm (f36 a), .imm e] = some (.imm (f36 (a + k)), [none, none]) := by
  have := P.plus (f36 a) e (v36 a) (v36 k) (isFr _) he (v_sd ha).sm (v_sd hk).sm
  rw [v_add] at this
  exact this
theorem short_step {cl : Nat → Fn} (P : ShP cl) {x0 x5 x6 x7 : Option Sv} (s : Row) (p : Pr) {e : D} (he : IsFr e (v36 p.2)) (hs : lm s) (hp : p.2.natAbs < 2 ^ 80) (hl : s.length ≤ 800) :
    ∃ y5 y6 y7, sB cl (SF x0 (dsD s.reverse) p.1 e x5 x6 x7) = some (.next, SF x0 (dsD (pushS s p).reverse) p.1 e y5 y6 y7) := by
  have h0 : (0 : Int).natAbs < 2 ^ 80 := by decide
  match s, hs, hl with
  | [], _, _ =>
    have q := plus36 P he h0 hp
    rw [Int.zero_add] at q
    have pt := step_put (x0 := x0) (x6 := zz) (L := []) (a := 0) (part := p.1) (k := p.2) (e := e) (Nat.le_refl _) (by decide)
    refine ⟨ii ((0 : Nat) : Int), zz, some (.imm (f36 p.2)), ?_⟩
    have e2 : dsD (pushS [] p).reverse = ([] : List D).take 0 ++ (if p.2 = 0 then [] else [prD (p.1, p.2)]) ++ ([] : List D).drop (0 + 1) := by
      rw [push_nil]
      by_cases hz : p.2 = 0
      · rw [if_pos hz, if_pos hz]; rfl
      · rw [if_neg hz, if_neg hz]; rfl
    rw [e2]
    exact c_seq (call5 (P.nil p.1)) (c_seq (step_none (L := [])) (c_seq (call7 q) pt))
  | l :: s, hs, hl =>
    have hlen : (dsD s.reverse).length ≤ 800 := by rw [dsD_len, List.length_reverse]; simp only [List.length_cons] at hl; omega
    have hL : dsD (l :: s).reverse = dsD s.reverse ++ [.tuple [.int l.1, f36 l.2]] := by rw [List.reverse_cons, dsD_app]; rfl
    have c := P.last (dsD s.reverse) l.1 (f36 l.2) p.1 (by omega)
    by_cases h : l.1 = p.1
    · rw [if_pos h] at c
      have q := plus36 P he (hs l (List.mem_cons_self ..)) hp
      have ha := last_at (dsD s.reverse) (.tuple [.int l.1, f36 l.2])
      have pt := step_put (x0 := x0) (x6 := some (.imm (f36 l.2))) (L := dsD s.reverse ++ [.tuple [.int l.1, f36 l.2]]) (a := (dsD s.reverse).length) (part := p.1) (k := l.2 + p.2) (e := e) (by rw [List.length_append]; omega) (by rw [List.length_append]; simp; omega)
      have e2 : dsD (pushS (l :: s) p).reverse = (dsD s.reverse ++ [PyData.tuple [.int l.1, f36 l.2]]).take (dsD s.reverse).length ++ (if l.2 + p.2 = 0 then [] else [prD (p.1, l.2 + p.2)]) ++ (dsD s.reverse ++ [PyData.tuple [.int l.1, f36 l.2]]).drop ((dsD s.reverse).length + 1) := by
        rw [List.take_left, List.drop_of_length_le (by rw [List.length_append]; simp), List.append_nil]
        rw [push_cons, if_pos h]
        by_cases hz : l.2 + p.2 = 0
        · rw [if_pos hz, if_pos hz, List.append_nil]
        · rw [if_neg hz, if_neg hz, List.reverse_cons, dsD_app]; rfl
      rw [e2, hL]
      generalize dsD s.reverse = ds at *
      exact ⟨_, _, _, c_seq (call5 c) (c_seq (step_at ha) (c_seq (call7 q) pt))⟩
    · rw [if_neg h] at c
      have q := plus36 P he h0 hp
      rw [Int.zero_add] at q
      have pt := step_put (x0 := x0) (x6 := zz) (L := dsD s.reverse ++ [.tuple [.int l.1, f36 l.2]]) (a := (dsD s.reverse ++ [PyData.tuple [.int l.1, f36 l.2]]).length) (part := p.1) (k := p.2) (e := e) (Nat.le_refl _) (by rw [List.length_append]; simp; omega)
      have e2 : dsD (pushS (l :: s) p).reverse = (dsD s.reverse ++ [PyData.tuple [.int l.1, f36 l.2]]).take (dsD s.reverse ++ [PyData.tuple [.int l.1, f36 l.2]]).length ++ (if p.2 = 0 then [] else [prD (p.1, p.2)]) ++ (dsD s.reverse ++ [PyData.tuple [.int l.1, f36 l.2]]).drop ((dsD s.reverse ++ [PyData.tuple [.int l.1, f36 l.2]]).length + 1) := by
        rw [List.take_length, List.drop_of_length_le (by omega), List.append_nil]
        rw [push_cons, if_neg h]
        by_cases hz : p.2 = 0
        · rw [if_pos hz, if_pos hz, hL, List.append_nil]
        · rw [if_neg hz, if_neg hz, List.reverse_cons, dsD_app, hL]; rfl
      rw [e2, hL]
      generalize dsD s.reverse ++ [PyData.tuple [.int l.1, f36 l.2]] = L at *
      exact ⟨_, _, _, c_seq (call5 c) (c_seq step_none (c_seq (call7 q) pt))⟩
/-! sizes -/
def norm (r : Row) : Nat := (r.map fun p => p.2.natAbs).sum
theorem norm_cons (p : Pr) (r : Row) : norm (p :: r) = p.2.natAbs + norm r := by unfold norm; rw [List.map_cons, List.sum_cons]
theorem norm_mem {r : Row} {p : Pr} (h : p ∈ r) : p.2.natAbs ≤ norm r := by
  induction r with
  | nil => cases h
  | cons q r ih =>
    rw [norm_cons]
    rcases List.mem_cons.mp h with rfl | h
    · omega
    · have := ih h; omega
theorem push_norm (s : Row) (p : Pr) : norm (pushS s p) ≤ norm s + p.2.natAbs := by
  unfold pushS
  split
  · split
    · simp [norm]
    · rw [norm_cons]; omega
  · rename_i l s
    rw [norm_cons]
    split
    · split
      · omega
      · rw [norm_cons]
        show (l.2 + p.2).natAbs + norm s ≤ _
        have := Int.natAbs_add_le l.2 p.2
        omega
    · split
      · rw [norm_cons]; omega
      · rw [norm_cons, norm_cons]; omega
theorem push_len (s : Row) (p : Pr) : (pushS s p).length ≤ s.length + 1 := by
  unfold pushS
  split
  · split <;> simp
  · split
    · split
      · rename_i l s _ _
        simp only [List.length_cons]; omega
      · simp only [List.length_cons]; omega
    · split
      · simp only [List.length_cons]; omega
      · simp only [List.length_cons]; omega
/-- all pairs -/
inductive IsPrs : List D → Row → Prop
  | nil : IsPrs [] []
  | cons {d : D} {p : Pr} {ds : List D} {r : Row} : IsPr d p → IsPrs ds r → IsPrs (d :: ds) (p :: r)
theorem isPrs : ∀ r : Row, IsPrs (dsD r) r
  | [] => .nil
  | p :: r => .cons (isPr p) (isPrs r)
theorem norm_lm {s : Row} (h : norm s < 2 ^ 80) : lm s := fun p hp => Nat.lt_of_le_of_lt (norm_mem hp) h
theorem short_loop {cl : Nat → Fn} (P : ShP cl) {x0 : Option Sv} : ∀ {ds : List D} {r : Row}, IsPrs ds r → ∀ (s : Row) (x3 x4 x5 x6 x7 : Option Sv), norm s + norm r < 2 ^ 80 → s.length + r.length ≤ 800 →
    ∃ y3 y4 y5 y6 y7, loop (mGseq 2 (mGcons (mN 3) (mGcons (mN 4) mGnil))) (sB cl) ds [x0, some (.imm (.tuple [])), some (.own false (dsD s.reverse)), x3, x4, x5, x6, x7] = some (.next, [x0, some (.imm (.tuple [])), some (.own false (dsD (r.foldl pushS s).reverse)), y3, y4, y5, y6, y7]) := by
  intro ds r h
  induction h with
  | nil => intro s x3 x4 x5 x6 x7 _ _; exact ⟨x3, x4, x5, x6, x7, rfl⟩
  | @cons d p ds r hp hr ih =>
    intro s x3 x4 x5 x6 x7 hn hl
    rw [norm_cons] at hn
    rw [List.length_cons] at hl
    obtain ⟨e, hd, he⟩ := hp
    have hg : mGseq 2 (mGcons (mN 3) (mGcons (mN 4) mGnil)) d [x0, some (.imm (.tuple [])), some (.own false (dsD s.reverse)), x3, x4, x5, x6, x7] = some (SF x0 (dsD s.reverse) p.1 e x5 x6 x7) := by
      rcases hd with rfl | rfl <;> rfl
    obtain ⟨y5, y6, y7, e1⟩ := short_step P (x0 := x0) (x5 := x5) (x6 := x6) (x7 := x7) s p he (norm_lm (by omega)) (by omega) (by omega)
    have k1 := push_norm s p
    have k2 := push_len s p
    obtain ⟨z3, z4, z5, z6, z7, e2⟩ := ih (pushS s p) (ii p.1) (some (.imm e)) y5 y6 y7 (by omega) (by omega)
    exact ⟨z3, z4, z5, z6, z7, c_cons hg e1 e2⟩
theorem short_ok {cl : Nat → Fn} (P : ShP cl) {d : D} {ds : List D} {r : Row} (hd : itemsOf d = some ds) (hr : IsPrs ds r) (hn : norm r < 2 ^ 80) (hl : r.length ≤ 800) : fn14 cl [.imm d, .imm (.tuple [])] = some (.own false (dsD (nf r)), [none, none]) := by
  obtain ⟨y3, y4, y5, y6, y7, e⟩ := short_loop P (x0 := some (.imm d)) hr [] none none none none none (by simpa [norm] using hn) (by simpa using hl)
  have hi : mISeq (mVar 0) [some (.imm d), some (.imm (.tuple [])), some (.own false (dsD [].reverse)), none, none, none, none, none] = some (ds, [some (.imm d), some (.imm (.tuple [])), some (.own false (dsD [].reverse)), none, none, none, none, none]) := by
    unfold mISeq
    rw [show mVar 0 [some (.imm d), some (.imm (.tuple [])), some (.own false (dsD [].reverse)), none, none, none, none, none] = some (.slot 0, [some (.imm d), some (.imm (.tuple [])), some (.own false (dsD [].reverse)), none, none, none, none, none]) from rfl]
    show (match itemsOf d with | some ds => some (ds, _) | none => none) = _
    rw [hd]
  rw [short_fn]
  exact c_fn (ρ0 := [some (.imm d), some (.imm (.tuple [])), none, none, none, none, none, none]) rfl rfl (c_seq (ρ1 := [some (.imm d), some (.imm (.tuple [])), some (.own false (dsD [].reverse)), none, none, none, none, none]) rfl (c_seq (c_for hi e) (c_ret (r := .own false (dsD (nf r))) rfl rfl))) rfl
def rowD (r : Row) : D := .tuple (dsD r)
theorem normal_ok {cl : Nat → Fn} {d : D} {r : Row} (h : cl 14 [.imm d, .imm (.tuple [])] = some (.own false (dsD (nf r)), [none, none])) : fn15 cl [.imm d] = some (.imm (rowD (nf r)), [none]) := by
  unfold fn15
  exact c_fn (ρ0 := [some (.imm d)]) rfl rfl (c_ret (c_un (c_call (c_rval rfl rfl (c_rval (c_tup c_anil rfl) rfl rfl)) rfl rfl h rfl) rfl rfl) rfl) rfl

/-! the free product: stacks -/
def Red : Row → Prop
  | [] => True
  | [p] => p.2 ≠ 0
  | p :: q :: s => p.2 ≠ 0 ∧ p.1 ≠ q.1 ∧ Red (q :: s)
theorem Red.tail {p : Pr} {s : Row} (h : Red (p :: s)) : Red s := by
  cases s with
  | nil => trivial
  | cons q s => exact h.2.2
theorem Red.head {p : Pr} {s : Row} (h : Red (p :: s)) : p.2 ≠ 0 := by
  cases s with
  | nil => exact h
  | cons q s => exact h.1
theorem Red.set {p : Pr} {s : Row} (h : Red (p :: s)) {k : Int} (hk : k ≠ 0) : Red ((p.1, k) :: s) := by
  cases s with
  | nil => exact hk
  | cons q s => exact ⟨hk, h.2.1, h.2.2⟩
theorem push_red {s : Row} (h : Red s) (p : Pr) : Red (pushS s p) := by
  cases s with
  | nil =>
    rw [push_nil]
    by_cases hz : p.2 = 0
    · rw [if_pos hz]; trivial
    · rw [if_neg hz]; exact hz
  | cons l s =>
    rw [push_cons]
    by_cases he : l.1 = p.1
    · rw [if_pos he]
      by_cases hz : l.2 + p.2 = 0
      · rw [if_pos hz]; exact h.tail
      · rw [if_neg hz, ← he]; exact h.set hz
    · rw [if_neg he]
      by_cases hz : p.2 = 0
      · rw [if_pos hz]; exact h
      · rw [if_neg hz]; exact ⟨hz, fun z => he z.symm, h⟩
theorem push_zero {s : Row} (h : Red s) (a : Int) : pushS s (a, 0) = s := by
  cases s with
  | nil => rfl
  | cons l s =>
    rw [push_cons]
    by_cases he : l.1 = a
    · rw [if_pos (show l.1 = (a, (0 : Int)).1 from he), if_neg (show ¬ l.2 + (a, (0 : Int)).2 = 0 by show ¬ l.2 + 0 = 0; rw [Int.add_zero]; exact h.head)]
      show (a, l.2 + 0) :: s = _
      rw [Int.add_zero, ← he]
    · rw [if_neg (show ¬ l.1 = (a, (0 : Int)).1 from he), if_pos rfl]
theorem push_join {s : Row} (h : Red s) (a k l : Int) : pushS (pushS s (a, k)) (a, l) = pushS s (a, k + l) := by
  by_cases hk : k = 0
  · subst hk
    rw [push_zero h, Int.zero_add]
  · cases s with
    | nil =>
      rw [push_nil, if_neg (show ¬ ((a, k) : Pr).2 = 0 from hk), push_cons, if_pos rfl, push_nil]
    | cons q s =>
      rw [push_cons, push_cons]
      by_cases he : q.1 = a
      · rw [if_pos (show q.1 = ((a, k) : Pr).1 from he), if_pos (show q.1 = ((a, k + l) : Pr).1 from he)]
        show pushS (if q.2 + k = 0 then s else (a, q.2 + k) :: s) (a, l) = (if q.2 + (k + l) = 0 then s else (a, q.2 + (k + l)) :: s)
        by_cases h2 : q.2 + k = 0
        · rw [if_pos h2]
          have e : q.2 + (k + l) = l := by omega
          rw [e]
          have hq := h
          cases s with
          | nil => rw [push_nil]
          | cons r s =>
            have hne : ¬ r.1 = a := fun z => hq.2.1 (by rw [he, z])
            rw [push_cons, if_neg (show ¬ r.1 = ((a, l) : Pr).1 from hne)]
        · rw [if_neg h2, push_cons, if_pos rfl]
          show (if q.2 + k + l = 0 then s else (a, q.2 + k + l) :: s) = _
          rw [Int.add_assoc]
      · rw [if_neg (show ¬ q.1 = ((a, k) : Pr).1 from he), if_neg (show ¬ ((a, k) : Pr).2 = 0 from hk), if_neg (show ¬ q.1 = ((a, k + l) : Pr).1 from he), push_cons, if_pos rfl]
theorem fold_red : ∀ (r : Row) {s : Row}, Red s → Red (r.foldl pushS s)
  | [], _, h => h
  | p :: r, _, h => fold_red r (push_red h p)
theorem nfS_red (r : Row) : Red (nfS r) := fold_red r trivial
/-- one more pair on a stack, worked behind another stack -/
theorem fold_push {s : Row} (hs : Red s) {u : Row} (hu : Red u) (p : Pr) : (pushS u p).reverse.foldl pushS s = pushS (u.reverse.foldl pushS s) p := by
  cases u with
  | nil =>
    rw [push_nil]
    by_cases hz : p.2 = 0
    · rw [if_pos hz]
      have : p = (p.1, 0) := by rw [← hz]
      rw [this, List.reverse_nil, List.foldl_nil]
      exact (push_zero hs p.1).symm
    · rw [if_neg hz]; rfl
  | cons l u =>
    have hX := fold_red u.reverse hs
    have e : (l :: u).reverse.foldl pushS s = pushS (u.reverse.foldl pushS s) l := by
      rw [List.reverse_cons, List.foldl_append]; rfl
    rw [e, push_cons]
    generalize hXe : u.reverse.foldl pushS s = X at *
    by_cases he : l.1 = p.1
    · rw [if_pos he]
      have hj : pushS (pushS X l) p = pushS X (p.1, l.2 + p.2) := by
        have := push_join hX p.1 l.2 p.2
        rw [← he] at this
        rw [← he]
        have e2 : p = (l.1, p.2) := by rw [he]
        rw [show l = (l.1, l.2) from rfl]
        rw [e2]
        exact this
      rw [hj]
      by_cases hz : l.2 + p.2 = 0
      · rw [if_pos hz, hXe, hz]
        exact (push_zero hX p.1).symm
      · rw [if_neg hz, List.reverse_cons, List.foldl_append, hXe]; rfl
    · rw [if_neg he]
      have hY := push_red hX l
      by_cases hz : p.2 = 0
      · rw [if_pos hz, e]
        have : p = (p.1, 0) := by rw [← hz]
        rw [this]
        exact (push_zero hY p.1).symm
      · rw [if_neg hz, List.reverse_cons, List.foldl_append, e]; rfl
theorem fold_nf {s : Row} (hs : Red s) : ∀ (r : Row) {u : Row}, Red u → (r.foldl pushS u).reverse.foldl pushS s = r.foldl pushS (u.reverse.foldl pushS s)
  | [], _, _ => rfl
  | p :: r, u, hu => by
    rw [List.foldl_cons, List.foldl_cons, fold_nf hs r (push_red hu p), fold_push hs hu p]
/-- a row may be taken for its normal one -/
theorem fold_row {s : Row} (hs : Red s) (r : Row) : (nf r).foldl pushS s = r.foldl pushS s := fold_nf hs r (u := []) trivial
theorem nf_nf (r : Row) : nf (nf r) = nf r := by
  have : nfS (nf r) = nfS r := fold_row (s := []) trivial r
  unfold nf at *
  rw [this]
theorem nf_app (a b : Row) : nfS (a ++ b) = b.foldl pushS (nfS a) := by unfold nfS; rw [List.foldl_append]
def inv (r : Row) : Row := r.reverse.map fun p => (p.1, -p.2)
theorem inv_cons (p : Pr) (r : Row) : inv (p :: r) = inv r ++ [(p.1, -p.2)] := by unfold inv; rw [List.reverse_cons, List.map_append]; rfl
theorem inv_app (a b : Row) : inv (a ++ b) = inv b ++ inv a := by unfold inv; rw [List.reverse_append, List.map_append]
theorem inv_inv (a : Row) : inv (inv a) = a := by
  unfold inv
  rw [← List.map_reverse, List.reverse_reverse, List.map_map]
  conv => rhs; rw [← List.map_id a]
  congr 1
  funext p
  show (p.1, - -p.2) = p
  rw [Int.neg_neg]
theorem fold_inv : ∀ (r : Row) {s : Row}, Red s → (inv r).foldl pushS (r.foldl pushS s) = s
  | [], _, _ => rfl
  | p :: r, s, h => by
    rw [List.foldl_cons, inv_cons, List.foldl_append, fold_inv r (push_red h p)]
    show pushS (pushS s p) (p.1, -p.2) = s
    rw [show p = (p.1, p.2) from rfl, push_join h]
    show pushS s (p.1, p.2 + -p.2) = s
    rw [Int.add_right_neg]
    exact push_zero h p.1
theorem fold_inv' (r : Row) {s : Row} (h : Red s) : r.foldl pushS ((inv r).foldl pushS s) = s := by
  have := fold_inv (inv r) h
  rwa [inv_inv] at this
theorem nfS_eq {a b : Row} : nf a = nf b ↔ nfS a = nfS b := by
  unfold nf
  exact ⟨fun h => List.reverse_inj.mp h, fun h => by rw [h]⟩
theorem fold_of {a b : Row} (h : nf a = nf b) {s : Row} (hs : Red s) : a.foldl pushS s = b.foldl pushS s := by
  rw [← fold_row hs a, ← fold_row hs b, h]
theorem same_left {t a b : Row} : nf (t ++ a) = nf (t ++ b) ↔ nf a = nf b := by
  rw [nfS_eq, nf_app, nf_app]
  constructor
  · intro h
    have ha := fold_nf (s := nfS (inv t)) (nfS_red _) a (u := nfS t) (nfS_red t)
    have hb := fold_nf (s := nfS (inv t)) (nfS_red _) b (u := nfS t) (nfS_red t)
    rw [h, hb] at ha
    have e : (nfS t).reverse.foldl pushS (nfS (inv t)) = [] := by
      rw [show (nfS t).reverse = nf t from rfl, fold_row (nfS_red _)]
      exact fold_inv' t (s := []) trivial
    rw [e] at ha
    exact nfS_eq.mpr ha.symm
  · intro h
    exact fold_of h (nfS_red t)
theorem same_right {t a b : Row} : nf (a ++ t) = nf (b ++ t) ↔ nf a = nf b := by
  rw [nfS_eq, nfS_eq, nf_app, nf_app]
  constructor
  · intro h
    have := congrArg (fun s => (inv t).foldl pushS s) h
    simp only [fold_inv t (nfS_red _)] at this
    exact this
  · intro h
    rw [h]
theorem same_undo {a b : Row} : nf (a ++ inv b) = nf [] ↔ nf a = nf b := by
  have h : nf (b ++ inv b) = nf [] := by
    rw [nfS_eq, nf_app]
    exact fold_inv b (s := []) trivial
  rw [← h]
  exact same_right
theorem same_inv {a b : Row} : nf (inv a) = nf (inv b) ↔ nf a = nf b := by
  have key : ∀ a b : Row, nf a = nf b → nf (inv a) = nf (inv b) := fun a b h => by
    have h1 := (same_undo (a := a) (b := b)).mpr h
    have h2 : nf (inv a ++ (a ++ inv b)) = nf (inv a ++ []) := same_left.mpr h1
    rw [List.append_nil, nfS_eq, nf_app, List.foldl_append] at h2
    have h3 : a.foldl pushS (nfS (inv a)) = [] := fold_inv' a (s := []) trivial
    rw [h3] at h2
    exact nfS_eq.mpr h2.symm
  exact ⟨fun h => by have := key _ _ h; rwa [inv_inv, inv_inv] at this, key a b⟩




end K46

namespace K46
open PySem Vi PyProof.Rows
theorem lay_pr (p : Pr) : PyData.canLay0 (prD p) = true := by
  unfold prD f36 fr
  simp [PyData.canLay0, PyData.canLayAll0]
theorem dep_pr (p : Pr) : PyData.depth (prD p) ≤ 2 := by
  unfold prD f36 fr
  simp [PyData.depth, PyData.depthAll]
theorem lay_ds : ∀ r : Row, PyData.canLayAll0 (dsD r) = true
  | [] => by rw [show dsD [] = [] from rfl, PyData.canLayAll0]
  | p :: r => by rw [show dsD (p :: r) = prD p :: dsD r from rfl, PyData.canLayAll0, lay_pr, lay_ds r]; rfl
theorem dep_ds : ∀ r : Row, PyData.depthAll (dsD r) ≤ 2
  | [] => by rw [show dsD [] = [] from rfl, PyData.depthAll]; decide
  | p :: r => by
    rw [show dsD (p :: r) = prD p :: dsD r from rfl, PyData.depthAll]
    exact Nat.max_le.mpr ⟨dep_pr p, dep_ds r⟩
theorem ok_lst (r : Row) : okD (.list (dsD r)) = true := by
  show (PyData.canLay0 (.list (dsD r)) && decide (PyData.depth (.list (dsD r)) ≤ 64)) = true
  have := dep_ds r
  rw [PyData.canLay0, PyData.depth, lay_ds, decide_eq_true (by omega)]; rfl
theorem ok_tup (r : Row) : okD (.tuple (dsD r)) = true := by
  show (PyData.canLay0 (.tuple (dsD r)) && decide (PyData.depth (.tuple (dsD r)) ≤ 64)) = true
  have := dep_ds r
  rw [PyData.canLay0, PyData.depth, lay_ds, decide_eq_true (by omega)]; rfl
theorem ne_nil (r : Row) : dNe (.list (dsD r)) (.list []) = some (.imm (.bool (!r.isEmpty))) := by
  unfold dNe
  rw [ok_lst, show okD (.list []) = true from rfl]
  have : PyData.eqv (.list (dsD r)) (.list []) = r.isEmpty := by cases r <;> simp [dsD, PyData.eqv, PyData.eqvAll]
  rw [this]; rfl
/-! the law's own normal row -/
def LaddP (f : Fn) : Prop := ∀ (d e : D) (q r : Rat), IsFr d q → IsFr e r → Sd q → Sd r → f [.imm d, .imm e] = some (.imm (fr (q + r)), [none, none])
abbrev NF (x0 : Option Sv) (s : Row) (part : Int) (e : D) : Fm := [x0, some (.own false (dsD s.reverse)), ii part, some (.imm e)]
def nT : MT := (mAndT (mB (bin dNe (mVar 1) (mLst mNil))) (mB (bin dEq (bin dIx (bin dIx (mVar 1) (un dNeg (mC (.int 1)))) (mC (.int 0))) (mVar 2))))
def nA (cl : Nat → Fn) : MS := (mSet 3 (mCall (cl 28) (rVal (bin dIx (mPop 1) (mC (.int 1))) (rVal (mVar 3) rNil))))
def nP : MS := (mIfS (mB (bin dNe (bin dIx (mVar 3) (mC (.int 0))) (mC (.int 0)))) (mDrop (mApp 1 (mTup (mCons (mVar 2) (mCons (mVar 3) mNil))))) mNext)
theorem normal_fn (cl : Nat → Fn) : fn32 cl = mFn 4 1 (mSeq (mSet 1 (mLst mNil)) (mSeq (mFor (mISeq (mVar 0)) (mGseq 2 (mGcons (mN 2) (mGcons (mN 3) mGnil))) (mSeq (mIfS nT (nA cl) mNext) nP)) (mRet (un dTuple (mVar 1))))) := rfl
theorem c_andTF {a b : MT} {ρ ρ1 : Fm} (h : a ρ = some (false, ρ1)) : mAndT a b ρ = some (false, ρ1) := by unfold mAndT; rw [h]
theorem c_andTT {a b : MT} {ρ ρ1 : Fm} {x : Option (Bool × Fm)} (h : a ρ = some (true, ρ1)) (h2 : b ρ1 = x) : mAndT a b ρ = x := by unfold mAndT; rw [h]; exact h2
theorem ne_int (i j : Int) : dNe (.int i) (.int j) = some (.imm (.bool (!(i == j)))) := by
  unfold dNe
  rw [okD_int, okD_int, eqv_int]; rfl
theorem at_neg {L : List D} {d : D} : L2.atI (L ++ [d]) (-1) = some d := by
  unfold L2.atI L2.ixN
  simp only [List.length_append, List.length_cons, List.length_nil]
  rw [if_neg (by omega), if_pos (by omega), show ((-1 : Int) + ((L.length + (0 + 1) : Nat) : Int)).toNat = L.length by omega]
  exact List.getElem?_concat_length ..
theorem c_skip {ρ : Fm} : mNext ρ = some (.next, ρ) := rfl
theorem np_ok {x0 : Option Sv} (s : Row) (part k : Int) (hl : s.length ≤ 900) : nP (NF x0 s part (f36 k)) = some (.next, NF x0 (if k = 0 then s else (part, k) :: s) part (f36 k)) := by
  have t : mB (bin dNe (bin dIx (mVar 3) (mC (.int 0))) (mC (.int 0))) (NF x0 s part (f36 k)) = some (!((v36 k).num == 0), NF x0 s part (f36 k)) := c_b (c_bin (c_bin rfl rfl rfl rfl rfl) rfl rfl rfl (ne_int _ _))
  unfold nP
  by_cases h : k = 0
  · rw [show (!((v36 k).num == 0)) = false by rw [(v_num k).mpr h]; rfl] at t
    rw [if_pos h]
    exact c_ifF t c_skip
  · rw [show (!((v36 k).num == 0)) = true by rw [beq_eq_false_iff_ne.mpr (fun z => h ((v_num k).mp z))]; rfl] at t
    rw [if_neg h]
    have a : mTup (mCons (mVar 2) (mCons (mVar 3) mNil)) (NF x0 s part (f36 k)) = some (.val (.imm (prD (part, k))), NF x0 s part (f36 k)) := c_tup (c_acons rfl rfl (c_acons rfl rfl c_anil)) rfl
    have hf : fits ((dsD s.reverse).length + 1) = true := c_fits (by rw [dsD_len, List.length_reverse]; omega)
    have e2 : dsD ((part, k) :: s).reverse = dsD s.reverse ++ [prD (part, k)] := by rw [List.reverse_cons, dsD_app]; rfl
    have b := c_app (i := 1) (ρ := NF x0 s part (f36 k)) rfl a rfl rfl hf
    have g := c_ifT t (n := mNext) (c_drop b)
    rw [g]
    show some (Fl.next, [x0, some (.own false (dsD s.reverse ++ [prD (part, k)])), ii part, some (.imm (f36 k))]) = _
    rw [← e2]
theorem nt_nil {x0 : Option Sv} {part : Int} {e : D} : nT (NF x0 [] part e) = some (false, NF x0 [] part e) := by
  have n := ne_nil []
  exact c_andTF (c_b (b := false) (c_bin rfl (c_lst c_anil rfl) rfl rfl n))
theorem nt_cons {x0 : Option Sv} {part : Int} {e : D} (l : Pr) (s : Row) : nT (NF x0 (l :: s) part e) = some (l.1 == part, NF x0 (l :: s) part e) := by
  have n := ne_nil (l :: s).reverse
  have hz : (l :: s).reverse.isEmpty = false := by simp
  rw [hz] at n
  have hL : dsD (l :: s).reverse = dsD s.reverse ++ [.tuple [.int l.1, f36 l.2]] := by rw [List.reverse_cons, dsD_app]; rfl
  have ha : L2.atI (dsD (l :: s).reverse) (-1) = some (.tuple [.int l.1, f36 l.2]) := by rw [hL]; exact at_neg
  have hx : dIx (.list (dsD (l :: s).reverse)) (.int (-1)) = some (.imm (.tuple [.int l.1, f36 l.2])) := by
    show (L2.atI (dsD (l :: s).reverse) (-1)).map Sv.imm = _
    rw [ha]; rfl
  generalize hg : dsD (l :: s).reverse = L at *
  have hN : NF x0 (l :: s) part e = [x0, some (.own false L), ii part, some (.imm e)] := by rw [← hg]
  rw [hN]
  have a1 : mB (bin dNe (mVar 1) (mLst mNil)) [x0, some (.own false L), ii part, some (.imm e)] = some (true, [x0, some (.own false L), ii part, some (.imm e)]) := c_b (b := true) (c_bin rfl (c_lst c_anil rfl) rfl rfl n)
  have a2 : bin dIx (mVar 1) (un dNeg (mC (.int 1))) [x0, some (.own false L), ii part, some (.imm e)] = some (.val (.imm (.tuple [.int l.1, f36 l.2])), [x0, some (.own false L), ii part, some (.imm e)]) := c_bin rfl last_1 rfl rfl hx
  exact c_andTT a1 (c_b (c_bin (c_bin a2 rfl rfl rfl rfl) rfl rfl rfl (eq_int _ _)))
theorem na_ok {cl : Nat → Fn} (P : LaddP (cl 28)) {x0 : Option Sv} (l : Pr) (s : Row) (part k : Int) (h1 : l.2.natAbs < 2 ^ 80) (h2 : k.natAbs < 2 ^ 80) : nA cl (NF x0 (l :: s) part (f36 k)) = some (.next, NF x0 s part (f36 (l.2 + k))) := by
  have q := P (f36 l.2) (f36 k) _ _ (isFr _) (isFr _) (v_sd h1) (v_sd h2)
  rw [v_add] at q
  have hL : dsD (l :: s).reverse = dsD s.reverse ++ [.tuple [.int l.1, f36 l.2]] := by rw [List.reverse_cons, dsD_app]; rfl
  have p : mPop 1 (NF x0 (l :: s) part (f36 k)) = some (.val (.imm (.tuple [.int l.1, f36 l.2])), NF x0 s part (f36 k)) := by
    show (match (dsD (l :: s).reverse)[(dsD (l :: s).reverse).length - 1]? with | some d => some (PR.val (.imm d), [x0, some (.own false (dsD (l :: s).reverse).dropLast), ii part, some (.imm (f36 k))]) | none => none) = _
    rw [hL, List.dropLast_concat, show (dsD s.reverse ++ [PyData.tuple [.int l.1, f36 l.2]]).length - 1 = (dsD s.reverse).length by rw [List.length_append]; simp, List.getElem?_concat_length]
  unfold nA
  exact c_set (c_call (c_rval (c_bin p rfl rfl rfl rfl) rfl (c_rval rfl rfl rfl)) rfl rfl q rfl) rfl
theorem law_step {cl : Nat → Fn} (P : LaddP (cl 28)) {x0 : Option Sv} (s : Row) (p : Pr) (hs : lm s) (hp : p.2.natAbs < 2 ^ 80) (hl : s.length ≤ 800) : ∃ e, mSeq (mIfS nT (nA cl) mNext) nP (NF x0 s p.1 (f36 p.2)) = some (.next, NF x0 (pushS s p) p.1 e) := by
  cases s with
  | nil => exact ⟨f36 p.2, c_seq (c_ifF nt_nil c_skip) (np_ok [] p.1 p.2 (by decide))⟩
  | cons l s =>
    have t := nt_cons (x0 := x0) (part := p.1) (e := f36 p.2) l s
    by_cases h : l.1 = p.1
    · rw [show (l.1 == p.1) = true from beq_iff_eq.mpr h] at t
      refine ⟨f36 (l.2 + p.2), ?_⟩
      rw [push_cons, if_pos h]
      exact c_seq (c_ifT t (na_ok P l s p.1 p.2 (hs l (List.mem_cons_self ..)) hp)) (np_ok s p.1 (l.2 + p.2) (by simp only [List.length_cons] at hl; omega))
    · rw [show (l.1 == p.1) = false from beq_eq_false_iff_ne.mpr h] at t
      refine ⟨f36 p.2, ?_⟩
      rw [push_cons, if_neg h]
      exact c_seq (c_ifF t c_skip) (np_ok (l :: s) p.1 p.2 (by omega))
theorem law_loop {cl : Nat → Fn} (P : LaddP (cl 28)) {x0 : Option Sv} : ∀ (r s : Row) (x2 x3 : Option Sv), norm s + norm r < 2 ^ 80 → s.length + r.length ≤ 800 →
    ∃ y2 y3, loop (mGseq 2 (mGcons (mN 2) (mGcons (mN 3) mGnil))) (mSeq (mIfS nT (nA cl) mNext) nP) (dsD r) [x0, some (.own false (dsD s.reverse)), x2, x3] = some (.next, [x0, some (.own false (dsD (r.foldl pushS s).reverse)), y2, y3]) := by
  intro r
  induction r with
  | nil => intro s x2 x3 _ _; exact ⟨x2, x3, rfl⟩
  | cons p r ih =>
    intro s x2 x3 hn hl
    rw [norm_cons] at hn
    rw [List.length_cons] at hl
    obtain ⟨e, e1⟩ := law_step P (x0 := x0) s p (norm_lm (by omega)) (by omega) (by omega)
    have k1 := push_norm s p
    have k2 := push_len s p
    obtain ⟨y2, y3, e2⟩ := ih (pushS s p) (ii p.1) (some (.imm e)) (by omega) (by omega)
    exact ⟨y2, y3, c_cons (d := prD p) (ρ1 := NF x0 s p.1 (f36 p.2)) rfl e1 e2⟩
theorem law_normal {cl : Nat → Fn} (P : LaddP (cl 28)) {r : Row} (hn : norm r < 2 ^ 80) (hl : r.length ≤ 800) : fn32 cl [.imm (rowD r)] = some (.imm (rowD (nf r)), [none]) := by
  obtain ⟨y2, y3, e⟩ := law_loop P (x0 := some (.imm (rowD r))) r [] none none (by simpa [norm] using hn) (by simpa using hl)
  rw [normal_fn]
  exact c_fn (ρ0 := [some (.imm (rowD r)), none, none, none]) rfl rfl (c_seq (ρ1 := [some (.imm (rowD r)), some (.own false (dsD [].reverse)), none, none]) rfl (c_seq (c_for (ds := dsD r) (ρ1 := [some (.imm (rowD r)), some (.own false (dsD [].reverse)), none, none]) rfl e) (c_ret (c_un rfl rfl rfl) rfl))) rfl

/-- a comprehension that makes one value of each item -/
theorem c_cmap {α : Type} {mg : MG} {me : ME} {vs : List Nat} {ρ : Fm} (f g : α → D) : ∀ (l : List α), (∀ a ∈ l, ∃ ρ1 pr ρ3 ρ4, mg (f a) ρ = some ρ1 ∧ me ρ1 = some (pr, ρ3) ∧ frz ρ3 pr = some (g a, ρ4) ∧ wipeA ρ4 vs = ρ) → cloop mg mYes me vs (l.map f) ρ = some (l.map g, ρ)
  | [], _ => rfl
  | a :: l, h => by
    obtain ⟨ρ1, pr, ρ3, ρ4, h1, h2, h3, h4⟩ := h a (List.mem_cons_self ..)
    have ih := c_cmap f g l fun b hb => h b (List.mem_cons_of_mem _ hb)
    exact c_ccons (ρ2 := ρ1) h1 rfl h2 h3 (by rw [h4]; exact ih)
theorem v_neg (k : Int) : v36 (-k) = -(v36 k) := by unfold v36; rw [Rat.neg_mkRat]
theorem f_neg (k : Int) : f36 (-k) = .tuple [.int (-(v36 k).num), .int ((v36 k).den : Int)] := by
  unfold f36 fr
  rw [v_neg]; rfl

theorem v_inj {k l : Int} (h : v36 k = v36 l) : k = l := by
  unfold v36 at h
  rw [Rat.mkRat_eq_iff (by decide) (by decide)] at h
  omega
theorem v_ext {k l : Int} (h1 : (v36 k).num = (v36 l).num) (h2 : (v36 k).den = (v36 l).den) : k = l := v_inj (Rat.ext h1 h2)
theorem eqv_f36 (k l : Int) : PyData.eqv (f36 k) (f36 l) = decide (k = l) := by
  unfold f36 fr
  simp only [PyData.eqv, PyData.eqvAll, Bool.and_true]
  by_cases h : k = l
  · subst h; simp
  · rw [decide_eq_false h]
    cases h1 : ((v36 k).num == (v36 l).num) with
    | false => rfl
    | true =>
      cases h2 : (((v36 k).den : Int) == ((v36 l).den : Int)) with
      | false => rfl
      | true => exact absurd (v_ext (beq_iff_eq.mp h1) (by have := beq_iff_eq.mp h2; omega)) h
theorem eqv_pr (p q : Pr) : PyData.eqv (prD p) (prD q) = decide (p = q) := by
  have h := eqv_f36 p.2 q.2
  unfold prD
  simp only [PyData.eqv, PyData.eqvAll, h, Bool.and_true]
  obtain ⟨a, k⟩ := p
  obtain ⟨b, l⟩ := q
  simp only [Prod.mk.injEq, Bool.decide_and]
  congr 1
theorem eqv_ds : ∀ a b : Row, PyData.eqvAll (dsD a) (dsD b) = decide (a = b)
  | [], [] => by simp [dsD, PyData.eqvAll]
  | [], _ :: _ => by simp [dsD, PyData.eqvAll]
  | _ :: _, [] => by simp [dsD, PyData.eqvAll]
  | p :: a, q :: b => by
    have ih := eqv_ds a b
    have hp := eqv_pr p q
    show PyData.eqvAll (prD p :: dsD a) (prD q :: dsD b) = _
    rw [PyData.eqvAll, ih, hp]
    simp only [List.cons.injEq, Bool.decide_and]
theorem eq_row (a b : Row) : dEq (rowD a) (rowD b) = some (.imm (.bool (decide (a = b)))) := by
  unfold dEq rowD
  rw [ok_tup, ok_tup, PyData.eqv, eqv_ds]; rfl



end K46

namespace K46
open PySem Vi PyProof.Rows
theorem fits_of {n : Nat} (h : n ≤ 10000) : fits n = true := decide_eq_true (by unfold sizeLine; omega)
abbrev bx (a b c : Int) : List D := [.int a, .int b, .int c]
theorem mul_small {i j : Int} (h : -(2 ^ 64) < j ∧ j < 2 ^ 64) : mulOk i j = true := by
  unfold mulOk; rw [Bool.or_eq_true, Bool.or_eq_true]; exact .inl (.inr (decide_eq_true h))
theorem mul_small' {i j : Int} (h : -(2 ^ 64) < i ∧ i < 2 ^ 64) : mulOk i j = true := by
  unfold mulOk; rw [Bool.or_eq_true, Bool.or_eq_true]; exact .inl (.inl (decide_eq_true h))
theorem div_small {j : Int} (h : 0 < j) (h2 : j < 1000000000) : divOk j = true := decide_eq_true ⟨h, by
  have : j.natAbs.log2 < 64 := (Nat.log2_lt (by omega)).mpr (by omega)
  omega⟩
theorem at0 (a b c : Int) : L2.atI (bx a b c) 0 = some (.int a) := rfl
theorem at1 (a b c : Int) : L2.atI (bx a b c) 1 = some (.int b) := rfl
theorem at2 (a b c : Int) : L2.atI (bx a b c) 2 = some (.int c) := rfl
theorem take_ok {K : Nat} {a b c n : Int} (hn : 0 < n) (hn2 : n < 1000000) (hc : 0 ≤ c) (hc2 : c < 1000000) :
    ∃ v a' c' : Int, run (K + 1) 22 [.own true (bx a b c), .imm (.int n)] = some (.imm (.int v), [some (bx a' b c'), none]) ∧ 0 ≤ v ∧ v < n ∧ 0 ≤ c' ∧ c' ≤ c + 1 := by
  have i0 : L2.ixN 3 0 = some 0 := rfl
  have i2 : L2.ixN 3 2 = some 2 := rfl
  by_cases ha : 0 < a
  · refine ⟨a % n, a / n, c, ?_, Int.emod_nonneg _ (by omega), Int.emod_lt_of_pos _ hn, hc, by omega⟩
    have hd := div_small hn (by omega)
    show fn22 (run K) _ = _
    simp [fits_of, mFn, mSeq, mSet, put, take, frz, peek, mVar, mC, bin, un, mIfS, mNotT, mTru, mRet, mNext, mLst, mNil, mCons, mTup, mFor, mISeq, mN, mDrop, mApp, mCall, rVal, rNil, argsOf, slotsOf, nodupB, Vi.backTo, give, outsOf, Sv.toD, itemsOf, dTru, dIsi2, dIsi, tyN, isT, dTuple, dList, mGtup, mGcons, mGnil, mYes, mComp, mComp2, wipeA, restA, vsOk, dSort, dAdd, dIx, dLen, mIf, mB, dCmpI, dNeg, mAndT, mIEnum, mStore, rSlot, dInt, dMod, dMul, dDiv, dAbs, dPow, mSl, mPart, mNoPart, dCut, mOr, fn22, at0, ha, hn, hd, i0]
  · have key : ∃ z : Int, run (K + 1) 22 [.own true (bx a b c), .imm (.int n)] = some (.imm (.int (z % n)), [some (bx a b (c + 1)), none]) := by
      let once : Int := ((b + 48271 * (c + 1)) * (39373 + (c + 1))) % 2147483647
      let far : Int := once % 40009 + 7
      let again : Int := ((once + (c + 1) + b / 1000003) * far) % 2147483629
      refine ⟨((again * 48271 + once) % 2147483587) / 64, ?_⟩
      show fn22 (run K) _ = _
      have m1 : mulOk 48271 (c + 1) = true := mul_small' (by decide)
      have m2 : ∀ z : Int, mulOk z (39373 + (c + 1)) = true := fun z => mul_small (by omega)
      have m3 : ∀ z w : Int, mulOk z (w % 40009 + 7) = true := fun z w => mul_small (by have := Int.emod_nonneg w (show (40009 : Int) ≠ 0 by omega); have := Int.emod_lt_of_pos w (show (0 : Int) < 40009 by omega); omega)
      have m4 : ∀ z : Int, mulOk z 48271 = true := fun z => mul_small (by decide)
      have d1 : divOk 1000003 = true := rfl
      have d2 : divOk 64 = true := rfl
      simp [fits_of, mFn, mSeq, mSet, put, take, frz, peek, mVar, mC, bin, un, mIfS, mNotT, mTru, mRet, mNext, mLst, mNil, mCons, mTup, mFor, mISeq, mN, mDrop, mApp, mCall, rVal, rNil, argsOf, slotsOf, nodupB, Vi.backTo, give, outsOf, Sv.toD, itemsOf, dTru, dIsi2, dIsi, tyN, isT, dTuple, dList, mGtup, mGcons, mGnil, mYes, mComp, mComp2, wipeA, restA, vsOk, dSort, dAdd, dIx, dLen, mIf, mB, dCmpI, dNeg, mAndT, mIEnum, mStore, rSlot, dInt, dMod, dMul, dDiv, dAbs, dPow, mSl, mPart, mNoPart, dCut, mOr, fn22, at0, at1, at2, ha, hn, i2, m1, m2, m3, m4, d1, d2, once, far, again]
    obtain ⟨z, e⟩ := key
    exact ⟨z % n, a, c + 1, e, Int.emod_nonneg _ (by omega), Int.emod_lt_of_pos _ hn, by omega, by omega⟩
def TakeP (f : Fn) (b : Int) : Prop := ∀ a c n : Int, 0 < n → n < 1000000 → 0 ≤ c → c < 1000000 → ∃ v a' c' : Int, f [.own true (bx a b c), .imm (.int n)] = some (.imm (.int v), [some (bx a' b c'), none]) ∧ 0 ≤ v ∧ v < n ∧ 0 ≤ c' ∧ c' ≤ c + 1
theorem take_P (K : Nat) (b : Int) : TakeP (run (K + 1) 22) b := fun a c n h1 h2 h3 h4 => take_ok h1 h2 h3 h4


theorem cut_to (L : List D) (k : Nat) (h : k ≤ L.length) : Vi.cutD L none (some (k : Int)) = L.take k := by
  unfold Vi.cutD
  rw [HT.sIx_nat, HT.sIx_none, Nat.min_eq_left h, List.drop_zero, Nat.sub_zero]
theorem cut_off (L : List D) (k : Nat) (h : k ≤ L.length) : Vi.cutD L (some (k : Int)) none = L.drop k := by
  unfold Vi.cutD
  rw [HT.sIx_nat, HT.sIx_none, Nat.min_eq_left h, List.take_of_length_le (by simp [fits_of, mFn, mSeq, mSet, put, take, frz, peek, mVar, mC, bin, un, mIfS, mNotT, mTru, mRet, mNext, mLst, mNil, mCons, mTup, mFor, mISeq, mN, mDrop, mApp, mCall, rVal, rNil, argsOf, slotsOf, nodupB, Vi.backTo, give, outsOf, Sv.toD, itemsOf, dTru, dIsi2, dIsi, tyN, isT, dTuple, dList, mGtup, mGcons, mGnil, mYes, mComp, mComp2, wipeA, restA, vsOk, dSort, dAdd, dIx, dLen, mIf, mB, dCmpI, dNeg, mAndT, mIEnum, mStore, rSlot, dInt, dMod, dMul, dDiv, dAbs, dPow, mSl, mPart, mNoPart, dCut, mOr])]

theorem fold_len : ∀ (r s : Row), (r.foldl pushS s).length ≤ s.length + r.length
  | [], s => by simp [fits_of, mFn, mSeq, mSet, put, take, frz, peek, mVar, mC, bin, un, mIfS, mNotT, mTru, mRet, mNext, mLst, mNil, mCons, mTup, mFor, mISeq, mN, mDrop, mApp, mCall, rVal, rNil, argsOf, slotsOf, nodupB, Vi.backTo, give, outsOf, Sv.toD, itemsOf, dTru, dIsi2, dIsi, tyN, isT, dTuple, dList, mGtup, mGcons, mGnil, mYes, mComp, mComp2, wipeA, restA, vsOk, dSort, dAdd, dIx, dLen, mIf, mB, dCmpI, dNeg, mAndT, mIEnum, mStore, rSlot, dInt, dMod, dMul, dDiv, dAbs, dPow, mSl, mPart, mNoPart, dCut, mOr]
  | p :: r, s => by
    have h1 := fold_len r (pushS s p)
    have h2 := push_len s p
    rw [List.foldl_cons, List.length_cons]; omega
theorem nf_len (r : Row) : (nf r).length ≤ r.length := by
  unfold nf nfS
  have := fold_len r []
  rw [List.length_reverse]
  simpa using this

theorem norm_app (a b : Row) : norm (a ++ b) = norm a + norm b := by unfold norm; rw [List.map_append, List.sum_append]
theorem norm_take (r : Row) (k : Nat) : norm (r.take k) + norm (r.drop k) = norm r := by rw [← norm_app, List.take_append_drop]
theorem norm_rev (r : Row) : norm r.reverse = norm r := by unfold norm; rw [List.map_reverse, List.sum_reverse]
theorem ds_tk (r : Row) (k : Nat) : (dsD r).take k = dsD (r.take k) := by unfold dsD; rw [List.map_take]
theorem ds_dp (r : Row) (k : Nat) : (dsD r).drop k = dsD (r.drop k) := by unfold dsD; rw [List.map_drop]
theorem add_rows (a b : Row) (h : a.length + b.length ≤ 9000) : dAdd (.tuple (dsD a)) (.tuple (dsD b)) = some (.imm (.tuple (dsD (a ++ b)))) := by
  rw [c_addT (by rw [dsD_len, dsD_len]; omega), dsD_app]
/-- the frame of _law_near -/

theorem c_store {i : Nat} {mk me : ME} {ρ ρ1 ρ2 ρ3 : Fm} {pr pk : PR} {d : D} {b b1 : Bool} {ds ds1 : List D} {k : Int} {j : Nat} (h1 : me ρ = some (pr, ρ1)) (h2 : frz ρ1 pr = some (d, ρ2)) (h3 : ρ2[i]? = some (some (.own b1 ds1))) (h4 : mk ρ2 = some (pk, ρ3)) (h5 : peek ρ3 pk = some (.int k)) (h6 : ρ3[i]? = some (some (.own b ds))) (h7 : L2.ixN ds.length k = some j) : mStore i mk me ρ = some (.next, ρ3.set i (some (.own b (ds.set j d)))) := by
  unfold mStore
  rw [h1]
  simp only [h2, h3, h4, h5, h6, h7]

theorem c_rslot {i : Nat} {mr : MR} {ρ ρ1 : Fm} {b : Bool} {ds : List D} {as : List AR} (h : ρ[i]? = some (some (.own b ds))) (h2 : mr ρ = some (as, ρ1)) : rSlot i mr ρ = some (.s i :: as, ρ1) := by
  unfold rSlot
  rw [h]
  simp only [h2]




end K46

namespace K46
open PySem Vi PyProof.Rows
def smD : Nat → D → Bool
  | 0, .int _ => true
  | 0, .bool _ => true
  | k + 1, .list xs => decide (xs.length ≤ 10000) && xs.all (smD k)
  | k + 1, .tuple xs => decide (xs.length ≤ 10000) && xs.all (smD k)
  | k + 1, .int _ => true
  | k + 1, .bool _ => true
  | _, _ => false
def cSa (cl : Nat → Fn) : ME := mCall (cl 26) (rVal (mVar 2) (rVal (mVar 3) rNil))
theorem zip_self : ∀ ds : List D, zipD ds ds = ds.map fun d => .tuple [d, d]
  | [] => rfl
  | d :: ds => by rw [zipD, zip_self ds]; rfl
theorem cloop_same {cl : Nat → Fn} : ∀ (ds : List D) (g d : Option Sv), (∀ x ∈ ds, cl 26 [.imm x, .imm x] = some (.imm (.bool true), [none, none])) →
    cloop (mGtup 2 (mGcons (mN 2) (mGcons (mN 3) mGnil))) mYes (cSa cl) [2, 3] (ds.map fun d => .tuple [d, d]) [g, d, none, none] = some (ds.map fun _ => .bool true, [g, d, none, none])
  | [], _, _, _ => rfl
  | x :: ds, g, d, h => by
    have h0 := h x (List.mem_cons_self ..)
    have ih := cloop_same ds g d fun y hy => h y (List.mem_cons_of_mem _ hy)
    unfold cSa at ih ⊢
    simp [fits_of, mFn, mSeq, mSet, put, take, frz, peek, mVar, mC, bin, un, mIfS, mNotT, mTru, mRet, mNext, mLst, mNil, mCons, mTup, mFor, mISeq, mN, mDrop, mApp, mCall, rVal, rNil, argsOf, slotsOf, nodupB, Vi.backTo, give, outsOf, Sv.toD, itemsOf, dTru, dIsi2, dIsi, tyN, isT, dTuple, dList, mGtup, mGcons, mGnil, mYes, mComp, mComp2, wipeA, restA, vsOk, dSort, dAdd, dIx, dLen, mIf, mB, dCmpI, dNeg, mAndT, mIEnum, cloop, h0, ih]
theorem bools_true : ∀ ds : List D, boolsOf (ds.map fun _ => .bool true) = some (ds.map fun _ => true)
  | [] => rfl
  | d :: ds => by rw [List.map_cons, boolsOf, bools_true ds]; rfl
theorem okD_bool (b : Bool) : okD (.bool b) = true := rfl
theorem eqv_bool (a b : Bool) : PyData.eqv (.bool a) (.bool b) = (a == b) := by rw [PyData.eqv]
theorem all_true (ds : List D) : dAll (.list (ds.map fun _ => .bool true)) = some (.imm (.bool true)) := by
  show (boolsOf (ds.map fun _ => .bool true)).map _ = _
  rw [bools_true]
  simp [fits_of, mFn, mSeq, mSet, put, take, frz, peek, mVar, mC, bin, un, mIfS, mNotT, mTru, mRet, mNext, mLst, mNil, mCons, mTup, mFor, mISeq, mN, mDrop, mApp, mCall, rVal, rNil, argsOf, slotsOf, nodupB, Vi.backTo, give, outsOf, Sv.toD, itemsOf, dTru, dIsi2, dIsi, tyN, isT, dTuple, dList, mGtup, mGcons, mGnil, mYes, mComp, mComp2, wipeA, restA, vsOk, dSort, dAdd, dIx, dLen, mIf, mB, dCmpI, dNeg, mAndT, mIEnum]
theorem same_int {K : Nat} (i : Int) : run (K + 1) 26 [.imm (.int i), .imm (.int i)] = some (.imm (.bool true), [none, none]) := by
  rw [rs26]
  simp [fits_of, mFn, mSeq, mSet, put, take, frz, peek, mVar, mC, bin, un, mIfS, mNotT, mTru, mRet, mNext, mLst, mNil, mCons, mTup, mFor, mISeq, mN, mDrop, mApp, mCall, rVal, rNil, argsOf, slotsOf, nodupB, Vi.backTo, give, outsOf, Sv.toD, itemsOf, dTru, dIsi2, dIsi, tyN, isT, dTuple, dList, mGtup, mGcons, mGnil, mYes, mComp, mComp2, wipeA, restA, vsOk, dSort, dAdd, dIx, dLen, mIf, mB, dCmpI, dNeg, mAndT, mIEnum, fn26, mOrT, dIs, isNon, dEq, okD_int, eqv_int, mAnd, dNot]
theorem same_bool {K : Nat} (b : Bool) : run (K + 1) 26 [.imm (.bool b), .imm (.bool b)] = some (.imm (.bool true), [none, none]) := by
  cases b <;> kernel_rfl
theorem same_ok : ∀ (k : Nat) (d : D), smD k d = true → run (k + 1) 26 [.imm d, .imm d] = some (.imm (.bool true), [none, none])
  | 0, .int i, _ => same_int i
  | k + 1, .int i, _ => same_int i
  | 0, .bool i, _ => same_bool i
  | k + 1, .bool i, _ => same_bool i
  | k + 1, .list xs, h => by
    unfold smD at h
    simp only [Bool.and_eq_true, decide_eq_true_eq, List.all_eq_true] at h
    have e := cloop_same (cl := run (k + 1)) xs (some (.imm (.list xs))) (some (.imm (.list xs))) fun x hx => same_ok k x (h.2 x hx)
    have hf : fits xs.length = true := fits_of h.1
    have hz := zip_self xs
    rw [rs26]
    unfold cSa at e
    try simp [fits_of, mFn, mSeq, mSet, put, take, frz, peek, mVar, mC, bin, un, mIfS, mNotT, mTru, mRet, mNext, mLst, mNil, mCons, mTup, mFor, mISeq, mN, mDrop, mApp, mCall, rVal, rNil, argsOf, slotsOf, nodupB, Vi.backTo, give, outsOf, Sv.toD, itemsOf, dTru, dIsi2, dIsi, tyN, isT, dTuple, dList, mGtup, mGcons, mGnil, mYes, mComp, mComp2, wipeA, restA, vsOk, dSort, dAdd, dIx, dLen, mIf, mB, dCmpI, dNeg, mAndT, mIEnum] at e
    simp [fits_of, mFn, mSeq, mSet, put, take, frz, peek, mVar, mC, bin, un, mIfS, mNotT, mTru, mRet, mNext, mLst, mNil, mCons, mTup, mFor, mISeq, mN, mDrop, mApp, mCall, rVal, rNil, argsOf, slotsOf, nodupB, Vi.backTo, give, outsOf, Sv.toD, itemsOf, dTru, dIsi2, dIsi, tyN, isT, dTuple, dList, mGtup, mGcons, mGnil, mYes, mComp, mComp2, wipeA, restA, vsOk, dSort, dAdd, dIx, dLen, mIf, mB, dCmpI, dNeg, mAndT, mIEnum, fn26, mOrT, dEq, dNe, okD_int, eqv_int, okD_bool, eqv_bool, mAnd, mIZip, hz, e, hf, all_true]
  | k + 1, .tuple xs, h => by
    unfold smD at h
    simp only [Bool.and_eq_true, decide_eq_true_eq, List.all_eq_true] at h
    have e := cloop_same (cl := run (k + 1)) xs (some (.imm (.tuple xs))) (some (.imm (.tuple xs))) fun x hx => same_ok k x (h.2 x hx)
    have hf : fits xs.length = true := fits_of h.1
    have hz := zip_self xs
    rw [rs26]
    unfold cSa at e
    try simp [fits_of, mFn, mSeq, mSet, put, take, frz, peek, mVar, mC, bin, un, mIfS, mNotT, mTru, mRet, mNext, mLst, mNil, mCons, mTup, mFor, mISeq, mN, mDrop, mApp, mCall, rVal, rNil, argsOf, slotsOf, nodupB, Vi.backTo, give, outsOf, Sv.toD, itemsOf, dTru, dIsi2, dIsi, tyN, isT, dTuple, dList, mGtup, mGcons, mGnil, mYes, mComp, mComp2, wipeA, restA, vsOk, dSort, dAdd, dIx, dLen, mIf, mB, dCmpI, dNeg, mAndT, mIEnum] at e
    simp [fits_of, mFn, mSeq, mSet, put, take, frz, peek, mVar, mC, bin, un, mIfS, mNotT, mTru, mRet, mNext, mLst, mNil, mCons, mTup, mFor, mISeq, mN, mDrop, mApp, mCall, rVal, rNil, argsOf, slotsOf, nodupB, Vi.backTo, give, outsOf, Sv.toD, itemsOf, dTru, dIsi2, dIsi, tyN, isT, dTuple, dList, mGtup, mGcons, mGnil, mYes, mComp, mComp2, wipeA, restA, vsOk, dSort, dAdd, dIx, dLen, mIf, mB, dCmpI, dNeg, mAndT, mIEnum, fn26, mOrT, dEq, dNe, okD_int, eqv_int, okD_bool, eqv_bool, mAnd, mIZip, hz, e, hf, all_true]


theorem same_non {K : Nat} : run (K + 1) 26 [.imm .none, .imm .none] = some (.imm (.bool true), [none, none]) := by kernel_rfl
theorem same_lst (k : Nat) (xs : List D) (hl : xs.length ≤ 10000) (h : ∀ x ∈ xs, run (k + 1) 26 [.imm x, .imm x] = some (.imm (.bool true), [none, none])) : run (k + 1 + 1) 26 [.imm (.list xs), .imm (.list xs)] = some (.imm (.bool true), [none, none]) := by
  have e := cloop_same (cl := run (k + 1)) xs (some (.imm (.list xs))) (some (.imm (.list xs))) h
  have hf : fits xs.length = true := fits_of hl
  have hz := zip_self xs
  rw [rs26]
  unfold cSa at e
  try simp [fits_of, mFn, mSeq, mSet, put, take, frz, peek, mVar, mC, bin, un, mIfS, mNotT, mTru, mRet, mNext, mLst, mNil, mCons, mTup, mFor, mISeq, mN, mDrop, mApp, mCall, rVal, rNil, argsOf, slotsOf, nodupB, Vi.backTo, give, outsOf, Sv.toD, itemsOf, dTru, dIsi2, dIsi, tyN, isT, dTuple, dList, mGtup, mGcons, mGnil, mYes, mComp, mComp2, wipeA, restA, vsOk, dSort, dAdd, dIx, dLen, mIf, mB, dCmpI, dNeg, mAndT, mIEnum] at e
  simp [fits_of, mFn, mSeq, mSet, put, take, frz, peek, mVar, mC, bin, un, mIfS, mNotT, mTru, mRet, mNext, mLst, mNil, mCons, mTup, mFor, mISeq, mN, mDrop, mApp, mCall, rVal, rNil, argsOf, slotsOf, nodupB, Vi.backTo, give, outsOf, Sv.toD, itemsOf, dTru, dIsi2, dIsi, tyN, isT, dTuple, dList, mGtup, mGcons, mGnil, mYes, mComp, mComp2, wipeA, restA, vsOk, dSort, dAdd, dIx, dLen, mIf, mB, dCmpI, dNeg, mAndT, mIEnum, fn26, mOrT, dEq, dNe, okD_int, eqv_int, okD_bool, eqv_bool, mAnd, mIZip, hz, e, hf, all_true]


end K46

namespace K46
open PySem Vi PyProof.Rows
def PlusP (f : Fn) : Prop := ∀ (d e : D) (q r : Rat), IsFr d q → IsFr e r → Sm q → Sm r → f [.imm d, .imm e] = some (.imm (fr (q + r)), [none, none])

theorem i_frac (K : Nat) : FracP (run (K + 1) 5) := fun a b h1 h2 => by rw [rs5]; exact fraction_ok a b h1 h2
theorem i_plus (K : Nat) : PlusP (run (K + 2) 7) := fun d e q r h1 h2 h3 h4 => by rw [rs7]; exact plus_ok (i_frac K) h1 h2 h3 h4


theorem i_tog (K : Nat) : TogP (run (K + 1) 12) := fun a b => by rw [rs12]; exact together_ok a b

theorem i_sh (K : Nat) : ShP (run (K + 2)) :=
  ⟨fun k => by rw [rs13]; exact place_nil k, fun ds j e k h => by rw [rs13]; exact place_last (i_tog K) ds j e k h, fun d e q r h1 h2 h3 h4 => i_plus K d e q r h1 h2 h3 h4⟩
theorem i_short (K : Nat) {d : D} {ds : List D} {r : Row} (hd : itemsOf d = some ds) (hr : IsPrs ds r) (hn : norm r < 2 ^ 80) (hl : r.length ≤ 800) : run (K + 3) 14 [.imm d, .imm (.tuple [])] = some (.own false (dsD (nf r)), [none, none]) := by
  rw [rs14]; exact short_ok (i_sh K) hd hr hn hl
theorem i_normal (K : Nat) {d : D} {ds : List D} {r : Row} (hd : itemsOf d = some ds) (hr : IsPrs ds r) (hn : norm r < 2 ^ 80) (hl : r.length ≤ 800) : run (K + 4) 15 [.imm d] = some (.imm (rowD (nf r)), [none]) := by
  rw [rs15]; exact normal_ok (i_short K hd hr hn hl)
theorem i_norm (K : Nat) {r : Row} (hn : norm r < 2 ^ 80) (hl : r.length ≤ 800) : run (K + 4) 15 [.imm (rowD r)] = some (.imm (rowD (nf r)), [none]) := i_normal K rfl (isPrs r) hn hl
theorem i_low (K : Nat) : LowP (run (K + 1) 27) := fun a b h1 h2 => by rw [rs27]; exact low_ok a b h1 h2
theorem i_ladd (K : Nat) : LaddP (run (K + 2) 28) := fun d e q r h1 h2 h3 h4 => by rw [rs28]; exact ladd_ok (i_low K) h1 h2 h3 h4

theorem i_own (K : Nat) {r : Row} (hn : norm r < 2 ^ 80) (hl : r.length ≤ 800) : run (K + 3) 32 [.imm (rowD r)] = some (.imm (rowD (nf r)), [none]) := by rw [rs32]; exact law_normal (i_ladd K) hn hl


theorem push_full {s : Row} {p : Pr} (h : (pushS s p).length = s.length + 1) : pushS s p = p :: s := by
  cases s with
  | nil =>
    rw [push_nil] at h ⊢
    by_cases hz : p.2 = 0
    · rw [if_pos hz] at h; simp at h
    · rw [if_neg hz]
  | cons l s =>
    rw [push_cons] at h ⊢
    by_cases he : l.1 = p.1
    · rw [if_pos he] at h
      by_cases hz : l.2 + p.2 = 0
      · rw [if_pos hz] at h; simp only [List.length_cons] at h; omega
      · rw [if_neg hz] at h; simp only [List.length_cons] at h; omega
    · rw [if_neg he] at h ⊢
      by_cases hz : p.2 = 0
      · rw [if_pos hz] at h; simp only [List.length_cons] at h; omega
      · rw [if_neg hz]
theorem fold_full : ∀ (r s : Row), (r.foldl pushS s).length = s.length + r.length → r.foldl pushS s = r.reverse ++ s
  | [], _, _ => rfl
  | p :: r, s, h => by
    rw [List.foldl_cons, List.length_cons] at h
    have h1 := fold_len r (pushS s p)
    have h2 := push_len s p
    have h3 := push_full (s := s) (p := p) (by omega)
    rw [List.foldl_cons]
    rw [h3] at h ⊢
    rw [fold_full r (p :: s) (by rw [h, List.length_cons]; omega), List.reverse_cons, List.append_assoc]; rfl
theorem nf_full {r : Row} (h : (nf r).length = r.length) : nf r = r := by
  unfold nf nfS at h ⊢
  rw [List.length_reverse] at h
  rw [fold_full r [] (by rw [h]; simp), List.append_nil, List.reverse_reverse]
theorem inv_len (r : Row) : (inv r).length = r.length := by unfold inv; rw [List.length_map, List.length_reverse]
theorem nf_inv (r : Row) : nf (inv r) = inv (nf r) := by
  have h1 : nf (inv r) = nf (inv (nf r)) := same_inv.mpr (nf_nf r).symm
  have h2 : nf (inv (nf (inv (nf r)))) = nf r := by
    have h3 : nf (inv (nf (inv (nf r)))) = nf (inv (inv (nf r))) := same_inv.mpr (nf_nf _)
    rw [h3, inv_inv, nf_nf]
  have h4 := nf_len (inv (nf (inv (nf r))))
  rw [h2, inv_len] at h4
  have h5 := nf_len (inv (nf r))
  rw [inv_len] at h5
  rw [h1]
  exact nf_full (by rw [inv_len]; omega)
theorem norm_fold : ∀ (r s : Row), norm (r.foldl pushS s) ≤ norm s + norm r
  | [], s => by simp [norm]
  | p :: r, s => by
    have h1 := norm_fold r (pushS s p)
    have h2 := push_norm s p
    rw [List.foldl_cons, norm_cons]; omega
theorem norm_nf (r : Row) : norm (nf r) ≤ norm r := by
  unfold nf nfS
  rw [norm_rev]
  have := norm_fold r []
  simp only [norm, List.map_nil, List.sum_nil, Nat.zero_add] at this
  exact this
theorem norm_inv (r : Row) : norm (inv r) = norm r := by
  unfold inv norm
  rw [List.map_map, List.map_reverse, List.sum_reverse]
  congr 1
  refine List.map_congr_left fun p _ => ?_
  exact Int.natAbs_neg p.2

theorem norm_le {m : Nat} : ∀ {r : Row}, (∀ p ∈ r, p.2.natAbs ≤ m) → norm r ≤ r.length * m
  | [], _ => by simp [norm]
  | p :: r, h => by
    have h1 := norm_le fun q hq => h q (List.mem_cons_of_mem _ hq)
    have h2 := h p (List.mem_cons_self ..)
    rw [norm_cons, List.length_cons, Nat.add_mul]; omega

def EV (me : ME) (ρ : Fm) (d : D) : Prop := ∃ pr, me ρ = some (pr, ρ) ∧ frz ρ pr = some (d, ρ) ∧ peek ρ pr = some d
theorem ev_val {me : ME} {ρ : Fm} {d : D} (h : me ρ = some (.val (.imm d), ρ)) : EV me ρ d := ⟨_, h, rfl, rfl⟩
theorem ev_own {me : ME} {ρ : Fm} {ds : List D} {b : Bool} (h : me ρ = some (.val (.own b ds), ρ)) : EV me ρ (.list ds) := ⟨_, h, rfl, rfl⟩
theorem ev_var {ρ : Fm} {i : Nat} {d : D} (h : ρ[i]? = some (some (.imm d))) : EV (mVar i) ρ d := by
  refine ⟨.slot i, ?_, ?_, ?_⟩
  · unfold mVar; rw [h]
  · unfold frz; simp only [h]
  · unfold peek; simp only [h]; rfl
theorem ev_c {ρ : Fm} {d : D} : EV (mC d) ρ d := ev_val rfl
theorem v_call1 {me : ME} {ρ : Fm} {d : D} {r : Sv} {f : Fn} (h : EV me ρ d) (e : f [.imm d] = some (r, [none])) : mCall f (rVal me rNil) ρ = some (.val r, ρ) := by
  obtain ⟨pr, h1, h2, _⟩ := h
  exact c_call (c_rval h1 h2 rfl) rfl rfl e rfl
theorem v_call2 {me mf : ME} {ρ : Fm} {d e : D} {r : Sv} {f : Fn} (h : EV me ρ d) (k : EV mf ρ e) (q : f [.imm d, .imm e] = some (r, [none, none])) : mCall f (rVal me (rVal mf rNil)) ρ = some (.val r, ρ) := by
  obtain ⟨pr, h1, h2, _⟩ := h
  obtain ⟨ps, k1, k2, _⟩ := k
  exact c_call (c_rval h1 h2 (c_rval k1 k2 rfl)) rfl rfl q rfl
theorem v_call3 {me mf mg : ME} {ρ : Fm} {d e g : D} {r : Sv} {f : Fn} (h : EV me ρ d) (k : EV mf ρ e) (l : EV mg ρ g) (q : f [.imm d, .imm e, .imm g] = some (r, [none, none, none])) : mCall f (rVal me (rVal mf (rVal mg rNil))) ρ = some (.val r, ρ) := by
  obtain ⟨pr, h1, h2, _⟩ := h
  obtain ⟨ps, k1, k2, _⟩ := k
  obtain ⟨pt, l1, l2, _⟩ := l
  exact c_call (c_rval h1 h2 (c_rval k1 k2 (c_rval l1 l2 rfl))) rfl rfl q rfl
theorem e_call1 {me : ME} {ρ : Fm} {d r : D} {f : Fn} (h : EV me ρ d) (e : f [.imm d] = some (.imm r, [none])) : EV (mCall f (rVal me rNil)) ρ r := ev_val (v_call1 h e)
theorem e_call2 {me mf : ME} {ρ : Fm} {d e r : D} {f : Fn} (h : EV me ρ d) (k : EV mf ρ e) (q : f [.imm d, .imm e] = some (.imm r, [none, none])) : EV (mCall f (rVal me (rVal mf rNil))) ρ r := ev_val (v_call2 h k q)
theorem e_call3 {me mf mg : ME} {ρ : Fm} {d e g r : D} {f : Fn} (h : EV me ρ d) (k : EV mf ρ e) (l : EV mg ρ g) (q : f [.imm d, .imm e, .imm g] = some (.imm r, [none, none, none])) : EV (mCall f (rVal me (rVal mf (rVal mg rNil)))) ρ r := ev_val (v_call3 h k l q)
def EA (ma : MA) (ρ : Fm) (ds : List D) : Prop := ma ρ = some (ds, ρ)
theorem ea_nil {ρ : Fm} : EA mNil ρ [] := rfl
theorem ea_cons {me : ME} {ma : MA} {ρ : Fm} {d : D} {ds : List D} (h : EV me ρ d) (k : EA ma ρ ds) : EA (mCons me ma) ρ (d :: ds) := by
  obtain ⟨pr, h1, h2, _⟩ := h
  exact c_acons h1 h2 k
theorem v_lst {ma : MA} {ρ : Fm} {ds : List D} (h : EA ma ρ ds) (hl : ds.length ≤ 10000) : mLst ma ρ = some (.val (.own false ds), ρ) := c_lst h (c_fits hl)
theorem e_tup {ma : MA} {ρ : Fm} {ds : List D} (h : EA ma ρ ds) (hl : ds.length ≤ 10000) : EV (mTup ma) ρ (.tuple ds) := ev_val (c_tup h (c_fits hl))
theorem e_bin {f : D → D → Option Sv} {ma mb : ME} {ρ : Fm} {d e r : D} (h : EV ma ρ d) (k : EV mb ρ e) (q : f d e = some (.imm r)) : EV (bin f ma mb) ρ r := by
  obtain ⟨pr, h1, _, h3⟩ := h
  obtain ⟨ps, k1, _, k3⟩ := k
  exact ev_val (c_bin h1 k1 h3 k3 q)
theorem e_un {f : D → Option Sv} {ma : ME} {ρ : Fm} {d r : D} (h : EV ma ρ d) (q : f d = some (.imm r)) : EV (un f ma) ρ r := by
  obtain ⟨pr, h1, _, h3⟩ := h
  exact ev_val (c_un h1 h3 q)
/-- an own list grows -/
theorem s_grow {i : Nat} {me : ME} {ρ : Fm} {b : Bool} {b2 : Bool} {ds es : List D} (h0 : ρ[i]? = some (some (.own b ds))) (h : me ρ = some (.val (.own b2 es), ρ)) (hl : ds.length + es.length ≤ 10000) : mSet i (bin dAdd (mVar i) me) ρ = some (.next, ρ.set i (some (.own false (ds ++ es)))) := by
  have hv : mVar i ρ = some (.slot i, ρ) := by unfold mVar; rw [h0]
  have hp : peek ρ (.slot i) = some (.list ds) := by unfold peek; simp only [h0]; rfl
  exact c_set (c_bin hv h hp rfl (c_addL hl)) rfl
theorem e_grow {i : Nat} {me : ME} {ρ : Fm} {b : Bool} {b2 : Bool} {ds es : List D} (h0 : ρ[i]? = some (some (.own b ds))) (h : me ρ = some (.val (.own b2 es), ρ)) (hl : ds.length + es.length ≤ 10000) : bin dAdd (mVar i) me ρ = some (.val (.own false (ds ++ es)), ρ) := by
  have hv : mVar i ρ = some (.slot i, ρ) := by unfold mVar; rw [h0]
  have hp : peek ρ (.slot i) = some (.list ds) := by unfold peek; simp only [h0]; rfl
  exact c_bin hv h hp rfl (c_addL hl)
theorem v_rep {ma : MA} {ρ : Fm} {d : D} {k : Nat} (h : EA ma ρ [d]) (hk : k ≤ 1000) : mRep (mLst ma) (mC (.int (k : Int))) ρ = some (.val (.own false (List.replicate k d)), ρ) := by
  have h1 := v_lst h (by simp)
  have hd : decide (-(2 ^ 63) ≤ (k : Int) ∧ (k : Int) < 2 ^ 63 ∧ ([d] : List D).length * ((k : Int)).toNat ≤ sizeLine) = true := decide_eq_true ⟨by omega, by omega, by rw [Int.toNat_natCast]; simp [sizeLine]; omega⟩
  have hf : ∀ n : Nat, (List.replicate n [d]).flatten = List.replicate n d := fun n => by
    induction n with
    | zero => rfl
    | succ n ih => rw [List.replicate_succ, List.flatten_cons, ih]; rfl
  unfold mRep
  rw [h1]
  show (if decide (-(2 ^ 63) ≤ (k : Int) ∧ (k : Int) < 2 ^ 63 ∧ ([d] : List D).length * ((k : Int)).toNat ≤ sizeLine) = true then some (PR.val (Sv.own false (List.replicate ((k : Int)).toNat [d]).flatten), ρ) else none) = _
  rw [if_pos hd, Int.toNat_natCast, hf]

theorem sm_int (k : Nat) (i : Int) : smD k (.int i) = true := by cases k <;> rfl
theorem sm_bool (k : Nat) (i : Bool) : smD k (.bool i) = true := by cases k <;> rfl
theorem sm_f36 (k : Nat) (i : Int) : smD (k + 1) (f36 i) = true := by
  simp [smD, f36, fr, sm_int]
theorem sm_pr (k : Nat) (p : Pr) : smD (k + 2) (prD p) = true := by
  simp [smD, prD, f36, fr, sm_int]
theorem sm_row (k : Nat) {r : Row} (hl : r.length ≤ 9000) : smD (k + 3) (rowD r) = true := by
  have h : ∀ x ∈ dsD r, smD (k + 2) x = true := fun x hx => by
    unfold dsD at hx
    obtain ⟨p, _, rfl⟩ := List.mem_map.mp hx
    exact sm_pr k p
  unfold rowD smD
  rw [dsD_len]
  simp only [Bool.and_eq_true, decide_eq_true_eq, List.all_eq_true]
  exact ⟨by omega, h⟩

theorem v_bin {f : D → D → Option Sv} {ma mb : ME} {ρ : Fm} {d e : D} {r : Sv} (h : EV ma ρ d) (k : EV mb ρ e) (q : f d e = some r) : bin f ma mb ρ = some (.val r, ρ) := by
  obtain ⟨pr, h1, _, h3⟩ := h
  obtain ⟨ps, k1, _, k3⟩ := k
  exact c_bin h1 k1 h3 k3 q




end K46

namespace K46
open PySem Vi PyProof.Rows
theorem t_num {me : ME} {ρ : Fm} {i : Int} (h : EV me ρ (.int i)) : mTru me ρ = some (i != 0, ρ) := by
  obtain ⟨pr, h1, _, h3⟩ := h
  exact c_tru h1 h3 rfl

theorem c_orTT {a b : MT} {ρ ρ1 : Fm} (h : a ρ = some (true, ρ1)) : mOrT a b ρ = some (true, ρ1) := by unfold mOrT; rw [h]
theorem c_orTF {a b : MT} {ρ ρ1 : Fm} {x : Option (Bool × Fm)} (h : a ρ = some (false, ρ1)) (h2 : b ρ1 = x) : mOrT a b ρ = x := by unfold mOrT; rw [h]; exact h2
theorem t_call {me : ME} {ρ : Fm} {b : Bool} (h : me ρ = some (.val (.imm (.bool b)), ρ)) : mNotT (mTru me) ρ = some (!b, ρ) := c_not (c_tru h rfl (by cases b <;> rfl))
theorem t_tru {me : ME} {ρ : Fm} {b : Bool} (h : me ρ = some (.val (.imm (.bool b)), ρ)) : mTru me ρ = some (b, ρ) := c_tru h rfl (by cases b <;> rfl)
theorem ix_0 {x y : D} : dIx (.tuple [x, y]) (.int 0) = some (.imm x) := rfl
theorem ix_1 {x y : D} : dIx (.tuple [x, y]) (.int 1) = some (.imm y) := rfl

/-! what is drawn -/
def OfP (f : Fn) (b : Int) : Prop := ∀ (ds : List D) (a c : Int), 0 < ds.length → ds.length ≤ 1000 → 0 ≤ c → c < 900000 → ∃ (n : Nat) (d : D) (a' c' : Int), ds[n]? = some d ∧ f [.own true (bx a b c), .imm (.list ds)] = some (.imm d, [some (bx a' b c'), none]) ∧ 0 ≤ c' ∧ c' ≤ c + 1
theorem of_ok {cl : Nat → Fn} {b : Int} (T : TakeP (cl 22) b) : OfP (fn24 cl) b := fun ds a c h1 h2 h3 h4 => by
  have hlen : dLen (.list ds) = some (.imm (.int (ds.length : Int))) := rfl
  obtain ⟨v, a', c', e, v1, v2, c1, c2⟩ := T a c (ds.length : Int) (by omega) (by omega) h3 (by omega)
  obtain ⟨n, rfl⟩ : ∃ n : Nat, v = n := ⟨v.toNat, by omega⟩
  have hn : n < ds.length := by omega
  have hx : dIx (.list ds) (.int (n : Int)) = some (.imm ds[n]) := by
    show (L2.atI ds (n : Int)).map Sv.imm = _
    rw [L2.atI_nat (List.getElem?_eq_getElem hn)]
    rfl
  refine ⟨n, ds[n], a', c', List.getElem?_eq_getElem hn, ?_, c1, c2⟩
  have k : mCall (cl 22) (rSlot 0 (rVal (un dLen (mVar 1)) rNil)) [some (.own true (bx a b c)), some (.imm (.list ds))] = some (.val (.imm (.int (n : Int))), [some (.own true (bx a' b c')), some (.imm (.list ds))]) := by
    have v1 : EV (mVar 1) [some (.own true (bx a b c)), some (.imm (.list ds))] (.list ds) := ev_var rfl
    obtain ⟨pr, g1, g2, _⟩ := e_un v1 hlen
    exact c_call (c_rslot rfl (c_rval g1 g2 rfl)) rfl rfl e rfl
  unfold fn24
  exact c_fn (ρ0 := [some (.own true (bx a b c)), some (.imm (.list ds))]) rfl rfl (c_ret (c_bin rfl k rfl rfl hx) rfl) rfl
/-- sixths and wholes -/
def v6 (k : Int) : Rat := v36 (32125373280 * k)
def v1 (k : Int) : Rat := v36 (192752239680 * k)
def f6 (k : Int) : D := f36 (32125373280 * k)
def f1 (k : Int) : D := f36 (192752239680 * k)
def much : List Int := [6, -6, 3, -3, 12, -12, 2, -9, 18, 0]
def muchE : MA := (mCons (mTup (mCons (mC (.int 1)) (mCons (mC (.int 1)) mNil))) (mCons (mTup (mCons (un dNeg (mC (.int 1))) (mCons (mC (.int 1)) mNil))) (mCons (mTup (mCons (mC (.int 1)) (mCons (mC (.int 2)) mNil))) (mCons (mTup (mCons (un dNeg (mC (.int 1))) (mCons (mC (.int 2)) mNil))) (mCons (mTup (mCons (mC (.int 2)) (mCons (mC (.int 1)) mNil))) (mCons (mTup (mCons (un dNeg (mC (.int 2))) (mCons (mC (.int 1)) mNil))) (mCons (mTup (mCons (mC (.int 1)) (mCons (mC (.int 3)) mNil))) (mCons (mTup (mCons (un dNeg (mC (.int 3))) (mCons (mC (.int 2)) mNil))) (mCons (mTup (mCons (mC (.int 3)) (mCons (mC (.int 1)) mNil))) (mCons (mTup (mCons (mC (.int 0)) (mCons (mC (.int 1)) mNil))) mNil))))))))))
theorem much_fn (cl : Nat → Fn) : fn33 cl = mFn 1 1 (mRet (mCall (cl 24) (rSlot 0 (rVal (mLst muchE) rNil)))) := rfl
theorem much_list : (much.map f6) = [.tuple [.int 1, .int 1], .tuple [.int (-1), .int 1], .tuple [.int 1, .int 2], .tuple [.int (-1), .int 2], .tuple [.int 2, .int 1], .tuple [.int (-2), .int 1], .tuple [.int 1, .int 3], .tuple [.int (-3), .int 2], .tuple [.int 3, .int 1], .tuple [.int 0, .int 1]] := by kernel_rfl
theorem much_ev (ρ : Fm) : mLst muchE ρ = some (.val (.own false (much.map f6)), ρ) := by
  rw [much_list]; rfl
theorem much_le {j : Int} (h : j ∈ much) : j.natAbs ≤ 18 := by
  revert j
  decide
def MuchP (f : Fn) (b : Int) : Prop := ∀ a c : Int, 0 ≤ c → c < 900000 → ∃ j a' c' : Int, f [.own true (bx a b c)] = some (.imm (f6 j), [some (bx a' b c')]) ∧ j.natAbs ≤ 18 ∧ 0 ≤ c' ∧ c' ≤ c + 1
theorem much_ok {cl : Nat → Fn} {b : Int} (T : OfP (cl 24) b) : MuchP (fn33 cl) b := by
  intro a c hc hc2
  obtain ⟨n, d, a', c', hd, e, c1, c2⟩ := T (much.map f6) a c (by decide) (by decide) hc hc2
  rw [List.getElem?_map] at hd
  obtain ⟨j, hj, rfl⟩ := Option.map_eq_some_iff.mp hd
  refine ⟨j, a', c', ?_, much_le (List.mem_of_getElem? hj), c1, c2⟩
  rw [much_fn]
  exact c_fn (ρ0 := [some (.own true (bx a b c))]) rfl rfl (c_ret (c_call (as := [.s 0, .v (.list (much.map f6))]) (c_rslot rfl (c_rval (much_ev _) rfl rfl)) rfl rfl e rfl) rfl) rfl

theorem isPrs_zip {ds : List D} {r : Row} (h : IsPrs ds r) : ∃ l : List (D × Pr), ds = l.map (·.1) ∧ r = l.map (·.2) ∧ ∀ a ∈ l, IsPr a.1 a.2 := by
  induction h with
  | nil => exact ⟨[], rfl, rfl, fun _ h => by cases h⟩
  | @cons d p ds r hp _ ih =>
    obtain ⟨l, h1, h2, h3⟩ := ih
    refine ⟨(d, p) :: l, by rw [h1]; rfl, by rw [h2]; rfl, fun a ha => ?_⟩
    rcases List.mem_cons.mp ha with rfl | ha
    · exact hp
    · exact h3 a ha

end K46

namespace K46
open PySem Vi PyProof.Rows
theorem v6_add (k l : Int) : v6 k + v6 l = v6 (k + l) := by unfold v6; rw [v_add, Int.mul_add]
theorem v1_add (k l : Int) : v1 k + v1 l = v1 (k + l) := by unfold v1; rw [v_add, Int.mul_add]
theorem v6_num (k : Int) : (v6 k).num = 0 ↔ k = 0 := by
  unfold v6; rw [v_num]; omega
theorem v1_num (k : Int) : (v1 k).num = 0 ↔ k = 0 := by
  unfold v1; rw [v_num]; omega
theorem nat80 {a k : Int} (ha : a.natAbs ≤ 192752239680) (hk : k.natAbs < 2 ^ 40) : (a * k).natAbs < 2 ^ 80 := by
  rw [Int.natAbs_mul]
  have h1 : a.natAbs * k.natAbs ≤ 192752239680 * 2 ^ 40 := Nat.mul_le_mul ha (Nat.le_of_lt hk)
  have h2 : 192752239680 * 2 ^ 40 < 2 ^ 80 := by decide
  omega
theorem v6_sd {k : Int} (h : k.natAbs < 2 ^ 40) : Sd (v6 k) := v_sd (nat80 (by decide) h)
theorem v1_sd {k : Int} (h : k.natAbs < 2 ^ 40) : Sd (v1 k) := v_sd (nat80 (by decide) h)
theorem v_mul (k l : Int) : v1 k * v36 l = v36 (k * l) := by
  unfold v1 v36
  rw [Rat.mkRat_mul_mkRat, show (192752239680 * k * l : Int) = (k * l) * ((192752239680 : Nat) : Int) by rw [Int.mul_assoc, Int.mul_comm]; rfl, Rat.mkRat_mul_right (by decide)]
/-! any number over any other -/
theorem fr_neg (a : Int) (b : Nat) (hb : 0 < b) : mkRat a b = (a : Rat) / ((b : Int) : Rat) := by
  rw [Rat.mkRat_eq_div]; rfl
def FracN (f : Fn) : Prop := ∀ a b : Int, b < 0 → b.natAbs < 2 ^ 200 → f [.imm (.int a), .imm (.int b)] = some (.imm (fr (mkRat (-a) b.natAbs)), [none, none])
theorem divN_neg {a g : Int} (hg : 0 < g) (h2 : g < 2 ^ 250) : dDivN (.int a) (.int (-g)) = some (.imm (.int ((-a) / g))) := by
  have h1 : divOk (-g) = false := decide_eq_false (by omega)
  have h3 : divNk (-g) = true := by
    refine decide_eq_true ⟨by omega, ?_⟩
    rw [Int.natAbs_neg]
    have := div_ok hg h2
    unfold divOk at this
    exact (of_decide_eq_true this).2
  show (if divOk (-g) = true then _ else if divNk (-g) = true then _ else none) = _
  rw [if_neg (by rw [h1]; decide), if_pos h3, Int.neg_neg]
theorem gcd_neg {a b : Int} (hb : b < 0) (h2 : b.natAbs < 2 ^ 200) : dDivN (.int a) (.int (-((Nat.gcd a.natAbs b.natAbs : Nat) : Int))) = some (.imm (.int (mkRat (-a) b.natAbs).num)) ∧ dDivN (.int b) (.int (-((Nat.gcd a.natAbs b.natAbs : Nat) : Int))) = some (.imm (.int ((mkRat (-a) b.natAbs).den : Int))) := by
  have hp : 0 < b.natAbs := by omega
  have hg : 0 < Nat.gcd a.natAbs b.natAbs := Nat.gcd_pos_of_pos_right _ hp
  have hg2 : Nat.gcd a.natAbs b.natAbs ≤ b.natAbs := Nat.le_of_dvd hp (Nat.gcd_dvd_right _ _)
  have h250 : (2 : Int) ^ 200 < 2 ^ 250 := by decide
  have h3 : ((Nat.gcd a.natAbs b.natAbs : Nat) : Int) < 2 ^ 200 := by exact_mod_cast Nat.lt_of_le_of_lt hg2 h2
  obtain ⟨e1, e2⟩ := low_rat (-a) b.natAbs hp
  rw [Int.natAbs_neg] at e1 e2
  have hbb : -b = (b.natAbs : Int) := by omega
  refine ⟨?_, ?_⟩
  · rw [divN_neg (by omega) (by omega), e1]
  · rw [divN_neg (by omega) (by omega), e2, hbb]
theorem fraction_neg {cl : Nat → Fn} : FracN (fn5 cl) := fun a b hb h2 => by
  obtain ⟨d1, d2⟩ := gcd_neg (a := a) hb h2
  generalize hg : Nat.gcd a.natAbs b.natAbs = g at *
  have t1 : (mB (bin dEq (mVar 1) (mC (.int 0)))) [ii a, ii b, none] = some (false, [ii a, ii b, none]) := by
    have : (b == 0) = false := by rw [beq_eq_false_iff_ne]; omega
    unfold mB
    rw [c_bin rfl rfl rfl rfl (eq_int b 0), this]
  have t2 : (mB (bin dLt (mVar 1) (mC (.int 0)))) [ii a, ii b, ii (g : Int)] = some (true, [ii a, ii b, ii (g : Int)]) := by
    have : decide (b < 0) = true := decide_eq_true hb
    unfold mB
    rw [c_bin rfl rfl rfl rfl (show dLt (.int b) (.int 0) = some (.imm (.bool (decide (b < 0)))) from rfl), this]
  have hG : mSet 2 (mA dGcd (mCons (mVar 0) (mCons (mVar 1) mNil))) [ii a, ii b, none] = some (.next, [ii a, ii b, ii (g : Int)]) := by
    rw [← hg]; rfl
  unfold fn5
  refine c_fn (ρ0 := [ii a, ii b, none]) rfl rfl (c_seq (c_ifF t1 rfl) (c_seq (ρ1 := [ii a, ii b, ii (g : Int)]) hG (c_seq (ρ1 := [ii a, ii b, ii (-(g : Int))]) (c_ifT t2 (c_set (c_un (f := dNeg) rfl rfl rfl) rfl)) (c_ret (r := .imm (fr (mkRat (-a) b.natAbs))) (c_tup (c_acons (c_bin rfl rfl rfl rfl d1) rfl (c_acons (c_bin rfl rfl rfl rfl d2) rfl c_anil)) rfl) rfl)))) rfl
def LowN (f : Fn) : Prop := ∀ a b : Int, b < 0 → b.natAbs < 2 ^ 190 → f [.imm (.int a), .imm (.int b)] = some (.imm (fr (mkRat (-a) b.natAbs)), [none, none])
theorem low_neg {cl : Nat → Fn} : LowN (fn27 cl) := fun a b hb h2 => by
  obtain ⟨d1, d2⟩ := gcd_neg (a := a) hb (Nat.lt_trans h2 (by decide))
  have e := euclid (x0 := ii a) (x1 := ii b) 190 a.natAbs b.natAbs 19 h2
  generalize Nat.gcd a.natAbs b.natAbs = g at *
  have p1 : un dAbs (mVar 0) [ii a, ii b, none, none] = some (.val (.imm (.int (a.natAbs : Int))), [ii a, ii b, none, none]) := c_un rfl rfl (abs_int a)
  have p2 : un dAbs (mVar 1) [ii a, ii b, none, none] = some (.val (.imm (.int (b.natAbs : Int))), [ii a, ii b, none, none]) := c_un rfl rfl (abs_int b)
  have p : mPar 2 3 (un dAbs (mVar 0)) (un dAbs (mVar 1)) [ii a, ii b, none, none] = some (.next, [ii a, ii b, ii (a.natAbs : Int), ii (b.natAbs : Int)]) := c_par p1 rfl p2 rfl rfl
  have t : (mB (bin dLt (mVar 1) (mC (.int 0)))) [ii a, ii b, ii (g : Int), ii ((0 : Nat) : Int)] = some (true, [ii a, ii b, ii (g : Int), ii ((0 : Nat) : Int)]) := by
    have : decide (b < 0) = true := decide_eq_true hb
    rw [c_b (c_bin rfl rfl rfl rfl (show dLt (.int b) (.int 0) = some (.imm (.bool (decide (b < 0)))) from rfl)), this]
  have hs : dSub (.int 0) (.int (g : Int)) = some (.imm (.int (-(g : Int)))) := by
    show some (Sv.imm (.int (0 - (g : Int)))) = _
    rw [Int.zero_sub]
  unfold fn27
  exact c_fn (ρ0 := [ii a, ii b, none, none]) rfl rfl (c_seq p (c_seq e (c_seq (ρ1 := [ii a, ii b, ii (-(g : Int)), ii ((0 : Nat) : Int)]) (c_ifT t (c_set (c_bin (f := dSub) rfl rfl rfl rfl hs) rfl)) (c_ret (r := .imm (fr (mkRat (-a) b.natAbs))) (c_tup (c_acons (c_bin rfl rfl rfl rfl d1) rfl (c_acons (c_bin rfl rfl rfl rfl d2) rfl c_anil)) rfl) rfl)))) rfl
def Min6 (f : Fn) : Prop := ∀ (e : D) (k : Int), IsFr e (v6 k) → k.natAbs < 2 ^ 40 → f [.imm (f36 0), .imm e] = some (.imm (f6 (-k)), [none, none])
def Min1 (f : Fn) : Prop := ∀ (e : D) (k : Int), IsFr e (v1 k) → k.natAbs < 2 ^ 40 → f [.imm (f36 0), .imm e] = some (.imm (f1 (-k)), [none, none])
def MinE (f : Fn) : Prop := ∀ (e : D) (k : Int), IsFr e (v36 k) → k.natAbs < 2 ^ 80 → f [.imm (f36 0), .imm e] = some (.imm (f36 (-k)), [none, none])
theorem i_minE (K : Nat) : MinE (run (K + 3) 8) := fun e0 k he hk => by
  have h0 : (0 : Int).natAbs < 2 ^ 80 := by decide
  have hk2 : (-k).natAbs < 2 ^ 80 := by rw [Int.natAbs_neg]; exact hk
  have p := i_plus K (f36 0) (fr (-(v36 k))) _ _ (isFr _) (isFr _) (v_sd h0).sm (by rw [← v_neg]; exact (v_sd hk2).sm)
  have e : v36 0 + -(v36 k) = v36 (-k) := by rw [← v_neg, v_add, Int.zero_add]
  rw [rs8]
  have m := minus_ok (cl := run (K + 2)) (d := f36 0) (q := v36 0) he p
  rw [e] at m
  exact m
theorem i_min6 (K : Nat) : Min6 (run (K + 3) 8) := fun e k he hk => by
  have := i_minE K e _ he (nat80 (by decide) hk)
  rw [← Int.mul_neg] at this
  exact this
theorem i_min1 (K : Nat) : Min1 (run (K + 3) 8) := fun e k he hk => by
  have := i_minE K e _ he (nat80 (by decide) hk)
  rw [← Int.mul_neg] at this
  exact this
/-! products and quotients -/
def TimesP (f : Fn) : Prop := ∀ (d e : D) (q r : Rat), IsFr d q → IsFr e r → Sm q → Sm r → f [.imm d, .imm e] = some (.imm (fr (q * r)), [none, none])
end K46

namespace K46
open PySem Vi PyProof.Rows
/-! rows of forms: (part, u, v), both in 36ths -/
abbrev Fo := Int × Int × Int
def fpush : List Fo → Fo → List Fo
  | [], p => if p.2.1 = 0 ∧ p.2.2 = 0 then [] else [p]
  | l :: s, p => if l.1 = p.1 then (if l.2.1 + p.2.1 = 0 ∧ l.2.2 + p.2.2 = 0 then s else (p.1, l.2.1 + p.2.1, l.2.2 + p.2.2) :: s) else if p.2.1 = 0 ∧ p.2.2 = 0 then l :: s else p :: l :: s
theorem fpush_nil (p : Fo) : fpush [] p = if p.2.1 = 0 ∧ p.2.2 = 0 then [] else [p] := rfl
theorem fpush_cons (l : Fo) (s : List Fo) (p : Fo) : fpush (l :: s) p = if l.1 = p.1 then (if l.2.1 + p.2.1 = 0 ∧ l.2.2 + p.2.2 = 0 then s else (p.1, l.2.1 + p.2.1, l.2.2 + p.2.2) :: s) else if p.2.1 = 0 ∧ p.2.2 = 0 then l :: s else p :: l :: s := rfl
def fneg (p : Fo) : Fo := (p.1, -p.2.1, -p.2.2)
def finv (F : List Fo) : List Fo := F.reverse.map fneg
def fsz (p : Fo) : Nat := p.2.1.natAbs + p.2.2.natAbs
def fnorm (F : List Fo) : Nat := (F.map fsz).sum
/-- what stands for a pair, and what lies on the stack -/
def FoIn (d : D) (f : Fo) : Prop := ∃ e1 e2 c, (d = .tuple [.int f.1, c] ∨ d = .list [.int f.1, c]) ∧ (c = .tuple [e1, e2] ∨ c = .list [e1, e2]) ∧ IsFr e1 (v6 f.2.1) ∧ IsFr e2 (v1 f.2.2)
def FoSt (d : D) (f : Fo) : Prop := ∃ e1 e2, d = .tuple [.int f.1, .tuple [e1, e2]] ∧ IsFr e1 (v6 f.2.1) ∧ IsFr e2 (v1 f.2.2)
theorem FoSt.into {d : D} {f : Fo} (h : FoSt d f) : FoIn d f := by
  obtain ⟨e1, e2, h1, h2, h3⟩ := h
  exact ⟨e1, e2, _, .inl h1, .inl rfl, h2, h3⟩
def foD (f : Fo) : D := .tuple [.int f.1, .tuple [f6 f.2.1, f1 f.2.2]]
theorem foSt (f : Fo) : FoSt (foD f) f := ⟨_, _, rfl, isFr _, isFr _⟩
abbrev Fz := D × Fo
/-- what stands for a row of forms -/
def FrIs (d : D) (F : List Fo) : Prop := ∃ l : List Fz, itemsOf d = some (l.map (·.1)) ∧ F = l.map (·.2) ∧ ∀ a ∈ l, FoIn a.1 a.2
theorem frIs (F : List Fo) : FrIs (.tuple (F.map foD)) F := ⟨F.map fun f => (foD f, f), by rw [List.map_map]; rfl, by rw [List.map_map]; exact (List.map_id' F).symm, fun a ha => by
  obtain ⟨f, _, rfl⟩ := List.mem_map.mp ha
  exact (foSt f).into⟩
theorem fsz_in {l : List Fz} {a : Fz} (h : a ∈ l) : fsz a.2 ≤ fnorm (l.map (·.2)) := by
  induction l with
  | nil => cases h
  | cons b l ih =>
    simp only [fnorm, List.map_cons, List.sum_cons]
    rcases List.mem_cons.mp h with rfl | h
    · omega
    · have := ih h
      simp only [fnorm] at this
      omega
theorem fnorm_cons (p : Fo) (F : List Fo) : fnorm (p :: F) = fsz p + fnorm F := by simp [fnorm]
theorem fnorm_app (F G : List Fo) : fnorm (F ++ G) = fnorm F + fnorm G := by simp [fnorm]
theorem fsz_neg (p : Fo) : fsz (fneg p) = fsz p := by unfold fsz fneg; simp
theorem fnorm_inv (F : List Fo) : fnorm (finv F) = fnorm F := by
  induction F with
  | nil => rfl
  | cons p F ih =>
    have : finv (p :: F) = finv F ++ [fneg p] := by unfold finv; rw [List.reverse_cons, List.map_append]; rfl
    rw [this, fnorm_app, ih, fnorm_cons, fnorm_cons, fsz_neg]
    simp [fnorm]; omega
theorem fpush_norm (s : List Fo) (p : Fo) : fnorm (fpush s p) ≤ fnorm s + fsz p := by
  have h := fun a b : Int => Int.natAbs_add_le a b
  cases s with
  | nil => rw [fpush_nil]; split <;> simp [fnorm]
  | cons l s =>
    rw [fpush_cons]
    have h1 := h l.2.1 p.2.1
    have h2 := h l.2.2 p.2.2
    split
    · split
      · rw [fnorm_cons]; omega
      · rw [fnorm_cons, fnorm_cons]; simp only [fsz] at *; omega
    · split
      · omega
      · rw [fnorm_cons p]; omega
theorem fpush_len (s : List Fo) (p : Fo) : (fpush s p).length ≤ s.length + 1 := by
  cases s with
  | nil => rw [fpush_nil]; split <;> simp
  | cons l s =>
    rw [fpush_cons]
    split
    · split <;> simp only [List.length_cons] <;> omega
    · split <;> simp only [List.length_cons] <;> omega
/-- a row behind which its undoing comes leaves nothing -/
def FN : List Fo → Prop
  | [] => True
  | [p] => ¬ (p.2.1 = 0 ∧ p.2.2 = 0)
  | p :: q :: s => ¬ (p.2.1 = 0 ∧ p.2.2 = 0) ∧ p.1 ≠ q.1 ∧ FN (q :: s)
theorem FN.tail {p : Fo} {s : List Fo} (h : FN (p :: s)) : FN s := by
  cases s with
  | nil => trivial
  | cons q s => exact h.2.2
theorem FN.head {p : Fo} {s : List Fo} (h : FN (p :: s)) : ¬ (p.2.1 = 0 ∧ p.2.2 = 0) := by
  cases s with
  | nil => exact h
  | cons q s => exact h.1
theorem fn_cons {p : Fo} {s : List Fo} (h1 : ¬ (p.2.1 = 0 ∧ p.2.2 = 0)) (h2 : ∀ q t, s = q :: t → p.1 ≠ q.1) (h3 : FN s) : FN (p :: s) := by
  cases s with
  | nil => exact h1
  | cons q s => exact ⟨h1, h2 q s rfl, h3⟩
theorem FN.ne {p : Fo} {s : List Fo} (h : FN (p :: s)) : ∀ q t, s = q :: t → p.1 ≠ q.1 := by
  intro q t e
  subst e
  exact h.2.1
theorem fpush_FN {s : List Fo} (h : FN s) (p : Fo) : FN (fpush s p) := by
  cases s with
  | nil =>
    rw [fpush_nil]
    split
    · trivial
    · rename_i h1; exact h1
  | cons l s =>
    rw [fpush_cons]
    split
    · rename_i e
      split
      · exact h.tail
      · rename_i h1
        exact fn_cons h1 (fun q t e2 => by rw [← e]; exact h.ne q t e2) h.tail
    · rename_i e
      split
      · exact h
      · rename_i h1
        exact fn_cons h1 (fun q t e2 => by cases e2; exact fun z => e z.symm) h
theorem fpush_undo {s : List Fo} (h : FN s) (p : Fo) : fpush (fpush s p) (fneg p) = s := by
  obtain ⟨a, u, v⟩ := p
  cases s with
  | nil =>
    by_cases h0 : u = 0 ∧ v = 0
    · obtain ⟨rfl, rfl⟩ := h0
      rfl
    · simp only [fpush, fneg, if_neg h0]
      rw [if_pos trivial, if_pos ⟨by omega, by omega⟩]
  | cons l s =>
    obtain ⟨b, x, y⟩ := l
    have hl := h.head
    have hn := h.ne
    simp only at hl hn
    by_cases e : b = a
    · subst e
      simp only [fpush, fneg, if_true]
      by_cases h0 : x + u = 0 ∧ y + v = 0
      · rw [if_pos h0]
        have hz : -u = x ∧ -v = y := ⟨by omega, by omega⟩
        rw [hz.1, hz.2]
        cases s with
        | nil => simp only [fpush]; rw [if_neg hl]
        | cons q t =>
          have := hn q t rfl
          simp only [fpush]
          rw [if_neg (fun z => this z.symm), if_neg hl]
      · rw [if_neg h0]
        have hz : x + u + -u = x ∧ y + v + -v = y := ⟨by omega, by omega⟩
        simp only [fpush, hz.1, hz.2, if_true]
        rw [if_neg hl]
    · simp only [fpush, fneg, if_neg e]
      by_cases h0 : u = 0 ∧ v = 0
      · obtain ⟨rfl, rfl⟩ := h0
        simp only [fpush, if_neg e, Int.neg_zero, and_self, if_true]
      · rw [if_neg h0]
        simp only [fpush, if_true]
        rw [if_pos ⟨by omega, by omega⟩]
def frest (F G : List Fo) : List Fo := (F ++ finv G).foldl fpush []
theorem finv_cons (p : Fo) (F : List Fo) : finv (p :: F) = finv F ++ [fneg p] := by unfold finv; rw [List.reverse_cons, List.map_append]; rfl
theorem fundo (F : List Fo) : ∀ s, FN s → (F ++ finv F).foldl fpush s = s := by
  induction F with
  | nil => intro s _; rfl
  | cons p F ih =>
    intro s h
    rw [finv_cons, ← List.append_assoc, List.cons_append, List.foldl_append]
    show fpush ((p :: (F ++ finv F)).foldl fpush s) (fneg p) = s
    rw [List.foldl_cons, ih _ (fpush_FN h p)]
    exact fpush_undo h p
theorem frest_self (F : List Fo) : frest F F = [] := fundo F [] trivial

end K46

namespace K46
open PySem Vi PyProof.Rows
def uT : MT := (mAndT (mTru (mVar 3)) (mB (bin dEq (bin dIx (bin dIx (mVar 3) (un dNeg (mC (.int 1)))) (mC (.int 0))) (mVar 4))))
def uA (cl : Nat → Fn) : MS := (mSeq (mAsgG (mPop 3) (mGtup 2 (mGcons (mN 7) (mGcons (mGtup 2 (mGcons (mN 8) (mGcons (mN 9) mGnil))) mGnil)))) (mPar 5 6 (mCall (cl 7) (rVal (mVar 8) (rVal (mVar 5) rNil))) (mCall (cl 7) (rVal (mVar 9) (rVal (mVar 6) rNil)))))
def uP : MS := (mIfS (mOrT (mTru (bin dIx (mVar 5) (mC (.int 0)))) (mTru (bin dIx (mVar 6) (mC (.int 0))))) (mDrop (mApp 3 (mTup (mCons (mVar 4) (mCons (mTup (mCons (mVar 5) (mCons (mVar 6) mNil))) mNil))))) mNext)
def uC (cl : Nat → Fn) : ME := (mComp (mIRev (mVar 1)) (mGseq 2 (mGcons (mN 4) (mGcons (mGseq 2 (mGcons (mN 5) (mGcons (mN 6) mGnil))) mGnil))) mYes (mTup (mCons (mVar 4) (mCons (mTup (mCons (mCall (cl 8) (rVal (mC (.tuple ([0, 1].map .int))) (rVal (mVar 5) rNil))) (mCons (mCall (cl 8) (rVal (mC (.tuple ([0, 1].map .int))) (rVal (mVar 6) rNil))) mNil))) mNil))) [4, 5, 6])
def uG : MG := (mGseq 2 (mGcons (mN 4) (mGcons (mGseq 2 (mGcons (mN 5) (mGcons (mN 6) mGnil))) mGnil)))
theorem frest_fn (cl : Nat → Fn) : fn17 cl = mFn 10 2 (mSeq (mSet 2 (uC cl)) (mSeq (mSet 3 (mLst mNil)) (mSeq (mFor (mISeq (bin dAdd (un dList (mVar 0)) (mVar 2))) uG (mSeq (mIfS uT (uA cl) mNext) uP)) (mRet (mVar 3))))) := rfl
abbrev UF (x0 x1 x2 : Option Sv) (L : List D) (part : Int) (e1 e2 : D) (x7 x8 x9 : Option Sv) : Fm := [x0, x1, x2, some (.own false L), ii part, some (.imm e1), some (.imm e2), x7, x8, x9]
/-- a stack of forms -/
def stL (s : List Fz) : List D := (s.map (·.1)).reverse
def St (s : List Fz) : Prop := ∀ a ∈ s, FoSt a.1 a.2
theorem stL_cons (a : Fz) (s : List Fz) : stL (a :: s) = stL s ++ [a.1] := by unfold stL; rw [List.map_cons, List.reverse_cons]
theorem stL_len (s : List Fz) : (stL s).length = s.length := by unfold stL; rw [List.length_reverse, List.length_map]
theorem fr_top6 {e : D} {k : Int} {me : ME} {ρ : Fm} (h : EV me ρ e) (he : IsFr e (v6 k)) : mTru (bin dIx me (mC (.int 0))) ρ = some (!(decide (k = 0)), ρ) := by
  have t := t_num (e_bin (f := dIx) h (ev_c (d := .int 0)) he.top)
  rw [t]
  congr 2
  have := v6_num k
  by_cases hk : k = 0
  · rw [decide_eq_true hk, this.mpr hk]; rfl
  · rw [decide_eq_false hk]
    exact bne_iff_ne.mpr fun z => hk (this.mp z)
theorem fr_top1 {e : D} {k : Int} {me : ME} {ρ : Fm} (h : EV me ρ e) (he : IsFr e (v1 k)) : mTru (bin dIx me (mC (.int 0))) ρ = some (!(decide (k = 0)), ρ) := by
  have t := t_num (e_bin (f := dIx) h (ev_c (d := .int 0)) he.top)
  rw [t]
  congr 2
  have := v1_num k
  by_cases hk : k = 0
  · rw [decide_eq_true hk, this.mpr hk]; rfl
  · rw [decide_eq_false hk]
    exact bne_iff_ne.mpr fun z => hk (this.mp z)
section
variable {cl : Nat → Fn} {x0 x1 x2 x7 x8 x9 : Option Sv} {part u v : Int} {e1 e2 : D}
theorem ut_nil : uT (UF x0 x1 x2 [] part e1 e2 x7 x8 x9) = some (false, UF x0 x1 x2 [] part e1 e2 x7 x8 x9) := by
  have a : mTru (mVar 3) (UF x0 x1 x2 [] part e1 e2 x7 x8 x9) = some (false, UF x0 x1 x2 [] part e1 e2 x7 x8 x9) := rfl
  unfold uT
  exact c_andTF a
theorem ut_cons {a : Fz} (ha : FoSt a.1 a.2) (s : List Fz) : uT (UF x0 x1 x2 (stL (a :: s)) part e1 e2 x7 x8 x9) = some (a.2.1 == part, UF x0 x1 x2 (stL (a :: s)) part e1 e2 x7 x8 x9) := by
  obtain ⟨d1, d2, hd, _, _⟩ := ha
  have hL := stL_cons a s
  have hne : (stL (a :: s)).isEmpty = false := by rw [hL]; simp
  have hx : dIx (.list (stL (a :: s))) (.int (-1)) = some (.imm a.1) := by
    show (L2.atI (stL (a :: s)) (-1)).map Sv.imm = _
    rw [hL, at_neg]; rfl
  generalize stL (a :: s) = L at *
  have t1 : mTru (mVar 3) (UF x0 x1 x2 L part e1 e2 x7 x8 x9) = some (true, UF x0 x1 x2 L part e1 e2 x7 x8 x9) := by
    refine c_tru (d := .list L) rfl rfl ?_
    show some (!L.isEmpty) = _
    rw [hne]; rfl
  have a2 : bin dIx (mVar 3) (un dNeg (mC (.int 1))) (UF x0 x1 x2 L part e1 e2 x7 x8 x9) = some (.val (.imm a.1), UF x0 x1 x2 L part e1 e2 x7 x8 x9) := c_bin rfl last_1 rfl rfl hx
  have hi : dIx a.1 (.int 0) = some (.imm (.int a.2.1)) := by rw [hd]; rfl
  unfold uT
  exact c_andTT t1 (c_b (c_bin (c_bin a2 rfl rfl rfl hi) rfl rfl rfl (eq_int _ _)))
theorem up_ok (s : List Fz) (hs : St s) (h1 : IsFr e1 (v6 u)) (h2 : IsFr e2 (v1 v)) (hl : s.length ≤ 800) : ∃ s' : List Fz, St s' ∧ s'.map (·.2) = (if u = 0 ∧ v = 0 then s.map (·.2) else (part, u, v) :: s.map (·.2)) ∧ uP (UF x0 x1 x2 (stL s) part e1 e2 x7 x8 x9) = some (.next, UF x0 x1 x2 (stL s') part e1 e2 x7 x8 x9) := by
  have v5 : EV (mVar 5) (UF x0 x1 x2 (stL s) part e1 e2 x7 x8 x9) e1 := ev_var rfl
  have v6' : EV (mVar 6) (UF x0 x1 x2 (stL s) part e1 e2 x7 x8 x9) e2 := ev_var rfl
  have t5 := fr_top6 v5 h1
  have t6 := fr_top1 v6' h2
  have a : mTup (mCons (mVar 4) (mCons (mTup (mCons (mVar 5) (mCons (mVar 6) mNil))) mNil)) (UF x0 x1 x2 (stL s) part e1 e2 x7 x8 x9) = some (.val (.imm (.tuple [.int part, .tuple [e1, e2]])), UF x0 x1 x2 (stL s) part e1 e2 x7 x8 x9) := c_tup (c_acons rfl rfl (c_acons (c_tup (c_acons rfl rfl (c_acons rfl rfl c_anil)) rfl) rfl c_anil)) rfl
  have hf : fits ((stL s).length + 1) = true := c_fits (by rw [stL_len]; omega)
  have b := c_app (i := 3) (ρ := UF x0 x1 x2 (stL s) part e1 e2 x7 x8 x9) rfl a rfl rfl hf
  have hst : St ((.tuple [.int part, .tuple [e1, e2]], (part, u, v)) :: s) := fun a ha => by
    rcases List.mem_cons.mp ha with rfl | ha
    · exact ⟨e1, e2, rfl, h1, h2⟩
    · exact hs a ha
  have g : mDrop (mApp 3 (mTup (mCons (mVar 4) (mCons (mTup (mCons (mVar 5) (mCons (mVar 6) mNil))) mNil)))) (UF x0 x1 x2 (stL s) part e1 e2 x7 x8 x9) = some (.next, UF x0 x1 x2 (stL ((.tuple [.int part, .tuple [e1, e2]], (part, u, v)) :: s)) part e1 e2 x7 x8 x9) := by
    rw [c_drop b, stL_cons]; rfl
  unfold uP
  by_cases hu : u = 0
  · rw [decide_eq_true hu] at t5
    by_cases hv : v = 0
    · rw [decide_eq_true hv] at t6
      exact ⟨s, hs, by rw [if_pos ⟨hu, hv⟩], c_ifF (c_orTF t5 t6) c_skip⟩
    · rw [decide_eq_false hv] at t6
      exact ⟨_, hst, by rw [if_neg (fun z => hv z.2)]; rfl, c_ifT (c_orTF t5 t6) g⟩
  · rw [decide_eq_false hu] at t5
    exact ⟨_, hst, by rw [if_neg (fun z => hu z.1)]; rfl, c_ifT (c_orTT t5) g⟩
theorem ua_ok (P : PlusP (cl 7)) {a : Fz} (ha : FoSt a.1 a.2) (s : List Fz) (h1 : IsFr e1 (v6 u)) (h2 : IsFr e2 (v1 v)) (b1 : a.2.2.1.natAbs < 2 ^ 40) (b2 : a.2.2.2.natAbs < 2 ^ 40) (b3 : u.natAbs < 2 ^ 40) (b4 : v.natAbs < 2 ^ 40) :
    ∃ y7 y8 y9, uA cl (UF x0 x1 x2 (stL (a :: s)) part e1 e2 x7 x8 x9) = some (.next, UF x0 x1 x2 (stL s) part (f6 (a.2.2.1 + u)) (f1 (a.2.2.2 + v)) y7 y8 y9) := by
  obtain ⟨d1, d2, hd, g1, g2⟩ := ha
  have q1 := P d1 e1 _ _ g1 h1 (v6_sd b1).sm (v6_sd b3).sm
  have q2 := P d2 e2 _ _ g2 h2 (v1_sd b2).sm (v1_sd b4).sm
  rw [v6_add] at q1
  rw [v1_add] at q2
  have hL := stL_cons a s
  have p : mPop 3 (UF x0 x1 x2 (stL (a :: s)) part e1 e2 x7 x8 x9) = some (.val (.imm a.1), UF x0 x1 x2 (stL s) part e1 e2 x7 x8 x9) := by
    show (match (stL (a :: s))[(stL (a :: s)).length - 1]? with | some d => some (PR.val (.imm d), [x0, x1, x2, some (.own false (stL (a :: s)).dropLast), ii part, some (.imm e1), some (.imm e2), x7, x8, x9]) | none => none) = _
    rw [hL, List.dropLast_concat, show (stL s ++ [a.1]).length - 1 = (stL s).length by rw [List.length_append]; simp, List.getElem?_concat_length]
  rw [hd] at p
  refine ⟨ii a.2.1, some (.imm d1), some (.imm d2), ?_⟩
  have s1 : mAsgG (mPop 3) (mGtup 2 (mGcons (mN 7) (mGcons (mGtup 2 (mGcons (mN 8) (mGcons (mN 9) mGnil))) mGnil))) (UF x0 x1 x2 (stL (a :: s)) part e1 e2 x7 x8 x9) = some (.next, UF x0 x1 x2 (stL s) part e1 e2 (ii a.2.1) (some (.imm d1)) (some (.imm d2))) := by
    unfold mAsgG
    rw [p]
    rfl
  have w5 : EV (mVar 5) (UF x0 x1 x2 (stL s) part e1 e2 (ii a.2.1) (some (.imm d1)) (some (.imm d2))) e1 := ev_var rfl
  have w6 : EV (mVar 6) (UF x0 x1 x2 (stL s) part e1 e2 (ii a.2.1) (some (.imm d1)) (some (.imm d2))) e2 := ev_var rfl
  have w8 : EV (mVar 8) (UF x0 x1 x2 (stL s) part e1 e2 (ii a.2.1) (some (.imm d1)) (some (.imm d2))) d1 := ev_var rfl
  have w9 : EV (mVar 9) (UF x0 x1 x2 (stL s) part e1 e2 (ii a.2.1) (some (.imm d1)) (some (.imm d2))) d2 := ev_var rfl
  unfold uA
  exact c_seq s1 (c_par (v_call2 w8 w5 q1) rfl (v_call2 w9 w6 q2) rfl rfl)
theorem ustep (P : PlusP (cl 7)) (s : List Fz) (hs : St s) {f : Fo} (h1 : IsFr e1 (v6 f.2.1)) (h2 : IsFr e2 (v1 f.2.2)) (hn : fnorm (s.map (·.2)) + fsz f < 2 ^ 40) (hl : s.length ≤ 800) :
    ∃ (s' : List Fz) (y5 y6 : D) (y7 y8 y9 : Option Sv), St s' ∧ s'.map (·.2) = fpush (s.map (·.2)) f ∧ mSeq (mIfS uT (uA cl) mNext) uP (UF x0 x1 x2 (stL s) f.1 e1 e2 x7 x8 x9) = some (.next, UF x0 x1 x2 (stL s') f.1 y5 y6 y7 y8 y9) := by
  cases s with
  | nil =>
    obtain ⟨s', k1, k2, k3⟩ := up_ok (x0 := x0) (x1 := x1) (x2 := x2) (x7 := x7) (x8 := x8) (x9 := x9) (part := f.1) [] hs h1 h2 (by simp)
    refine ⟨s', e1, e2, x7, x8, x9, k1, ?_, c_seq (c_ifF ut_nil c_skip) k3⟩
    rw [k2]; rfl
  | cons a s =>
    have ha := hs a (List.mem_cons_self ..)
    have hs' : St s := fun b hb => hs b (List.mem_cons_of_mem _ hb)
    have t := ut_cons (x0 := x0) (x1 := x1) (x2 := x2) (x7 := x7) (x8 := x8) (x9 := x9) (part := f.1) (e1 := e1) (e2 := e2) ha s
    rw [List.map_cons, fnorm_cons] at hn
    have hb : a.2.2.1.natAbs + a.2.2.2.natAbs = fsz a.2 := rfl
    have hb2 : f.2.1.natAbs + f.2.2.natAbs = fsz f := rfl
    by_cases h : a.2.1 = f.1
    · rw [show (a.2.1 == f.1) = true from beq_iff_eq.mpr h] at t
      obtain ⟨y7, y8, y9, k⟩ := ua_ok P (x0 := x0) (x1 := x1) (x2 := x2) (x7 := x7) (x8 := x8) (x9 := x9) (part := f.1) ha s h1 h2 (by omega) (by omega) (by omega) (by omega)
      obtain ⟨s', k1, k2, k3⟩ := up_ok (x0 := x0) (x1 := x1) (x2 := x2) (x7 := y7) (x8 := y8) (x9 := y9) (part := f.1) s hs' (isFr (v6 (a.2.2.1 + f.2.1))) (isFr (v1 (a.2.2.2 + f.2.2))) (by simp only [List.length_cons] at hl; omega)
      refine ⟨s', _, _, y7, y8, y9, k1, ?_, c_seq (c_ifT t k) k3⟩
      rw [k2, List.map_cons, fpush_cons, if_pos h]
    · rw [show (a.2.1 == f.1) = false from beq_eq_false_iff_ne.mpr h] at t
      obtain ⟨s', k1, k2, k3⟩ := up_ok (x0 := x0) (x1 := x1) (x2 := x2) (x7 := x7) (x8 := x8) (x9 := x9) (part := f.1) (a :: s) hs h1 h2 hl
      refine ⟨s', e1, e2, x7, x8, x9, k1, ?_, c_seq (c_ifF t c_skip) k3⟩
      rw [k2, List.map_cons, fpush_cons, if_neg h]
theorem uloop (P : PlusP (cl 7)) : ∀ (l s : List Fz) (x4 x5 x6 x7 x8 x9 : Option Sv), (∀ a ∈ l, FoIn a.1 a.2) → St s → fnorm (s.map (·.2)) + fnorm (l.map (·.2)) < 2 ^ 40 → s.length + l.length ≤ 800 →
    ∃ (s' : List Fz) (y4 y5 y6 y7 y8 y9 : Option Sv), St s' ∧ s'.map (·.2) = (l.map (·.2)).foldl fpush (s.map (·.2)) ∧ s'.length ≤ s.length + l.length ∧ loop uG (mSeq (mIfS uT (uA cl) mNext) uP) (l.map (·.1)) [x0, x1, x2, some (.own false (stL s)), x4, x5, x6, x7, x8, x9] = some (.next, [x0, x1, x2, some (.own false (stL s')), y4, y5, y6, y7, y8, y9])
  | [], s, x4, x5, x6, x7, x8, x9, _, hs, _, _ => ⟨s, x4, x5, x6, x7, x8, x9, hs, rfl, by omega, rfl⟩
  | a :: l, s, x4, x5, x6, x7, x8, x9, hL, hs, hn, hl => by
    obtain ⟨e1, e2, c, hd, hc, h1, h2⟩ := hL a (List.mem_cons_self ..)
    rw [List.map_cons, fnorm_cons] at hn
    rw [List.length_cons] at hl
    have hg : uG a.1 [x0, x1, x2, some (.own false (stL s)), x4, x5, x6, x7, x8, x9] = some (UF x0 x1 x2 (stL s) a.2.1 e1 e2 x7 x8 x9) := by
      rcases hd with h | h <;> rw [h] <;> rcases hc with h | h <;> rw [h] <;> rfl
    obtain ⟨s1, y5, y6, y7, y8, y9, k1, k2, k3⟩ := ustep P (x0 := x0) (x1 := x1) (x2 := x2) (x7 := x7) (x8 := x8) (x9 := x9) s hs h1 h2 (by omega) (by omega)
    have n1 := fpush_norm (s.map (·.2)) a.2
    have n2 := fpush_len (s.map (·.2)) a.2
    rw [← k2, List.length_map, List.length_map] at n2
    rw [← k2] at n1
    obtain ⟨s', z4, z5, z6, z7, z8, z9, g1, g2, g3, g4⟩ := uloop P l s1 (ii a.2.1) (some (.imm y5)) (some (.imm y6)) y7 y8 y9 (fun b hb => hL b (List.mem_cons_of_mem _ hb)) k1 (by omega) (by omega)
    refine ⟨s', z4, z5, z6, z7, z8, z9, g1, ?_, by rw [List.length_cons]; omega, ?_⟩
    · rw [g2, k2]; rfl
    · rw [List.map_cons]
      exact c_cons hg k3 g4
end
/-- what of one row is left behind the other -/
def FrestP (f : Fn) : Prop := ∀ (d e : D) (F G : List Fo), FrIs d F → FrIs e G → fnorm F + fnorm G < 2 ^ 40 → F.length + G.length ≤ 700 → ∃ s : List Fz, St s ∧ s.map (·.2) = frest F G ∧ s.length ≤ F.length + G.length ∧ f [.imm d, .imm e] = some (.own false (stL s), [none, none])
theorem list_of {d : D} {ds : List D} (h : itemsOf d = some ds) (hl : ds.length ≤ 9000) : dList d = some (.own false ds) := by
  cases d <;> first | (cases h; done) | skip
  all_goals (simp only [itemsOf, Option.some.injEq] at h; subst h; try rfl)
theorem frest_ok {cl : Nat → Fn} (P : PlusP (cl 7)) (M : Min6 (cl 8)) (M' : Min1 (cl 8)) : FrestP (fn17 cl) := fun d e F G ⟨l, hd, hF, hl⟩ ⟨m, he, hG, hm⟩ hn hlen => by
  subst hF
  subst hG
  rw [List.length_map, List.length_map] at hlen
  have c1 := c_cmap (mg := uG) (me := mTup (mCons (mVar 4) (mCons (mTup (mCons (mCall (cl 8) (rVal (mC (.tuple ([0, 1].map .int))) (rVal (mVar 5) rNil))) (mCons (mCall (cl 8) (rVal (mC (.tuple ([0, 1].map .int))) (rVal (mVar 6) rNil))) mNil))) mNil))) (vs := [4, 5, 6]) (ρ := [some (.imm d), some (.imm e), none, none, none, none, none, none, none, none]) (fun a : Fz => a.1) (fun a => foD (fneg a.2)) m.reverse fun a ha => by
    have ha' := List.mem_reverse.mp ha
    obtain ⟨e1, e2, c, hd, hc, h1, h2⟩ := hm a ha'
    have hz := fsz_in ha'
    have hb : a.2.2.1.natAbs + a.2.2.2.natAbs = fsz a.2 := rfl
    have q1 := M e1 _ h1 (by omega)
    have q2 := M' e2 _ h2 (by omega)
    rw [z36] at q1 q2
    have hg : uG a.1 [some (.imm d), some (.imm e), none, none, none, none, none, none, none, none] = some [some (.imm d), some (.imm e), none, none, ii a.2.1, some (.imm e1), some (.imm e2), none, none, none] := by
      rcases hd with h | h <;> rw [h] <;> rcases hc with h | h <;> rw [h] <;> rfl
    exact ⟨_, _, _, _, hg, c_tup (c_acons rfl rfl (c_acons (c_tup (c_acons (c_call (c_rval rfl rfl (c_rval rfl rfl rfl)) rfl rfl q1 rfl) rfl (c_acons (c_call (c_rval rfl rfl (c_rval rfl rfl rfl)) rfl rfl q2 rfl) rfl c_anil)) rfl) rfl c_anil)) rfl, rfl, rfl⟩
  have hi : mIRev (mVar 1) [some (.imm d), some (.imm e), none, none, none, none, none, none, none, none] = some (m.reverse.map (·.1), [some (.imm d), some (.imm e), none, none, none, none, none, none, none, none]) := by
    rw [List.map_reverse]
    cases e <;> first | cases he; rfl | cases he
  have hf : fits (m.reverse.map fun a : Fz => foD (fneg a.2)).length = true := c_fits (by rw [List.length_map, List.length_reverse]; omega)
  have k1 : uC cl [some (.imm d), some (.imm e), none, none, none, none, none, none, none, none] = some (.val (.own false (m.reverse.map fun a : Fz => foD (fneg a.2))), [some (.imm d), some (.imm e), none, none, none, none, none, none, none, none]) := c_comp hi rfl c1 hf rfl
  let T : List Fz := m.reverse.map fun a => (foD (fneg a.2), fneg a.2)
  have hT1 : (m.reverse.map fun a : Fz => foD (fneg a.2)) = T.map (·.1) := by show _ = List.map _ (List.map _ _); rw [List.map_map]; rfl
  have hT2 : T.map (·.2) = finv (m.map (·.2)) := by
    show List.map _ (List.map _ _) = _
    unfold finv
    rw [List.map_map, ← List.map_reverse, List.map_map]; rfl
  have hT3 : T.length = m.length := by show (List.map _ _).length = _; rw [List.length_map, List.length_reverse]
  have hT4 : ∀ a ∈ T, FoIn a.1 a.2 := fun a ha => by
    obtain ⟨b, _, rfl⟩ := List.mem_map.mp ha
    exact (foSt _).into
  rw [hT1] at k1
  clear_value T
  have hsum : fnorm ((l ++ T).map (·.2)) = fnorm (l.map (·.2)) + fnorm (m.map (·.2)) := by rw [List.map_append, fnorm_app, hT2, fnorm_inv]
  obtain ⟨s', y4, y5, y6, y7, y8, y9, g1, g2, g3, g4⟩ := uloop P (x0 := some (.imm d)) (x1 := some (.imm e)) (x2 := some (.own false (T.map (·.1)))) (l ++ T) [] none none none none none none (fun a ha => by
    rcases List.mem_append.mp ha with h | h
    · exact hl a h
    · exact hT4 a h) (fun _ h => by cases h) (by rw [hsum]; simp only [fnorm, List.map_nil, List.sum_nil]; simp only [fnorm] at hn; omega) (by rw [List.length_append, hT3]; simp; omega)
  rw [List.length_append, hT3, List.length_nil, Nat.zero_add] at g3
  refine ⟨s', g1, ?_, by rw [List.length_map, List.length_map]; exact g3, ?_⟩
  · rw [g2, List.map_append, hT2]; rfl
  · have hL : dList d = some (.own false (l.map (·.1))) := list_of hd (by rw [List.length_map]; omega)
    have hA : dAdd (.list (l.map (·.1))) (.list (T.map (·.1))) = some (.own false ((l ++ T).map (·.1))) := by
      rw [List.map_append]
      show (if fits _ = true then some (Sv.own false _) else none) = _
      rw [if_pos (c_fits (by rw [List.length_map, List.length_map]; omega))]
    have hs : mISeq (bin dAdd (un dList (mVar 0)) (mVar 2)) [some (.imm d), some (.imm e), some (.own false (T.map fun x : Fz => x.1)), some (.own false []), none, none, none, none, none, none] = some ((l ++ T).map (·.1), [some (.imm d), some (.imm e), some (.own false (T.map fun x : Fz => x.1)), some (.own false []), none, none, none, none, none, none]) := by
      have := c_bin (f := dAdd) (ma := un dList (mVar 0)) (mb := mVar 2) (ρ := [some (.imm d), some (.imm e), some (.own false (T.map fun x : Fz => x.1)), some (.own false []), none, none, none, none, none, none]) (c_un (f := dList) rfl rfl hL) rfl rfl rfl hA
      unfold mISeq
      rw [this]
      rfl
    rw [frest_fn]
    exact c_fn (ρ0 := [some (.imm d), some (.imm e), none, none, none, none, none, none, none, none]) rfl rfl (c_seq (c_set k1 rfl) (c_seq (c_set (c_lst c_anil rfl) rfl) (c_seq (c_for hs g4) (c_ret rfl rfl)))) rfl

end K46

namespace K46
open PySem Vi PyProof.Rows
/-! wholes -/
theorem v1_eq (k : Int) : v1 k = ((k : Int) : Rat) := by
  unfold v1 v36
  have h := Rat.mkRat_mul_right (n := k) (d := 1) (a := 192752239680) (by decide)
  rw [Nat.one_mul, Rat.mkRat_one] at h
  rw [show (192752239680 * k : Int) = k * ((192752239680 : Nat) : Int) by rw [Int.mul_comm]; rfl]
  exact h
theorem v1_top (k : Int) : (v1 k).num = k := by rw [v1_eq]; rfl
theorem v1_bot (k : Int) : (v1 k).den = 1 := by rw [v1_eq]; rfl
/-- a quotient by a whole number -/
theorem quot {x : Rat} {X kz : Int} {m : Nat} (hm : 0 < m) (hx : x = v36 X) (h : kz * (m : Int) = X) : mkRat x.num (x.den * m) = v36 kz := by
  have h1 : mkRat x.num (x.den * m) = x * mkRat 1 m := by
    have := Rat.mkRat_mul_mkRat x.num 1 x.den m
    rw [Rat.mkRat_self, Int.mul_one] at this
    exact this.symm
  rw [h1, hx]
  unfold v36
  rw [Rat.mkRat_mul_mkRat, Int.mul_one, ← h, Rat.mkRat_mul_right (by omega)]
/-- the zero of a pair -/
def zr (f : Fo) : Int := -(32125373280 * f.2.1) / f.2.2
theorem dvd24 {v : Int} (h0 : v ≠ 0) (h : v.natAbs ≤ 24) : v ∣ 32125373280 := by
  have key : ∀ j : Fin 25, j.val = 0 ∨ 32125373280 % j.val = 0 := by decide
  have hj : v.natAbs = 0 ∨ 32125373280 % v.natAbs = 0 := key ⟨v.natAbs, by omega⟩
  rcases hj with hj | hj
  · omega
  · refine Int.natAbs_dvd.mp ?_
    show ((v.natAbs : Nat) : Int) ∣ ((32125373280 : Nat) : Int)
    exact Int.natCast_dvd_natCast.mpr (Nat.dvd_of_mod_eq_zero hj)
theorem zr_mul {f : Fo} (h0 : f.2.2 ≠ 0) (h : f.2.2.natAbs ≤ 24) : zr f * f.2.2 = -(32125373280 * f.2.1) := by
  unfold zr
  exact Int.ediv_mul_cancel (Int.dvd_neg.mpr (Int.dvd_mul_of_dvd_left (dvd24 h0 h)))
theorem zr_le {f : Fo} (h0 : f.2.2 ≠ 0) (h : f.2.2.natAbs ≤ 24) : (zr f).natAbs ≤ 32125373280 * f.2.1.natAbs := by
  have e := congrArg Int.natAbs (zr_mul h0 h)
  rw [Int.natAbs_mul, Int.natAbs_neg, Int.natAbs_mul] at e
  have h1 : 1 ≤ f.2.2.natAbs := by omega
  have := Nat.le_mul_of_pos_right (zr f).natAbs h1
  have h2 : (32125373280 : Int).natAbs = 32125373280 := rfl
  rw [h2] at e
  omega
/-- a pair at a number (k for k / N) -/
def evf (k : Int) (f : Fo) : Pr := (f.1, 32125373280 * f.2.1 + f.2.2 * k)
def ev (k : Int) (F : List Fo) : Row := F.map (evf k)
theorem evf_zero {f : Fo} {k : Int} (hf : ¬ (f.2.1 = 0 ∧ f.2.2 = 0)) (h : f.2.2.natAbs ≤ 24) (e : (evf k f).2 = 0) : f.2.2 ≠ 0 ∧ k = zr f := by
  have e' : 32125373280 * f.2.1 + f.2.2 * k = 0 := e
  have h0 : f.2.2 ≠ 0 := by
    intro z
    rw [z, Int.zero_mul] at e'
    exact hf ⟨by omega, z⟩
  refine ⟨h0, ?_⟩
  have m := zr_mul h0 h
  have : (k - zr f) * f.2.2 = 0 := by
    rw [Int.sub_mul, m, Int.mul_comm k]; omega
  rcases Int.mul_eq_zero.mp this with h | h
  · omega
  · exact absurd h h0
/-! the stack at a number -/
theorem ev_push (k : Int) (s : List Fo) (p : Fo) : nf ((ev k (fpush s p)).reverse) = nf ((ev k s).reverse ++ [evf k p]) := by
  have hz : ∀ (a : Row) (q : Pr), q.2 = 0 → nf (a ++ [q]) = nf a := fun a q hq => by
    have h1 : nf [q] = nf [] := by
      show (if q.2 = 0 then ([] : Row) else [q]).reverse = _
      rw [if_pos hq]; rfl
    have := same_left (t := a) |>.mpr h1
    rwa [List.append_nil] at this
  have hj : ∀ (a : Row) (p1 x y : Int), nf (a ++ [(p1, x)] ++ [(p1, y)]) = nf (a ++ [(p1, x + y)]) := fun a p1 x y => by
    rw [List.append_assoc]
    refine same_left.mpr ?_
    show ((pushS (pushS [] (p1, x)) (p1, y))).reverse = (pushS [] (p1, x + y)).reverse
    congr 1
    by_cases hx : x = 0
    · subst hx
      simp [pushS]
    · have e1 : pushS [] (p1, x) = [(p1, x)] := by show (if x = 0 then ([] : Row) else [(p1, x)]) = _; rw [if_neg hx]
      rw [e1]
      by_cases hxy : x + y = 0
      · simp [pushS, hxy]
      · simp [pushS, hxy]
  cases s with
  | nil =>
    rw [fpush_nil]
    split
    · rename_i h
      have : (evf k p).2 = 0 := by show 32125373280 * p.2.1 + p.2.2 * k = 0; rw [h.1, h.2]; omega
      exact (hz [] _ this).symm
    · rfl
  | cons l s =>
    have hr : (ev k (l :: s)).reverse = (ev k s).reverse ++ [evf k l] := by unfold ev; rw [List.map_cons, List.reverse_cons]
    rw [fpush_cons, hr]
    by_cases h : l.1 = p.1
    · rw [if_pos h]
      have e1 : evf k l = (p.1, (evf k l).2) := by unfold evf; rw [h]
      have e2 : evf k p = (p.1, (evf k p).2) := rfl
      have hsum : (evf k l).2 + (evf k p).2 = 32125373280 * (l.2.1 + p.2.1) + (l.2.2 + p.2.2) * k := by
        show (32125373280 * l.2.1 + l.2.2 * k) + (32125373280 * p.2.1 + p.2.2 * k) = _
        rw [Int.add_mul]; omega
      rw [e1, e2, hj, hsum]
      split
      · rename_i h0
        exact (hz _ _ (by show 32125373280 * (l.2.1 + p.2.1) + (l.2.2 + p.2.2) * k = 0; rw [h0.1, h0.2]; omega)).symm
      · have hr2 : (ev k ((p.1, l.2.1 + p.2.1, l.2.2 + p.2.2) :: s)).reverse = (ev k s).reverse ++ [(p.1, 32125373280 * (l.2.1 + p.2.1) + (l.2.2 + p.2.2) * k)] := by unfold ev; rw [List.map_cons, List.reverse_cons]; rfl
        rw [hr2]
    · rw [if_neg h]
      split
      · rename_i h0
        rw [hr]
        exact (hz _ _ (by show 32125373280 * p.2.1 + p.2.2 * k = 0; rw [h0.1, h0.2]; omega)).symm
      · have hr2 : (ev k (p :: l :: s)).reverse = (ev k s).reverse ++ [evf k l] ++ [evf k p] := by unfold ev; rw [List.map_cons, List.reverse_cons, List.map_cons, List.reverse_cons]
        rw [hr2]
theorem ev_fold (k : Int) : ∀ (G s : List Fo), nf ((ev k (G.foldl fpush s)).reverse) = nf ((ev k s).reverse ++ ev k G)
  | [], s => by show _ = nf (_ ++ []); rw [List.append_nil]; rfl
  | g :: G, s => by
    rw [List.foldl_cons, ev_fold k G (fpush s g)]
    have := same_right (t := ev k G) |>.mpr (ev_push k s g)
    rw [this, List.append_assoc]; rfl
theorem ev_inv (k : Int) (G : List Fo) : ev k (finv G) = inv (ev k G) := by
  unfold ev finv inv
  rw [List.map_map, ← List.map_reverse, List.map_map]
  refine List.map_congr_left fun f _ => ?_
  show ((f.1, 32125373280 * -f.2.1 + -f.2.2 * k) : Pr) = (f.1, -(32125373280 * f.2.1 + f.2.2 * k))
  rw [Int.neg_mul]
  congr 1
  omega
/-- the rest, read from its end -/
theorem ev_rest (k : Int) (F G : List Fo) : nf ((ev k (frest F G)).reverse) = [] ↔ nf (ev k F) = nf (ev k G) := by
  have h := ev_fold k (F ++ finv G) []
  have h2 : ev k (F ++ finv G) = ev k F ++ inv (ev k G) := by rw [← ev_inv]; unfold ev; rw [List.map_append]
  rw [h2] at h
  change nf ((ev k (frest F G)).reverse) = nf (ev k F ++ inv (ev k G)) at h
  rw [h]
  exact same_undo (a := ev k F) (b := ev k G)
end K46

namespace K46
open PySem Vi PyProof.Rows
/-! the rest and its zeros -/
theorem frest_FN (F G : List Fo) : FN (frest F G) := by
  have key : ∀ (L s : List Fo), FN s → FN (L.foldl fpush s) := by
    intro L
    induction L with
    | nil => intro s h; exact h
    | cons p L ih => intro s h; exact ih _ (fpush_FN h p)
  exact key _ [] trivial
theorem frest_norm (F G : List Fo) : fnorm (frest F G) ≤ fnorm F + fnorm G := by
  have key : ∀ (L s : List Fo), fnorm (L.foldl fpush s) ≤ fnorm s + fnorm L := by
    intro L
    induction L with
    | nil => intro s; simp [fnorm]
    | cons p L ih =>
      intro s
      have h1 := ih (fpush s p)
      have h2 := fpush_norm s p
      rw [List.foldl_cons, fnorm_cons]
      omega
  have := key (F ++ finv G) []
  rw [fnorm_app, fnorm_inv] at this
  have h0 : fnorm [] = 0 := rfl
  unfold frest
  omega
/-- how much of wholes -/
def vsz (F : List Fo) : Nat := (F.map fun f => f.2.2.natAbs).sum
theorem vsz_cons (p : Fo) (F : List Fo) : vsz (p :: F) = p.2.2.natAbs + vsz F := by simp [vsz]
theorem vsz_app (F G : List Fo) : vsz (F ++ G) = vsz F + vsz G := by simp [vsz]
theorem vsz_in {F : List Fo} {f : Fo} (h : f ∈ F) : f.2.2.natAbs ≤ vsz F := by
  induction F with
  | nil => cases h
  | cons p F ih =>
    rw [vsz_cons]
    rcases List.mem_cons.mp h with rfl | h
    · omega
    · have := ih h; omega
theorem vsz_inv (F : List Fo) : vsz (finv F) = vsz F := by
  induction F with
  | nil => rfl
  | cons p F ih =>
    rw [finv_cons, vsz_app, ih, vsz_cons, vsz_cons]
    simp [vsz, fneg]; omega
theorem vsz_push (s : List Fo) (p : Fo) : vsz (fpush s p) ≤ vsz s + p.2.2.natAbs := by
  cases s with
  | nil => rw [fpush_nil]; split <;> simp [vsz]
  | cons l s =>
    rw [fpush_cons]
    have h2 := Int.natAbs_add_le l.2.2 p.2.2
    split
    · split
      · rw [vsz_cons]; omega
      · rw [vsz_cons, vsz_cons]; simp only at *; omega
    · split
      · omega
      · rw [vsz_cons p]; omega
theorem frest_vsz (F G : List Fo) : vsz (frest F G) ≤ vsz F + vsz G := by
  have key : ∀ (L s : List Fo), vsz (L.foldl fpush s) ≤ vsz s + vsz L := by
    intro L
    induction L with
    | nil => intro s; simp [vsz]
    | cons p L ih =>
      intro s
      have h1 := ih (fpush s p)
      have h2 := vsz_push s p
      rw [List.foldl_cons, vsz_cons]
      omega
  have := key (F ++ finv G) []
  rw [vsz_app, vsz_inv] at this
  have h0 : vsz [] = 0 := rfl
  unfold frest
  omega
theorem frest_len (F G : List Fo) : (frest F G).length ≤ F.length + G.length := by
  have key : ∀ (L s : List Fo), (L.foldl fpush s).length ≤ s.length + L.length := by
    intro L
    induction L with
    | nil => intro s; simp
    | cons p L ih =>
      intro s
      have h1 := ih (fpush s p)
      have h2 := fpush_len s p
      rw [List.foldl_cons, List.length_cons]
      omega
  have := key (F ++ finv G) []
  rw [List.length_append, finv, List.length_map, List.length_reverse, List.length_nil] at this
  unfold frest finv
  omega
/-- no pair gone: nothing goes together -/
theorem FN_full {k : Int} : ∀ s : List Fo, FN s → (∀ f ∈ s, (evf k f).2 ≠ 0) → nfS ((ev k s).reverse) = ev k s
  | [], _, _ => rfl
  | p :: s, h, h0 => by
    have ih := FN_full s h.tail fun f hf => h0 f (List.mem_cons_of_mem _ hf)
    have hp := h0 p (List.mem_cons_self ..)
    have hr : (ev k (p :: s)).reverse = (ev k s).reverse ++ [evf k p] := by unfold ev; rw [List.map_cons, List.reverse_cons]
    have hs : nfS ((ev k s).reverse ++ [evf k p]) = pushS (nfS ((ev k s).reverse)) (evf k p) := by unfold nfS; rw [List.foldl_append]; rfl
    rw [hr, hs, ih]
    have ht : ev k (p :: s) = evf k p :: ev k s := rfl
    rw [ht]
    cases s with
    | nil =>
      show (if (evf k p).2 = 0 then ([] : Row) else [evf k p]) = _
      rw [if_neg hp]; rfl
    | cons q s =>
      have hne : (evf k q).1 ≠ (evf k p).1 := fun z => h.ne q s rfl z.symm
      show (if (evf k q).1 = (evf k p).1 then (if (evf k q).2 + (evf k p).2 = 0 then ev k s else ((evf k p).1, (evf k q).2 + (evf k p).2) :: ev k s) else if (evf k p).2 = 0 then evf k q :: ev k s else evf k p :: evf k q :: ev k s) = _
      rw [if_neg hne, if_neg hp]; rfl
/-- each number at which nothing is left is a zero -/
theorem rest_zero {k : Int} {s : List Fo} (h : FN s) (hv : vsz s ≤ 24) (hne : s ≠ []) (e : nf ((ev k s).reverse) = []) : ∃ f ∈ s, f.2.2 ≠ 0 ∧ k = zr f := by
  apply Classical.byContradiction
  intro hno
  have hh : ∀ (t : List Fo), FN t → (∀ f ∈ t, ¬ (f.2.1 = 0 ∧ f.2.2 = 0)) := by
    intro t
    induction t with
    | nil => intro _ f hf; cases hf
    | cons p t ih =>
      intro ht f hf
      rcases List.mem_cons.mp hf with rfl | hf
      · exact ht.head
      · exact ih ht.tail f hf
  have h0 : ∀ f ∈ s, (evf k f).2 ≠ 0 := fun f hf hz => by
    obtain ⟨h1, h2⟩ := evf_zero (hh s h f hf) (by have := vsz_in hf; omega) hz
    exact hno ⟨f, hf, h1, h2⟩
  have := FN_full s h h0
  unfold nf at e
  rw [this] at e
  have : ev k s = [] := by simpa using e
  exact hne (List.map_eq_nil_iff.mp this)
def zs (L : List Fo) : List Int := (L.filter fun f => decide (f.2.2 ≠ 0)).map zr
/-! one denominator for all zeros -/
abbrev NN : Nat := 192752239680
theorem v_nd (z : Int) : (v36 z).den ∣ NN ∧ (v36 z).num * ((NN / (v36 z).den : Nat) : Int) = z := by
  obtain ⟨e1, e2⟩ := low_rat z NN (by decide)
  have hg : 0 < Nat.gcd z.natAbs NN := Nat.gcd_pos_of_pos_right _ (by decide)
  have hd : Nat.gcd z.natAbs NN ∣ NN := Nat.gcd_dvd_right _ _
  have hd1 : ((Nat.gcd z.natAbs NN : Nat) : Int) ∣ z := Int.natAbs_dvd_natAbs.mp (by rw [Int.natAbs_natCast]; exact Nat.gcd_dvd_left _ _)
  have hden : (v36 z).den = NN / Nat.gcd z.natAbs NN := by
    have : ((v36 z).den : Int) = ((NN / Nat.gcd z.natAbs NN : Nat) : Int) := by
      rw [Int.natCast_ediv]; exact e2
    exact_mod_cast this
  have hnum : (v36 z).num = z / ((Nat.gcd z.natAbs NN : Nat) : Int) := e1
  generalize Nat.gcd z.natAbs NN = g at *
  refine ⟨by rw [hden]; exact Nat.div_dvd_of_dvd hd, ?_⟩
  rw [hden, Nat.div_div_self hd (by decide), hnum, Int.ediv_mul_cancel hd1]
def lowOf (l : List Int) (a : Nat) : Nat := l.foldl (fun a z => Nat.lcm a (v36 z).den) a
theorem low_dvd : ∀ (l : List Int) (a : Nat), a ∣ NN → lowOf l a ∣ NN ∧ a ∣ lowOf l a ∧ ∀ z ∈ l, (v36 z).den ∣ lowOf l a
  | [], a, h => ⟨h, Nat.dvd_refl _, fun _ h => by cases h⟩
  | z :: l, a, h => by
    obtain ⟨h1, h2, h3⟩ := low_dvd l (Nat.lcm a (v36 z).den) (Nat.lcm_dvd h (v_nd z).1)
    refine ⟨h1, Nat.dvd_trans (Nat.dvd_lcm_left _ _) h2, fun y hy => ?_⟩
    rcases List.mem_cons.mp hy with rfl | hy
    · exact Nat.dvd_trans (Nat.dvd_lcm_right _ _) h2
    · exact h3 y hy
def topOf (low : Nat) (z : Int) : Int := (v36 z).num * ((low / (v36 z).den : Nat) : Int)
theorem top_mul {low : Nat} {z : Int} (h1 : low ∣ NN) (h2 : (v36 z).den ∣ low) : topOf low z * ((NN / low : Nat) : Int) = z := by
  have hz := (v_nd z).2
  have hl : 0 < low := Nat.pos_of_dvd_of_pos h1 (by decide)
  have hd : 0 < (v36 z).den := Frac_pos _
  have e : low / (v36 z).den * (NN / low) = NN / (v36 z).den := by
    obtain ⟨a, rfl⟩ := h2
    obtain ⟨b, hb⟩ := h1
    rw [hb, Nat.mul_div_cancel_left _ hl, Nat.mul_div_cancel_left _ hd, Nat.mul_assoc, Nat.mul_div_cancel_left _ hd]
  unfold topOf
  rw [Int.mul_assoc, ← Int.natCast_mul, e]
  exact hz
theorem top_back {low : Nat} {t : Int} (h1 : low ∣ NN) : mkRat t low = v36 (t * ((NN / low : Nat) : Int)) := by
  have hl : 0 < low := Nat.pos_of_dvd_of_pos h1 (by decide)
  have hc : 0 < NN / low := Nat.div_pos (Nat.le_of_dvd (by decide) h1) hl
  have := Rat.mkRat_mul_right (n := t) (d := low) (a := NN / low) (by omega)
  rw [Nat.mul_div_cancel' h1] at this
  exact this.symm
/-- the distinct zeros in their order -/
theorem zeros_sorted {l : List Int} {low : Nat} (h1 : low ∣ NN) (h2 : ∀ z ∈ l, (v36 z).den ∣ low) : (setI (l.map (topOf low))).map (fun t => t * ((NN / low : Nat) : Int)) = setI l := by
  have hl : 0 < low := Nat.pos_of_dvd_of_pos h1 (by decide)
  have hc : 0 < NN / low := Nat.div_pos (Nat.le_of_dvd (by decide) h1) hl
  generalize hcc : ((NN / low : Nat) : Int) = c at *
  have hc0 : 0 < c := by omega
  refine ascI_eq ?_ (setI_asc l) fun k => ?_
  · rw [List.pairwise_map]
    exact (setI_asc _).imp fun h => Int.mul_lt_mul_of_pos_right h hc0
  · rw [setI_mem, List.mem_map]
    constructor
    · rintro ⟨t, ht, rfl⟩
      rw [setI_mem, List.mem_map] at ht
      obtain ⟨z, hz, rfl⟩ := ht
      have := top_mul h1 (h2 z hz)
      rw [hcc] at this
      rw [this]; exact hz
    · intro hk
      refine ⟨topOf low k, ?_, ?_⟩
      · rw [setI_mem]; exact List.mem_map_of_mem hk
      · have := top_mul h1 (h2 k hk)
        rw [hcc] at this
        exact this
end K46

namespace K46
open PySem Vi PyProof.Rows
theorem c_cfil {α : Type} {mg : MG} {mt : MT} {me : ME} {vs : List Nat} {ρ : Fm} (f g : α → D) (P : α → Bool) : ∀ (l : List α), (∀ a ∈ l, ∃ ρ1 ρ2, mg (f a) ρ = some ρ1 ∧ mt ρ1 = some (P a, ρ2) ∧ wipeA ρ2 vs = ρ ∧ (P a = true → ∃ pr ρ3 ρ4, me ρ2 = some (pr, ρ3) ∧ frz ρ3 pr = some (g a, ρ4) ∧ wipeA ρ4 vs = ρ)) → cloop mg mt me vs (l.map f) ρ = some ((l.filter P).map g, ρ)
  | [], _ => rfl
  | a :: l, h => by
    obtain ⟨ρ1, ρ2, h1, h2, h3, hp⟩ := h a (List.mem_cons_self ..)
    have ih := c_cfil f g P l fun b hb => h b (List.mem_cons_of_mem _ hb)
    rw [List.map_cons, List.filter_cons]
    cases hP : P a with
    | true =>
      rw [hP] at h2
      obtain ⟨pr, ρ3, ρ4, h4, h5, h6⟩ := hp hP
      rw [if_pos rfl, List.map_cons]
      exact c_ccons (ρ1 := ρ1) h1 h2 h4 h5 (by rw [h6]; exact ih)
    | false =>
      rw [hP] at h2
      rw [if_neg (by decide)]
      exact c_cskip (ρ1 := ρ1) h1 h2 (by rw [h3]; exact ih)
/-! products and quotients of the program -/
theorem times_ok {cl : Nat → Fn} (F : FracP (cl 5)) : TimesP (fn9 cl) := fun d e q r hd he hq hr => by
  have f := F (q.num * r.num) (q.den * r.den) (Nat.mul_pos (Frac_pos q) (Frac_pos r)) (hq.mul hr)
  rw [mul_cross, Int.natCast_mul] at f
  have m1 := mul_int (i := q.num) (j := r.num) hq.num hr.num
  have m2 := mul_int (i := (q.den : Int)) (j := (r.den : Int)) hq.den hr.den
  unfold fn9
  exact c_fn (ρ0 := [some (.imm d), some (.imm e)]) rfl rfl (c_ret (c_call (c_rval (c_bin (c_bin rfl rfl rfl rfl hd.top) (c_bin rfl rfl rfl rfl he.top) rfl rfl m1) rfl (c_rval (c_bin (c_bin rfl rfl rfl rfl hd.bot) (c_bin rfl rfl rfl rfl he.bot) rfl rfl m2) rfl rfl)) rfl rfl f rfl) rfl) rfl
theorem over_raw {cl : Nat → Fn} {x y : D} {a b c d : Int} {r : Sv} (x0 : dIx x (.int 0) = some (.imm (.int a))) (x1 : dIx x (.int 1) = some (.imm (.int b))) (y0 : dIx y (.int 0) = some (.imm (.int c))) (y1 : dIx y (.int 1) = some (.imm (.int d))) (ha : a.natAbs < 2 ^ 90) (hb : b.natAbs < 2 ^ 90) (hc : c.natAbs < 2 ^ 90) (hd : d.natAbs < 2 ^ 90)
    (P : cl 5 [.imm (.int (a * d)), .imm (.int (b * c))] = some (r, [none, none])) : fn10 cl [.imm x, .imm y] = some (r, [none, none]) := by
  have m1 := mul_int ha hd
  have m2 := mul_int hb hc
  unfold fn10
  exact c_fn (ρ0 := [some (.imm x), some (.imm y)]) rfl rfl (c_ret (c_call (c_rval (c_bin (c_bin rfl rfl rfl rfl x0) (c_bin rfl rfl rfl rfl y1) rfl rfl m1) rfl (c_rval (c_bin (c_bin rfl rfl rfl rfl x1) (c_bin rfl rfl rfl rfl y0) rfl rfl m2) rfl rfl)) rfl rfl P rfl) rfl) rfl
/-- the zero, out of a number's lowest terms and a whole -/
theorem zr_case {f : Fo} (h0 : f.2.2 ≠ 0) (h : f.2.2.natAbs ≤ 24) : (0 < f.2.2 ∧ ∃ m : Nat, f.2.2 = (m : Int) ∧ 0 < m ∧ mkRat (v6 (-f.2.1)).num ((v6 (-f.2.1)).den * m) = v36 (zr f)) ∨ (f.2.2 < 0 ∧ ∃ m : Nat, f.2.2 = -(m : Int) ∧ 0 < m ∧ mkRat (-(v6 (-f.2.1)).num) ((v6 (-f.2.1)).den * m) = v36 (zr f)) := by
  have hz := zr_mul h0 h
  have hx : v6 (-f.2.1) = v36 (-(32125373280 * f.2.1)) := by unfold v6; rw [Int.mul_neg]
  rcases Int.lt_or_gt_of_ne h0 with hn | hp
  · refine .inr ⟨hn, (-f.2.2).toNat, by omega, by omega, ?_⟩
    have e : ((-f.2.2).toNat : Int) = -f.2.2 := by omega
    have hx2 : -(v6 (-f.2.1)) = v36 (32125373280 * f.2.1) := by rw [hx, ← v_neg, Int.neg_neg]
    have := quot (x := -(v6 (-f.2.1))) (X := 32125373280 * f.2.1) (kz := zr f) (m := (-f.2.2).toNat) (by omega) hx2 (by rw [e, Int.mul_neg, hz, Int.neg_neg])
    exact this
  · refine .inl ⟨hp, f.2.2.toNat, by omega, by omega, ?_⟩
    have e : (f.2.2.toNat : Int) = f.2.2 := by omega
    exact quot (by omega) hx (by rw [e, hz])
def OverZ (f : Fn) : Prop := ∀ (e : D) (g : Fo), IsFr e (v1 g.2.2) → g.2.2 ≠ 0 → g.2.2.natAbs ≤ 24 → g.2.1.natAbs < 2 ^ 40 → f [.imm (f6 (-g.2.1)), .imm e] = some (.imm (f36 (zr g)), [none, none])
theorem overZ_ok {cl : Nat → Fn} (F : FracP (cl 5)) (N : FracN (cl 5)) : OverZ (fn10 cl) := fun e g he h0 h1 h2 => by
  have hs := v6_sd (k := -g.2.1) (by rw [Int.natAbs_neg]; exact h2)
  have ht : (v1 g.2.2).num = g.2.2 := v1_top _
  have hb : ((v1 g.2.2).den : Int) = 1 := by rw [v1_bot]; rfl
  have y0 := he.top
  have y1 := he.bot
  rw [ht] at y0
  rw [hb] at y1
  have hd : (v6 (-g.2.1)).den < 2 ^ 40 := hs.den
  have hdp := Frac_pos (v6 (-g.2.1))
  have h40 : (2 : Nat) ^ 40 < 2 ^ 90 := by decide
  refine over_raw (a := (v6 (-g.2.1)).num) (b := ((v6 (-g.2.1)).den : Int)) rfl rfl y0 y1 hs.num (by rw [Int.natAbs_natCast]; omega) (by omega) (by decide) ?_
  rw [Int.mul_one]
  have hbig : ∀ m : Nat, m ≤ 24 → (v6 (-g.2.1)).den * m < 2 ^ 200 := fun m hm => by
    have h1 : (v6 (-g.2.1)).den * m ≤ 2 ^ 40 * 24 := Nat.mul_le_mul (Nat.le_of_lt hd) hm
    have h2 : (2 : Nat) ^ 40 * 24 < 2 ^ 200 := by decide
    omega
  rcases zr_case h0 h1 with ⟨_, m, hm, hm0, e⟩ | ⟨_, m, hm, hm0, e⟩
  · have := F (v6 (-g.2.1)).num ((v6 (-g.2.1)).den * m) (Nat.mul_pos hdp hm0) (hbig m (by omega))
    rw [e, Int.natCast_mul, ← hm] at this
    exact this
  · have hna : (((v6 (-g.2.1)).den : Int) * g.2.2).natAbs = (v6 (-g.2.1)).den * m := by
      rw [Int.natAbs_mul, Int.natAbs_natCast, hm, Int.natAbs_neg, Int.natAbs_natCast]
    have hneg : ((v6 (-g.2.1)).den : Int) * g.2.2 < 0 := Int.mul_neg_of_pos_of_neg (by omega) (by omega)
    have := N (v6 (-g.2.1)).num (((v6 (-g.2.1)).den : Int) * g.2.2) hneg (by rw [hna]; exact hbig m (by omega))
    rw [hna, e] at this
    exact this
def OverW (f : Fn) : Prop := ∀ (t : Int) (low : Nat), 0 < low → low ≤ NN → t.natAbs < 2 ^ 90 → f [.imm (.tuple [.int t, .int 1]), .imm (.tuple [.int (low : Int), .int 1])] = some (.imm (fr (mkRat t low)), [none, none])
theorem overW_ok {cl : Nat → Fn} (F : FracP (cl 5)) : OverW (fn10 cl) := fun t low h0 h1 h2 => by
  have h90 : NN < 2 ^ 90 := by decide
  refine over_raw (a := t) (b := 1) (c := (low : Int)) (d := 1) rfl rfl rfl rfl h2 (by decide) (by rw [Int.natAbs_natCast]; omega) (by decide) ?_
  rw [Int.mul_one, Int.one_mul]
  exact F t low h0 (Nat.lt_of_le_of_lt h1 (by decide))
/-! a row of forms at a number -/
def RowAtP (f : Fn) : Prop := ∀ (d : D) (F : List Fo) (k : Int), FrIs d F → F.length ≤ 700 → (∀ g ∈ F, g.2.1.natAbs < 2 ^ 40 ∧ g.2.2.natAbs ≤ 1000) → k.natAbs < 2 ^ 60 → f [.imm d, .imm (f36 k)] = some (.imm (rowD (ev k F)), [none, none])
theorem evf_le {g : Fo} {k : Int} (h1 : g.2.1.natAbs < 2 ^ 40) (h2 : g.2.2.natAbs ≤ 1000) (hk : k.natAbs < 2 ^ 60) : (g.2.2 * k).natAbs < 2 ^ 70 ∧ (32125373280 * g.2.1).natAbs < 2 ^ 75 ∧ (evf k g).2.natAbs < 2 ^ 76 := by
  have a1 : (g.2.2 * k).natAbs < 2 ^ 70 := by
    rw [Int.natAbs_mul]
    have := Nat.mul_le_mul h2 (Nat.le_of_lt hk)
    have h3 : 1000 * 2 ^ 60 < 2 ^ 70 := by decide
    omega
  have a2 : (32125373280 * g.2.1).natAbs < 2 ^ 75 := by
    rw [Int.natAbs_mul]
    have h4 : (32125373280 : Int).natAbs ≤ 32125373280 := by decide
    have := Nat.mul_le_mul h4 (Nat.le_of_lt h1)
    have h3 : 32125373280 * 2 ^ 40 < 2 ^ 75 := by decide
    omega
  refine ⟨a1, a2, ?_⟩
  have := Int.natAbs_add_le (32125373280 * g.2.1) (g.2.2 * k)
  show (32125373280 * g.2.1 + g.2.2 * k).natAbs < _
  omega
theorem at_val {P : Fn} {T : Fn} (hP : PlusP P) (hT : TimesP T) {e1 e2 : D} {g : Fo} {k : Int} (h1 : IsFr e1 (v6 g.2.1)) (h2 : IsFr e2 (v1 g.2.2)) (b1 : g.2.1.natAbs < 2 ^ 40) (b2 : g.2.2.natAbs ≤ 1000) (bk : k.natAbs < 2 ^ 60) : T [.imm e2, .imm (f36 k)] = some (.imm (f36 (g.2.2 * k)), [none, none]) ∧ P [.imm e1, .imm (f36 (g.2.2 * k))] = some (.imm (f36 (evf k g).2), [none, none]) := by
  obtain ⟨c1, c2, c3⟩ := evf_le b1 b2 bk
  have q1 := hT e2 (f36 k) _ _ h2 (isFr _) (v1_sd (by omega)).sm (v_sd (by omega)).sm
  rw [v_mul] at q1
  have q2 := hP e1 (f36 (g.2.2 * k)) _ _ h1 (isFr _) (v6_sd b1).sm (v_sd (by omega)).sm
  unfold v6 at q2
  rw [v_add] at q2
  exact ⟨q1, q2⟩
theorem rowat_ok {cl : Nat → Fn} (P : PlusP (cl 7)) (T : TimesP (cl 9)) : RowAtP (fn18 cl) := fun d F k ⟨l, hd, hF, hl⟩ hlen hb hk => by
  subst hF
  rw [List.length_map] at hlen
  have e := c_cmap (mg := mGseq 2 (mGcons (mN 2) (mGcons (mGseq 2 (mGcons (mN 3) (mGcons (mN 4) mGnil))) mGnil))) (me := mTup (mCons (mVar 2) (mCons (mCall (cl 7) (rVal (mVar 3) (rVal (mCall (cl 9) (rVal (mVar 4) (rVal (mVar 1) rNil))) rNil))) mNil))) (vs := [2, 3, 4]) (ρ := [some (.imm d), some (.imm (f36 k)), none, none, none]) (fun a : Fz => a.1) (fun a => prD (evf k a.2)) l fun a ha => by
    obtain ⟨e1, e2, c, hda, hc, h1, h2⟩ := hl a ha
    obtain ⟨b1, b2⟩ := hb a.2 (List.mem_map_of_mem ha)
    obtain ⟨q1, q2⟩ := at_val P T h1 h2 b1 b2 hk
    have hg : mGseq 2 (mGcons (mN 2) (mGcons (mGseq 2 (mGcons (mN 3) (mGcons (mN 4) mGnil))) mGnil)) a.1 [some (.imm d), some (.imm (f36 k)), none, none, none] = some [some (.imm d), some (.imm (f36 k)), ii a.2.1, some (.imm e1), some (.imm e2)] := by
      rcases hda with h | h <;> rw [h] <;> rcases hc with h | h <;> rw [h] <;> rfl
    have v1 : EV (mVar 1) [some (.imm d), some (.imm (f36 k)), ii a.2.1, some (.imm e1), some (.imm e2)] (f36 k) := ev_var rfl
    have v2 : EV (mVar 2) [some (.imm d), some (.imm (f36 k)), ii a.2.1, some (.imm e1), some (.imm e2)] (.int a.2.1) := ev_var rfl
    have v3 : EV (mVar 3) [some (.imm d), some (.imm (f36 k)), ii a.2.1, some (.imm e1), some (.imm e2)] e1 := ev_var rfl
    have v4 : EV (mVar 4) [some (.imm d), some (.imm (f36 k)), ii a.2.1, some (.imm e1), some (.imm e2)] e2 := ev_var rfl
    obtain ⟨pr, g1, g2, _⟩ := e_tup (ea_cons v2 (ea_cons (e_call2 v3 (e_call2 v4 v1 q1) q2) ea_nil)) (show 2 ≤ 10000 by decide)
    exact ⟨_, _, _, _, hg, g1, g2, rfl⟩
  have hi : mISeq (mVar 0) [some (.imm d), some (.imm (f36 k)), none, none, none] = some (l.map (·.1), [some (.imm d), some (.imm (f36 k)), none, none, none]) := by
    unfold mISeq
    rw [show mVar 0 [some (.imm d), some (.imm (f36 k)), none, none, none] = some (.slot 0, [some (.imm d), some (.imm (f36 k)), none, none, none]) from rfl]
    show (match itemsOf d with | some ds => some (ds, _) | none => none) = _
    rw [hd]
  have hf : fits (l.map fun a : Fz => prD (evf k a.2)).length = true := c_fits (by rw [List.length_map]; omega)
  have hr : rowD (ev k (l.map (·.2))) = .tuple (l.map fun a : Fz => prD (evf k a.2)) := by
    unfold rowD dsD ev
    rw [List.map_map, List.map_map]; rfl
  unfold fn18
  rw [hr]
  exact c_fn (ρ0 := [some (.imm d), some (.imm (f36 k)), none, none, none]) rfl rfl (c_ret (c_un (c_comp hi rfl e hf rfl) rfl rfl) rfl) rfl
end K46

namespace K46
open PySem Vi PyProof.Rows
abbrev oo (L : List D) : Option Sv := some (.own false L)
abbrev ll (L : List D) : Option Sv := some (.imm (.list L))
abbrev il (ns : List Int) : List D := ns.map .int
abbrev fl (ks : List Int) : List D := ks.map f36
/-- what is left, in its order -/
def left (F G : List Fo) : List Fo := (frest F G).reverse
def good (L : List Fo) (k : Int) : Bool := decide (nf (ev k L) = [])
def toldL (L : List Fo) : List Int := (setI (zs L)).filter (good L)
def told (F G : List Fo) : D := if frest F G = [] then .none else .tuple (fl (toldL (left F G)))
abbrev AF (x0 x1 x2 x3 x4 x5 x6 x7 x8 x9 x10 x11 : Option Sv) : Fm := [x0, x1, x2, x3, x4, x5, x6, x7, x8, x9, x10, x11]
def zC (cl : Nat → Fn) : ME := (mComp (mISeq (mVar 2)) (mGseq 2 (mGcons (mN 5) (mGcons (mGseq 2 (mGcons (mN 8) (mGcons (mN 9) mGnil))) mGnil))) (mTru (bin dIx (mVar 9) (mC (.int 0)))) (mCall (cl 10) (rVal (mCall (cl 8) (rVal (mC (.tuple ([0, 1].map .int))) (rVal (mVar 8) rNil))) (rVal (mVar 9) rNil))) [5, 8, 9])
def zL : MS := (mFor (mISeq (mVar 3)) (mGseq 2 (mGcons (mN 5) (mGcons (mN 6) mGnil))) (mSet 4 (mA dLcm (mCons (mVar 4) (mCons (mVar 6) mNil)))))
def zT : MS := (mSet 7 (un dSortSetI (mComp (mISeq (mVar 3)) (mGseq 2 (mGcons (mN 10) (mGcons (mN 6) mGnil))) mYes (bin dMul (mVar 10) (bin dDiv (mVar 4) (mVar 6))) [10, 6])))
def zO (cl : Nat → Fn) : ME := (mComp (mISeq (mVar 7)) (mN 10) mYes (mCall (cl 10) (rVal (mCall (cl 6) (rVal (mVar 10) rNil)) (rVal (mCall (cl 6) (rVal (mVar 4) rNil)) rNil))) [10])
def zR (cl : Nat → Fn) : MS := (mRet (un dTuple (mComp (mISeq (zO cl)) (mN 11) (mB (bin dEq (mCall (cl 15) (rVal (mCall (cl 18) (rVal (mVar 2) (rVal (mVar 11) rNil))) rNil)) (mTup mNil))) (mVar 11) [11])))
theorem sat_fn (cl : Nat → Fn) : fn19 cl = mFn 12 2 (mSeq (mSet 2 (mCall (cl 17) (rVal (mVar 0) (rVal (mVar 1) rNil)))) (mSeq (mIfS (mNotT (mTru (mVar 2))) (mRet (mC .none)) mNext) (mSeq (mSet 3 (zC cl)) (mSeq (mSet 4 (mC (.int 1))) (mSeq zL (mSeq zT (zR cl))))))) := rfl
def NoI (s : Option Sv) : Prop := ∃ o : Option Int, s = o.map fun i => .imm (.int i)
section
variable {cl : Nat → Fn} {x0 x1 x2 x3 x4 x5 x6 x7 x8 x9 x10 x11 : Option Sv}
theorem zC_ok (M : Min6 (cl 8)) (O : OverZ (cl 10)) {l : List Fz} (hs : ∀ a ∈ l, FoSt a.1 a.2) (hl : l.length ≤ 700) (hb : ∀ a ∈ l, a.2.2.1.natAbs < 2 ^ 40 ∧ a.2.2.2.natAbs ≤ 24) :
    zC cl (AF x0 x1 (oo (l.map fun a : Fz => a.1)) none none none none none none none none none) = some (.val (.own false (fl (zs (l.map fun a : Fz => a.2)))), AF x0 x1 (ll (l.map fun a : Fz => a.1)) none none none none none none none none none) := by
  have e := c_cfil (mg := mGseq 2 (mGcons (mN 5) (mGcons (mGseq 2 (mGcons (mN 8) (mGcons (mN 9) mGnil))) mGnil))) (mt := mTru (bin dIx (mVar 9) (mC (.int 0)))) (me := mCall (cl 10) (rVal (mCall (cl 8) (rVal (mC (.tuple ([0, 1].map .int))) (rVal (mVar 8) rNil))) (rVal (mVar 9) rNil))) (vs := [5, 8, 9]) (ρ := AF x0 x1 (ll (l.map fun a : Fz => a.1)) none none none none none none none none none) (fun a : Fz => a.1) (fun a => f36 (zr a.2)) (fun a => decide (a.2.2.2 ≠ 0)) l fun a ha => by
    obtain ⟨e1, e2, hd, h1, h2⟩ := hs a ha
    obtain ⟨b1, b2⟩ := hb a ha
    have hg : mGseq 2 (mGcons (mN 5) (mGcons (mGseq 2 (mGcons (mN 8) (mGcons (mN 9) mGnil))) mGnil)) a.1 (AF x0 x1 (ll (l.map fun a : Fz => a.1)) none none none none none none none none none) = some (AF x0 x1 (ll (l.map fun a : Fz => a.1)) none none (ii a.2.1) none none (some (.imm e1)) (some (.imm e2)) none none) := by rw [hd]; rfl
    have v8 : EV (mVar 8) (AF x0 x1 (ll (l.map fun a : Fz => a.1)) none none (ii a.2.1) none none (some (.imm e1)) (some (.imm e2)) none none) e1 := ev_var rfl
    have v9 : EV (mVar 9) (AF x0 x1 (ll (l.map fun a : Fz => a.1)) none none (ii a.2.1) none none (some (.imm e1)) (some (.imm e2)) none none) e2 := ev_var rfl
    have t := fr_top1 v9 h2
    rw [show (!decide (a.2.2.2 = 0)) = decide (a.2.2.2 ≠ 0) by simp] at t
    refine ⟨_, _, hg, t, rfl, fun hp => ?_⟩
    have h0 : a.2.2.2 ≠ 0 := of_decide_eq_true hp
    have q1 := M e1 a.2.2.1 h1 b1
    rw [z36] at q1
    have q2 := O e2 a.2 h2 h0 b2 b1
    exact ⟨_, _, _, v_call2 (e_call2 (ev_c (d := .tuple ([0, 1].map .int))) v8 q1) v9 q2, rfl, rfl⟩
  have hz : fl (zs (l.map fun a : Fz => a.2)) = (l.filter fun a => decide (a.2.2.2 ≠ 0)).map fun a : Fz => f36 (zr a.2) := by
    show List.map _ (List.map _ (List.filter _ (List.map _ _))) = _
    rw [List.filter_map, List.map_map, List.map_map]; rfl
  have hf : fits ((l.filter fun a => decide (a.2.2.2 ≠ 0)).map fun a : Fz => f36 (zr a.2)).length = true := c_fits (by
    rw [List.length_map]
    have := List.length_filter_le (fun a : Fz => decide (a.2.2.2 ≠ 0)) l
    omega)
  rw [hz]
  exact c_comp (vs := [5, 8, 9]) (ds := l.map fun a : Fz => a.1) (ρ1 := AF x0 x1 (ll (l.map fun a : Fz => a.1)) none none none none none none none none none) rfl rfl e hf rfl
theorem lcm_int {a b : Nat} (ha : a < 2 ^ 64) (hb : b < 2 ^ 64) : dLcm [.int (a : Int), .int (b : Int)] = some (.imm (.int ((Nat.lcm a b : Nat) : Int))) := by
  show (if decide ((a : Int).natAbs < 2 ^ 64 ∧ (b : Int).natAbs < 2 ^ 64) = true then some (Sv.imm (.int (((a : Int).natAbs.lcm (b : Int).natAbs : Nat) : Int))) else none) = _
  rw [Int.natAbs_natCast, Int.natAbs_natCast, if_pos (decide_eq_true ⟨ha, hb⟩)]
theorem zL_loop {x2 x3 : Option Sv} : ∀ (ks : List Int) (a : Nat) (x5 x6 : Option Sv), a ∣ NN → NoI x6 → ∃ y5 y6, NoI y6 ∧ loop (mGseq 2 (mGcons (mN 5) (mGcons (mN 6) mGnil))) (mSet 4 (mA dLcm (mCons (mVar 4) (mCons (mVar 6) mNil)))) (fl ks) (AF x0 x1 x2 x3 (ii (a : Int)) x5 x6 none none none none none) = some (.next, AF x0 x1 x2 x3 (ii ((lowOf ks a : Nat) : Int)) y5 y6 none none none none none)
  | [], a, x5, x6, _, h6 => ⟨x5, x6, h6, rfl⟩
  | z :: ks, a, x5, x6, ha, _ => by
    have hd := (v_nd z).1
    have h64 : NN < 2 ^ 64 := by decide
    have hda : a < 2 ^ 64 := Nat.lt_of_le_of_lt (Nat.le_of_dvd (by decide) ha) h64
    have hdz : (v36 z).den < 2 ^ 64 := Nat.lt_of_le_of_lt (Nat.le_of_dvd (by decide) hd) h64
    obtain ⟨y5, y6, hy, e⟩ := zL_loop ks (Nat.lcm a (v36 z).den) (ii (v36 z).num) (ii ((v36 z).den : Int)) (Nat.lcm_dvd ha hd) ⟨some ((v36 z).den : Int), rfl⟩
    refine ⟨y5, y6, hy, ?_⟩
    have v4 : EV (mVar 4) (AF x0 x1 x2 x3 (ii (a : Int)) (ii (v36 z).num) (ii ((v36 z).den : Int)) none none none none none) (.int (a : Int)) := ev_var rfl
    have v6 : EV (mVar 6) (AF x0 x1 x2 x3 (ii (a : Int)) (ii (v36 z).num) (ii ((v36 z).den : Int)) none none none none none) (.int ((v36 z).den : Int)) := ev_var rfl
    have k : mA dLcm (mCons (mVar 4) (mCons (mVar 6) mNil)) (AF x0 x1 x2 x3 (ii (a : Int)) (ii (v36 z).num) (ii ((v36 z).den : Int)) none none none none none) = some (.val (.imm (.int ((Nat.lcm a (v36 z).den : Nat) : Int))), AF x0 x1 x2 x3 (ii (a : Int)) (ii (v36 z).num) (ii ((v36 z).den : Int)) none none none none none) := by
      have := ea_cons v4 (ea_cons v6 ea_nil)
      unfold mA
      rw [this]
      show (match dLcm [.int (a : Int), .int ((v36 z).den : Int)] with | some r => some (PR.val r, _) | none => none) = _
      rw [lcm_int hda hdz]
    exact c_cons (ρ1 := AF x0 x1 x2 x3 (ii (a : Int)) (ii (v36 z).num) (ii ((v36 z).den : Int)) none none none none none) rfl (c_set k rfl) e
theorem intsOf_map : ∀ ns : List Int, intsOf2 (il ns) = some ns
  | [] => rfl
  | n :: ns => by
    show (match intsOf2 (il ns) with | some ms => some (n :: ms) | none => none) = _
    rw [intsOf_map ns]
theorem sortset_int {ns : List Int} (h : ns.length < 63) : dSortSetI (.list (il ns)) = some (.own false (il (setI ns))) := by
  show (match intsOf2 (il ns) with | some ns => if decide (ns.length < 63) = true then some (Sv.own false ((setI ns).map .int)) else none | none => none) = _
  rw [intsOf_map]
  show (if decide (ns.length < 63) = true then _ else none) = _
  rw [if_pos (decide_eq_true h)]
theorem top_le {low : Nat} {z : Int} (h1 : low ∣ NN) (hz : z.natAbs < 2 ^ 80) : (v36 z).num.natAbs < 2 ^ 90 ∧ low / (v36 z).den < 2 ^ 90 ∧ divOk ((v36 z).den : Int) = true := by
  have h64 : NN < 2 ^ 64 := by decide
  have hlow : low ≤ NN := Nat.le_of_dvd (by decide) h1
  have hs := (v_sd hz).sm
  refine ⟨hs.num, ?_, div_ok (by have := Frac_pos (v36 z); omega) ?_⟩
  · have := Nat.div_le_self low (v36 z).den
    have : (2 : Nat) ^ 64 < 2 ^ 90 := by decide
    omega
  · have h1 : (v36 z).den < 2 ^ 90 := hs.den
    have h2 : (2 : Int) ^ 90 < 2 ^ 250 := by decide
    have h3 : ((v36 z).den : Int) < 2 ^ 90 := by exact_mod_cast h1
    omega
theorem zT_ok {x2 : Option Sv} {ks : List Int} {low : Nat} (h1 : low ∣ NN) (hl : ks.length < 63) (hk : ∀ z ∈ ks, z.natAbs < 2 ^ 80) (h6 : NoI x6) :
    zT (AF x0 x1 x2 (ll (fl ks)) (ii (low : Int)) x5 x6 none none none none none) = some (.next, AF x0 x1 x2 (ll (fl ks)) (ii (low : Int)) x5 x6 (oo (il (setI (ks.map (topOf low))))) none none none none) := by
  have e := c_cmap (mg := mGseq 2 (mGcons (mN 10) (mGcons (mN 6) mGnil))) (me := bin dMul (mVar 10) (bin dDiv (mVar 4) (mVar 6))) (vs := [10, 6]) (ρ := AF x0 x1 x2 (ll (fl ks)) (ii (low : Int)) x5 none none none none none none) f36 (fun z => (.int (topOf low z) : D)) ks fun z hz => by
    obtain ⟨a1, a2, a3⟩ := top_le h1 (hk z hz)
    have v10 : EV (mVar 10) (AF x0 x1 x2 (ll (fl ks)) (ii (low : Int)) x5 (ii ((v36 z).den : Int)) none none none (ii (v36 z).num) none) (.int (v36 z).num) := ev_var rfl
    have v4 : EV (mVar 4) (AF x0 x1 x2 (ll (fl ks)) (ii (low : Int)) x5 (ii ((v36 z).den : Int)) none none none (ii (v36 z).num) none) (.int (low : Int)) := ev_var rfl
    have v6 : EV (mVar 6) (AF x0 x1 x2 (ll (fl ks)) (ii (low : Int)) x5 (ii ((v36 z).den : Int)) none none none (ii (v36 z).num) none) (.int ((v36 z).den : Int)) := ev_var rfl
    have hdiv : dDiv (.int (low : Int)) (.int ((v36 z).den : Int)) = some (.imm (.int ((low / (v36 z).den : Nat) : Int))) := by
      show (if divOk _ = true then some (Sv.imm (.int ((low : Int) / ((v36 z).den : Int)))) else none) = _
      rw [if_pos a3, Int.natCast_ediv]
    have hm : dMul (.int (v36 z).num) (.int ((low / (v36 z).den : Nat) : Int)) = some (.imm (.int (topOf low z))) := mul_int a1 (by rw [Int.natAbs_natCast]; exact a2)
    exact ⟨_, _, _, _, rfl, v_bin (f := dMul) v10 (e_bin (f := dDiv) v4 v6 hdiv) hm, rfl, rfl⟩
  have hf : fits (ks.map fun z => (.int (topOf low z) : D)).length = true := c_fits (by rw [List.length_map]; omega)
  have hv : vsOk (AF x0 x1 x2 (ll (fl ks)) (ii (low : Int)) x5 x6 none none none none none) [10, 6] = true := by
    obtain ⟨o, rfl⟩ := h6
    cases o <;> rfl
  have hr : restA (AF x0 x1 x2 (ll (fl ks)) (ii (low : Int)) x5 none none none none none none) (AF x0 x1 x2 (ll (fl ks)) (ii (low : Int)) x5 x6 none none none none none) [10, 6] = AF x0 x1 x2 (ll (fl ks)) (ii (low : Int)) x5 x6 none none none none none := rfl
  have c := c_comp (mi := mISeq (mVar 3)) (vs := [10, 6]) (ds := fl ks) (ρ := AF x0 x1 x2 (ll (fl ks)) (ii (low : Int)) x5 x6 none none none none none) (ρ1 := AF x0 x1 x2 (ll (fl ks)) (ii (low : Int)) x5 x6 none none none none none) rfl hv e hf hr
  have hset : (ks.map fun z => (.int (topOf low z) : D)) = il (ks.map (topOf low)) := by show _ = List.map _ (List.map _ _); rw [List.map_map]; rfl
  rw [hset] at c
  exact c_set (c_un (f := dSortSetI) c rfl (sortset_int (by rw [List.length_map]; exact hl))) rfl
end
end K46

namespace K46
open PySem Vi PyProof.Rows
def WholeP (f : Fn) : Prop := ∀ i : Int, f [.imm (.int i)] = some (.imm (.tuple [.int i, .int 1]), [none])
theorem whole_ok {cl : Nat → Fn} : WholeP (fn6 cl) := fun i => rfl
def NfP (f : Fn) : Prop := ∀ x : Row, norm x < 2 ^ 80 → x.length ≤ 800 → f [.imm (rowD x)] = some (.imm (rowD (nf x)), [none])
theorem ev_norm {k : Int} : ∀ {F : List Fo}, (∀ g ∈ F, g.2.1.natAbs < 2 ^ 40 ∧ g.2.2.natAbs ≤ 1000) → k.natAbs < 2 ^ 60 → norm (ev k F) ≤ F.length * 2 ^ 76
  | [], _, _ => by simp [ev, norm]
  | g :: F, h, hk => by
    have ih := ev_norm (fun f hf => h f (List.mem_cons_of_mem _ hf)) hk
    obtain ⟨b1, b2⟩ := h g (List.mem_cons_self ..)
    have := (evf_le b1 b2 hk).2.2
    have e : ev k (g :: F) = evf k g :: ev k F := rfl
    rw [e, norm_cons, List.length_cons, Nat.add_mul]
    omega
section
variable {cl : Nat → Fn} {x0 x1 x3 x5 x6 x8 x9 : Option Sv}
theorem zO_ok (W : WholeP (cl 6)) (O : OverW (cl 10)) {x2 : Option Sv} {low : Nat} (h1 : low ∣ NN) {ts : List Int} (hl : ts.length ≤ 700) (ht : ∀ t ∈ ts, t.natAbs < 2 ^ 90) :
    zO cl (AF x0 x1 x2 x3 (ii (low : Int)) x5 x6 (oo (il ts)) none none none none) = some (.val (.own false (fl (ts.map fun t => t * ((NN / low : Nat) : Int)))), AF x0 x1 x2 x3 (ii (low : Int)) x5 x6 (ll (il ts)) none none none none) := by
  have hpos : 0 < low := Nat.pos_of_dvd_of_pos h1 (by decide)
  have hle : low ≤ NN := Nat.le_of_dvd (by decide) h1
  have e := c_cmap (mg := mN 10) (me := mCall (cl 10) (rVal (mCall (cl 6) (rVal (mVar 10) rNil)) (rVal (mCall (cl 6) (rVal (mVar 4) rNil)) rNil))) (vs := [10]) (ρ := AF x0 x1 x2 x3 (ii (low : Int)) x5 x6 (ll (il ts)) none none none none) (fun t : Int => (.int t : D)) (fun t => f36 (t * ((NN / low : Nat) : Int))) ts fun t ht0 => by
    have q := O t low hpos hle (ht t ht0)
    rw [top_back h1] at q
    have v10 : EV (mVar 10) (AF x0 x1 x2 x3 (ii (low : Int)) x5 x6 (ll (il ts)) none none (ii t) none) (.int t) := ev_var rfl
    have v4 : EV (mVar 4) (AF x0 x1 x2 x3 (ii (low : Int)) x5 x6 (ll (il ts)) none none (ii t) none) (.int (low : Int)) := ev_var rfl
    exact ⟨_, _, _, _, rfl, v_call2 (e_call1 v10 (W t)) (e_call1 v4 (W (low : Int))) q, rfl, rfl⟩
  have hf : fits (ts.map fun t => f36 (t * ((NN / low : Nat) : Int))).length = true := c_fits (by rw [List.length_map]; omega)
  have c := c_comp (mi := mISeq (mVar 7)) (vs := [10]) (ds := il ts) (ρ := AF x0 x1 x2 x3 (ii (low : Int)) x5 x6 (oo (il ts)) none none none none) (ρ1 := AF x0 x1 x2 x3 (ii (low : Int)) x5 x6 (ll (il ts)) none none none none) rfl rfl e hf rfl
  have hm : fl (ts.map fun t => t * ((NN / low : Nat) : Int)) = ts.map fun t => f36 (t * ((NN / low : Nat) : Int)) := by show List.map _ (List.map _ _) = _; rw [List.map_map]; rfl
  rw [hm]
  exact c
theorem zR_ok (W : WholeP (cl 6)) (O : OverW (cl 10)) (A : RowAtP (cl 18)) (N : NfP (cl 15)) {l : List Fz} (hs : ∀ a ∈ l, FoSt a.1 a.2) (hll : l.length ≤ 700) (hb : ∀ g ∈ l.map (fun a : Fz => a.2), g.2.1.natAbs < 2 ^ 40 ∧ g.2.2.natAbs ≤ 1000) (hl8 : l.length ≤ 15) {low : Nat} (h1 : low ∣ NN) {ts : List Int} (hl : ts.length ≤ 700) (ht : ∀ t ∈ ts, t.natAbs < 2 ^ 90) (hk : ∀ t ∈ ts, (t * ((NN / low : Nat) : Int)).natAbs < 2 ^ 60) :
    ∃ ρ, zR cl (AF x0 x1 (ll (l.map fun a : Fz => a.1)) x3 (ii (low : Int)) x5 x6 (oo (il ts)) none none none none) = some (.ret (.imm (.tuple (fl ((ts.map fun t => t * ((NN / low : Nat) : Int)).filter (good (l.map fun a : Fz => a.2)))))), x0 :: x1 :: ρ) := by
  have z := zO_ok (x0 := x0) (x1 := x1) (x2 := ll (l.map fun a : Fz => a.1)) (x3 := x3) (x5 := x5) (x6 := x6) W O h1 hl ht
  generalize hks : (ts.map fun t => t * ((NN / low : Nat) : Int)) = ks at *
  have hk' : ∀ k ∈ ks, k.natAbs < 2 ^ 60 := by
    intro k hkm
    rw [← hks] at hkm
    obtain ⟨t, h, rfl⟩ := List.mem_map.mp hkm
    exact hk t h
  have hkl : ks.length ≤ 700 := by rw [← hks, List.length_map]; exact hl
  have e := c_cfil (mg := mN 11) (mt := mB (bin dEq (mCall (cl 15) (rVal (mCall (cl 18) (rVal (mVar 2) (rVal (mVar 11) rNil))) rNil)) (mTup mNil))) (me := mVar 11) (vs := [11]) (ρ := AF x0 x1 (ll (l.map fun a : Fz => a.1)) x3 (ii (low : Int)) x5 x6 (ll (il ts)) none none none none) f36 f36 (good (l.map fun a : Fz => a.2)) ks fun k hkm => by
    have q1 := A (.list (l.map fun a : Fz => a.1)) (l.map fun a : Fz => a.2) k ⟨l, rfl, rfl, fun a ha => (hs a ha).into⟩ (by rw [List.length_map]; exact hll) hb (hk' k hkm)
    have hn := ev_norm hb (hk' k hkm)
    have hlen : (ev k (l.map fun a : Fz => a.2)).length = l.length := by unfold ev; rw [List.length_map, List.length_map]
    have q2 := N (ev k (l.map fun a : Fz => a.2)) (by
      rw [List.length_map] at hn
      have : l.length * 2 ^ 76 ≤ 15 * 2 ^ 76 := Nat.mul_le_mul_right _ hl8
      have h80 : 15 * 2 ^ 76 < 2 ^ 80 := by decide
      omega) (by omega)
    have v2 : EV (mVar 2) (AF x0 x1 (ll (l.map fun a : Fz => a.1)) x3 (ii (low : Int)) x5 x6 (ll (il ts)) none none none (some (.imm (f36 k)))) (.list (l.map fun a : Fz => a.1)) := ev_var rfl
    have v11 : EV (mVar 11) (AF x0 x1 (ll (l.map fun a : Fz => a.1)) x3 (ii (low : Int)) x5 x6 (ll (il ts)) none none none (some (.imm (f36 k)))) (f36 k) := ev_var rfl
    have t0 : EV (mTup mNil) (AF x0 x1 (ll (l.map fun a : Fz => a.1)) x3 (ii (low : Int)) x5 x6 (ll (il ts)) none none none (some (.imm (f36 k)))) (rowD []) := e_tup ea_nil (by decide)
    have t := c_b (v_bin (f := dEq) (e_call1 (e_call2 v2 v11 q1) q2) t0 (eq_row _ []))
    exact ⟨_, _, rfl, t, rfl, fun _ => ⟨_, _, _, rfl, rfl, rfl⟩⟩
  have hi : mISeq (zO cl) (AF x0 x1 (ll (l.map fun a : Fz => a.1)) x3 (ii (low : Int)) x5 x6 (oo (il ts)) none none none none) = some (fl ks, AF x0 x1 (ll (l.map fun a : Fz => a.1)) x3 (ii (low : Int)) x5 x6 (ll (il ts)) none none none none) := by
    unfold mISeq
    rw [z]
    rfl
  have hf : fits ((ks.filter (good (l.map fun a : Fz => a.2))).map f36).length = true := c_fits (by
    rw [List.length_map]
    have := List.length_filter_le (good (l.map fun a : Fz => a.2)) ks
    omega)
  have c := c_comp (vs := [11]) hi rfl e hf rfl
  exact ⟨_, c_ret (c_un (f := dTuple) c rfl rfl) rfl⟩
end
structure Bd (F G : List Fo) : Prop where
  len : F.length + G.length ≤ 15
  nrm : fnorm F + fnorm G ≤ 100000
  vs : vsz F + vsz G ≤ 24
def SatP (f : Fn) : Prop := ∀ (d e : D) (F G : List Fo), FrIs d F → FrIs e G → Bd F G → f [.imm d, .imm e] = some (.imm (told F G), [none, none])
theorem insI_len (x : Int) : ∀ l : List Int, (insI x l).length ≤ l.length + 1
  | [] => by simp [insI]
  | y :: ys => by
    unfold insI
    split
    · simp
    · split
      · simp
      · have := insI_len x ys
        simp only [List.length_cons]; omega
theorem setI_len : ∀ l : List Int, (setI l).length ≤ l.length
  | [] => Nat.le_refl _
  | x :: l => by
    have h1 := setI_len l
    have h2 := insI_len x (setI l)
    show (insI x (setI l)).length ≤ _
    rw [List.length_cons]; omega
theorem zs_le {L : List Fo} (h : ∀ g ∈ L, g.2.1.natAbs ≤ 100000 ∧ g.2.2.natAbs ≤ 24) : ∀ z ∈ zs L, z.natAbs < 2 ^ 60 := by
  intro z hz
  obtain ⟨g, hg, rfl⟩ := List.mem_map.mp hz
  obtain ⟨hg1, hg2⟩ := List.mem_filter.mp hg
  obtain ⟨b1, b2⟩ := h g hg1
  have := zr_le (of_decide_eq_true hg2) b2
  have h2 : 32125373280 * g.2.1.natAbs ≤ 32125373280 * 100000 := Nat.mul_le_mul_left _ b1
  have h3 : 32125373280 * 100000 < 2 ^ 60 := by decide
  omega
theorem zs_len (L : List Fo) : (zs L).length ≤ L.length := by
  unfold zs
  rw [List.length_map]
  exact List.length_filter_le _ _
theorem left_bd {F G : List Fo} (h : Bd F G) : (left F G).length ≤ 15 ∧ ∀ g ∈ left F G, g.2.1.natAbs ≤ 100000 ∧ g.2.2.natAbs ≤ 24 := by
  have h1 := frest_len F G
  have h2 := frest_norm F G
  have h3 := frest_vsz F G
  have := h.len
  have := h.nrm
  have := h.vs
  refine ⟨by unfold left; rw [List.length_reverse]; omega, fun g hg => ?_⟩
  have hg' : g ∈ frest F G := List.mem_reverse.mp hg
  have a1 := vsz_in hg'
  have a2 : fsz g ≤ fnorm (frest F G) := by
    have := fsz_in (l := (frest F G).map fun f => ((.none : D), f)) (a := (.none, g)) (List.mem_map_of_mem hg')
    rw [List.map_map] at this
    have e : (frest F G).map ((fun x : Fz => x.2) ∘ fun f => ((.none : D), f)) = frest F G := List.map_id' _
    rw [e] at this
    exact this
  have a3 : g.2.1.natAbs + g.2.2.natAbs = fsz g := rfl
  omega
theorem sat_ok {cl : Nat → Fn} (R : FrestP (cl 17)) (M : Min6 (cl 8)) (Z : OverZ (cl 10)) (W : WholeP (cl 6)) (O : OverW (cl 10)) (A : RowAtP (cl 18)) (N : NfP (cl 15)) : SatP (fn19 cl) := fun d e F G hd he hB => by
  have h40 : (100000 : Nat) < 2 ^ 40 := by decide
  obtain ⟨s, h1, h2, h3, er⟩ := R d e F G hd he (by have := hB.nrm; omega) (by have := hB.len; omega)
  have v0 : EV (mVar 0) (AF (some (.imm d)) (some (.imm e)) none none none none none none none none none none) d := ev_var rfl
  have v1 : EV (mVar 1) (AF (some (.imm d)) (some (.imm e)) none none none none none none none none none none) e := ev_var rfl
  obtain ⟨p0, a0, b0, _⟩ := v0
  obtain ⟨p1, a1, b1, _⟩ := v1
  have k : mCall (cl 17) (rVal (mVar 0) (rVal (mVar 1) rNil)) (AF (some (.imm d)) (some (.imm e)) none none none none none none none none none none) = some (.val (.own false (stL s)), AF (some (.imm d)) (some (.imm e)) none none none none none none none none none none) := c_call (c_rval a0 b0 (c_rval a1 b1 rfl)) rfl rfl er rfl
  have g1 : mSet 2 (mCall (cl 17) (rVal (mVar 0) (rVal (mVar 1) rNil))) (AF (some (.imm d)) (some (.imm e)) none none none none none none none none none none) = some (.next, AF (some (.imm d)) (some (.imm e)) (oo (stL s)) none none none none none none none none none) := c_set k rfl
  rw [sat_fn]
  unfold told
  by_cases h0 : frest F G = []
  · rw [if_pos h0]
    rw [h0] at h2
    have hs : s = [] := List.map_eq_nil_iff.mp h2
    subst hs
    have t : mNotT (mTru (mVar 2)) (AF (some (.imm d)) (some (.imm e)) (oo (stL [])) none none none none none none none none none) = some (true, AF (some (.imm d)) (some (.imm e)) (oo (stL [])) none none none none none none none none none) := rfl
    exact c_fn (ρ0 := AF (some (.imm d)) (some (.imm e)) none none none none none none none none none none) rfl rfl (c_seq g1 (c_seqR (c_ifT t (c_ret rfl rfl)))) rfl
  · rw [if_neg h0]
    obtain ⟨l1, l2⟩ := left_bd hB
    have hL : (s.reverse.map fun a : Fz => a.2) = left F G := by unfold left; rw [List.map_reverse, h2]
    have hst : stL s = s.reverse.map fun a : Fz => a.1 := by unfold stL; rw [List.map_reverse]
    rw [hst] at g1
    have hsl : ∀ a ∈ s.reverse, FoSt a.1 a.2 := fun a ha => h1 a (List.mem_reverse.mp ha)
    have hne : s.reverse ≠ [] := by
      intro z
      rw [z] at hL
      exact h0 (by unfold left at hL; simpa using hL.symm)
    generalize s.reverse = l at *
    have hll : l.length ≤ 15 := by rw [← hL, List.length_map] at l1; exact l1
    have t : mNotT (mTru (mVar 2)) (AF (some (.imm d)) (some (.imm e)) (oo (l.map fun a : Fz => a.1)) none none none none none none none none none) = some (false, AF (some (.imm d)) (some (.imm e)) (oo (l.map fun a : Fz => a.1)) none none none none none none none none none) := by
      cases l with
      | nil => exact absurd rfl hne
      | cons a l => rfl
    have hbl : ∀ a ∈ l, a.2.2.1.natAbs ≤ 100000 ∧ a.2.2.2.natAbs ≤ 24 := fun a ha => by
      have := List.mem_map_of_mem (f := fun a : Fz => a.2) ha
      rw [hL] at this
      exact l2 _ this
    have g3 := c_set (i := 3) (zC_ok (x0 := some (.imm d)) (x1 := some (.imm e)) M Z hsl (by omega) fun a ha => ⟨by have := (hbl a ha).1; omega, (hbl a ha).2⟩) rfl
    rw [hL] at g3
    change mSet 3 (zC cl) _ = some (.next, AF (some (.imm d)) (some (.imm e)) (ll (l.map fun a : Fz => a.1)) (oo (fl (zs (left F G)))) none none none none none none none none) at g3
    have g4 : mSet 4 (mC (.int 1)) (AF (some (.imm d)) (some (.imm e)) (ll (l.map fun a : Fz => a.1)) (oo (fl (zs (left F G)))) none none none none none none none none) = some (.next, AF (some (.imm d)) (some (.imm e)) (ll (l.map fun a : Fz => a.1)) (oo (fl (zs (left F G)))) (ii ((1 : Nat) : Int)) none none none none none none none) := rfl
    obtain ⟨y5, y6, hy6, g5⟩ := zL_loop (x0 := some (.imm d)) (x1 := some (.imm e)) (x2 := ll (l.map fun a : Fz => a.1)) (x3 := ll (fl (zs (left F G)))) (zs (left F G)) 1 none none (Nat.one_dvd _) ⟨none, rfl⟩
    have g5' := c_for (mi := mISeq (mVar 3)) (ρ := AF (some (.imm d)) (some (.imm e)) (ll (l.map fun a : Fz => a.1)) (oo (fl (zs (left F G)))) (ii ((1 : Nat) : Int)) none none none none none none none) rfl g5
    obtain ⟨d1, d2, d3⟩ := low_dvd (zs (left F G)) 1 (Nat.one_dvd _)
    have hzle := zs_le l2
    have hzlen := zs_len (left F G)
    have g6 := zT_ok (x0 := some (.imm d)) (x1 := some (.imm e)) (x2 := ll (l.map fun a : Fz => a.1)) (x5 := y5) (ks := zs (left F G)) d1 (by omega) (fun z hz => by have := hzle z hz; omega) hy6
    have hsorted := zeros_sorted d1 d3
    generalize hts : setI ((zs (left F G)).map (topOf (lowOf (zs (left F G)) 1))) = ts at *
    have htl : ts.length ≤ 700 := by
      have := setI_len ((zs (left F G)).map (topOf (lowOf (zs (left F G)) 1)))
      rw [List.length_map, hts] at this
      omega
    have hmem : ∀ t ∈ ts, t * ((NN / lowOf (zs (left F G)) 1 : Nat) : Int) ∈ zs (left F G) := fun t ht => by
      have := List.mem_map_of_mem (f := fun t => t * ((NN / lowOf (zs (left F G)) 1 : Nat) : Int)) ht
      rw [hsorted] at this
      exact setI_mem.mp this
    have htk : ∀ t ∈ ts, (t * ((NN / lowOf (zs (left F G)) 1 : Nat) : Int)).natAbs < 2 ^ 60 := fun t ht => hzle _ (hmem t ht)
    have htb : ∀ t ∈ ts, t.natAbs < 2 ^ 90 := fun t ht => by
      have h := htk t ht
      have hl0 : 0 < lowOf (zs (left F G)) 1 := Nat.pos_of_dvd_of_pos d1 (by decide)
      have hc : 0 < NN / lowOf (zs (left F G)) 1 := Nat.div_pos (Nat.le_of_dvd (by decide) d1) hl0
      rw [Int.natAbs_mul, Int.natAbs_natCast] at h
      have := Nat.le_mul_of_pos_right t.natAbs hc
      have : (2 : Nat) ^ 60 < 2 ^ 90 := by decide
      omega
    obtain ⟨ρ, g7⟩ := zR_ok (x0 := some (.imm d)) (x1 := some (.imm e)) (x3 := ll (fl (zs (left F G)))) (x5 := y5) (x6 := y6) W O A N hsl (by omega) (fun g hg => by
      rw [hL] at hg
      have := l2 g hg
      omega) hll d1 htl htb htk
    rw [hsorted, hL] at g7
    refine c_fn (ρ0 := AF (some (.imm d)) (some (.imm e)) none none none none none none none none none none) rfl rfl (c_seq g1 (c_seq (c_ifF t c_skip) (c_seq g3 (c_seq g4 (c_seq g5' (c_seq g6 g7)))))) rfl
end K46

namespace K46
open PySem Vi PyProof.Rows
def forD (F : List Fo) : D := .tuple (F.map foD)
/-! the law's arithmetic -/
def LmulP (f : Fn) : Prop := ∀ (d e : D) (q r : Rat), IsFr d q → IsFr e r → Sd q → Sd r → f [.imm d, .imm e] = some (.imm (fr (q * r)), [none, none])
theorem lmul_ok {cl : Nat → Fn} (F : LowP (cl 27)) : LmulP (fn29 cl) := fun d e q r hd he hq hr => by
  have f := F (q.num * r.num) (q.den * r.den) (Nat.mul_pos (Frac_pos q) (Frac_pos r)) (hq.mul hr)
  rw [mul_cross, Int.natCast_mul] at f
  have m1 := mul_int (i := q.num) (j := r.num) hq.num hr.num
  have m2 := mul_int (i := (q.den : Int)) (j := (r.den : Int)) hq.sm.den hr.sm.den
  unfold fn29
  exact c_fn (ρ0 := [some (.imm d), some (.imm e)]) rfl rfl (c_ret (c_call (c_rval (c_bin (c_bin rfl rfl rfl rfl hd.top) (c_bin rfl rfl rfl rfl he.top) rfl rfl m1) rfl (c_rval (c_bin (c_bin rfl rfl rfl rfl hd.bot) (c_bin rfl rfl rfl rfl he.bot) rfl rfl m2) rfl rfl)) rfl rfl f rfl) rfl) rfl
theorem lsub_ok {cl : Nat → Fn} (F : LowP (cl 27)) {d e : D} {q r : Rat} (hd : IsFr d q) (he : IsFr e r) (hq : Sd q) (hr : Sd r) : fn31 cl [.imm d, .imm e] = some (.imm (fr (q + -r)), [none, none]) := by
  have f := F (q.num * (r.den : Int) - r.num * (q.den : Int)) (q.den * r.den) (Nat.mul_pos (Frac_pos q) (Frac_pos r)) (hq.mul hr)
  have hc := add_cross q (-r)
  rw [show (-r).num = -r.num from rfl, show (-r).den = r.den from rfl, Int.neg_mul, ← Int.sub_eq_add_neg] at hc
  rw [hc, Int.natCast_mul] at f
  have m1 := mul_int (i := q.num) (j := (r.den : Int)) hq.num hr.sm.den
  have m2 := mul_int (i := r.num) (j := (q.den : Int)) hr.num hq.sm.den
  have m3 := mul_int (i := (q.den : Int)) (j := (r.den : Int)) hq.sm.den hr.sm.den
  unfold fn31
  exact c_fn (ρ0 := [some (.imm d), some (.imm e)]) rfl rfl (c_ret (c_call (c_rval (c_bin (c_bin (c_bin rfl rfl rfl rfl hd.top) (c_bin rfl rfl rfl rfl he.bot) rfl rfl m1) (c_bin (c_bin rfl rfl rfl rfl he.top) (c_bin rfl rfl rfl rfl hd.bot) rfl rfl m2) rfl rfl rfl) rfl (c_rval (c_bin (c_bin rfl rfl rfl rfl hd.bot) (c_bin rfl rfl rfl rfl he.bot) rfl rfl m3) rfl rfl)) rfl rfl f rfl) rfl) rfl
def Lsub0 (f : Fn) : Prop := ∀ k : Int, k.natAbs < 2 ^ 80 → f [.imm (f36 0), .imm (f36 k)] = some (.imm (f36 (-k)), [none, none])
theorem lsub0_ok {cl : Nat → Fn} (F : LowP (cl 27)) : Lsub0 (fn31 cl) := fun k hk => by
  have := lsub_ok (cl := cl) F (isFr (v36 0)) (isFr (v36 k)) (v_sd (by decide)) (v_sd hk)
  rw [← v_neg, v_add, Int.zero_add] at this
  exact this
theorem lsub6 {f : Fn} (S : Lsub0 f) {k : Int} (h : k.natAbs < 2 ^ 40) : f [.imm (f36 0), .imm (f6 k)] = some (.imm (f6 (-k)), [none, none]) := by
  have := S _ (nat80 (a := 32125373280) (by decide) h)
  rw [← Int.mul_neg] at this
  exact this
theorem lsub1 {f : Fn} (S : Lsub0 f) {k : Int} (h : k.natAbs < 2 ^ 40) : f [.imm (f36 0), .imm (f1 k)] = some (.imm (f1 (-k)), [none, none]) := by
  have := S _ (nat80 (a := 192752239680) (by decide) h)
  rw [← Int.mul_neg] at this
  exact this
/-! which is less -/
theorem v_less (k l : Int) : (v36 k).num * ((v36 l).den : Int) < (v36 l).num * ((v36 k).den : Int) ↔ k < l := by
  obtain ⟨a1, a2⟩ := v_nd k
  obtain ⟨b1, b2⟩ := v_nd l
  have hk := Frac_pos (v36 k)
  have hl := Frac_pos (v36 l)
  have ek : (((v36 k).den : Nat) : Int) * ((NN / (v36 k).den : Nat) : Int) = (NN : Int) := by
    rw [← Int.natCast_mul, Nat.mul_div_cancel' a1]
  have el : (((v36 l).den : Nat) : Int) * ((NN / (v36 l).den : Nat) : Int) = (NN : Int) := by
    rw [← Int.natCast_mul, Nat.mul_div_cancel' b1]
  have gk : 0 < NN / (v36 k).den := Nat.div_pos (Nat.le_of_dvd (by decide) a1) hk
  have gl : 0 < NN / (v36 l).den := Nat.div_pos (Nat.le_of_dvd (by decide) b1) hl
  generalize (v36 k).num = n at *
  generalize (v36 l).num = m at *
  generalize hdk : (v36 k).den = d at *
  generalize hdl : (v36 l).den = c at *
  generalize hgk : ((NN / d : Nat) : Int) = g at *
  generalize hgl : ((NN / c : Nat) : Int) = j at *
  have hg : 0 < g := by omega
  have hj : 0 < j := by omega
  have hN : (0 : Int) < (NN : Int) := by decide
  have e1 : n * (c : Int) * (g * j) = k * (NN : Int) := by
    rw [← a2, ← el]
    simp only [Int.mul_assoc, Int.mul_comm, Int.mul_left_comm]
  have e2 : m * (d : Int) * (g * j) = l * (NN : Int) := by
    rw [← b2, ← ek]
    simp only [Int.mul_assoc, Int.mul_comm, Int.mul_left_comm]
  have hgj : 0 < g * j := Int.mul_pos hg hj
  constructor
  · intro h
    have := Int.mul_lt_mul_of_pos_right h hgj
    rw [e1, e2] at this
    exact Int.lt_of_mul_lt_mul_right this (by omega)
  · intro h
    have := Int.mul_lt_mul_of_pos_right h hN
    rw [← e1, ← e2] at this
    exact Int.lt_of_mul_lt_mul_right this (by omega)
def LessP (f : Fn) : Prop := ∀ k l : Int, k.natAbs < 2 ^ 80 → l.natAbs < 2 ^ 80 → f [.imm (f36 k), .imm (f36 l)] = some (.imm (.bool (decide (k < l))), [none, none])
theorem less_ok {cl : Nat → Fn} : LessP (fn30 cl) := fun k l hk hl => by
  have m1 := mul_int (i := (v36 k).num) (j := ((v36 l).den : Int)) (v_sd hk).num (v_sd hl).sm.den
  have m2 := mul_int (i := (v36 l).num) (j := ((v36 k).den : Int)) (v_sd hl).num (v_sd hk).sm.den
  have v0 : EV (mVar 0) [some (.imm (f36 k)), some (.imm (f36 l))] (f36 k) := ev_var rfl
  have v1 : EV (mVar 1) [some (.imm (f36 k)), some (.imm (f36 l))] (f36 l) := ev_var rfl
  have hL : dLt (.int ((v36 k).num * ((v36 l).den : Int))) (.int ((v36 l).num * ((v36 k).den : Int))) = some (.imm (.bool (decide (k < l)))) := by
    show some (Sv.imm (.bool (decide (_ < _)))) = _
    congr 3
    exact decide_eq_decide.mpr (v_less k l)
  have := v_bin (f := dLt) (e_bin (f := dMul) (e_bin (f := dIx) v0 (ev_c (d := .int 0)) (isFr (v36 k)).top) (e_bin (f := dIx) v1 (ev_c (d := .int 1)) (isFr (v36 l)).bot) m1) (e_bin (f := dMul) (e_bin (f := dIx) v1 (ev_c (d := .int 0)) (isFr (v36 l)).top) (e_bin (f := dIx) v0 (ev_c (d := .int 1)) (isFr (v36 k)).bot) m2) hL
  unfold fn30
  exact c_fn (ρ0 := [some (.imm (f36 k)), some (.imm (f36 l))]) rfl rfl (c_ret this rfl) rfl
/-! the law's row at a number -/
def FatP (f : Fn) : Prop := ∀ (F : List Fo) (k : Int), F.length ≤ 15 → (∀ g ∈ F, g.2.1.natAbs < 2 ^ 40 ∧ g.2.2.natAbs ≤ 1000) → k.natAbs < 2 ^ 60 → f [.imm (forD F), .imm (f36 k)] = some (.imm (rowD (nf (ev k F))), [none, none])
theorem fat_ok {cl : Nat → Fn} (A : LaddP (cl 28)) (T : LmulP (cl 29)) (N : NfP (cl 32)) : FatP (fn34 cl) := fun F k hlen hb hk => by
  have e := c_cmap (mg := mGseq 2 (mGcons (mN 2) (mGcons (mN 3) mGnil))) (me := mTup (mCons (mVar 2) (mCons (mCall (cl 28) (rVal (bin dIx (mVar 3) (mC (.int 0))) (rVal (mCall (cl 29) (rVal (bin dIx (mVar 3) (mC (.int 1))) (rVal (mVar 1) rNil))) rNil))) mNil))) (vs := [2, 3]) (ρ := [some (.imm (forD F)), some (.imm (f36 k)), none, none]) foD (fun g => prD (evf k g)) F fun g hg => by
    obtain ⟨b1, b2⟩ := hb g hg
    obtain ⟨c1, c2, c3⟩ := evf_le b1 b2 hk
    have q1 := T (f1 g.2.2) (f36 k) _ _ (isFr _) (isFr _) (v1_sd (by omega)) (v_sd (by omega))
    change _ = some (Sv.imm (fr (v1 g.2.2 * v36 k)), _) at q1
    rw [v_mul] at q1
    have q2 := A (f6 g.2.1) (f36 (g.2.2 * k)) _ _ (isFr _) (isFr _) (v6_sd b1) (v_sd (by omega))
    change _ = some (Sv.imm (fr (v6 g.2.1 + v36 (g.2.2 * k))), _) at q2
    unfold v6 at q2
    rw [v_add] at q2
    have v1 : EV (mVar 1) [some (.imm (forD F)), some (.imm (f36 k)), ii g.1, some (.imm (.tuple [f6 g.2.1, f1 g.2.2]))] (f36 k) := ev_var rfl
    have v2 : EV (mVar 2) [some (.imm (forD F)), some (.imm (f36 k)), ii g.1, some (.imm (.tuple [f6 g.2.1, f1 g.2.2]))] (.int g.1) := ev_var rfl
    have v3 : EV (mVar 3) [some (.imm (forD F)), some (.imm (f36 k)), ii g.1, some (.imm (.tuple [f6 g.2.1, f1 g.2.2]))] (.tuple [f6 g.2.1, f1 g.2.2]) := ev_var rfl
    obtain ⟨pr, g1, g2, _⟩ := e_tup (ea_cons v2 (ea_cons (e_call2 (e_bin (f := dIx) v3 (ev_c (d := .int 0)) ix_0) (e_call2 (e_bin (f := dIx) v3 (ev_c (d := .int 1)) ix_1) v1 q1) q2) ea_nil)) (show 2 ≤ 10000 by decide)
    exact ⟨_, _, _, _, rfl, g1, g2, rfl⟩
  have hf : fits (F.map fun g => prD (evf k g)).length = true := c_fits (by rw [List.length_map]; omega)
  have hr : dTuple (.list (F.map fun g => prD (evf k g))) = some (.imm (rowD (ev k F))) := by
    show some (Sv.imm (.tuple (F.map fun g => prD (evf k g)))) = _
    unfold rowD dsD ev
    rw [List.map_map]; rfl
  have c := c_un (f := dTuple) (c_comp (mi := mISeq (mVar 0)) (vs := [2, 3]) (ds := F.map foD) (ρ := [some (.imm (forD F)), some (.imm (f36 k)), none, none]) (ρ1 := [some (.imm (forD F)), some (.imm (f36 k)), none, none]) rfl rfl e hf rfl) rfl hr
  have hn := ev_norm hb hk
  have q := N (ev k F) (by
    have : F.length * 2 ^ 76 ≤ 15 * 2 ^ 76 := Nat.mul_le_mul_right _ hlen
    have h80 : 15 * 2 ^ 76 < 2 ^ 80 := by decide
    omega) (by unfold ev; rw [List.length_map]; omega)
  unfold fn34
  exact c_fn (ρ0 := [some (.imm (forD F)), some (.imm (f36 k)), none, none]) rfl rfl (c_ret (v_call1 (ev_val c) q) rfl) rfl
/-! the undoing of a row of forms -/
def UndF (f : Fn) : Prop := ∀ F : List Fo, F.length ≤ 100 → (∀ g ∈ F, g.2.1.natAbs < 2 ^ 40 ∧ g.2.2.natAbs ≤ 1000) → f [.imm (forD F)] = some (.imm (forD (finv F)), [none])
theorem rev_map {α : Type} (f : α → D) (l : List α) : dRev (.tuple (l.map f)) = some (.imm (.tuple (l.reverse.map f))) := by
  show some (Sv.imm (.tuple (l.map f).reverse)) = _
  rw [List.map_reverse]
theorem undf_ok {cl : Nat → Fn} (S : Lsub0 (cl 31)) : UndF (fn37 cl) := fun F hl hb => by
  have e := c_cmap (mg := mGseq 2 (mGcons (mN 1) (mGcons (mN 2) mGnil))) (me := mTup (mCons (mVar 1) (mCons (mTup (mCons (mCall (cl 31) (rVal (mTup (mCons (mC (.int 0)) (mCons (mC (.int 1)) mNil))) (rVal (bin dIx (mVar 2) (mC (.int 0))) rNil))) (mCons (mCall (cl 31) (rVal (mTup (mCons (mC (.int 0)) (mCons (mC (.int 1)) mNil))) (rVal (bin dIx (mVar 2) (mC (.int 1))) rNil))) mNil))) mNil))) (vs := [1, 2]) (ρ := [some (.imm (forD F)), none, none]) foD (fun g => foD (fneg g)) F.reverse fun g hg => by
    obtain ⟨b1, b2⟩ := hb g (List.mem_reverse.mp hg)
    have q1 := lsub6 S b1
    have q2 := lsub1 S (k := g.2.2) (by omega)
    rw [z36] at q1 q2
    have v1 : EV (mVar 1) [some (.imm (forD F)), ii g.1, some (.imm (.tuple [f6 g.2.1, f1 g.2.2]))] (.int g.1) := ev_var rfl
    have v2 : EV (mVar 2) [some (.imm (forD F)), ii g.1, some (.imm (.tuple [f6 g.2.1, f1 g.2.2]))] (.tuple [f6 g.2.1, f1 g.2.2]) := ev_var rfl
    have z : EV (mTup (mCons (mC (.int 0)) (mCons (mC (.int 1)) mNil))) [some (.imm (forD F)), ii g.1, some (.imm (.tuple [f6 g.2.1, f1 g.2.2]))] (.tuple ([0, 1].map .int)) := e_tup (ea_cons ev_c (ea_cons ev_c ea_nil)) (show 2 ≤ 10000 by decide)
    obtain ⟨pr, g1, g2, _⟩ := e_tup (ea_cons v1 (ea_cons (e_tup (ea_cons (e_call2 z (e_bin (f := dIx) v2 (ev_c (d := .int 0)) ix_0) q1) (ea_cons (e_call2 z (e_bin (f := dIx) v2 (ev_c (d := .int 1)) ix_1) q2) ea_nil)) (show 2 ≤ 10000 by decide)) ea_nil)) (show 2 ≤ 10000 by decide)
    exact ⟨_, _, _, _, rfl, g1, g2, rfl⟩
  have hf : fits (F.reverse.map fun g => foD (fneg g)).length = true := c_fits (by rw [List.length_map, List.length_reverse]; omega)
  have hr : forD (finv F) = .tuple (F.reverse.map fun g => foD (fneg g)) := by unfold forD finv; rw [List.map_map]; rfl
  have hi : mISeq (un dRev (mVar 0)) [some (.imm (forD F)), none, none] = some (F.reverse.map foD, [some (.imm (forD F)), none, none]) := by
    unfold mISeq
    rw [c_un (f := dRev) (ρ := [some (.imm (forD F)), none, none]) (ma := mVar 0) rfl rfl (rev_map foD F)]
    rfl
  unfold fn37
  rw [hr]
  exact c_fn (ρ0 := [some (.imm (forD F)), none, none]) rfl rfl (c_ret (c_un (f := dTuple) (c_comp hi rfl e hf rfl) rfl rfl) rfl) rfl
end K46

namespace K46
open PySem Vi PyProof.Rows
/-! what is left, as the law finds it -/
def pD (u v : Int) : D := .tuple [f6 u, f1 v]
theorem foD_eq (g : Fo) : foD g = .tuple [.int g.1, pD g.2.1 g.2.2] := rfl
theorem lay_fo (g : Fo) : PyData.canLay0 (foD g) = true := by
  unfold foD f6 f1 f36 fr
  simp [PyData.canLay0, PyData.canLayAll0]
theorem dep_fo (g : Fo) : PyData.depth (foD g) ≤ 3 := by
  unfold foD f6 f1 f36 fr
  simp [PyData.depth, PyData.depthAll]
theorem lay_fos : ∀ L : List Fo, PyData.canLayAll0 (L.map foD) = true
  | [] => by rw [List.map_nil, PyData.canLayAll0]
  | p :: r => by rw [List.map_cons, PyData.canLayAll0, lay_fo, lay_fos r]; rfl
theorem dep_fos : ∀ L : List Fo, PyData.depthAll (L.map foD) ≤ 3
  | [] => by rw [List.map_nil, PyData.depthAll]; decide
  | p :: r => by
    rw [List.map_cons, PyData.depthAll]
    exact Nat.max_le.mpr ⟨dep_fo p, dep_fos r⟩
theorem ok_fos (L : List Fo) : okD (.list (L.map foD)) = true := by
  show (PyData.canLay0 (.list (L.map foD)) && decide (PyData.depth (.list (L.map foD)) ≤ 64)) = true
  have := dep_fos L
  rw [PyData.canLay0, PyData.depth, lay_fos, decide_eq_true (by omega)]; rfl
theorem fos_nil (L : List Fo) : PyData.eqv (.list (L.map foD)) (.list []) = L.isEmpty := by cases L <;> simp [PyData.eqv, PyData.eqvAll]
theorem ne_fos (L : List Fo) : dNe (.list (L.map foD)) (.list []) = some (.imm (.bool (!L.isEmpty))) := by
  unfold dNe
  rw [ok_fos, show okD (.list []) = true from rfl, fos_nil]; rfl
theorem eq_fos (L : List Fo) : dEq (.list (L.map foD)) (.list []) = some (.imm (.bool L.isEmpty)) := by
  unfold dEq
  rw [ok_fos, show okD (.list []) = true from rfl, fos_nil]; rfl
theorem ok_pD (u v : Int) : okD (pD u v) = true := by
  show (PyData.canLay0 (pD u v) && decide (PyData.depth (pD u v) ≤ 64)) = true
  unfold pD f6 f1 f36 fr
  simp [PyData.canLay0, PyData.canLayAll0, PyData.depth, PyData.depthAll]
theorem eqv_pD (u v x y : Int) : PyData.eqv (pD u v) (pD x y) = decide (u = x ∧ v = y) := by
  have h1 := eqv_f36 (32125373280 * u) (32125373280 * x)
  have h2 := eqv_f36 (192752239680 * v) (192752239680 * y)
  unfold pD f6 f1
  simp only [PyData.eqv, PyData.eqvAll, h1, h2, Bool.and_true]
  rw [← Bool.decide_and]
  exact decide_eq_decide.mpr ⟨fun h => ⟨by omega, by omega⟩, fun h => ⟨by rw [h.1], by rw [h.2]⟩⟩
theorem ne_pD (u v : Int) : dNe (pD u v) (.tuple [.tuple [.int 0, .int 1], .tuple [.int 0, .int 1]]) = some (.imm (.bool (!decide (u = 0 ∧ v = 0)))) := by
  have hz : (.tuple [.tuple [.int 0, .int 1], .tuple [.int 0, .int 1]] : D) = pD 0 0 := by
    have := z36
    unfold pD f6 f1
    rw [Int.mul_zero, Int.mul_zero, z36]; rfl
  rw [hz]
  unfold dNe
  rw [ok_pD, ok_pD, eqv_pD]; rfl
def zzE : ME := (mTup (mCons (mTup (mCons (mC (.int 0)) (mCons (mC (.int 1)) mNil))) (mCons (mTup (mCons (mC (.int 0)) (mCons (mC (.int 1)) mNil))) mNil)))
def wT : MT := (mAndT (mB (bin dNe (mVar 2) (mLst mNil))) (mB (bin dEq (bin dIx (bin dIx (mVar 2) (un dNeg (mC (.int 1)))) (mC (.int 0))) (mVar 4))))
def wA (cl : Nat → Fn) : MS := (mSeq (mSet 6 (bin dIx (mPop 2) (mC (.int 1)))) (mSet 5 (mTup (mCons (mCall (cl 28) (rVal (bin dIx (mVar 6) (mC (.int 0))) (rVal (bin dIx (mVar 5) (mC (.int 0))) rNil))) (mCons (mCall (cl 28) (rVal (bin dIx (mVar 6) (mC (.int 1))) (rVal (bin dIx (mVar 5) (mC (.int 1))) rNil))) mNil)))))
def wP : MS := (mIfS (mB (bin dNe (mVar 5) zzE)) (mDrop (mApp 2 (mTup (mCons (mVar 4) (mCons (mVar 5) mNil))))) mNext)
def wC (cl : Nat → Fn) : ME := (mComp (mISeq (un dRev (mVar 1))) (mGseq 2 (mGcons (mN 4) (mGcons (mN 5) mGnil))) mYes (mTup (mCons (mVar 4) (mCons (mTup (mCons (mCall (cl 31) (rVal (mTup (mCons (mC (.int 0)) (mCons (mC (.int 1)) mNil))) (rVal (bin dIx (mVar 5) (mC (.int 0))) rNil))) (mCons (mCall (cl 31) (rVal (mTup (mCons (mC (.int 0)) (mCons (mC (.int 1)) mNil))) (rVal (bin dIx (mVar 5) (mC (.int 1))) rNil))) mNil))) mNil))) [4, 5])
theorem left_fn (cl : Nat → Fn) : fn35 cl = mFn 7 2 (mSeq (mSet 2 (mLst mNil)) (mSeq (mSet 3 (wC cl)) (mSeq (mFor (mISeq (bin dAdd (un dList (mVar 0)) (mVar 3))) (mGseq 2 (mGcons (mN 4) (mGcons (mN 5) mGnil))) (mSeq (mIfS wT (wA cl) mNext) wP)) (mRet (mVar 2))))) := rfl
abbrev BF (x0 x1 : Option Sv) (L : List D) (x3 : Option Sv) (part : Int) (d : D) (x6 : Option Sv) : Fm := [x0, x1, some (.own false L), x3, ii part, some (.imm d), x6]
def sL (s : List Fo) : List D := s.reverse.map foD
theorem sL_cons (g : Fo) (s : List Fo) : sL (g :: s) = sL s ++ [foD g] := by unfold sL; rw [List.reverse_cons, List.map_append]; rfl
theorem sL_len (s : List Fo) : (sL s).length = s.length := by unfold sL; rw [List.length_map, List.length_reverse]
section
variable {cl : Nat → Fn} {x0 x1 x3 x6 : Option Sv} {part u v : Int}
theorem wt_nil {d : D} : wT (BF x0 x1 (sL []) x3 part d x6) = some (false, BF x0 x1 (sL []) x3 part d x6) := by
  have n := ne_fos []
  exact c_andTF (c_b (b := false) (c_bin rfl (c_lst c_anil rfl) rfl rfl n))
theorem wt_cons {d : D} (l : Fo) (s : List Fo) : wT (BF x0 x1 (sL (l :: s)) x3 part d x6) = some (l.1 == part, BF x0 x1 (sL (l :: s)) x3 part d x6) := by
  have n := ne_fos (l :: s).reverse
  have hz : (l :: s).reverse.isEmpty = false := by simp
  rw [hz] at n
  change dNe (.list (sL (l :: s))) (.list []) = _ at n
  have hL := sL_cons l s
  have hx : dIx (.list (sL (l :: s))) (.int (-1)) = some (.imm (foD l)) := by
    show (L2.atI (sL (l :: s)) (-1)).map Sv.imm = _
    rw [hL, at_neg]; rfl
  generalize sL (l :: s) = L at *
  have a1 : mB (bin dNe (mVar 2) (mLst mNil)) (BF x0 x1 L x3 part d x6) = some (true, BF x0 x1 L x3 part d x6) := c_b (b := true) (c_bin rfl (c_lst c_anil rfl) rfl rfl n)
  have a2 : bin dIx (mVar 2) (un dNeg (mC (.int 1))) (BF x0 x1 L x3 part d x6) = some (.val (.imm (foD l)), BF x0 x1 L x3 part d x6) := c_bin rfl last_1 rfl rfl hx
  exact c_andTT a1 (c_b (c_bin (c_bin a2 rfl rfl rfl rfl) rfl rfl rfl (eq_int _ _)))
theorem wa_ok (P : LaddP (cl 28)) (l : Fo) (s : List Fo) (b1 : l.2.1.natAbs < 2 ^ 40) (b2 : l.2.2.natAbs < 2 ^ 40) (b3 : u.natAbs < 2 ^ 40) (b4 : v.natAbs < 2 ^ 40) : ∃ y6, wA cl (BF x0 x1 (sL (l :: s)) x3 part (pD u v) x6) = some (.next, BF x0 x1 (sL s) x3 part (pD (l.2.1 + u) (l.2.2 + v)) y6) := by
  have q1 := P (f6 l.2.1) (f6 u) _ _ (isFr (v6 l.2.1)) (isFr (v6 u)) (v6_sd b1) (v6_sd b3)
  have q2 := P (f1 l.2.2) (f1 v) _ _ (isFr (v1 l.2.2)) (isFr (v1 v)) (v1_sd b2) (v1_sd b4)
  rw [v6_add] at q1
  rw [v1_add] at q2
  have hL := sL_cons l s
  have p : mPop 2 (BF x0 x1 (sL (l :: s)) x3 part (pD u v) x6) = some (.val (.imm (foD l)), BF x0 x1 (sL s) x3 part (pD u v) x6) := by
    show (match (sL (l :: s))[(sL (l :: s)).length - 1]? with | some d => some (PR.val (.imm d), [x0, x1, some (.own false (sL (l :: s)).dropLast), x3, ii part, some (.imm (pD u v)), x6]) | none => none) = _
    rw [hL, List.dropLast_concat, show (sL s ++ [foD l]).length - 1 = (sL s).length by rw [List.length_append]; simp, List.getElem?_concat_length]
  have s1 : mSet 6 (bin dIx (mPop 2) (mC (.int 1))) (BF x0 x1 (sL (l :: s)) x3 part (pD u v) x6) = some (.next, BF x0 x1 (sL s) x3 part (pD u v) (some (.imm (pD l.2.1 l.2.2)))) := c_set (c_bin (f := dIx) p rfl rfl rfl (show dIx (foD l) (.int 1) = some (.imm (pD l.2.1 l.2.2)) from rfl)) rfl
  have w5 : EV (mVar 5) (BF x0 x1 (sL s) x3 part (pD u v) (some (.imm (pD l.2.1 l.2.2)))) (pD u v) := ev_var rfl
  have w6 : EV (mVar 6) (BF x0 x1 (sL s) x3 part (pD u v) (some (.imm (pD l.2.1 l.2.2)))) (pD l.2.1 l.2.2) := ev_var rfl
  obtain ⟨pr, g1, g2, _⟩ := e_tup (ea_cons (e_call2 (e_bin (f := dIx) w6 (ev_c (d := .int 0)) ix_0) (e_bin (f := dIx) w5 (ev_c (d := .int 0)) ix_0) q1) (ea_cons (e_call2 (e_bin (f := dIx) w6 (ev_c (d := .int 1)) ix_1) (e_bin (f := dIx) w5 (ev_c (d := .int 1)) ix_1) q2) ea_nil)) (show 2 ≤ 10000 by decide)
  have hv := c_tup (ea_cons (e_call2 (e_bin (f := dIx) w6 (ev_c (d := .int 0)) ix_0) (e_bin (f := dIx) w5 (ev_c (d := .int 0)) ix_0) q1) (ea_cons (e_call2 (e_bin (f := dIx) w6 (ev_c (d := .int 1)) ix_1) (e_bin (f := dIx) w5 (ev_c (d := .int 1)) ix_1) q2) ea_nil)) (c_fits (show 2 ≤ 10000 by decide))
  exact ⟨_, c_seq s1 (c_set hv rfl)⟩
theorem wp_ok (s : List Fo) (hl : s.length ≤ 800) : wP (BF x0 x1 (sL s) x3 part (pD u v) x6) = some (.next, BF x0 x1 (sL (if u = 0 ∧ v = 0 then s else (part, u, v) :: s)) x3 part (pD u v) x6) := by
  have v5 : EV (mVar 5) (BF x0 x1 (sL s) x3 part (pD u v) x6) (pD u v) := ev_var rfl
  have z : EV zzE (BF x0 x1 (sL s) x3 part (pD u v) x6) (.tuple [.tuple [.int 0, .int 1], .tuple [.int 0, .int 1]]) := e_tup (ea_cons (e_tup (ea_cons ev_c (ea_cons ev_c ea_nil)) (show 2 ≤ 10000 by decide)) (ea_cons (e_tup (ea_cons ev_c (ea_cons ev_c ea_nil)) (show 2 ≤ 10000 by decide)) ea_nil)) (show 2 ≤ 10000 by decide)
  have t := c_b (v_bin (f := dNe) v5 z (ne_pD u v))
  unfold wP
  by_cases h : u = 0 ∧ v = 0
  · rw [decide_eq_true h] at t
    rw [if_pos h]
    exact c_ifF t c_skip
  · rw [decide_eq_false h] at t
    rw [if_neg h]
    have a : mTup (mCons (mVar 4) (mCons (mVar 5) mNil)) (BF x0 x1 (sL s) x3 part (pD u v) x6) = some (.val (.imm (foD (part, u, v))), BF x0 x1 (sL s) x3 part (pD u v) x6) := c_tup (c_acons rfl rfl (c_acons rfl rfl c_anil)) rfl
    have hf : fits ((sL s).length + 1) = true := c_fits (by rw [sL_len]; omega)
    have b := c_app (i := 2) (ρ := BF x0 x1 (sL s) x3 part (pD u v) x6) rfl a rfl rfl hf
    rw [sL_cons]
    exact c_ifT t (c_drop b)
theorem wstep (P : LaddP (cl 28)) (s : List Fo) (g : Fo) (hn : fnorm s + fsz g < 2 ^ 40) (hl : s.length ≤ 700) : ∃ (d : D) (y6 : Option Sv), mSeq (mIfS wT (wA cl) mNext) wP (BF x0 x1 (sL s) x3 g.1 (pD g.2.1 g.2.2) x6) = some (.next, BF x0 x1 (sL (fpush s g)) x3 g.1 d y6) := by
  have hb2 : g.2.1.natAbs + g.2.2.natAbs = fsz g := rfl
  cases s with
  | nil =>
    have k := wp_ok (x0 := x0) (x1 := x1) (x3 := x3) (x6 := x6) (part := g.1) (u := g.2.1) (v := g.2.2) [] (by simp)
    exact ⟨_, _, c_seq (c_ifF wt_nil c_skip) k⟩
  | cons l s =>
    have t := wt_cons (x0 := x0) (x1 := x1) (x3 := x3) (x6 := x6) (part := g.1) (d := pD g.2.1 g.2.2) l s
    rw [fnorm_cons] at hn
    rw [List.length_cons] at hl
    have hb : l.2.1.natAbs + l.2.2.natAbs = fsz l := rfl
    by_cases h : l.1 = g.1
    · rw [show (l.1 == g.1) = true from beq_iff_eq.mpr h] at t
      obtain ⟨y6, k1⟩ := wa_ok P (x0 := x0) (x1 := x1) (x3 := x3) (x6 := x6) (part := g.1) (u := g.2.1) (v := g.2.2) l s (by omega) (by omega) (by omega) (by omega)
      have k2 := wp_ok (x0 := x0) (x1 := x1) (x3 := x3) (x6 := y6) (part := g.1) (u := l.2.1 + g.2.1) (v := l.2.2 + g.2.2) s (by omega)
      rw [fpush_cons, if_pos h]
      exact ⟨_, _, c_seq (c_ifT t k1) k2⟩
    · rw [show (l.1 == g.1) = false from beq_eq_false_iff_ne.mpr h] at t
      have k2 := wp_ok (x0 := x0) (x1 := x1) (x3 := x3) (x6 := x6) (part := g.1) (u := g.2.1) (v := g.2.2) (l :: s) (by rw [List.length_cons]; omega)
      rw [fpush_cons, if_neg h]
      exact ⟨_, _, c_seq (c_ifF t c_skip) k2⟩
theorem wloop (P : LaddP (cl 28)) : ∀ (L s : List Fo) (x4 x5 x6 : Option Sv), fnorm s + fnorm L < 2 ^ 40 → s.length + L.length ≤ 700 →
    ∃ y4 y5 y6, loop (mGseq 2 (mGcons (mN 4) (mGcons (mN 5) mGnil))) (mSeq (mIfS wT (wA cl) mNext) wP) (L.map foD) [x0, x1, some (.own false (sL s)), x3, x4, x5, x6] = some (.next, [x0, x1, some (.own false (sL (L.foldl fpush s))), x3, y4, y5, y6])
  | [], s, x4, x5, x6, _, _ => ⟨x4, x5, x6, rfl⟩
  | g :: L, s, x4, x5, x6, hn, hl => by
    rw [fnorm_cons] at hn
    rw [List.length_cons] at hl
    obtain ⟨d, y6, k⟩ := wstep P (x0 := x0) (x1 := x1) (x3 := x3) (x6 := x6) s g (by omega) (by omega)
    have n1 := fpush_norm s g
    have n2 := fpush_len s g
    obtain ⟨z4, z5, z6, e⟩ := wloop P L (fpush s g) (ii g.1) (some (.imm d)) y6 (by omega) (by omega)
    exact ⟨z4, z5, z6, c_cons (ρ1 := BF x0 x1 (sL s) x3 g.1 (pD g.2.1 g.2.2) x6) rfl k e⟩
end
def LeftP (f : Fn) : Prop := ∀ F G : List Fo, fnorm F + fnorm G < 2 ^ 39 → F.length + G.length ≤ 100 → (∀ g ∈ G, g.2.2.natAbs ≤ 1000) → f [.imm (forD F), .imm (forD G)] = some (.own false ((left F G).map foD), [none, none])
theorem fsz_mem {F : List Fo} {g : Fo} (h : g ∈ F) : fsz g ≤ fnorm F := by
  have := fsz_in (l := F.map fun f => ((.none : D), f)) (a := (.none, g)) (List.mem_map_of_mem h)
  rw [List.map_map] at this
  have e : F.map ((fun x : Fz => x.2) ∘ fun f => ((.none : D), f)) = F := List.map_id' _
  rw [e] at this
  exact this
theorem left_ok {cl : Nat → Fn} (P : LaddP (cl 28)) (S : Lsub0 (cl 31)) : LeftP (fn35 cl) := fun F G hn hl hv => by
  have e := c_cmap (mg := mGseq 2 (mGcons (mN 4) (mGcons (mN 5) mGnil))) (me := mTup (mCons (mVar 4) (mCons (mTup (mCons (mCall (cl 31) (rVal (mTup (mCons (mC (.int 0)) (mCons (mC (.int 1)) mNil))) (rVal (bin dIx (mVar 5) (mC (.int 0))) rNil))) (mCons (mCall (cl 31) (rVal (mTup (mCons (mC (.int 0)) (mCons (mC (.int 1)) mNil))) (rVal (bin dIx (mVar 5) (mC (.int 1))) rNil))) mNil))) mNil))) (vs := [4, 5]) (ρ := [some (.imm (forD F)), some (.imm (forD G)), some (.own false []), none, none, none, none]) foD (fun g => foD (fneg g)) G.reverse fun g hg => by
    have hg' := List.mem_reverse.mp hg
    have b1 := fsz_mem hg'
    have b2 : g.2.1.natAbs + g.2.2.natAbs = fsz g := rfl
    have q1 := lsub6 S (k := g.2.1) (by omega)
    have q2 := lsub1 S (k := g.2.2) (by omega)
    rw [z36] at q1 q2
    have v4 : EV (mVar 4) [some (.imm (forD F)), some (.imm (forD G)), some (.own false []), none, ii g.1, some (.imm (pD g.2.1 g.2.2)), none] (.int g.1) := ev_var rfl
    have v5 : EV (mVar 5) [some (.imm (forD F)), some (.imm (forD G)), some (.own false []), none, ii g.1, some (.imm (pD g.2.1 g.2.2)), none] (pD g.2.1 g.2.2) := ev_var rfl
    have z : EV (mTup (mCons (mC (.int 0)) (mCons (mC (.int 1)) mNil))) [some (.imm (forD F)), some (.imm (forD G)), some (.own false []), none, ii g.1, some (.imm (pD g.2.1 g.2.2)), none] (.tuple ([0, 1].map .int)) := e_tup (ea_cons ev_c (ea_cons ev_c ea_nil)) (show 2 ≤ 10000 by decide)
    obtain ⟨pr, g1, g2, _⟩ := e_tup (ea_cons v4 (ea_cons (e_tup (ea_cons (e_call2 z (e_bin (f := dIx) v5 (ev_c (d := .int 0)) ix_0) q1) (ea_cons (e_call2 z (e_bin (f := dIx) v5 (ev_c (d := .int 1)) ix_1) q2) ea_nil)) (show 2 ≤ 10000 by decide)) ea_nil)) (show 2 ≤ 10000 by decide)
    exact ⟨_, _, _, _, rfl, g1, g2, rfl⟩
  have hf : fits (G.reverse.map fun g => foD (fneg g)).length = true := c_fits (by rw [List.length_map, List.length_reverse]; omega)
  have hi : mISeq (un dRev (mVar 1)) [some (.imm (forD F)), some (.imm (forD G)), some (.own false []), none, none, none, none] = some (G.reverse.map foD, [some (.imm (forD F)), some (.imm (forD G)), some (.own false []), none, none, none, none]) := by
    unfold mISeq
    rw [c_un (f := dRev) (ρ := [some (.imm (forD F)), some (.imm (forD G)), some (.own false []), none, none, none, none]) (ma := mVar 1) rfl rfl (rev_map foD G)]
    rfl
  have hr : (G.reverse.map fun g => foD (fneg g)) = (finv G).map foD := by unfold finv; rw [List.map_map]; rfl
  rw [hr] at e hf
  have k1 : wC cl [some (.imm (forD F)), some (.imm (forD G)), some (.own false []), none, none, none, none] = some (.val (.own false ((finv G).map foD)), [some (.imm (forD F)), some (.imm (forD G)), some (.own false []), none, none, none, none]) := c_comp hi rfl e hf rfl
  have hgl : (finv G).length = G.length := by unfold finv; rw [List.length_map, List.length_reverse]
  obtain ⟨y4, y5, y6, g4⟩ := wloop P (x0 := some (.imm (forD F))) (x1 := some (.imm (forD G))) (x3 := some (.own false ((finv G).map foD))) (F ++ finv G) [] none none none (by rw [fnorm_app, fnorm_inv]; have : fnorm [] = 0 := rfl; omega) (by rw [List.length_append, hgl, List.length_nil]; omega)
  have hL : dList (forD F) = some (.own false (F.map foD)) := list_of rfl (by rw [List.length_map]; omega)
  have hA : dAdd (.list (F.map foD)) (.list ((finv G).map foD)) = some (.own false ((F ++ finv G).map foD)) := by
    rw [List.map_append]
    show (if fits _ = true then some (Sv.own false _) else none) = _
    rw [if_pos (c_fits (by rw [List.length_map, List.length_map, hgl]; omega))]
  have hs : mISeq (bin dAdd (un dList (mVar 0)) (mVar 3)) [some (.imm (forD F)), some (.imm (forD G)), some (.own false []), some (.own false ((finv G).map foD)), none, none, none] = some ((F ++ finv G).map foD, [some (.imm (forD F)), some (.imm (forD G)), some (.own false []), some (.own false ((finv G).map foD)), none, none, none]) := by
    have := c_bin (f := dAdd) (ma := un dList (mVar 0)) (mb := mVar 3) (ρ := [some (.imm (forD F)), some (.imm (forD G)), some (.own false []), some (.own false ((finv G).map foD)), none, none, none]) (c_un (f := dList) rfl rfl hL) rfl rfl rfl hA
    unfold mISeq
    rw [this]
    rfl
  rw [left_fn]
  exact c_fn (ρ0 := [some (.imm (forD F)), some (.imm (forD G)), none, none, none, none, none]) rfl rfl (c_seq (c_set (c_lst c_anil rfl) rfl) (c_seq (c_set k1 rfl) (c_seq (c_for hs g4) (c_ret rfl rfl)))) rfl
end K46

namespace K46
open PySem Vi PyProof.Rows
/-! the forms that are drawn -/
def ats : List Int := [0, 6, -6, 12, 3]
def ways : List Int := [0, 1, -1, 2]
def atE : MA := (mCons (mTup (mCons (mC (.int 0)) (mCons (mC (.int 1)) mNil))) (mCons (mTup (mCons (mC (.int 1)) (mCons (mC (.int 1)) mNil))) (mCons (mTup (mCons (un dNeg (mC (.int 1))) (mCons (mC (.int 1)) mNil))) (mCons (mTup (mCons (mC (.int 2)) (mCons (mC (.int 1)) mNil))) (mCons (mTup (mCons (mC (.int 1)) (mCons (mC (.int 2)) mNil))) mNil)))))
def wayE : MA := (mCons (mTup (mCons (mC (.int 0)) (mCons (mC (.int 1)) mNil))) (mCons (mTup (mCons (mC (.int 1)) (mCons (mC (.int 1)) mNil))) (mCons (mTup (mCons (un dNeg (mC (.int 1))) (mCons (mC (.int 1)) mNil))) (mCons (mTup (mCons (mC (.int 2)) (mCons (mC (.int 1)) mNil))) mNil))))
theorem ats_list : ats.map f6 = [.tuple [.int 0, .int 1], .tuple [.int 1, .int 1], .tuple [.int (-1), .int 1], .tuple [.int 2, .int 1], .tuple [.int 1, .int 2]] := by kernel_rfl
theorem ways_list : ways.map f1 = [.tuple [.int 0, .int 1], .tuple [.int 1, .int 1], .tuple [.int (-1), .int 1], .tuple [.int 2, .int 1]] := by kernel_rfl
theorem ats_ev (ρ : Fm) : mLst atE ρ = some (.val (.own false (ats.map f6)), ρ) := by rw [ats_list]; rfl
theorem ways_ev (ρ : Fm) : mLst wayE ρ = some (.val (.own false (ways.map f1)), ρ) := by rw [ways_list]; rfl
theorem ats_le {j : Int} (h : j ∈ ats) : j.natAbs ≤ 12 := by revert j; decide
theorem ways_le {j : Int} (h : j ∈ ways) : j.natAbs ≤ 2 := by revert j; decide
def zE : ME := (mTup (mCons (mC (.int 0)) (mCons (mC (.int 1)) mNil)))
def fR (cl : Nat → Fn) : MS := (mRet (mIf (mB (bin dNe (bin dIx (mVar 2) (mC (.int 0))) (mC (.int 0)))) (mTup (mCons (mCall (cl 31) (rVal zE (rVal (mCall (cl 29) (rVal (mVar 2) (rVal (mVar 1) rNil))) rNil))) (mCons (mVar 2) mNil))) (mTup (mCons (mCall (cl 33) (rSlot 0 rNil)) (mCons (mVar 2) mNil)))))
theorem form_fn (cl : Nat → Fn) : fn36 cl = mFn 3 1 (mSeq (mSet 1 (mCall (cl 24) (rSlot 0 (rVal (mLst atE) rNil)))) (mSeq (mSet 2 (mCall (cl 24) (rSlot 0 (rVal (mLst wayE) rNil)))) (fR cl))) := rfl
def FormP (f : Fn) (b : Int) : Prop := ∀ a c : Int, 0 ≤ c → c < 100000 → ∃ u v a' c' : Int, f [.own true (bx a b c)] = some (.imm (pD u v), [some (bx a' b c')]) ∧ u.natAbs ≤ 24 ∧ v.natAbs ≤ 2 ∧ 0 ≤ c' ∧ c' ≤ c + 3
theorem form_ok {cl : Nat → Fn} {b : Int} (T : OfP (cl 24) b) (U : MuchP (cl 33) b) (L : LmulP (cl 29)) (S : Lsub0 (cl 31)) : FormP (fn36 cl) b := fun a c hc hc2 => by
  obtain ⟨n1, d1, a1, c1, hd1, e1, p1, p2⟩ := T (ats.map f6) a c (by decide) (by decide) hc (by omega)
  obtain ⟨n2, d2, a2, c2, hd2, e2, p3, p4⟩ := T (ways.map f1) a1 c1 (by decide) (by decide) p1 (by omega)
  rw [List.getElem?_map] at hd1 hd2
  obtain ⟨j, hj, rfl⟩ := Option.map_eq_some_iff.mp hd1
  obtain ⟨w, hw, rfl⟩ := Option.map_eq_some_iff.mp hd2
  have bj := ats_le (List.mem_of_getElem? hj)
  have bw := ways_le (List.mem_of_getElem? hw)
  have g1 : mSet 1 (mCall (cl 24) (rSlot 0 (rVal (mLst atE) rNil))) [some (.own true (bx a b c)), none, none] = some (.next, [some (.own true (bx a1 b c1)), some (.imm (f6 j)), none]) := c_set (c_call (as := [.s 0, .v (.list (ats.map f6))]) (c_rslot rfl (c_rval (ats_ev _) rfl rfl)) rfl rfl e1 rfl) rfl
  have g2 : mSet 2 (mCall (cl 24) (rSlot 0 (rVal (mLst wayE) rNil))) [some (.own true (bx a1 b c1)), some (.imm (f6 j)), none] = some (.next, [some (.own true (bx a2 b c2)), some (.imm (f6 j)), some (.imm (f1 w))]) := c_set (c_call (as := [.s 0, .v (.list (ways.map f1))]) (c_rslot rfl (c_rval (ways_ev _) rfl rfl)) rfl rfl e2 rfl) rfl
  have v1' : EV (mVar 1) [some (.own true (bx a2 b c2)), some (.imm (f6 j)), some (.imm (f1 w))] (f6 j) := ev_var rfl
  have v2' : EV (mVar 2) [some (.own true (bx a2 b c2)), some (.imm (f6 j)), some (.imm (f1 w))] (f1 w) := ev_var rfl
  have ht : dIx (f1 w) (.int 0) = some (.imm (.int w)) := by
    have := (isFr (v1 w)).top
    rw [v1_top] at this
    exact this
  have t := c_b (v_bin (f := dNe) (e_bin (f := dIx) v2' (ev_c (d := .int 0)) ht) (ev_c (d := .int 0)) (ne_int w 0))
  rw [form_fn]
  by_cases hw0 : w = 0
  · subst hw0
    obtain ⟨u, a3, c3, e3, bu, p5, p6⟩ := U a2 c2 p3 (by omega)
    refine ⟨u, 0, a3, c3, ?_, by omega, by decide, p5, by omega⟩
    have k3 : mCall (cl 33) (rSlot 0 rNil) [some (.own true (bx a2 b c2)), some (.imm (f6 j)), some (.imm (f1 0))] = some (.val (.imm (f6 u)), [some (.own true (bx a3 b c3)), some (.imm (f6 j)), some (.imm (f1 0))]) := c_call (as := [.s 0]) rfl rfl rfl e3 rfl
    have k4 : mTup (mCons (mCall (cl 33) (rSlot 0 rNil)) (mCons (mVar 2) mNil)) [some (.own true (bx a2 b c2)), some (.imm (f6 j)), some (.imm (f1 0))] = some (.val (.imm (pD u 0)), [some (.own true (bx a3 b c3)), some (.imm (f6 j)), some (.imm (f1 0))]) := c_tup (c_acons k3 rfl (c_acons rfl rfl c_anil)) rfl
    exact c_fn (ρ0 := [some (.own true (bx a b c)), none, none]) rfl rfl (c_seq g1 (c_seq g2 (c_ret (mif_F t k4) rfl))) rfl
  · have q1 := L (f1 w) (f6 j) _ _ (isFr (v1 w)) (isFr (v6 j)) (v1_sd (by omega)) (v6_sd (by omega))
    have hm : v1 w * v6 j = v6 (w * j) := by unfold v6; rw [v_mul, Int.mul_left_comm]
    rw [hm] at q1
    have hwj : (w * j).natAbs ≤ 24 := by
      rw [Int.natAbs_mul]
      have := Nat.mul_le_mul bw bj
      omega
    have q2 := lsub6 S (k := w * j) (by omega)
    rw [z36] at q2
    refine ⟨-(w * j), w, a2, c2, ?_, by omega, bw, p3, by omega⟩
    have z : EV zE [some (.own true (bx a2 b c2)), some (.imm (f6 j)), some (.imm (f1 w))] (.tuple ([0, 1].map .int)) := e_tup (ea_cons ev_c (ea_cons ev_c ea_nil)) (show 2 ≤ 10000 by decide)
    rw [show (!(w == 0)) = true by rw [beq_eq_false_iff_ne.mpr hw0]; rfl] at t
    have k4 := c_tup (ea_cons (e_call2 z (e_call2 v2' v1' q1) q2) (ea_cons v2' ea_nil)) (c_fits (show 2 ≤ 10000 by decide))
    exact c_fn (ρ0 := [some (.own true (bx a b c)), none, none]) rfl rfl (c_seq g1 (c_seq g2 (c_ret (mif_T t k4) rfl))) rfl
/-! the two rows -/
def Gd (g : Fo) : Prop := g.2.1.natAbs ≤ 24 ∧ g.2.2.natAbs ≤ 2
theorem fo_add (A B : List Fo) (h : A.length + B.length ≤ 900) : dAdd (forD A) (forD B) = some (.imm (forD (A ++ B))) := by
  show (if fits ((A.map foD).length + (B.map foD).length) = true then some (Sv.imm (.tuple (A.map foD ++ B.map foD))) else none) = _
  rw [if_pos (c_fits (by rw [List.length_map, List.length_map]; omega))]
  unfold forD
  rw [List.map_append]
def slF (F : List Fo) (lo hi : Option Int) : List Fo := (F.drop (HT.sIx F.length 0 lo)).take (HT.sIx F.length F.length hi - HT.sIx F.length 0 lo)
theorem slF_cut (F : List Fo) (lo hi : Option Int) : dCut lo hi (forD F) = some (.imm (forD (slF F lo hi))) := by
  show some (Sv.imm (.tuple (Vi.cutD (F.map foD) lo hi))) = _
  unfold Vi.cutD forD slF
  rw [List.length_map, ← List.map_drop, ← List.map_take]
theorem slF_in {F : List Fo} {lo hi : Option Int} {g : Fo} (h : g ∈ slF F lo hi) : g ∈ F := List.mem_of_mem_drop (List.mem_of_mem_take h)
theorem slF_len (F : List Fo) (lo hi : Option Int) : (slF F lo hi).length ≤ F.length := by unfold slF; rw [List.length_take, List.length_drop]; omega
theorem sl_to {me : ME} {ρ : Fm} {F : List Fo} {i : Int} (h : EV me ρ (forD F)) : EV (mSl me mNoPart (mPart (mC (.int i)))) ρ (forD (slF F none (some i))) := by
  obtain ⟨pr, h1, h2, h3⟩ := h
  refine ev_val ?_
  unfold mSl
  have e : mPart (mC (.int i)) ρ = some (some i, ρ) := rfl
  simp only [h1, mNoPart, e, h3, slF_cut]
theorem sl_from {me : ME} {ρ : Fm} {F : List Fo} {i : Int} (h : EV me ρ (forD F)) : EV (mSl me (mPart (mC (.int i))) mNoPart) ρ (forD (slF F (some i) none)) := by
  obtain ⟨pr, h1, h2, h3⟩ := h
  refine ev_val ?_
  unfold mSl
  have e : mPart (mC (.int i)) ρ = some (some i, ρ) := rfl
  simp only [h1, mNoPart, e, h3, slF_cut]
def oE (cl : Nat → Fn) : ME := (mTup (mCons (mCall (cl 22) (rSlot 0 (rVal (mVar 1) rNil))) (mCons (mCall (cl 36) (rSlot 0 rNil)) mNil)))
def m1 (cl : Nat → Fn) : MS := (mSet 2 (un dTuple (mComp (mIRng1 (mCons (bin dAdd (mC (.int 1)) (mCall (cl 22) (rSlot 0 (rVal (mC (.int 3)) rNil)))) mNil)) (mN 6) mYes (oE cl) [6])))
def m2 (cl : Nat → Fn) : MS := (mPar 3 4 (mTup (mCons (mC (.int 0)) (mCons (mCall (cl 36) (rSlot 0 rNil)) mNil))) (mTup (mCons (bin dSub (mVar 1) (mC (.int 1))) (mCons (mCall (cl 36) (rSlot 0 rNil)) mNil))))
def m3 (cl : Nat → Fn) : MS := (mSet 5 (mCall (cl 22) (rSlot 0 (rVal (mC (.int 5)) rNil))))
def kT (k : Int) : MT := (mB (bin dEq (mVar 5) (mC (.int k))))
def r0 (cl : Nat → Fn) : MS := (mRet (mTup (mCons (mVar 2) (mCons (un dTuple (mComp (mIRng1 (mCons (mCall (cl 22) (rSlot 0 (rVal (mC (.int 4)) rNil))) mNil)) (mN 6) mYes (oE cl) [6])) mNil))))
def r1 (cl : Nat → Fn) : MS := (mRet (mTup (mCons (mVar 2) (mCons (bin dAdd (bin dAdd (bin dAdd (mSl (mVar 2) mNoPart (mPart (mC (.int 1)))) (mTup (mCons (mVar 3) mNil))) (mCall (cl 37) (rVal (mTup (mCons (mVar 3) mNil)) rNil))) (mSl (mVar 2) (mPart (mC (.int 1))) mNoPart)) mNil))))
def r2 (cl : Nat → Fn) : MS := (mRet (mTup (mCons (mVar 2) (mCons (bin dAdd (bin dAdd (mVar 2) (mTup (mCons (mVar 3) (mCons (mVar 4) mNil)))) (mCall (cl 37) (rVal (mTup (mCons (mVar 4) (mCons (mVar 3) mNil))) rNil))) mNil))))
def r3 : MS := (mRet (mTup (mCons (bin dAdd (mVar 2) (mTup (mCons (mVar 3) (mCons (mVar 4) mNil)))) (mCons (bin dAdd (mVar 2) (mTup (mCons (mVar 4) (mCons (mVar 3) mNil)))) mNil))))
def r4 (cl : Nat → Fn) : MS := (mRet (mTup (mCons (bin dAdd (bin dAdd (mTup (mCons (mVar 3) mNil)) (mSl (mVar 2) mNoPart (mPart (mC (.int 2))))) (mCall (cl 37) (rVal (mTup (mCons (mVar 3) mNil)) rNil))) (mCons (mSl (mVar 2) mNoPart (mPart (mC (.int 2)))) mNil))))
theorem made_fn (cl : Nat → Fn) : fn38 cl = mFn 7 2 (mSeq (m1 cl) (mSeq (m2 cl) (mSeq (m3 cl) (mSeq (mIfS (kT 0) (r0 cl) mNext) (mSeq (mIfS (kT 1) (r1 cl) mNext) (mSeq (mIfS (kT 2) (r2 cl) mNext) (mSeq (mIfS (kT 3) r3 mNext) (r4 cl)))))))) := rfl
abbrev DF (bb : List D) (w : Int) (s2 s3 s4 s5 : Option Sv) : Fm := [some (.own true bb), ii w, s2, s3, s4, s5, none]
section
variable {cl : Nat → Fn} {b w : Int} {s2 s3 s4 s5 : Option Sv}
theorem o_loop (T : TakeP (cl 22) b) (U : FormP (cl 36) b) (hw : 0 < w) (hw2 : w < 10) : ∀ (ds : List D) (a c : Int), 0 ≤ c → c + 4 * ds.length < 90000 →
    ∃ (F : List Fo) (a' c' : Int), cloop (mN 6) mYes (oE cl) [6] ds (DF (bx a b c) w s2 s3 s4 s5) = some (F.map foD, DF (bx a' b c') w s2 s3 s4 s5) ∧ F.length = ds.length ∧ (∀ g ∈ F, Gd g) ∧ 0 ≤ c' ∧ c' ≤ c + 4 * ds.length
  | [], a, c, h1, _ => ⟨[], a, c, rfl, rfl, (fun _ h => by cases h), h1, by simp⟩
  | d :: ds, a, c, h1, h2 => by
    simp only [List.length_cons] at h2
    obtain ⟨x, a1, c1, e1, v1, v2, p1, p2⟩ := T a c w hw (by omega) h1 (by omega)
    obtain ⟨u, v, a2, c2, e2, bu, bv, p3, p4⟩ := U a1 c1 p1 (by omega)
    obtain ⟨F, a', c', e4, q1, q2, q3, q4⟩ := o_loop T U hw hw2 ds a2 c2 p3 (by omega)
    have g1 : mCall (cl 22) (rSlot 0 (rVal (mVar 1) rNil)) [some (.own true (bx a b c)), ii w, s2, s3, s4, s5, some (.imm d)] = some (.val (.imm (.int x)), [some (.own true (bx a1 b c1)), ii w, s2, s3, s4, s5, some (.imm d)]) := c_call (as := [.s 0, .v (.int w)]) rfl rfl rfl e1 rfl
    have g2 : mCall (cl 36) (rSlot 0 rNil) [some (.own true (bx a1 b c1)), ii w, s2, s3, s4, s5, some (.imm d)] = some (.val (.imm (pD u v)), [some (.own true (bx a2 b c2)), ii w, s2, s3, s4, s5, some (.imm d)]) := c_call (as := [.s 0]) rfl rfl rfl e2 rfl
    refine ⟨(x, u, v) :: F, a', c', c_ccons (ρ1 := [some (.own true (bx a b c)), ii w, s2, s3, s4, s5, some (.imm d)]) rfl rfl (c_tup (c_acons g1 rfl (c_acons g2 rfl c_anil)) rfl) rfl e4, by rw [List.length_cons, List.length_cons, q1], fun g hg => ?_, q3, by rw [List.length_cons]; omega⟩
    rcases List.mem_cons.mp hg with rfl | hg
    · exact ⟨bu, bv⟩
    · exact q2 g hg
theorem o_comp (T : TakeP (cl 22) b) (U : FormP (cl 36) b) (hw : 0 < w) (hw2 : w < 10) {mi : MI} {m : Nat} {a c a1 c1 : Int} (hm : m ≤ 10) (hi : mi (DF (bx a b c) w s2 s3 s4 s5) = some (rngD 0 m, DF (bx a1 b c1) w s2 s3 s4 s5)) (h1 : 0 ≤ c1) (h2 : c1 < 80000) :
    ∃ (F : List Fo) (a' c' : Int), un dTuple (mComp mi (mN 6) mYes (oE cl) [6]) (DF (bx a b c) w s2 s3 s4 s5) = some (.val (.imm (forD F)), DF (bx a' b c') w s2 s3 s4 s5) ∧ F.length = m ∧ (∀ g ∈ F, Gd g) ∧ 0 ≤ c' ∧ c' ≤ c1 + 4 * m := by
  have hlen : (rngD 0 m).length = m := rngD_len 0 m
  obtain ⟨F, a', c', e, q1, q2, q3, q4⟩ := o_loop T U (s2 := s2) (s3 := s3) (s4 := s4) (s5 := s5) hw hw2 (rngD 0 m) a1 c1 h1 (by omega)
  rw [hlen] at q1 q4
  have hf : fits (F.map foD).length = true := c_fits (by rw [List.length_map]; omega)
  exact ⟨F, a', c', c_un (f := dTuple) (c_comp (vs := [6]) hi rfl e hf rfl) rfl rfl, q1, q2, q3, q4⟩
end
structure Md (F G : List Fo) : Prop where
  len : F.length + G.length ≤ 12
  f : ∀ g ∈ F, Gd g
  g : ∀ g ∈ G, Gd g
theorem gd_norm : ∀ {F : List Fo}, (∀ g ∈ F, Gd g) → fnorm F ≤ 26 * F.length ∧ vsz F ≤ 2 * F.length
  | [], _ => ⟨by simp [fnorm], by simp [vsz]⟩
  | p :: F, h => by
    obtain ⟨h1, h2⟩ := gd_norm (F := F) fun g hg => h g (List.mem_cons_of_mem _ hg)
    obtain ⟨a1, a2⟩ := h p (List.mem_cons_self ..)
    have : fsz p = p.2.1.natAbs + p.2.2.natAbs := rfl
    rw [fnorm_cons, vsz_cons, List.length_cons]
    exact ⟨by omega, by omega⟩
theorem Md.bd {F G : List Fo} (h : Md F G) : Bd F G := by
  obtain ⟨a1, a2⟩ := gd_norm h.f
  obtain ⟨b1, b2⟩ := gd_norm h.g
  have := h.len
  exact ⟨by omega, by omega, by omega⟩
def MadeP (f : Fn) (b : Int) : Prop := ∀ w a c : Int, 2 ≤ w → w < 4 → 0 ≤ c → c < 50000 → ∃ (F G : List Fo) (a' c' : Int), f [.own true (bx a b c), .imm (.int w)] = some (.imm (.tuple [forD F, forD G]), [some (bx a' b c'), none]) ∧ Md F G ∧ 0 ≤ c' ∧ c' ≤ c + 60
theorem made_ok {cl : Nat → Fn} {b : Int} (T : TakeP (cl 22) b) (U : FormP (cl 36) b) (V : UndF (cl 37)) : MadeP (fn38 cl) b := fun w a c hw hw2 h1 h2 => by
  obtain ⟨x, a1, c1, e1, x1, x2, p1, p2⟩ := T a c 3 (by omega) (by omega) h1 (by omega)
  obtain ⟨m, hm⟩ : ∃ m : Nat, 1 + x = (m : Int) := ⟨(1 + x).toNat, by omega⟩
  have k1 : mCall (cl 22) (rSlot 0 (rVal (mC (.int 3)) rNil)) (DF (bx a b c) w none none none none) = some (.val (.imm (.int x)), DF (bx a1 b c1) w none none none none) := c_call (as := [.s 0, .v (.int 3)]) rfl rfl rfl e1 rfl
  have k2 := c_bin (f := dAdd) (ma := mC (.int 1)) (ρ := DF (bx a b c) w none none none none) (p1 := .val (.imm (.int 1))) rfl k1 rfl rfl (show dAdd (.int 1) (.int x) = some (.imm (.int (1 + x))) from rfl)
  rw [hm] at k2
  have hi := c_rng1 (ma := mCons (bin dAdd (mC (.int 1)) (mCall (cl 22) (rSlot 0 (rVal (mC (.int 3)) rNil)))) mNil) (n := m) (c_acons k2 rfl c_anil) (by omega)
  obtain ⟨R, a2, c2, e2, hR, gR, p3, p4⟩ := o_comp T U (by omega) (by omega) (by omega) hi p1 (by omega)
  have g1 : m1 cl (DF (bx a b c) w none none none none) = some (.next, DF (bx a2 b c2) w (some (.imm (forD R))) none none none) := c_set e2 rfl
  obtain ⟨u, v, a3, c3, e3, bu, bv, p5, p6⟩ := U a2 c2 p3 (by omega)
  obtain ⟨s, t, a4, c4, e4, bs, bt, p7, p8⟩ := U a3 c3 p5 (by omega)
  have k3 : mCall (cl 36) (rSlot 0 rNil) (DF (bx a2 b c2) w (some (.imm (forD R))) none none none) = some (.val (.imm (pD u v)), DF (bx a3 b c3) w (some (.imm (forD R))) none none none) := c_call (as := [.s 0]) rfl rfl rfl e3 rfl
  have k4 : mCall (cl 36) (rSlot 0 rNil) (DF (bx a3 b c3) w (some (.imm (forD R))) none none none) = some (.val (.imm (pD s t)), DF (bx a4 b c4) w (some (.imm (forD R))) none none none) := c_call (as := [.s 0]) rfl rfl rfl e4 rfl
  have ks : bin dSub (mVar 1) (mC (.int 1)) (DF (bx a3 b c3) w (some (.imm (forD R))) none none none) = some (.val (.imm (.int (w - 1))), DF (bx a3 b c3) w (some (.imm (forD R))) none none none) := c_bin (f := dSub) rfl rfl rfl rfl rfl
  have t3 : mTup (mCons (mC (.int 0)) (mCons (mCall (cl 36) (rSlot 0 rNil)) mNil)) (DF (bx a2 b c2) w (some (.imm (forD R))) none none none) = some (.val (.imm (foD (0, u, v))), DF (bx a3 b c3) w (some (.imm (forD R))) none none none) := c_tup (c_acons rfl rfl (c_acons k3 rfl c_anil)) rfl
  have t4 : mTup (mCons (bin dSub (mVar 1) (mC (.int 1))) (mCons (mCall (cl 36) (rSlot 0 rNil)) mNil)) (DF (bx a3 b c3) w (some (.imm (forD R))) none none none) = some (.val (.imm (foD (w - 1, s, t))), DF (bx a4 b c4) w (some (.imm (forD R))) none none none) := c_tup (c_acons ks rfl (c_acons k4 rfl c_anil)) rfl
  have g2 : m2 cl (DF (bx a2 b c2) w (some (.imm (forD R))) none none none) = some (.next, DF (bx a4 b c4) w (some (.imm (forD R))) (some (.imm (foD (0, u, v)))) (some (.imm (foD (w - 1, s, t)))) none) := c_par t3 rfl t4 rfl rfl
  have hone : Gd (0, u, v) := ⟨bu, bv⟩
  have htwo : Gd (w - 1, s, t) := ⟨bs, bt⟩
  generalize ((0, u, v) : Fo) = one at *
  generalize ((w - 1, s, t) : Fo) = two at *
  obtain ⟨q, a5, c5, e5, q1, q2, p9, p10⟩ := T a4 c4 5 (by omega) (by omega) p7 (by omega)
  have g3 : m3 cl (DF (bx a4 b c4) w (some (.imm (forD R))) (some (.imm (foD one))) (some (.imm (foD two))) none) = some (.next, DF (bx a5 b c5) w (some (.imm (forD R))) (some (.imm (foD one))) (some (.imm (foD two))) (ii q)) := c_set (c_call (as := [.s 0, .v (.int 5)]) rfl rfl rfl e5 rfl) rfl
  have hRl : R.length ≤ 3 := by omega
  have v2 : EV (mVar 2) (DF (bx a5 b c5) w (some (.imm (forD R))) (some (.imm (foD one))) (some (.imm (foD two))) (ii q)) (forD R) := ev_var rfl
  have v3 : EV (mVar 3) (DF (bx a5 b c5) w (some (.imm (forD R))) (some (.imm (foD one))) (some (.imm (foD two))) (ii q)) (foD one) := ev_var rfl
  have v4 : EV (mVar 4) (DF (bx a5 b c5) w (some (.imm (forD R))) (some (.imm (foD one))) (some (.imm (foD two))) (ii q)) (foD two) := ev_var rfl
  have v5 : EV (mVar 5) (DF (bx a5 b c5) w (some (.imm (forD R))) (some (.imm (foD one))) (some (.imm (foD two))) (ii q)) (.int q) := ev_var rfl
  have kt : ∀ k : Int, kT k (DF (bx a5 b c5) w (some (.imm (forD R))) (some (.imm (foD one))) (some (.imm (foD two))) (ii q)) = some (q == k, DF (bx a5 b c5) w (some (.imm (forD R))) (some (.imm (foD one))) (some (.imm (foD two))) (ii q)) := fun k => c_b (v_bin (f := dEq) v5 (ev_c (d := .int k)) (eq_int q k))
  have kf : ∀ k : Int, q ≠ k → kT k (DF (bx a5 b c5) w (some (.imm (forD R))) (some (.imm (foD one))) (some (.imm (foD two))) (ii q)) = some (false, DF (bx a5 b c5) w (some (.imm (forD R))) (some (.imm (foD one))) (some (.imm (foD two))) (ii q)) := fun k hk => by rw [kt k, beq_eq_false_iff_ne.mpr hk]
  have o1 : EV (mTup (mCons (mVar 3) mNil)) (DF (bx a5 b c5) w (some (.imm (forD R))) (some (.imm (foD one))) (some (.imm (foD two))) (ii q)) (forD [one]) := e_tup (ea_cons v3 ea_nil) (show 1 ≤ 10000 by decide)
  have o12 : EV (mTup (mCons (mVar 3) (mCons (mVar 4) mNil))) (DF (bx a5 b c5) w (some (.imm (forD R))) (some (.imm (foD one))) (some (.imm (foD two))) (ii q)) (forD [one, two]) := e_tup (ea_cons v3 (ea_cons v4 ea_nil)) (show 2 ≤ 10000 by decide)
  have o21 : EV (mTup (mCons (mVar 4) (mCons (mVar 3) mNil))) (DF (bx a5 b c5) w (some (.imm (forD R))) (some (.imm (foD one))) (some (.imm (foD two))) (ii q)) (forD [two, one]) := e_tup (ea_cons v4 (ea_cons v3 ea_nil)) (show 2 ≤ 10000 by decide)
  have gg : ∀ g, Gd g → g.2.1.natAbs < 2 ^ 40 ∧ g.2.2.natAbs ≤ 1000 := fun g h => by obtain ⟨z1, z2⟩ := h; omega
  have gneg : ∀ g, Gd g → Gd (fneg g) := fun g h => ⟨by show (-g.2.1).natAbs ≤ 24; rw [Int.natAbs_neg]; exact h.1, by show (-g.2.2).natAbs ≤ 2; rw [Int.natAbs_neg]; exact h.2⟩
  have n1 : ∀ g ∈ [one], Gd g := fun g h => by rw [List.mem_singleton.mp h]; exact hone
  have n12 : ∀ g ∈ [one, two], Gd g := fun g h => by
    rcases List.mem_cons.mp h with rfl | h
    · exact hone
    · rw [List.mem_singleton.mp h]; exact htwo
  have n21 : ∀ g ∈ [two, one], Gd g := fun g h => by
    rcases List.mem_cons.mp h with rfl | h
    · exact htwo
    · rw [List.mem_singleton.mp h]; exact hone
  have napp : ∀ {A B : List Fo}, (∀ g ∈ A, Gd g) → (∀ g ∈ B, Gd g) → ∀ g ∈ A ++ B, Gd g := fun hA hB g h => by
    rcases List.mem_append.mp h with h | h
    · exact hA g h
    · exact hB g h
  have ninv : ∀ {A : List Fo}, (∀ g ∈ A, Gd g) → ∀ g ∈ finv A, Gd g := fun {A} hA g h => by
    unfold finv at h
    obtain ⟨z, hz, rfl⟩ := List.mem_map.mp h
    exact gneg z (hA z (List.mem_reverse.mp hz))
  have nsl : ∀ lo hi, ∀ g ∈ slF R lo hi, Gd g := fun lo hi g h => gR g (slF_in h)
  have invl : ∀ A : List Fo, (finv A).length = A.length := fun A => by unfold finv; rw [List.length_map, List.length_reverse]
  have u1 := e_call1 o1 (V [one] (show 1 ≤ 100 by decide) fun g h => gg g (n1 g h))
  have u21 := e_call1 o21 (V [two, one] (show 2 ≤ 100 by decide) fun g h => gg g (n21 g h))
  have s1 := slF_len R none (some 1)
  have s2 := slF_len R (some 1) none
  have s3 := slF_len R none (some 2)
  rw [made_fn]
  by_cases h0 : q = 0
  · subst h0
    obtain ⟨y, a6, c6, e6, y1, y2, p11, p12⟩ := T a5 c5 4 (by omega) (by omega) p9 (by omega)
    obtain ⟨m', rfl⟩ : ∃ m' : Nat, y = (m' : Int) := ⟨y.toNat, by omega⟩
    have k6 : mCall (cl 22) (rSlot 0 (rVal (mC (.int 4)) rNil)) (DF (bx a5 b c5) w (some (.imm (forD R))) (some (.imm (foD one))) (some (.imm (foD two))) (ii 0)) = some (.val (.imm (.int (m' : Int))), DF (bx a6 b c6) w (some (.imm (forD R))) (some (.imm (foD one))) (some (.imm (foD two))) (ii 0)) := c_call (as := [.s 0, .v (.int 4)]) rfl rfl rfl e6 rfl
    have hi2 := c_rng1 (ma := mCons (mCall (cl 22) (rSlot 0 (rVal (mC (.int 4)) rNil))) mNil) (n := m') (c_acons k6 rfl c_anil) (by omega)
    obtain ⟨G, a7, c7, e7, hG, gG, p13, p14⟩ := o_comp T U (by omega) (by omega) (by omega) hi2 p11 (by omega)
    have k7 : mTup (mCons (mVar 2) (mCons (un dTuple (mComp (mIRng1 (mCons (mCall (cl 22) (rSlot 0 (rVal (mC (.int 4)) rNil))) mNil)) (mN 6) mYes (oE cl) [6])) mNil)) (DF (bx a5 b c5) w (some (.imm (forD R))) (some (.imm (foD one))) (some (.imm (foD two))) (ii 0)) = some (.val (.imm (.tuple [forD R, forD G])), DF (bx a7 b c7) w (some (.imm (forD R))) (some (.imm (foD one))) (some (.imm (foD two))) (ii 0)) := c_tup (c_acons rfl rfl (c_acons e7 rfl c_anil)) rfl
    exact ⟨R, G, a7, c7, c_fn (ρ0 := DF (bx a b c) w none none none none) rfl rfl (c_seq g1 (c_seq g2 (c_seq g3 (c_seqR (c_ifT (kt 0) (c_ret k7 rfl)))))) rfl, ⟨by omega, gR, gG⟩, p13, by omega⟩
  have f0 := kf 0 h0
  by_cases h1' : q = 1
  · subst h1'
    have l1 : (slF R none (some 1) ++ [one]).length = (slF R none (some 1)).length + 1 := by rw [List.length_append]; rfl
    have l2 : (slF R none (some 1) ++ [one] ++ finv [one]).length = (slF R none (some 1)).length + 2 := by rw [List.length_append, invl, l1]; rfl
    have k := c_tup (ea_cons v2 (ea_cons (e_bin (f := dAdd) (e_bin (f := dAdd) (e_bin (f := dAdd) (sl_to (i := 1) v2) o1 (fo_add _ _ (by rw [List.length_singleton]; omega))) u1 (fo_add _ _ (by rw [l1, invl]; simp; omega))) (sl_from (i := 1) v2) (fo_add _ _ (by rw [l2]; omega))) ea_nil)) (c_fits (show 2 ≤ 10000 by decide))
    refine ⟨R, _, a5, c5, c_fn (ρ0 := DF (bx a b c) w none none none none) rfl rfl (c_seq g1 (c_seq g2 (c_seq g3 (c_seq (c_ifF f0 c_skip) (c_seqR (c_ifT (kt 1) (c_ret k rfl))))))) rfl, ⟨?_, gR, napp (napp (napp (nsl _ _) n1) (ninv n1)) (nsl _ _)⟩, p9, by omega⟩
    rw [List.length_append, l2]; omega
  have f1' := kf 1 h1'
  by_cases h2' : q = 2
  · subst h2'
    have l1 : (R ++ [one, two]).length = R.length + 2 := by rw [List.length_append]; rfl
    have k := c_tup (ea_cons v2 (ea_cons (e_bin (f := dAdd) (e_bin (f := dAdd) v2 o12 (fo_add _ _ (by simp; omega))) u21 (fo_add _ _ (by rw [l1, invl]; simp; omega))) ea_nil)) (c_fits (show 2 ≤ 10000 by decide))
    refine ⟨R, _, a5, c5, c_fn (ρ0 := DF (bx a b c) w none none none none) rfl rfl (c_seq g1 (c_seq g2 (c_seq g3 (c_seq (c_ifF f0 c_skip) (c_seq (c_ifF f1' c_skip) (c_seqR (c_ifT (kt 2) (c_ret k rfl)))))))) rfl, ⟨?_, gR, napp (napp gR n12) (ninv n21)⟩, p9, by omega⟩
    rw [List.length_append, l1, invl]; simp; omega
  have f2' := kf 2 h2'
  by_cases h3' : q = 3
  · subst h3'
    have k := c_tup (ea_cons (e_bin (f := dAdd) v2 o12 (fo_add _ _ (by simp; omega))) (ea_cons (e_bin (f := dAdd) v2 o21 (fo_add _ _ (by simp; omega))) ea_nil)) (c_fits (show 2 ≤ 10000 by decide))
    refine ⟨_, _, a5, c5, c_fn (ρ0 := DF (bx a b c) w none none none none) rfl rfl (c_seq g1 (c_seq g2 (c_seq g3 (c_seq (c_ifF f0 c_skip) (c_seq (c_ifF f1' c_skip) (c_seq (c_ifF f2' c_skip) (c_seqR (c_ifT (kt 3) (c_ret k rfl))))))))) rfl, ⟨?_, napp gR n12, napp gR n21⟩, p9, by omega⟩
    rw [List.length_append, List.length_append]; simp; omega
  have f3' := kf 3 h3'
  have l1 : ([one] ++ slF R none (some 2)).length = (slF R none (some 2)).length + 1 := by rw [List.length_append]; simp; omega
  have k := c_tup (ea_cons (e_bin (f := dAdd) (e_bin (f := dAdd) o1 (sl_to (i := 2) v2) (fo_add _ _ (by simp; omega))) u1 (fo_add _ _ (by rw [l1, invl]; simp; omega))) (ea_cons (sl_to (i := 2) v2) ea_nil)) (c_fits (show 2 ≤ 10000 by decide))
  refine ⟨_, _, a5, c5, c_fn (ρ0 := DF (bx a b c) w none none none none) rfl rfl (c_seq g1 (c_seq g2 (c_seq g3 (c_seq (c_ifF f0 c_skip) (c_seq (c_ifF f1' c_skip) (c_seq (c_ifF f2' c_skip) (c_seq (c_ifF f3' c_skip) (c_ret k rfl)))))))) rfl, ⟨?_, napp (napp n1 (nsl _ _)) (ninv n1), nsl _ _⟩, p9, by omega⟩
  rw [List.length_append, l1, invl]; simp; omega
end K46

namespace K46
open PySem Vi PyProof.Rows
/-! lists of numbers -/
theorem ok_f36 (k : Int) : okD (f36 k) = true := by
  show (PyData.canLay0 (f36 k) && decide (PyData.depth (f36 k) ≤ 64)) = true
  unfold f36 fr
  simp [PyData.canLay0, PyData.canLayAll0, PyData.depth, PyData.depthAll]
theorem lay_fl : ∀ ks : List Int, PyData.canLayAll0 (fl ks) = true
  | [] => by rw [show fl [] = [] from rfl, PyData.canLayAll0]
  | k :: ks => by
    have h : PyData.canLay0 (f36 k) = true := by unfold f36 fr; simp [PyData.canLay0, PyData.canLayAll0]
    rw [show fl (k :: ks) = f36 k :: fl ks from rfl, PyData.canLayAll0, h, lay_fl ks]; rfl
theorem dep_fl : ∀ ks : List Int, PyData.depthAll (fl ks) ≤ 1
  | [] => by rw [show fl [] = [] from rfl, PyData.depthAll]; decide
  | k :: ks => by
    have h : PyData.depth (f36 k) ≤ 1 := by unfold f36 fr; simp [PyData.depth, PyData.depthAll]
    rw [show fl (k :: ks) = f36 k :: fl ks from rfl, PyData.depthAll]
    exact Nat.max_le.mpr ⟨h, dep_fl ks⟩
theorem ok_fl (ks : List Int) : okD (.list (fl ks)) = true := by
  show (PyData.canLay0 (.list (fl ks)) && decide (PyData.depth (.list (fl ks)) ≤ 64)) = true
  have := dep_fl ks
  rw [PyData.canLay0, PyData.depth, lay_fl, decide_eq_true (by omega)]; rfl
theorem ok_flT (ks : List Int) : okD (.tuple (fl ks)) = true := by
  show (PyData.canLay0 (.tuple (fl ks)) && decide (PyData.depth (.tuple (fl ks)) ≤ 64)) = true
  have := dep_fl ks
  rw [PyData.canLay0, PyData.depth, lay_fl, decide_eq_true (by omega)]; rfl
theorem has_fl (k : Int) : ∀ ks : List Int, hasD (f36 k) (fl ks) = decide (k ∈ ks)
  | [] => rfl
  | z :: ks => by
    show (PyData.eqv (f36 z) (f36 k) || hasD (f36 k) (fl ks)) = _
    rw [has_fl k ks, eqv_f36]
    by_cases h : z = k
    · subst h; simp
    · rw [decide_eq_false h, Bool.false_or]
      exact decide_eq_decide.mpr (by simp [Ne.symm h])
theorem notin_fl (k : Int) (ks : List Int) : dInT true (f36 k) (.list (fl ks)) = some (.imm (.bool (!decide (k ∈ ks)))) := by
  rw [← has_fl]
  show (if (flatD (f36 k) && (fl ks).all flatD) = true then some (Sv.imm (.bool (if true = true then !hasD (f36 k) (fl ks) else hasD (f36 k) (fl ks)))) else if (!true && okD (f36 k) && okD (.list (fl ks))) = true then some (Sv.imm (.bool (hasD (f36 k) (fl ks)))) else if (true && okD (f36 k) && okD (.list (fl ks))) = true then some (Sv.imm (.bool (!hasD (f36 k) (fl ks)))) else none) = _
  rw [ok_f36, ok_fl]
  by_cases h : (flatD (f36 k) && (fl ks).all flatD) = true
  · rw [if_pos h]; rfl
  · rw [if_neg h]; rfl
theorem notin_flT (k : Int) (ks : List Int) : dInT true (f36 k) (.tuple (fl ks)) = some (.imm (.bool (!decide (k ∈ ks)))) := by
  rw [← has_fl]
  unfold dInT
  simp only [ok_f36, ok_flT, Bool.and_self, if_true]
theorem eqv_fl : ∀ a b : List Int, PyData.eqvAll (fl a) (fl b) = decide (a = b)
  | [], [] => by rw [show fl [] = [] from rfl, PyData.eqvAll]; rfl
  | [], y :: b => by rw [show fl [] = [] from rfl, show fl (y :: b) = f36 y :: fl b from rfl, PyData.eqvAll]; rfl
  | x :: a, [] => by rw [show fl [] = [] from rfl, show fl (x :: a) = f36 x :: fl a from rfl, PyData.eqvAll]; rfl
  | x :: a, y :: b => by
    rw [show fl (x :: a) = f36 x :: fl a from rfl, show fl (y :: b) = f36 y :: fl b from rfl, PyData.eqvAll, eqv_f36, eqv_fl a b, ← Bool.decide_and]
    exact decide_eq_decide.mpr (by simp)
theorem eq_fl (a b : List Int) : dEq (.list (fl a)) (.list (fl b)) = some (.imm (.bool (decide (a = b)))) := by
  unfold dEq
  rw [ok_fl, ok_fl, PyData.eqv, eqv_fl]; rfl
theorem fl_add (a b : List Int) (h : a.length + b.length ≤ 900) : dAdd (.list (fl a)) (.list (fl b)) = some (.own false (fl (a ++ b))) := by
  show (if fits ((fl a).length + (fl b).length) = true then some (Sv.own false (fl a ++ fl b)) else none) = _
  rw [if_pos (c_fits (by rw [List.length_map, List.length_map]; omega))]
  show _ = some (Sv.own false (List.map _ _))
  rw [List.map_append]
/-! the zeros put in their order, one by one -/
def putIn (D : List Int) (k : Int) : List Int := if k ∈ D then D else D.filter (fun l => decide (l < k)) ++ [k] ++ D.filter (fun l => decide (k < l))
theorem put_mem {D : List Int} {k x : Int} : x ∈ putIn D k ↔ x ∈ D ∨ x = k := by
  unfold putIn
  split
  · rename_i h
    constructor
    · exact .inl
    · rintro (h1 | rfl)
      · exact h1
      · exact h
  · simp only [List.mem_append, List.mem_filter, List.mem_singleton, decide_eq_true_eq]
    constructor
    · rintro ((⟨h1, _⟩ | h1) | ⟨h1, _⟩)
      · exact .inl h1
      · exact .inr h1
      · exact .inl h1
    · rintro (h1 | h1)
      · rcases Int.lt_trichotomy x k with h2 | h2 | h2
        · exact .inl (.inl ⟨h1, h2⟩)
        · exact .inl (.inr h2)
        · exact .inr ⟨h1, h2⟩
      · exact .inl (.inr h1)
theorem put_asc {D : List Int} {k : Int} (h : D.Pairwise (· < ·)) : (putIn D k).Pairwise (· < ·) := by
  unfold putIn
  split
  · exact h
  · refine List.pairwise_append.mpr ⟨List.pairwise_append.mpr ⟨h.filter _, List.pairwise_singleton _ _, ?_⟩, h.filter _, ?_⟩
    · intro a ha b hb
      rw [List.mem_singleton.mp hb]
      exact of_decide_eq_true (List.mem_filter.mp ha).2
    · intro a ha b hb
      have hb2 : k < b := of_decide_eq_true (List.mem_filter.mp hb).2
      rcases List.mem_append.mp ha with ha | ha
      · have : a < k := of_decide_eq_true (List.mem_filter.mp ha).2
        omega
      · rw [List.mem_singleton.mp ha]; exact hb2
theorem put_all : ∀ (l D : List Int), D.Pairwise (· < ·) → (l.foldl putIn D).Pairwise (· < ·) ∧ ∀ x, x ∈ l.foldl putIn D ↔ x ∈ D ∨ x ∈ l
  | [], D, h => ⟨h, fun x => by simp⟩
  | k :: l, D, h => by
    obtain ⟨h1, h2⟩ := put_all l (putIn D k) (put_asc h)
    refine ⟨h1, fun x => ?_⟩
    rw [List.foldl_cons, h2, put_mem, List.mem_cons]
    constructor
    · rintro ((a | a) | a)
      · exact .inl a
      · exact .inr (.inl a)
      · exact .inr (.inr a)
    · rintro (a | a | a)
      · exact .inl (.inl a)
      · exact .inl (.inr a)
      · exact .inr a
theorem put_len : ∀ (l D : List Int), (l.foldl putIn D).length ≤ D.length + l.length
  | [], D => by simp
  | k :: l, D => by
    have h1 := put_len l (putIn D k)
    have h2 : (putIn D k).length ≤ D.length + 1 := by
      unfold putIn
      split
      · omega
      · rw [List.length_append, List.length_append]
        have key : ∀ E : List Int, (E.filter fun l => decide (l < k)).length + (E.filter fun l => decide (k < l)).length ≤ E.length := by
          intro E
          induction E with
          | nil => simp
          | cons e E ih =>
            rw [List.filter_cons, List.filter_cons]
            by_cases a : e < k
            · rw [if_pos (decide_eq_true a), if_neg (by rw [decide_eq_true_eq]; omega)]
              simp only [List.length_cons]; omega
            · rw [if_neg (by rw [decide_eq_true_eq]; exact a)]
              split <;> simp only [List.length_cons] <;> omega
        have := key D
        rw [List.length_singleton]; omega
    rw [List.foldl_cons, List.length_cons]; omega
def alike (F G : List Fo) (k : Int) : Bool := decide (nf (ev k F) = nf (ev k G))
theorem good_alike (F G : List Fo) (k : Int) : good (left F G) k = alike F G k := by
  unfold good alike left
  refine decide_eq_decide.mpr ?_
  have h := ev_rest k F G
  have hr : ev k (frest F G).reverse = (ev k (frest F G)).reverse := by unfold ev; rw [List.map_reverse]
  rw [hr]
  exact h
theorem due_told (F G : List Fo) : ((zs (left F G)).filter (alike F G)).foldl putIn [] = toldL (left F G) := by
  obtain ⟨h1, h2⟩ := put_all ((zs (left F G)).filter (alike F G)) [] List.Pairwise.nil
  refine ascI_eq h1 ((setI_asc _).filter _) fun x => ?_
  unfold toldL
  rw [h2, List.mem_filter, List.mem_filter, setI_mem, good_alike]
  simp
theorem rest_told {F G : List Fo} (hB : Bd F G) (h0 : frest F G ≠ []) {k : Int} (h : alike F G k = true) : k ∈ toldL (left F G) := by
  have hz := (ev_rest k F G).mpr (of_decide_eq_true h)
  have hv := frest_vsz F G
  have := hB.vs
  obtain ⟨f, hf, h1, h2⟩ := rest_zero (frest_FN F G) (by omega) h0 hz
  unfold toldL
  refine List.mem_filter.mpr ⟨setI_mem.mpr ?_, by rw [good_alike]; exact h⟩
  unfold zs
  refine List.mem_map.mpr ⟨f, List.mem_filter.mpr ⟨List.mem_reverse.mpr hf, decide_eq_true h1⟩, h2.symm⟩
theorem none_alike {F G : List Fo} (h0 : frest F G = []) (k : Int) : alike F G k = true := by
  unfold alike
  refine decide_eq_true ((ev_rest k F G).mp ?_)
  rw [h0]; rfl
/-! data in which each tuple is a list -/
theorem lists_int (K : Nat) (i : Int) : run (K + 1) 25 [.imm (.int i)] = some (.imm (.int i), [none]) := by rw [rs25]; rfl
theorem lists_map (K : Nat) {α : Type} (f g : α → D) (l : List α) (hl : l.length ≤ 9000) (h : ∀ a ∈ l, ∃ s, run K 25 [.imm (f a)] = some (s, [none]) ∧ s.toD = g a) : run (K + 1) 25 [.imm (.tuple (l.map f))] = some (.own false (l.map g), [none]) := by
  have e := c_cmap (mg := mN 1) (me := mCall (run K 25) (rVal (mVar 1) rNil)) (vs := [1]) (ρ := [some (.imm (.tuple (l.map f))), none]) f g l fun a ha => by
    obtain ⟨s, h1, h2⟩ := h a ha
    refine ⟨[some (.imm (.tuple (l.map f))), some (.imm (f a))], .val s, [some (.imm (.tuple (l.map f))), some (.imm (f a))], [some (.imm (.tuple (l.map f))), some (.imm (f a))], rfl, c_call (c_rval rfl rfl rfl) rfl rfl h1 rfl, ?_, rfl⟩
    rw [← h2]; rfl
  have hf : fits (l.map g).length = true := c_fits (by rw [List.length_map]; omega)
  have c := c_comp (mi := mISeq (mVar 0)) (ds := l.map f) (ρ := [some (.imm (.tuple (l.map f))), none]) (ρ1 := [some (.imm (.tuple (l.map f))), none]) rfl rfl e hf rfl
  have t : mTru (un (dIsi2 Ty.list Ty.tuple) (mVar 0)) [some (.imm (.tuple (l.map f))), none] = some (true, [some (.imm (.tuple (l.map f))), none]) := rfl
  rw [rs25]
  unfold fn25
  exact c_fn (ρ0 := [some (.imm (.tuple (l.map f))), none]) rfl rfl (c_ret (mif_T t c) rfl) rfl
def lfr (k : Int) : D := .list [.int (v36 k).num, .int ((v36 k).den : Int)]
def lfo (g : Fo) : D := .list [.int g.1, .list [lfr (32125373280 * g.2.1), lfr (192752239680 * g.2.2)]]
theorem lists_two (K : Nat) (x y x' y' : D) (hx : ∃ s, run K 25 [.imm x] = some (s, [none]) ∧ s.toD = x') (hy : ∃ s, run K 25 [.imm y] = some (s, [none]) ∧ s.toD = y') : ∃ s, run (K + 1) 25 [.imm (.tuple [x, y])] = some (s, [none]) ∧ s.toD = .list [x', y'] :=
  ⟨_, lists_map K (fun b : Bool => if b then x else y) (fun b => if b then x' else y') [true, false] (by decide) (fun a ha => by
    cases a
    · exact hy
    · exact hx), rfl⟩
theorem lists_i (K : Nat) (i : Int) : ∃ s, run (K + 1) 25 [.imm (.int i)] = some (s, [none]) ∧ s.toD = .int i := ⟨_, lists_int K i, rfl⟩
theorem lists_fr (K : Nat) (k : Int) : ∃ s, run (K + 2) 25 [.imm (f36 k)] = some (s, [none]) ∧ s.toD = lfr k := lists_two (K + 1) _ _ _ _ (lists_i K _) (lists_i K _)
theorem lists_fo (K : Nat) (g : Fo) : ∃ s, run (K + 4) 25 [.imm (foD g)] = some (s, [none]) ∧ s.toD = lfo g := lists_two (K + 3) _ _ _ _ (lists_i (K + 2) _) (lists_two (K + 2) _ _ _ _ (lists_fr K _) (lists_fr K _))
theorem lists_for (K : Nat) {F : List Fo} (hl : F.length ≤ 9000) : run (K + 5) 25 [.imm (forD F)] = some (.own false (F.map lfo), [none]) := lists_map (K + 4) foD lfo F hl fun g _ => lists_fo K g
theorem lfrIs (F : List Fo) : FrIs (.list (F.map lfo)) F := ⟨F.map fun g => (lfo g, g), by rw [List.map_map]; rfl, by rw [List.map_map]; exact (List.map_id' F).symm, fun a ha => by
  obtain ⟨g, _, rfl⟩ := List.mem_map.mp ha
  exact ⟨_, _, _, .inr rfl, .inr rfl, isFrL _, isFrL _⟩⟩
end K46

namespace K46
open PySem Vi PyProof.Rows
def NoOwn (s : Option Sv) : Prop := ∃ o : Option D, s = o.map .imm
def L1 (cl : Nat → Fn) : MS := (mSet 1 (bin dAdd (mC (.int 2)) (mCall (cl 22) (rSlot 0 (rVal (mC (.int 2)) rNil)))))
def L2' (cl : Nat → Fn) : MS := (mAsgG (mCall (cl 38) (rSlot 0 (rVal (mVar 1) rNil))) (mGtup 2 (mGcons (mN 2) (mGcons (mN 3) mGnil))))
def L3 (cl : Nat → Fn) : MS := (mPar 4 5 (mCall (cl 35) (rVal (mVar 2) (rVal (mVar 3) rNil))) (mCall (cl 19) (rVal (mVar 2) (rVal (mVar 3) rNil))))
def sC : ME := (mComp (mIRng2 (mCons (un dNeg (mC (.int 4))) (mCons (mC (.int 5)) mNil))) (mN 11) mYes (mTup (mCons (mVar 11) (mCons (mC (.int 1)) mNil))) [11])
def sF : ME := (mLst (mCons (mTup (mCons (mC (.int 1)) (mCons (mC (.int 2)) mNil))) (mCons (mTup (mCons (un dNeg (mC (.int 1))) (mCons (mC (.int 2)) mNil))) (mCons (mTup (mCons (mC (.int 1)) (mCons (mC (.int 3)) mNil))) (mCons (mTup (mCons (mC (.int 5)) (mCons (mC (.int 2)) mNil))) mNil)))))
def L4 : MS := (mSet 6 (bin dAdd sC sF))
def alT (cl : Nat → Fn) : MT := (mB (bin dEq (mCall (cl 34) (rVal (mVar 2) (rVal (mVar 11) rNil))) (mCall (cl 34) (rVal (mVar 3) (rVal (mVar 11) rNil)))))
def L5 (cl : Nat → Fn) : MS := (mSet 7 (mComp (mISeq (mVar 6)) (mN 11) (alT cl) (mVar 11) [11]))
def L6 : MS := (mIfS (mB (bin dEq (mVar 4) (mLst mNil))) (mRet (mAnd (bin dIs (mVar 5) (mC .none)) (bin dEq (mVar 7) (mVar 6)))) mNext)
def L7 : MS := (mIfS (mOrT (mNotT (mTru (un (dIsi Ty.tuple) (mVar 5)))) (mB (bin dGt (un dLen (mVar 5)) (bin dAdd (un dLen (mVar 2)) (un dLen (mVar 3)))))) (mRet (mC (.bool false))) mNext)
def spT : MT := (mB (bin dNe (bin dIx (bin dIx (mVar 13) (mC (.int 1))) (mC (.int 0))) (mC (.int 0))))
def spE (cl : Nat → Fn) : ME := (mCall (cl 27) (rVal (bin dSub (mC (.int 0)) (bin dMul (bin dIx (bin dIx (mVar 13) (mC (.int 0))) (mC (.int 0))) (bin dIx (bin dIx (mVar 13) (mC (.int 1))) (mC (.int 1))))) (rVal (bin dMul (bin dIx (bin dIx (mVar 13) (mC (.int 0))) (mC (.int 1))) (bin dIx (bin dIx (mVar 13) (mC (.int 1))) (mC (.int 0)))) rNil)))
def L8 (cl : Nat → Fn) : MS := (mSet 8 (mComp (mISeq (mVar 4)) (mGseq 2 (mGcons (mN 12) (mGcons (mN 13) mGnil))) spT (spE cl) [12, 13]))
def L9 (cl : Nat → Fn) : MS := (mSet 9 (mComp (mISeq (mVar 8)) (mN 11) (alT cl) (mVar 11) [11]))
def L10 : MS := (mSet 10 (mLst mNil))
def iB (cl : Nat → Fn) : MS := (mIfS (mB (bin (dInT true) (mVar 11) (mVar 10))) (mSet 10 (bin dAdd (bin dAdd (mComp (mISeq (mVar 10)) (mN 13) (mTru (mCall (cl 30) (rVal (mVar 13) (rVal (mVar 11) rNil)))) (mVar 13) [13]) (mLst (mCons (mVar 11) mNil))) (mComp (mISeq (mVar 10)) (mN 13) (mTru (mCall (cl 30) (rVal (mVar 11) (rVal (mVar 13) rNil)))) (mVar 13) [13]))) mNext)
def L11 (cl : Nat → Fn) : MS := (mFor (mISeq (mVar 9)) (mN 11) (iB cl))
def L12 (cl : Nat → Fn) : MS := (mIfS (mOrT (mNotT (mTru (mCall (cl 26) (rVal (mVar 5) (rVal (un dTuple (mVar 10)) rNil))))) (mNotT (mTru (mCall (cl 26) (rVal (mCall (cl 19) (rPerm 0 2 [1, 0] rNil (rVal (mCall (cl 25) (rVal (mVar 3) rNil)) (rVal (mCall (cl 25) (rVal (mVar 2) rNil)) rNil)))) (rVal (mVar 5) rNil)))))) (mRet (mC (.bool false))) mNext)
def L13 : MS := (mRet (bin dEq (mComp (mISeq (mVar 7)) (mN 11) (mB (bin (dInT true) (mVar 11) (mVar 5))) (mVar 11) [11]) (mLst mNil)))
theorem right_fn (cl : Nat → Fn) : fn39 cl = mFn 14 1 (mSeq (L1 cl) (mSeq (L2' cl) (mSeq (L3 cl) (mSeq L4 (mSeq (L5 cl) (mSeq L6 (mSeq L7 (mSeq (L8 cl) (mSeq (L9 cl) (mSeq L10 (mSeq (L11 cl) (mSeq (L12 cl) L13)))))))))))) := rfl
abbrev RF (bb : List D) (s1 s2 s3 s4 s5 s6 s7 s8 s9 s10 s11 : Option Sv) : Fm := [some (.own true bb), s1, s2, s3, s4, s5, s6, s7, s8, s9, s10, s11, none, none]
abbrev im (d : D) : Option Sv := some (.imm d)
def someKs : List Int := [-771008958720, -578256719040, -385504479360, -192752239680, 0, 192752239680, 385504479360, 578256719040, 771008958720, 96376119840, -96376119840, 64250746560, 481880599200]
theorem someKs_list : fl someKs = [.tuple [.int (-4), .int 1], .tuple [.int (-3), .int 1], .tuple [.int (-2), .int 1], .tuple [.int (-1), .int 1], .tuple [.int 0, .int 1], .tuple [.int 1, .int 1], .tuple [.int 2, .int 1], .tuple [.int 3, .int 1], .tuple [.int 4, .int 1], .tuple [.int 1, .int 2], .tuple [.int (-1), .int 2], .tuple [.int 1, .int 3], .tuple [.int 5, .int 2]] := by kernel_rfl
theorem someKs_le {k : Int} (h : k ∈ someKs) : k.natAbs < 2 ^ 60 := by revert k; decide
section
variable {cl : Nat → Fn} {b : Int} {bb : List D} {s1 s2 s3 s4 s5 s6 s7 s8 s9 s10 s11 : Option Sv} {F G : List Fo}
theorem L4_ok : L4 (RF bb s1 s2 s3 s4 s5 none s7 s8 s9 s10 none) = some (.next, RF bb s1 s2 s3 s4 s5 (oo (fl someKs)) s7 s8 s9 s10 none) := by
  rw [someKs_list]; kernel_rfl
theorem al_ok (A : FatP (cl 34)) (hM : Md F G) {k : Int} (hk : k.natAbs < 2 ^ 60) {ρ : Fm} (h2 : EV (mVar 2) ρ (forD F)) (h3 : EV (mVar 3) ρ (forD G)) (h11 : EV (mVar 11) ρ (f36 k)) : alT cl ρ = some (alike F G k, ρ) := by
  have gg : ∀ g, Gd g → g.2.1.natAbs < 2 ^ 40 ∧ g.2.2.natAbs ≤ 1000 := fun g h => by obtain ⟨z1, z2⟩ := h; omega
  have hl := hM.len
  have q1 := A F k (by omega) (fun g hg => gg g (hM.f g hg)) hk
  have q2 := A G k (by omega) (fun g hg => gg g (hM.g g hg)) hk
  exact c_b (v_bin (f := dEq) (e_call2 h2 h11 q1) (e_call2 h3 h11 q2) (eq_row _ _))
theorem L5_ok (A : FatP (cl 34)) (hM : Md F G) : L5 cl (RF bb s1 (im (forD F)) (im (forD G)) s4 s5 (oo (fl someKs)) none s8 s9 s10 none) = some (.next, RF bb s1 (im (forD F)) (im (forD G)) s4 s5 (ll (fl someKs)) (oo (fl (someKs.filter (alike F G)))) s8 s9 s10 none) := by
  have e := c_cfil (mg := mN 11) (mt := alT cl) (me := mVar 11) (vs := [11]) (ρ := RF bb s1 (im (forD F)) (im (forD G)) s4 s5 (ll (fl someKs)) none s8 s9 s10 none) f36 f36 (alike F G) someKs fun k hk => by
    have t := al_ok A hM (someKs_le hk) (ρ := RF bb s1 (im (forD F)) (im (forD G)) s4 s5 (ll (fl someKs)) none s8 s9 s10 (im (f36 k))) (ev_var rfl) (ev_var rfl) (ev_var rfl)
    exact ⟨_, _, rfl, t, rfl, fun _ => ⟨_, _, _, rfl, rfl, rfl⟩⟩
  have hf : fits ((someKs.filter (alike F G)).map f36).length = true := c_fits (by
    rw [List.length_map]
    have h1 := List.length_filter_le (alike F G) someKs
    have h2 : someKs.length = 13 := rfl
    omega)
  have c := c_comp (mi := mISeq (mVar 6)) (vs := [11]) (ds := fl someKs) (ρ := RF bb s1 (im (forD F)) (im (forD G)) s4 s5 (oo (fl someKs)) none s8 s9 s10 none) (ρ1 := RF bb s1 (im (forD F)) (im (forD G)) s4 s5 (ll (fl someKs)) none s8 s9 s10 none) rfl rfl e hf rfl
  exact c_set c rfl
theorem L8_ok (P : LowP (cl 27)) (N : LowN (cl 27)) {L : List Fo} (hl : L.length ≤ 700) (hb : ∀ g ∈ L, g.2.1.natAbs < 2 ^ 40 ∧ g.2.2.natAbs ≤ 24) : L8 cl (RF bb s1 s2 s3 (oo (L.map foD)) s5 s6 s7 none s9 s10 none) = some (.next, RF bb s1 s2 s3 (ll (L.map foD)) s5 s6 s7 (oo (fl (zs L))) s9 s10 none) := by
  have e := c_cfil (mg := mGseq 2 (mGcons (mN 12) (mGcons (mN 13) mGnil))) (mt := spT) (me := spE cl) (vs := [12, 13]) (ρ := RF bb s1 s2 s3 (ll (L.map foD)) s5 s6 s7 none s9 s10 none) foD (fun g => f36 (zr g)) (fun g => decide (g.2.2 ≠ 0)) L fun g hg => by
    obtain ⟨b1, b2⟩ := hb g hg
    have v13 : EV (mVar 13) [some (.own true bb), s1, s2, s3, ll (L.map foD), s5, s6, s7, none, s9, s10, none, ii g.1, im (pD g.2.1 g.2.2)] (pD g.2.1 g.2.2) := ev_var rfl
    have e0 := e_bin (f := dIx) v13 (ev_c (d := .int 0)) ix_0
    have e1 := e_bin (f := dIx) v13 (ev_c (d := .int 1)) ix_1
    have vt : dIx (f1 g.2.2) (.int 0) = some (.imm (.int g.2.2)) := by
      have := (isFr (v1 g.2.2)).top
      rw [v1_top] at this
      exact this
    have vb : dIx (f1 g.2.2) (.int 1) = some (.imm (.int 1)) := by
      have := (isFr (v1 g.2.2)).bot
      rw [v1_bot] at this
      exact this
    have e10 := e_bin (f := dIx) e1 (ev_c (d := .int 0)) vt
    have e11 := e_bin (f := dIx) e1 (ev_c (d := .int 1)) vb
    have e00 := e_bin (f := dIx) e0 (ev_c (d := .int 0)) (isFr (v6 g.2.1)).top
    have e01 := e_bin (f := dIx) e0 (ev_c (d := .int 1)) (isFr (v6 g.2.1)).bot
    have t := c_b (v_bin (f := dNe) e10 (ev_c (d := .int 0)) (ne_int g.2.2 0))
    have hd : (!(g.2.2 == 0)) = decide (g.2.2 ≠ 0) := by
      by_cases h : g.2.2 = 0
      · rw [beq_iff_eq.mpr h, decide_eq_false (by simpa using h)]; rfl
      · rw [beq_eq_false_iff_ne.mpr h, decide_eq_true h]; rfl
    rw [hd] at t
    refine ⟨_, _, rfl, t, rfl, fun hp => ?_⟩
    have h0 : g.2.2 ≠ 0 := of_decide_eq_true hp
    have hs := v6_sd b1
    have hxn : (v6 (-g.2.1)).num = -(v6 g.2.1).num ∧ (v6 (-g.2.1)).den = (v6 g.2.1).den := by
      have : v6 (-g.2.1) = -(v6 g.2.1) := by unfold v6; rw [Int.mul_neg, v_neg]
      rw [this]; exact ⟨rfl, rfl⟩
    have m1 := mul_int (i := (v6 g.2.1).num) (j := 1) hs.num (by decide)
    have m2 := mul_int (i := ((v6 g.2.1).den : Int)) (j := g.2.2) hs.sm.den (Nat.lt_of_le_of_lt b2 (by decide))
    rw [Int.mul_one] at m1
    have hdp := Frac_pos (v6 g.2.1)
    have hdl : (v6 g.2.1).den < 2 ^ 40 := hs.den
    have hbig : ∀ m : Nat, m ≤ 24 → (v6 g.2.1).den * m < 2 ^ 190 := fun m hm => by
      have h1 : (v6 g.2.1).den * m ≤ 2 ^ 40 * 24 := Nat.mul_le_mul (Nat.le_of_lt hdl) hm
      have h2 : (2 : Nat) ^ 40 * 24 < 2 ^ 190 := by decide
      omega
    have ea := e_bin (f := dSub) (ev_c (d := .int 0)) (e_bin (f := dMul) e00 e11 m1) (show dSub (.int 0) (.int (v6 g.2.1).num) = some (.imm (.int (0 - (v6 g.2.1).num))) from rfl)
    have eb := e_bin (f := dMul) e01 e10 m2
    have q : cl 27 [.imm (.int (0 - (v6 g.2.1).num)), .imm (.int (((v6 g.2.1).den : Int) * g.2.2))] = some (.imm (f36 (zr g)), [none, none]) := by
      rw [Int.zero_sub]
      rcases zr_case h0 b2 with ⟨_, m, hm, hm0, ee⟩ | ⟨_, m, hm, hm0, ee⟩
      · rw [hxn.1, hxn.2] at ee
        have := P (-(v6 g.2.1).num) ((v6 g.2.1).den * m) (Nat.mul_pos hdp hm0) (hbig m (by omega))
        rw [ee, Int.natCast_mul, ← hm] at this
        exact this
      · rw [hxn.1, hxn.2] at ee
        have hna : (((v6 g.2.1).den : Int) * g.2.2).natAbs = (v6 g.2.1).den * m := by
          rw [Int.natAbs_mul, Int.natAbs_natCast, hm, Int.natAbs_neg, Int.natAbs_natCast]
        have hneg : ((v6 g.2.1).den : Int) * g.2.2 < 0 := Int.mul_neg_of_pos_of_neg (by omega) (by omega)
        have := N (-(v6 g.2.1).num) (((v6 g.2.1).den : Int) * g.2.2) hneg (by rw [hna]; exact hbig m (by omega))
        rw [hna, ee] at this
        exact this
    exact ⟨_, _, _, v_call2 ea eb q, rfl, rfl⟩
  have hz : fl (zs L) = (L.filter fun g => decide (g.2.2 ≠ 0)).map fun g => f36 (zr g) := by
    show List.map _ (List.map _ _) = _
    rw [List.map_map]; rfl
  have hf : fits ((L.filter fun g => decide (g.2.2 ≠ 0)).map fun g => f36 (zr g)).length = true := c_fits (by
    rw [List.length_map]
    have := List.length_filter_le (fun g : Fo => decide (g.2.2 ≠ 0)) L
    omega)
  rw [hz]
  exact c_set (c_comp (mi := mISeq (mVar 4)) (vs := [12, 13]) (ds := L.map foD) (ρ := RF bb s1 s2 s3 (oo (L.map foD)) s5 s6 s7 none s9 s10 none) (ρ1 := RF bb s1 s2 s3 (ll (L.map foD)) s5 s6 s7 none s9 s10 none) rfl rfl e hf rfl) rfl
theorem L9_ok (A : FatP (cl 34)) (hM : Md F G) {ks : List Int} (hl : ks.length ≤ 700) (hk : ∀ k ∈ ks, k.natAbs < 2 ^ 60) : L9 cl (RF bb s1 (im (forD F)) (im (forD G)) s4 s5 s6 s7 (oo (fl ks)) none s10 none) = some (.next, RF bb s1 (im (forD F)) (im (forD G)) s4 s5 s6 s7 (ll (fl ks)) (oo (fl (ks.filter (alike F G)))) s10 none) := by
  have e := c_cfil (mg := mN 11) (mt := alT cl) (me := mVar 11) (vs := [11]) (ρ := RF bb s1 (im (forD F)) (im (forD G)) s4 s5 s6 s7 (ll (fl ks)) none s10 none) f36 f36 (alike F G) ks fun k hkm => by
    have t := al_ok A hM (hk k hkm) (ρ := RF bb s1 (im (forD F)) (im (forD G)) s4 s5 s6 s7 (ll (fl ks)) none s10 (im (f36 k))) (ev_var rfl) (ev_var rfl) (ev_var rfl)
    exact ⟨_, _, rfl, t, rfl, fun _ => ⟨_, _, _, rfl, rfl, rfl⟩⟩
  have hf : fits ((ks.filter (alike F G)).map f36).length = true := c_fits (by
    rw [List.length_map]
    have h1 := List.length_filter_le (alike F G) ks
    omega)
  have c := c_comp (mi := mISeq (mVar 8)) (vs := [11]) (ds := fl ks) (ρ := RF bb s1 (im (forD F)) (im (forD G)) s4 s5 s6 s7 (oo (fl ks)) none s10 none) (ρ1 := RF bb s1 (im (forD F)) (im (forD G)) s4 s5 s6 s7 (ll (fl ks)) none s10 none) rfl rfl e hf rfl
  exact c_set c rfl
theorem less_T (S : LessP (cl 30)) {k l : Int} (hk : k.natAbs < 2 ^ 80) (hl : l.natAbs < 2 ^ 80) {ρ : Fm} {i j : Nat} (h1 : EV (mVar i) ρ (f36 k)) (h2 : EV (mVar j) ρ (f36 l)) : mTru (mCall (cl 30) (rVal (mVar i) (rVal (mVar j) rNil))) ρ = some (decide (k < l), ρ) := t_tru (v_call2 h1 h2 (S k l hk hl))
theorem iB_ok (S : LessP (cl 30)) {D : List Int} {k : Int} (hl : D.length ≤ 400) (hD : ∀ d ∈ D, d.natAbs < 2 ^ 80) (hk : k.natAbs < 2 ^ 80) : iB cl (RF bb s1 s2 s3 s4 s5 s6 s7 s8 s9 (oo (fl D)) (im (f36 k))) = some (.next, RF bb s1 s2 s3 s4 s5 s6 s7 s8 s9 (oo (fl (putIn D k))) (im (f36 k))) := by
  have n := notin_fl k D
  have t : mB (bin (dInT true) (mVar 11) (mVar 10)) (RF bb s1 s2 s3 s4 s5 s6 s7 s8 s9 (oo (fl D)) (im (f36 k))) = some (!decide (k ∈ D), RF bb s1 s2 s3 s4 s5 s6 s7 s8 s9 (oo (fl D)) (im (f36 k))) := c_b (c_bin (f := dInT true) rfl rfl rfl rfl n)
  unfold iB putIn
  by_cases h : k ∈ D
  · rw [decide_eq_true h] at t
    rw [if_pos h]
    exact c_ifF t c_skip
  · rw [decide_eq_false h] at t
    rw [if_neg h]
    have ea := c_cfil (mg := mN 13) (mt := mTru (mCall (cl 30) (rVal (mVar 13) (rVal (mVar 11) rNil)))) (me := mVar 13) (vs := [13]) (ρ := RF bb s1 s2 s3 s4 s5 s6 s7 s8 s9 (ll (fl D)) (im (f36 k))) f36 f36 (fun l => decide (l < k)) D fun d hd => by
      have tt := less_T S (hD d hd) hk (ρ := [some (.own true bb), s1, s2, s3, s4, s5, s6, s7, s8, s9, ll (fl D), im (f36 k), none, im (f36 d)]) (i := 13) (j := 11) (ev_var rfl) (ev_var rfl)
      exact ⟨_, _, rfl, tt, rfl, fun _ => ⟨_, _, _, rfl, rfl, rfl⟩⟩
    have eb := c_cfil (mg := mN 13) (mt := mTru (mCall (cl 30) (rVal (mVar 11) (rVal (mVar 13) rNil)))) (me := mVar 13) (vs := [13]) (ρ := RF bb s1 s2 s3 s4 s5 s6 s7 s8 s9 (ll (fl D)) (im (f36 k))) f36 f36 (fun l => decide (k < l)) D fun d hd => by
      have tt := less_T S hk (hD d hd) (ρ := [some (.own true bb), s1, s2, s3, s4, s5, s6, s7, s8, s9, ll (fl D), im (f36 k), none, im (f36 d)]) (i := 11) (j := 13) (ev_var rfl) (ev_var rfl)
      exact ⟨_, _, rfl, tt, rfl, fun _ => ⟨_, _, _, rfl, rfl, rfl⟩⟩
    have la := List.length_filter_le (fun l => decide (l < k)) D
    have lb := List.length_filter_le (fun l => decide (k < l)) D
    have fa : fits ((D.filter fun l => decide (l < k)).map f36).length = true := c_fits (by rw [List.length_map]; omega)
    have fb : fits ((D.filter fun l => decide (k < l)).map f36).length = true := c_fits (by rw [List.length_map]; omega)
    have ca := c_comp (mi := mISeq (mVar 10)) (vs := [13]) (ds := fl D) (ρ := RF bb s1 s2 s3 s4 s5 s6 s7 s8 s9 (oo (fl D)) (im (f36 k))) (ρ1 := RF bb s1 s2 s3 s4 s5 s6 s7 s8 s9 (ll (fl D)) (im (f36 k))) rfl rfl ea fa rfl
    have cb := c_comp (mi := mISeq (mVar 10)) (vs := [13]) (ds := fl D) (ρ := RF bb s1 s2 s3 s4 s5 s6 s7 s8 s9 (ll (fl D)) (im (f36 k))) (ρ1 := RF bb s1 s2 s3 s4 s5 s6 s7 s8 s9 (ll (fl D)) (im (f36 k))) rfl rfl eb fb rfl
    have v11 : EV (mVar 11) (RF bb s1 s2 s3 s4 s5 s6 s7 s8 s9 (ll (fl D)) (im (f36 k))) (f36 k) := ev_var rfl
    have cm := v_lst (ea_cons v11 ea_nil) (show 1 ≤ 10000 by decide)
    have a1 := fl_add (D.filter fun l => decide (l < k)) [k] (by rw [List.length_singleton]; omega)
    have a2 := fl_add ((D.filter fun l => decide (l < k)) ++ [k]) (D.filter fun l => decide (k < l)) (by rw [List.length_append, List.length_singleton]; omega)
    have c := c_bin (f := dAdd) (c_bin (f := dAdd) ca cm rfl rfl a1) cb rfl rfl a2
    exact c_ifT t (c_set c rfl)
theorem i_loop (S : LessP (cl 30)) : ∀ (ks D : List Int) (s11 : Option Sv), NoOwn s11 → D.length + ks.length ≤ 400 → (∀ d ∈ D, d.natAbs < 2 ^ 80) → (∀ k ∈ ks, k.natAbs < 2 ^ 80) →
    ∃ y11, NoOwn y11 ∧ loop (mN 11) (iB cl) (fl ks) (RF bb s1 s2 s3 s4 s5 s6 s7 s8 s9 (oo (fl D)) s11) = some (.next, RF bb s1 s2 s3 s4 s5 s6 s7 s8 s9 (oo (fl (ks.foldl putIn D))) y11)
  | [], D, s11, h, _, _, _ => ⟨s11, h, rfl⟩
  | k :: ks, D, s11, _, hl, hD, hk => by
    rw [List.length_cons] at hl
    have hk0 := hk k (List.mem_cons_self ..)
    have e := iB_ok S (bb := bb) (s1 := s1) (s2 := s2) (s3 := s3) (s4 := s4) (s5 := s5) (s6 := s6) (s7 := s7) (s8 := s8) (s9 := s9) (D := D) (k := k) (by omega) hD hk0
    have hp : (putIn D k).length ≤ D.length + 1 := put_len [k] D
    obtain ⟨y11, hy, e2⟩ := i_loop S ks (putIn D k) (im (f36 k)) ⟨some (f36 k), rfl⟩ (by omega) (fun d hd => by
      rcases put_mem.mp hd with h | h
      · exact hD d h
      · rw [h]; exact hk0) fun z hz => hk z (List.mem_cons_of_mem _ hz)
    exact ⟨y11, hy, c_cons (ρ1 := RF bb s1 s2 s3 s4 s5 s6 s7 s8 s9 (oo (fl D)) (im (f36 k))) rfl e e2⟩
theorem vs11 (h : NoOwn s11) : vsOk (RF bb s1 s2 s3 s4 s5 s6 s7 s8 s9 s10 s11) [11] = true := by
  obtain ⟨o, rfl⟩ := h
  cases o <;> rfl
theorem L13_ok {ks T : List Int} (hk : ∀ k ∈ ks, k ∈ T) (hz : NoOwn s11) : ∃ ρ, L13 (RF bb s1 s2 s3 s4 (im (.tuple (fl T))) s6 (oo (fl ks)) s8 s9 s10 s11) = some (.ret (.imm (.bool true)), some (.own true bb) :: ρ) := by
  have e := c_cfil (mg := mN 11) (mt := mB (bin (dInT true) (mVar 11) (mVar 5))) (me := mVar 11) (vs := [11]) (ρ := RF bb s1 s2 s3 s4 (im (.tuple (fl T))) s6 (ll (fl ks)) s8 s9 s10 none) f36 f36 (fun k => !decide (k ∈ T)) ks fun k hkm => by
    have v11 : EV (mVar 11) (RF bb s1 s2 s3 s4 (im (.tuple (fl T))) s6 (ll (fl ks)) s8 s9 s10 (im (f36 k))) (f36 k) := ev_var rfl
    have v5 : EV (mVar 5) (RF bb s1 s2 s3 s4 (im (.tuple (fl T))) s6 (ll (fl ks)) s8 s9 s10 (im (f36 k))) (.tuple (fl T)) := ev_var rfl
    have t := c_b (v_bin (f := dInT true) v11 v5 (notin_flT k T))
    exact ⟨_, _, rfl, t, rfl, fun _ => ⟨_, _, _, rfl, rfl, rfl⟩⟩
  have hno : (ks.filter fun k => !decide (k ∈ T)) = [] := by
    refine List.filter_eq_nil_iff.mpr fun k hkm => ?_
    rw [decide_eq_true (hk k hkm)]; decide
  rw [hno] at e
  have c := c_comp (mi := mISeq (mVar 7)) (vs := [11]) (ds := fl ks) (ρ := RF bb s1 s2 s3 s4 (im (.tuple (fl T))) s6 (oo (fl ks)) s8 s9 s10 s11) (ρ1 := RF bb s1 s2 s3 s4 (im (.tuple (fl T))) s6 (ll (fl ks)) s8 s9 s10 s11) rfl (vs11 hz) e rfl rfl
  exact ⟨_, c_ret (c_bin (f := dEq) c (c_lst c_anil rfl) rfl rfl (eq_fl [] [])) rfl⟩
end
end K46

namespace K46
open PySem Vi PyProof.Rows
structure Rc (cl : Nat → Fn) (b : Int) : Prop where
  take : TakeP (cl 22) b
  made : MadeP (cl 38) b
  left : LeftP (cl 35)
  sat : SatP (cl 19)
  fat : FatP (cl 34)
  lowP : LowP (cl 27)
  lowN : LowN (cl 27)
  less : LessP (cl 30)
  lst : ∀ F : List Fo, F.length ≤ 9000 → cl 25 [.imm (forD F)] = some (.own false (F.map lfo), [none])
  same : ∀ ks : List Int, ks.length ≤ 9000 → cl 26 [.imm (.tuple (fl ks)), .imm (.tuple (fl ks))] = some (.imm (.bool true), [none, none])
theorem len_for (F : List Fo) : dLen (forD F) = some (.imm (.int (F.length : Int))) := by
  show some (Sv.imm (.int (((F.map foD).length : Nat) : Int))) = _
  rw [List.length_map]
theorem len_fl (ks : List Int) : dLen (.tuple (fl ks)) = some (.imm (.int (ks.length : Int))) := by
  show some (Sv.imm (.int (((fl ks).length : Nat) : Int))) = _
  rw [List.length_map]
theorem told_len (F G : List Fo) : (toldL (left F G)).length ≤ F.length + G.length := by
  have h1 := List.length_filter_le (good (left F G)) (setI (zs (left F G)))
  have h2 := setI_len (zs (left F G))
  have h3 := zs_len (left F G)
  have h4 := frest_len F G
  have h5 : (left F G).length = (frest F G).length := by unfold left; rw [List.length_reverse]
  unfold toldL
  omega
section
variable {cl : Nat → Fn} {b : Int} {bb : List D} {s1 s4 s6 s7 s8 s9 s11 : Option Sv} {F G : List Fo}
theorem L7_ok {T : List Int} (hT : T.length ≤ F.length + G.length) {ρ : Fm} (h2 : EV (mVar 2) ρ (forD F)) (h3 : EV (mVar 3) ρ (forD G)) (h5 : EV (mVar 5) ρ (.tuple (fl T))) : L7 ρ = some (.next, ρ) := by
  have t1 : mNotT (mTru (un (dIsi Ty.tuple) (mVar 5))) ρ = some (false, ρ) := by
    have := e_un (f := dIsi Ty.tuple) h5 (show dIsi Ty.tuple (.tuple (fl T)) = some (.imm (.bool true)) from rfl)
    obtain ⟨pr, g1, _, g3⟩ := this
    exact c_not (b := true) (c_tru g1 g3 rfl)
  have hg : dGt (.int (T.length : Int)) (.int ((F.length : Int) + (G.length : Int))) = some (.imm (.bool false)) := by
    show some (Sv.imm (.bool (decide ((F.length : Int) + (G.length : Int) < (T.length : Int))))) = _
    rw [decide_eq_false (by omega)]
  have t2 := c_b (v_bin (f := dGt) (e_un (f := dLen) h5 (len_fl T)) (e_bin (f := dAdd) (e_un (f := dLen) h2 (len_for F)) (e_un (f := dLen) h3 (len_for G)) (show dAdd (.int (F.length : Int)) (.int (G.length : Int)) = some (.imm (.int ((F.length : Int) + (G.length : Int)))) from rfl)) hg)
  exact c_ifF (c_orTF t1 t2) c_skip
theorem L12_ok (C : Rc cl b) (hB : Bd F G) {T : List Int} (hT : T.length ≤ 9000) (hd : told F G = .tuple (fl T)) : L12 cl (RF bb s1 (im (forD F)) (im (forD G)) s4 (im (.tuple (fl T))) s6 s7 s8 s9 (oo (fl T)) s11) = some (.next, RF bb s1 (im (forD F)) (im (forD G)) s4 (im (.tuple (fl T))) s6 s7 s8 s9 (oo (fl T)) s11) := by
  have v5 : EV (mVar 5) (RF bb s1 (im (forD F)) (im (forD G)) s4 (im (.tuple (fl T))) s6 s7 s8 s9 (oo (fl T)) s11) (.tuple (fl T)) := ev_var rfl
  have v2 : EV (mVar 2) (RF bb s1 (im (forD F)) (im (forD G)) s4 (im (.tuple (fl T))) s6 s7 s8 s9 (oo (fl T)) s11) (forD F) := ev_var rfl
  have v3 : EV (mVar 3) (RF bb s1 (im (forD F)) (im (forD G)) s4 (im (.tuple (fl T))) s6 s7 s8 s9 (oo (fl T)) s11) (forD G) := ev_var rfl
  have k10 : EV (un dTuple (mVar 10)) (RF bb s1 (im (forD F)) (im (forD G)) s4 (im (.tuple (fl T))) s6 s7 s8 s9 (oo (fl T)) s11) (.tuple (fl T)) := ev_val (c_un (f := dTuple) rfl rfl rfl)
  have t1 := t_call (v_call2 v5 k10 (C.same T hT))
  have hl := hB.len
  have q2 := C.lst F (by omega)
  have q3 := C.lst G (by omega)
  have qs := C.sat (.list (F.map lfo)) (.list (G.map lfo)) F G (lfrIs F) (lfrIs G) hB
  rw [hd] at qs
  have l2 := v_call1 v2 q2
  have l3 := v_call1 v3 q3
  have hp : rPerm 0 2 [1, 0] rNil (rVal (mCall (cl 25) (rVal (mVar 3) rNil)) (rVal (mCall (cl 25) (rVal (mVar 2) rNil)) rNil)) (RF bb s1 (im (forD F)) (im (forD G)) s4 (im (.tuple (fl T))) s6 s7 s8 s9 (oo (fl T)) s11) = some ([.v (.list (F.map lfo)), .v (.list (G.map lfo))], RF bb s1 (im (forD F)) (im (forD G)) s4 (im (.tuple (fl T))) s6 s7 s8 s9 (oo (fl T)) s11) := by
    have e := c_rval (mr := rVal (mCall (cl 25) (rVal (mVar 2) rNil)) rNil) l3 (d := .list (G.map lfo)) rfl (c_rval l2 (d := .list (F.map lfo)) rfl rfl)
    unfold rPerm
    rw [show rNil (RF bb s1 (im (forD F)) (im (forD G)) s4 (im (.tuple (fl T))) s6 s7 s8 s9 (oo (fl T)) s11) = some ([], RF bb s1 (im (forD F)) (im (forD G)) s4 (im (.tuple (fl T))) s6 s7 s8 s9 (oo (fl T)) s11) from rfl]
    simp only [e]
    rfl
  have ks : EV (mCall (cl 19) (rPerm 0 2 [1, 0] rNil (rVal (mCall (cl 25) (rVal (mVar 3) rNil)) (rVal (mCall (cl 25) (rVal (mVar 2) rNil)) rNil)))) (RF bb s1 (im (forD F)) (im (forD G)) s4 (im (.tuple (fl T))) s6 s7 s8 s9 (oo (fl T)) s11) (.tuple (fl T)) := ev_val (c_call hp rfl rfl qs rfl)
  have t2 := t_call (v_call2 ks v5 (C.same T hT))
  exact c_ifF (c_orTF t1 t2) c_skip
end
theorem right_ok {cl : Nat → Fn} {b : Int} (C : Rc cl b) {a c : Int} (h1 : 0 ≤ c) (h2 : c < 5000) : ∃ a' c', fn39 cl [.own true (bx a b c)] = some (.imm (.bool true), [some (bx a' b c')]) ∧ 0 ≤ c' ∧ c' ≤ c + 100 := by
  obtain ⟨v, a1, c1, e1, v1, v2, p1, p2⟩ := C.take a c 2 (by omega) (by omega) h1 (by omega)
  obtain ⟨F, G, a2, c2, e2, hM, p3, p4⟩ := C.made (2 + v) a1 c1 (by omega) (by omega) p1 (by omega)
  have hB := hM.bd
  have hlen := hM.len
  have k1 : mCall (cl 22) (rSlot 0 (rVal (mC (.int 2)) rNil)) (RF (bx a b c) none none none none none none none none none none none) = some (.val (.imm (.int v)), RF (bx a1 b c1) none none none none none none none none none none none) := c_call (as := [.s 0, .v (.int 2)]) rfl rfl rfl e1 rfl
  have g1 : L1 cl (RF (bx a b c) none none none none none none none none none none none) = some (.next, RF (bx a1 b c1) (ii (2 + v)) none none none none none none none none none none) := c_set (c_bin (f := dAdd) (ma := mC (.int 2)) (p1 := .val (.imm (.int 2))) rfl k1 rfl rfl rfl) rfl
  have k2 : mCall (cl 38) (rSlot 0 (rVal (mVar 1) rNil)) (RF (bx a1 b c1) (ii (2 + v)) none none none none none none none none none none) = some (.val (.imm (.tuple [forD F, forD G])), RF (bx a2 b c2) (ii (2 + v)) none none none none none none none none none none) := c_call (as := [.s 0, .v (.int (2 + v))]) rfl rfl rfl e2 rfl
  have g2 : L2' cl (RF (bx a1 b c1) (ii (2 + v)) none none none none none none none none none none) = some (.next, RF (bx a2 b c2) (ii (2 + v)) (im (forD F)) (im (forD G)) none none none none none none none none) := by
    unfold L2' mAsgG
    rw [k2]
    rfl
  have gg : ∀ g, Gd g → g.2.1.natAbs < 2 ^ 40 ∧ g.2.2.natAbs ≤ 1000 := fun g h => by obtain ⟨z1, z2⟩ := h; omega
  have h39 : (100000 : Nat) < 2 ^ 39 := by decide
  have hn := hB.nrm
  have w2 : EV (mVar 2) (RF (bx a2 b c2) (ii (2 + v)) (im (forD F)) (im (forD G)) none none none none none none none none) (forD F) := ev_var rfl
  have w3 : EV (mVar 3) (RF (bx a2 b c2) (ii (2 + v)) (im (forD F)) (im (forD G)) none none none none none none none none) (forD G) := ev_var rfl
  have q3 := C.left F G (by omega) (by omega) fun g hg => (gg g (hM.g g hg)).2
  have q4 := C.sat (forD F) (forD G) F G (frIs F) (frIs G) hB
  have k3 := v_call2 w2 w3 q3
  have k4 := v_call2 w2 w3 q4
  have g3 : L3 cl (RF (bx a2 b c2) (ii (2 + v)) (im (forD F)) (im (forD G)) none none none none none none none none) = some (.next, RF (bx a2 b c2) (ii (2 + v)) (im (forD F)) (im (forD G)) (oo ((left F G).map foD)) (im (told F G)) none none none none none none) := c_par k3 rfl k4 rfl rfl
  have g4 := L4_ok (bb := bx a2 b c2) (s1 := ii (2 + v)) (s2 := im (forD F)) (s3 := im (forD G)) (s4 := oo ((left F G).map foD)) (s5 := im (told F G)) (s7 := none) (s8 := none) (s9 := none) (s10 := none)
  have g5 := L5_ok C.fat hM (bb := bx a2 b c2) (s1 := ii (2 + v)) (s4 := oo ((left F G).map foD)) (s5 := im (told F G)) (s8 := none) (s9 := none) (s10 := none)
  rw [right_fn]
  by_cases h0 : frest F G = []
  · have hL : left F G = [] := by unfold left; rw [h0]; rfl
    have hd : told F G = .none := by unfold told; rw [if_pos h0]
    have hall : someKs.filter (alike F G) = someKs := List.filter_eq_self.mpr fun k _ => none_alike h0 k
    rw [hL, hd, hall] at g5
    rw [hL, hd] at g4 g3
    have t : mB (bin dEq (mVar 4) (mLst mNil)) (RF (bx a2 b c2) (ii (2 + v)) (im (forD F)) (im (forD G)) (oo []) (im .none) (ll (fl someKs)) (oo (fl someKs)) none none none none) = some (true, RF (bx a2 b c2) (ii (2 + v)) (im (forD F)) (im (forD G)) (oo []) (im .none) (ll (fl someKs)) (oo (fl someKs)) none none none none) := c_b (c_bin (f := dEq) rfl (c_lst c_anil rfl) rfl rfl (eq_fos []))
    have r1 : bin dIs (mVar 5) (mC .none) (RF (bx a2 b c2) (ii (2 + v)) (im (forD F)) (im (forD G)) (oo []) (im .none) (ll (fl someKs)) (oo (fl someKs)) none none none none) = some (.val (.imm (.bool true)), RF (bx a2 b c2) (ii (2 + v)) (im (forD F)) (im (forD G)) (oo []) (im .none) (ll (fl someKs)) (oo (fl someKs)) none none none none) := rfl
    have he := eq_fl someKs someKs
    rw [decide_eq_true rfl] at he
    generalize hK : fl someKs = K at *
    have r2 : bin dEq (mVar 7) (mVar 6) (RF (bx a2 b c2) (ii (2 + v)) (im (forD F)) (im (forD G)) (oo []) (im .none) (ll K) (oo K) none none none none) = some (.val (.imm (.bool true)), RF (bx a2 b c2) (ii (2 + v)) (im (forD F)) (im (forD G)) (oo []) (im .none) (ll K) (oo K) none none none none) := c_bin (f := dEq) rfl rfl rfl rfl he
    have g6 : L6 (RF (bx a2 b c2) (ii (2 + v)) (im (forD F)) (im (forD G)) (oo []) (im .none) (ll K) (oo K) none none none none) = some (.ret (.imm (.bool true)), RF (bx a2 b c2) (ii (2 + v)) (im (forD F)) (im (forD G)) (oo []) (im .none) (ll K) (oo K) none none none none) := c_ifT t (c_ret (c_andB (a := true) r1 fun _ => r2) rfl)
    exact ⟨a2, c2, c_fn (ρ0 := RF (bx a b c) none none none none none none none none none none none) rfl rfl (c_seq g1 (c_seq g2 (c_seq g3 (c_seq g4 (c_seq g5 (c_seqR g6)))))) rfl, p3, by omega⟩
  · have hd : told F G = .tuple (fl (toldL (left F G))) := by unfold told; rw [if_neg h0]
    obtain ⟨l1, l2⟩ := left_bd hB
    have hne : (left F G).isEmpty = false := by
      cases hL : left F G with
      | nil => exact absurd (by unfold left at hL; simpa using hL) h0
      | cons x l => rfl
    have htl := told_len F G
    have hzl := zs_len (left F G)
    have hzle := zs_le l2
    have h4 := eq_fos (left F G)
    rw [hne] at h4
    have t : mB (bin dEq (mVar 4) (mLst mNil)) (RF (bx a2 b c2) (ii (2 + v)) (im (forD F)) (im (forD G)) (oo ((left F G).map foD)) (im (told F G)) (ll (fl someKs)) (oo (fl (someKs.filter (alike F G)))) none none none none) = some (false, RF (bx a2 b c2) (ii (2 + v)) (im (forD F)) (im (forD G)) (oo ((left F G).map foD)) (im (told F G)) (ll (fl someKs)) (oo (fl (someKs.filter (alike F G)))) none none none none) := c_b (c_bin (f := dEq) rfl (c_lst c_anil rfl) rfl rfl h4)
    have g6 : L6 (RF (bx a2 b c2) (ii (2 + v)) (im (forD F)) (im (forD G)) (oo ((left F G).map foD)) (im (told F G)) (ll (fl someKs)) (oo (fl (someKs.filter (alike F G)))) none none none none) = some (.next, RF (bx a2 b c2) (ii (2 + v)) (im (forD F)) (im (forD G)) (oo ((left F G).map foD)) (im (told F G)) (ll (fl someKs)) (oo (fl (someKs.filter (alike F G)))) none none none none) := c_ifF t c_skip
    rw [hd] at g3 g4 g5 g6
    have g7 := L7_ok htl (ρ := RF (bx a2 b c2) (ii (2 + v)) (im (forD F)) (im (forD G)) (oo ((left F G).map foD)) (im (.tuple (fl (toldL (left F G))))) (ll (fl someKs)) (oo (fl (someKs.filter (alike F G)))) none none none none) (ev_var rfl) (ev_var rfl) (ev_var rfl)
    have h40 : (100000 : Nat) < 2 ^ 40 := by decide
    have g8 := L8_ok C.lowP C.lowN (bb := bx a2 b c2) (s1 := ii (2 + v)) (s2 := im (forD F)) (s3 := im (forD G)) (s5 := im (.tuple (fl (toldL (left F G))))) (s6 := ll (fl someKs)) (s7 := oo (fl (someKs.filter (alike F G)))) (s9 := none) (s10 := none) (L := left F G) (by omega) fun g hg => by have := l2 g hg; omega
    have g9 := L9_ok C.fat hM (bb := bx a2 b c2) (s1 := ii (2 + v)) (s4 := ll ((left F G).map foD)) (s5 := im (.tuple (fl (toldL (left F G))))) (s6 := ll (fl someKs)) (s7 := oo (fl (someKs.filter (alike F G)))) (s10 := none) (ks := zs (left F G)) (by omega) hzle
    have hfl := List.length_filter_le (alike F G) (zs (left F G))
    have g10 : L10 (RF (bx a2 b c2) (ii (2 + v)) (im (forD F)) (im (forD G)) (ll ((left F G).map foD)) (im (.tuple (fl (toldL (left F G))))) (ll (fl someKs)) (oo (fl (someKs.filter (alike F G)))) (ll (fl (zs (left F G)))) (oo (fl ((zs (left F G)).filter (alike F G)))) none none) = some (.next, RF (bx a2 b c2) (ii (2 + v)) (im (forD F)) (im (forD G)) (ll ((left F G).map foD)) (im (.tuple (fl (toldL (left F G))))) (ll (fl someKs)) (oo (fl (someKs.filter (alike F G)))) (ll (fl (zs (left F G)))) (oo (fl ((zs (left F G)).filter (alike F G)))) (oo (fl [])) none) := c_set (c_lst c_anil rfl) rfl
    obtain ⟨y11, hy, e11⟩ := i_loop C.less (bb := bx a2 b c2) (s1 := ii (2 + v)) (s2 := im (forD F)) (s3 := im (forD G)) (s4 := ll ((left F G).map foD)) (s5 := im (.tuple (fl (toldL (left F G))))) (s6 := ll (fl someKs)) (s7 := oo (fl (someKs.filter (alike F G)))) (s8 := ll (fl (zs (left F G)))) (s9 := ll (fl ((zs (left F G)).filter (alike F G)))) ((zs (left F G)).filter (alike F G)) [] none ⟨none, rfl⟩ (by rw [List.length_nil]; omega) (fun _ h => by cases h) fun k hk => by
      have := hzle k (List.mem_filter.mp hk).1
      omega
    rw [due_told] at e11
    have g11 := c_for (mi := mISeq (mVar 9)) (ρ := RF (bx a2 b c2) (ii (2 + v)) (im (forD F)) (im (forD G)) (ll ((left F G).map foD)) (im (.tuple (fl (toldL (left F G))))) (ll (fl someKs)) (oo (fl (someKs.filter (alike F G)))) (ll (fl (zs (left F G)))) (oo (fl ((zs (left F G)).filter (alike F G)))) (oo (fl [])) none) rfl e11
    have g12 := L12_ok C hB (bb := bx a2 b c2) (s1 := ii (2 + v)) (s4 := ll ((left F G).map foD)) (s6 := ll (fl someKs)) (s7 := oo (fl (someKs.filter (alike F G)))) (s8 := ll (fl (zs (left F G)))) (s9 := ll (fl ((zs (left F G)).filter (alike F G)))) (s11 := y11) (T := toldL (left F G)) (by omega) hd
    obtain ⟨ρ, g13⟩ := L13_ok (bb := bx a2 b c2) (s1 := ii (2 + v)) (s2 := im (forD F)) (s3 := im (forD G)) (s4 := ll ((left F G).map foD)) (s6 := ll (fl someKs)) (s8 := ll (fl (zs (left F G)))) (s9 := ll (fl ((zs (left F G)).filter (alike F G)))) (s10 := oo (fl (toldL (left F G)))) (s11 := y11) (ks := someKs.filter (alike F G)) (T := toldL (left F G)) (fun k hk => rest_told hB h0 (List.mem_filter.mp hk).2) hy
    exact ⟨a2, c2, c_fn (ρ0 := RF (bx a b c) none none none none none none none none none none none) rfl rfl (c_seq g1 (c_seq g2 (c_seq g3 (c_seq g4 (c_seq g5 (c_seq g6 (c_seq g7 (c_seq g8 (c_seq g9 (c_seq g10 (c_seq g11 (c_seq g12 g13)))))))))))) rfl, p3, by omega⟩
end K46

namespace K46
open PySem Vi PyProof.Rows
/-! the numbers of the script -/
abbrev scD (ns : List Int) : D := .dict (ns.map fun n => (.int n, .none))
theorem sc_keys (ns : List Int) : (ns.map fun n => ((.int n : D), (.none : D))).map Prod.fst = ns.map .int := by rw [List.map_map]; rfl
theorem cut_ints (ns : List Int) (lo hi : Option Int) : ∃ ms : List Int, Vi.cutD (ns.map .int) lo hi = ms.map .int ∧ ms.length ≤ ns.length := by
  refine ⟨(ns.drop (HT.sIx ns.length 0 lo)).take (HT.sIx ns.length ns.length hi - HT.sIx ns.length 0 lo), ?_, ?_⟩
  · unfold Vi.cutD
    rw [List.length_map, ← List.map_drop, ← List.map_take]
  · rw [List.length_take, List.length_drop]; omega
def cB : MS := (mSeq (mSet 5 (bin dMod (un dInt (mVar 3)) (mVar 1))) (mStore 2 (mVar 5) (bin dAdd (bin dIx (mVar 2) (mVar 5)) (bin dMul (mVar 4) (bin dAdd (mVar 3) (mC (.int 2)))))))
theorem cells_fn (cl : Nat → Fn) : fn23 cl = mFn 6 2 (mSeq (mSet 2 (mOr (un dList (mSl (mVar 0) mNoPart (mPart (mVar 1)))) (mLst (mCons (mC (.int 0)) mNil)))) (mSeq (mFor (mIEnum (mCons (mSl (mVar 0) (mPart (mVar 1)) (mPart (mC (.int 63)))) mNil)) (mGtup 2 (mGcons (mN 3) (mGcons (mN 4) mGnil))) cB) (mRet (mVar 2)))) := rfl
abbrev CF (x0 : Option Sv) (u : Int) (x3 x4 x5 : Option Sv) : Fm := [x0, ii 1, some (.own false [.int u]), x3, x4, x5]
theorem cB_ok {x0 x5 : Option Sv} {u n : Int} {k : Nat} (hk : k ≤ 1000) : ∃ u', cB (CF x0 u (ii k) (ii n) x5) = some (.next, CF x0 u' (ii k) (ii n) (ii 0)) := by
  have hm : mulOk n ((k : Int) + 2) = true := c_mul (by omega)
  have m : dMul (.int n) (.int ((k : Int) + 2)) = some (.imm (.int (n * ((k : Int) + 2)))) := by
    show (if mulOk n ((k : Int) + 2) = true then _ else _) = _
    rw [if_pos hm]
  have e1 : ∀ y, EV (mVar 3) (CF x0 u (ii k) (ii n) y) (.int (k : Int)) := fun y => ev_var rfl
  have e2 : ∀ y, EV (mVar 4) (CF x0 u (ii k) (ii n) y) (.int n) := fun y => ev_var rfl
  have e3 : EV (mVar 1) (CF x0 u (ii k) (ii n) x5) (.int 1) := ev_var rfl
  have hmod : dMod (.int (k : Int)) (.int 1) = some (.imm (.int ((k : Int) % 1))) := rfl
  have h0 : (k : Int) % 1 = 0 := by omega
  rw [h0] at hmod
  have s1 : mSet 5 (bin dMod (un dInt (mVar 3)) (mVar 1)) (CF x0 u (ii k) (ii n) x5) = some (.next, CF x0 u (ii k) (ii n) (ii 0)) := c_set (v_bin (e_un (f := dInt) (e1 x5) rfl) e3 hmod) rfl
  have hb : bin dIx (mVar 2) (mVar 5) (CF x0 u (ii k) (ii n) (ii 0)) = some (.val (.imm (.int u)), CF x0 u (ii k) (ii n) (ii 0)) := c_bin rfl rfl rfl rfl rfl
  have e5 := v_bin (f := dAdd) (ev_val hb) (e_bin (f := dMul) (e2 (ii 0)) (e_bin (f := dAdd) (e1 (ii 0)) (ev_c (d := .int 2)) rfl) m) rfl
  exact ⟨_, c_seq s1 (c_store (j := 0) (k := 0) (ds := [.int u]) (ds1 := [.int u]) (b := false) (b1 := false) (i := 2) (ρ2 := CF x0 u (ii k) (ii n) (ii 0)) (ρ3 := CF x0 u (ii k) (ii n) (ii 0)) e5 rfl rfl rfl rfl rfl rfl)⟩
theorem cells_loop {x0 : Option Sv} : ∀ (ns : List Int) (k : Nat) (u : Int) (x3 x4 x5 : Option Sv), k + ns.length ≤ 900 → ∃ u' y3 y4 y5,
    loop (mGtup 2 (mGcons (mN 3) (mGcons (mN 4) mGnil))) cB (enumD k (ns.map .int)) (CF x0 u x3 x4 x5) = some (.next, CF x0 u' y3 y4 y5)
  | [], k, u, x3, x4, x5, _ => ⟨u, x3, x4, x5, rfl⟩
  | n :: ns, k, u, x3, x4, x5, hk => by
    simp only [List.length_cons] at hk
    obtain ⟨u1, e1⟩ := cB_ok (x0 := x0) (x5 := x5) (u := u) (n := n) (k := k) (by omega)
    obtain ⟨u2, z3, z4, z5, e2⟩ := cells_loop (x0 := x0) ns (k + 1) u1 (ii k) (ii n) (ii 0) (by omega)
    exact ⟨u2, z3, z4, z5, c_cons (ρ1 := CF x0 u (ii k) (ii n) x5) rfl e1 e2⟩
theorem first_one (x : Int) (ns : List Int) : Vi.cutD ((x :: ns).map PyData.int) none (some 1) = [.int x] := by
  unfold Vi.cutD
  rw [HT.sIx_none, show (some (1 : Int)) = some ((1 : Nat) : Int) from rfl, HT.sIx_nat]
  have : min 1 ((x :: ns).map PyData.int).length = 1 := by simp
  rw [this]
  rfl
theorem cells_ok {cl : Nat → Fn} (ns : List Int) (h : ns.length ≤ 63) : ∃ u : Int, fn23 cl [.imm (scD ns), .imm (.int 1)] = some (.own false [.int u], [none, none]) := by
  match ns, h with
  | [], _ => exact ⟨0, rfl⟩
  | x :: ns, h =>
    have hk := sc_keys (x :: ns)
    obtain ⟨ms, e1, hl⟩ := cut_ints (x :: ns) (some 1) (some 63)
    obtain ⟨u, y3, y4, y5, e3⟩ := cells_loop (x0 := some (.imm (scD (x :: ns)))) ms 0 x none none none (by omega)
    refine ⟨u, ?_⟩
    have e0 := first_one x ns
    rw [← hk] at e0 e1
    unfold scD at e3 ⊢
    generalize ((x :: ns).map fun n => ((.int n : D), (.none : D))) = kv at e0 e1 e3 ⊢
    have h1 : un dList (mSl (mVar 0) mNoPart (mPart (mVar 1))) [some (.imm (.dict kv)), ii 1, none, none, none, none] = some (.val (.own false [.int x]), [some (.imm (.dict kv)), ii 1, none, none, none, none]) := by
      have hs : mSl (mVar 0) mNoPart (mPart (mVar 1)) [some (.imm (.dict kv)), ii 1, none, none, none, none] = some (.val (.own false (Vi.cutD (kv.map Prod.fst) none (some 1))), [some (.imm (.dict kv)), ii 1, none, none, none, none]) := rfl
      rw [e0] at hs
      exact c_un hs rfl rfl
    have s1 : mSet 2 (mOr (un dList (mSl (mVar 0) mNoPart (mPart (mVar 1)))) (mLst (mCons (mC (.int 0)) mNil))) [some (.imm (.dict kv)), ii 1, none, none, none, none] = some (.next, CF (some (.imm (.dict kv))) x none none none) := by
      refine c_set (pr := .val (.own false [.int x])) (ρ1 := [some (.imm (.dict kv)), ii 1, none, none, none, none]) ?_ rfl
      unfold mOr
      rw [h1]
      rfl
    have hi : mIEnum (mCons (mSl (mVar 0) (mPart (mVar 1)) (mPart (mC (.int 63)))) mNil) (CF (some (.imm (.dict kv))) x none none none) = some (enumD 0 (ms.map .int), CF (some (.imm (.dict kv))) x none none none) := by
      have hs : mSl (mVar 0) (mPart (mVar 1)) (mPart (mC (.int 63))) (CF (some (.imm (.dict kv))) x none none none) = some (.val (.own false (Vi.cutD (kv.map Prod.fst) (some 1) (some 63))), CF (some (.imm (.dict kv))) x none none none) := rfl
      rw [e1] at hs
      unfold mIEnum
      rw [c_acons hs rfl c_anil]
      rfl
    rw [cells_fn]
    exact c_fn (ρ0 := [some (.imm (.dict kv)), ii 1, none, none, none, none]) rfl rfl (c_seq s1 (c_seq (c_for hi e3) (c_ret rfl rfl))) rfl
theorem dGe_int (i j : Int) : dGe (.int i) (.int j) = some (.imm (.bool (decide (j ≤ i)))) := rfl
theorem box_ok {cl : Nat → Fn} {ms : List Int} {k : Nat} (hk : k < ms.length) (hk2 : k < 2) : ∃ a b : Int, fn21 cl [.imm (.list (ms.map .int)), .imm (.int (k : Int))] = some (.own false (bx a b 0), [none, none]) := by
  have hx : dIx (.list (ms.map .int)) (.int (k : Int)) = some (.imm (.int ms[k])) := by
    show (L2.atI (ms.map PyData.int) (k : Int)).map Sv.imm = _
    rw [L2.atI_nat (show (ms.map PyData.int)[k]? = some (.int ms[k]) by rw [List.getElem?_map, List.getElem?_eq_getElem hk]; rfl)]
    rfl
  have hlen : dLen (.list (ms.map .int)) = some (.imm (.int ((ms.length : Nat) : Int))) := by
    show some (Sv.imm (.int (((ms.map PyData.int).length : Nat) : Int))) = _
    rw [List.length_map]
  obtain ⟨s, hs⟩ : ∃ s, ms[k] = s := ⟨_, rfl⟩
  rw [hs] at hx
  clear hs
  generalize ms.length = n at *
  generalize ms.map PyData.int = L at *
  have v0 : ∀ y, EV (mVar 0) [some (.imm (.list L)), ii (k : Int), y] (.list L) := fun y => ev_var rfl
  have v1 : ∀ y, EV (mVar 1) [some (.imm (.list L)), ii (k : Int), y] (.int (k : Int)) := fun y => ev_var rfl
  have v2 : EV (mVar 2) [some (.imm (.list L)), ii (k : Int), ii s] (.int s) := ev_var rfl
  have t1 : mB (bin dLt (mVar 1) (un dLen (mVar 0))) [some (.imm (.list L)), ii (k : Int), none] = some (true, [some (.imm (.list L)), ii (k : Int), none]) := by
    have h := c_b (v_bin (f := dLt) (v1 none) (e_un (f := dLen) (v0 none) hlen) (show dLt (.int (k : Int)) (.int (n : Int)) = some (.imm (.bool (decide ((k : Int) < (n : Int))))) from rfl))
    rwa [decide_eq_true (show (k : Int) < (n : Int) by omega)] at h
  have s1 : mSet 2 (mIf (mB (bin dLt (mVar 1) (un dLen (mVar 0)))) (bin dIx (mVar 0) (mVar 1)) (mC (.int 0))) [some (.imm (.list L)), ii (k : Int), none] = some (.next, [some (.imm (.list L)), ii (k : Int), ii s]) :=
    c_set (mif_T t1 (v_bin (v0 none) (v1 none) hx)) rfl
  have habs : dAbs (.int s) = some (.imm (.int (if s < 0 then -s else s))) := rfl
  have hpow : dPow (.int 10) (.int 18) = some (.imm (.int 1000000000000000000)) := rfl
  generalize (if s < 0 then -s else s) = z at habs
  generalize hq : decide ((1000000000000000000 : Int) ≤ z) = q
  have hge : dGe (.int z) (.int 1000000000000000000) = some (.imm (.bool q)) := by rw [dGe_int, hq]
  have m1 : mulOk z (if q = true then 1 else 0) = true := c_mul (by cases q <;> decide)
  have hmul : dMul (.int z) (.int (if q = true then 1 else 0)) = some (.imm (.int (z * (if q = true then 1 else 0)))) := by
    show (if mulOk z _ = true then _ else _) = _
    rw [m1]; rfl
  have m2 : mulOk 39373 (k : Int) = true := c_mul (by omega)
  have hmul2 : dMul (.int 39373) (.int (k : Int)) = some (.imm (.int (39373 * (k : Int)))) := by
    show (if mulOk 39373 (k : Int) = true then some (Sv.imm (.int (39373 * (k : Int)))) else none) = _
    rw [if_pos m2]
  have a1 := e_un (f := dAbs) v2 habs
  have a2 := e_bin (f := dMul) a1 (e_un (f := dInt) (e_bin (f := dGe) a1 (e_bin (f := dPow) (ev_c (d := .int 10)) (ev_c (d := .int 18)) hpow) hge) (show dInt (.bool q) = some (.imm (.int (if q = true then 1 else 0))) from rfl)) hmul
  have hadd : ∀ x y : Int, dAdd (.int x) (.int y) = some (.imm (.int (x + y))) := fun x y => rfl
  have hint : dInt (.int s) = some (.imm (.int s)) := rfl
  have hmod : dMod (.int s) (.int 2305843009213693951) = some (.imm (.int (s % 2305843009213693951))) := rfl
  have a3 := e_bin (f := dAdd) (e_bin (f := dAdd) (e_bin (f := dMod) (e_un (f := dInt) v2 hint) (ev_c (d := .int 2305843009213693951)) hmod) (e_bin (f := dMul) (ev_c (d := .int 39373)) (v1 (ii s)) hmul2) (hadd _ _)) (ev_c (d := .int 88546)) (hadd _ _)
  have a4 := v_lst (ea_cons a2 (ea_cons a3 (ea_cons (ev_c (d := .int 0)) ea_nil))) (by simp)
  refine ⟨z * (if q = true then 1 else 0), s % 2305843009213693951 + 39373 * (k : Int) + 88546, ?_⟩
  unfold fn21
  exact c_fn (ρ0 := [some (.imm (.list L)), ii (k : Int), none]) rfl rfl (c_seq s1 (c_ret a4 rfl)) rfl

/-! the law -/
theorem hand_ok : run 59 40 [] = some (.imm (.bool true), []) := by kernel_rfl
theorem law_fn (cl : Nat → Fn) : fn41 cl = mFn 3 1 (mSeq (mIfS (mNotT (mTru (mCall (cl 40) rNil))) (mRet (mC (.bool false))) mNext) (mSeq (mSet 1 (mCall (cl 21) (rVal (mCall (cl 23) (rVal (mVar 0) (rVal (mC (.int 1)) rNil))) (rVal (mC (.int 0)) rNil)))) (mRet (un dAll (mComp (mIRng1 (mCons (mC (.int 3)) mNil)) (mN 2) mYes (mCall (cl 39) (rSlot 1 rNil)) [2]))))) := rfl
structure LawP (cl : Nat → Fn) : Prop where
  hand : cl 40 [] = some (.imm (.bool true), [])
  cells : ∀ ns : List Int, ns.length ≤ 63 → ∃ u : Int, cl 23 [.imm (scD ns), .imm (.int 1)] = some (.own false [.int u], [none, none])
  box : ∀ (ms : List Int) (k : Nat), k < ms.length → k < 2 → ∃ a b : Int, cl 21 [.imm (.list (ms.map .int)), .imm (.int (k : Int))] = some (.own false (bx a b 0), [none, none])
  right : ∀ a b c : Int, 0 ≤ c → c < 5000 → ∃ a' c', cl 39 [.own true (bx a b c)] = some (.imm (.bool true), [some (bx a' b c')]) ∧ 0 ≤ c' ∧ c' ≤ c + 100
theorem law_gen {cl : Nat → Fn} (P : LawP cl) (ns : List Int) (hl : ns.length ≤ 63) : fn41 cl [.imm (scD ns)] = some (.imm (.bool true), [none]) := by
  obtain ⟨u, e1⟩ := P.cells ns hl
  obtain ⟨a, b, e2⟩ := P.box [u] 0 Nat.zero_lt_one (by decide)
  obtain ⟨a1, c1, e3, p1, p2⟩ := P.right a b 0 (by omega) (by omega)
  obtain ⟨a2, c2, e4, p3, p4⟩ := P.right a1 b c1 p1 (by omega)
  obtain ⟨a3, c3, e5, p5, p6⟩ := P.right a2 b c2 p3 (by omega)
  generalize scD ns = sc at *
  have h2 : mCall (cl 40) rNil [some (.imm sc), none, none] = some (.val (.imm (.bool true)), [some (.imm sc), none, none]) := c_call rfl rfl rfl P.hand rfl
  have v0 : EV (mVar 0) [some (.imm sc), none, none] sc := ev_var rfl
  have k1 := v_call2 v0 (ev_c (d := .int 1)) e1
  have k2 := v_call2 (ev_own k1) (ev_c (d := .int 0)) e2
  have s1 : mSet 1 (mCall (cl 21) (rVal (mCall (cl 23) (rVal (mVar 0) (rVal (mC (.int 1)) rNil))) (rVal (mC (.int 0)) rNil))) [some (.imm sc), none, none] = some (.next, [some (.imm sc), some (.own false (bx a b 0)), none]) := c_set k2 rfl
  have r1 : mCall (cl 39) (rSlot 1 rNil) [some (.imm sc), some (.own false (bx a b 0)), ii 0] = some (.val (.imm (.bool true)), [some (.imm sc), some (.own false (bx a1 b c1)), ii 0]) := c_call (as := [.s 1]) rfl rfl rfl e3 rfl
  have r2 : mCall (cl 39) (rSlot 1 rNil) [some (.imm sc), some (.own false (bx a1 b c1)), ii 1] = some (.val (.imm (.bool true)), [some (.imm sc), some (.own false (bx a2 b c2)), ii 1]) := c_call (as := [.s 1]) rfl rfl rfl e4 rfl
  have r3 : mCall (cl 39) (rSlot 1 rNil) [some (.imm sc), some (.own false (bx a2 b c2)), ii 2] = some (.val (.imm (.bool true)), [some (.imm sc), some (.own false (bx a3 b c3)), ii 2]) := c_call (as := [.s 1]) rfl rfl rfl e5 rfl
  have e : cloop (mN 2) mYes (mCall (cl 39) (rSlot 1 rNil)) [2] [.int 0, .int 1, .int 2] [some (.imm sc), some (.own false (bx a b 0)), none] = some ([.bool true, .bool true, .bool true], [some (.imm sc), some (.own false (bx a3 b c3)), none]) :=
    c_ccons (ρ1 := [some (.imm sc), some (.own false (bx a b 0)), ii 0]) rfl rfl r1 rfl (c_ccons (ρ1 := [some (.imm sc), some (.own false (bx a1 b c1)), ii 1]) rfl rfl r2 rfl (c_ccons (ρ1 := [some (.imm sc), some (.own false (bx a2 b c2)), ii 2]) rfl rfl r3 rfl rfl))
  have hc : mComp (mIRng1 (mCons (mC (.int 3)) mNil)) (mN 2) mYes (mCall (cl 39) (rSlot 1 rNil)) [2] [some (.imm sc), some (.own false (bx a b 0)), none] = some (.val (.own false [.bool true, .bool true, .bool true]), [some (.imm sc), some (.own false (bx a3 b c3)), none]) :=
    c_comp (vs := [2]) (ds := [.int 0, .int 1, .int 2]) (ρ1 := [some (.imm sc), some (.own false (bx a b 0)), none]) rfl rfl e rfl rfl
  rw [law_fn]
  exact c_fn (ρ0 := [some (.imm sc), none, none]) rfl rfl (c_seq (c_ifF (c_not (b := true) (c_tru h2 rfl rfl)) rfl) (c_seq s1 (c_ret (c_un (f := dAll) hc rfl rfl) rfl))) rfl
theorem i_nf (K : Nat) : NfP (run (K + 4) 15) := fun x h1 h2 => i_norm K h1 h2
theorem i_rest (K : Nat) : FrestP (run (K + 4) 17) := by rw [rs17]; exact frest_ok (i_plus (K + 1)) (i_min6 K) (i_min1 K)
theorem i_fracN (K : Nat) : FracN (run (K + 1) 5) := by rw [rs5]; exact fraction_neg
theorem i_times (K : Nat) : TimesP (run (K + 2) 9) := by rw [rs9]; exact times_ok (i_frac K)
theorem i_overZ (K : Nat) : OverZ (run (K + 2) 10) := by rw [rs10]; exact overZ_ok (i_frac K) (i_fracN K)
theorem i_overW (K : Nat) : OverW (run (K + 2) 10) := by rw [rs10]; exact overW_ok (i_frac K)
theorem i_whole (K : Nat) : WholeP (run (K + 1) 6) := by rw [rs6]; exact whole_ok
theorem i_rowat (K : Nat) : RowAtP (run (K + 3) 18) := by rw [rs18]; exact rowat_ok (i_plus K) (i_times K)
theorem i_sat (K : Nat) : SatP (run (K + 5) 19) := by rw [rs19]; exact sat_ok (i_rest K) (i_min6 (K + 1)) (i_overZ (K + 2)) (i_whole (K + 3)) (i_overW (K + 2)) (i_rowat (K + 1)) (i_nf K)
theorem i_lowN (K : Nat) : LowN (run (K + 1) 27) := by rw [rs27]; exact low_neg
theorem i_lmul (K : Nat) : LmulP (run (K + 2) 29) := by rw [rs29]; exact lmul_ok (i_low K)
theorem i_lsub (K : Nat) : Lsub0 (run (K + 2) 31) := by rw [rs31]; exact lsub0_ok (i_low K)
theorem i_less (K : Nat) : LessP (run (K + 1) 30) := by rw [rs30]; exact less_ok
theorem i_ownN (K : Nat) : NfP (run (K + 3) 32) := fun x h1 h2 => i_own K h1 h2
theorem i_fat (K : Nat) : FatP (run (K + 4) 34) := by rw [rs34]; exact fat_ok (i_ladd (K + 1)) (i_lmul (K + 1)) (i_ownN K)
theorem i_left (K : Nat) : LeftP (run (K + 3) 35) := by rw [rs35]; exact left_ok (i_ladd K) (i_lsub K)
theorem i_of (K : Nat) (b : Int) : OfP (run (K + 2) 24) b := by rw [rs24]; exact of_ok (take_P K b)
theorem i_much (K : Nat) (b : Int) : MuchP (run (K + 3) 33) b := by rw [rs33]; exact much_ok (i_of K b)
theorem i_form (K : Nat) (b : Int) : FormP (run (K + 4) 36) b := by rw [rs36]; exact form_ok (i_of (K + 1) b) (i_much K b) (i_lmul (K + 1)) (i_lsub (K + 1))
theorem i_undf (K : Nat) : UndF (run (K + 3) 37) := by rw [rs37]; exact undf_ok (i_lsub K)
theorem i_made (K : Nat) (b : Int) : MadeP (run (K + 5) 38) b := by rw [rs38]; exact made_ok (take_P (K + 3) b) (i_form K b) (i_undf (K + 1))
theorem same_fl (K : Nat) {ks : List Int} (hl : ks.length ≤ 9000) : run (K + 4) 26 [.imm (.tuple (fl ks)), .imm (.tuple (fl ks))] = some (.imm (.bool true), [none, none]) := by
  refine same_ok (K + 3) _ ?_
  show (decide ((fl ks).length ≤ 10000) && (fl ks).all (smD (K + 2))) = true
  rw [decide_eq_true (by rw [List.length_map]; omega), Bool.true_and, List.all_eq_true]
  intro x hx
  obtain ⟨k, _, rfl⟩ := List.mem_map.mp hx
  exact sm_f36 (K + 1) k
theorem right_calls (b : Int) : Rc (run 58) b where
  take := take_P 57 b
  made := i_made 53 b
  left := i_left 55
  sat := i_sat 53
  fat := i_fat 54
  lowP := i_low 57
  lowN := i_lowN 57
  less := i_less 57
  lst := fun F h => lists_for 53 h
  same := fun ks h => same_fl 54 h
theorem law_calls : LawP (run 59) := ⟨hand_ok, fun ns h => by rw [rs23]; exact cells_ok ns h, fun ms k h1 h2 => by rw [rs21]; exact box_ok h1 h2, fun a b c h1 h2 => by rw [rs39]; exact right_ok (right_calls b) h1 h2⟩
theorem law_true (ns : List Int) (hl : ns.length ≤ 63) : ∃ os, run 60 41 [.imm (.dict (ns.map fun n => (.int n, .none)))] = some (.imm (.bool true), os) := ⟨[none], by rw [rs41]; exact law_gen law_calls ns hl⟩
end K46

open PySem PySem.W PyProof.Rows
set_option maxHeartbeats 0 in
theorem PySem.Challenge.cw_everychange_k46_whole_form_rows_alike_fo_holds : PySem.Challenge.rw_everychange_k46_whole_form_rows_alike_fo.Holds := by
  w_on; o_law; k_head; (case hw => w_witness2)
  k_fill
  refine L2.walk_of (l := PySem.Challenge.rw_everychange_k46_whole_form_rows_alike_fo) (n := 63) (k := 60) (x := "_law_script") (CX := fun _ => L2.CX0) (sp := fun w => Vi.spD _ 1 (K46.run 60 41)) rfl (by decide) rfl ⟨rfl, by decide, by decide⟩ (fun w h Y => PySem.W.kIn_of Y) ?F (fun _ _ a ns hl _ hS => Vi.law_sp hS (K46.law_true ns hl)) (fun _ _ _ _ _ h => h)
  case F =>
    intro w mg fa h KX G hmg
    refine' K46.all_mk KX G hmg ?a5 ?l5 ?c5 ?k5 ?a6 ?l6 ?c6 ?k6 ?a7 ?l7 ?c7 ?k7 ?a8 ?l8 ?c8 ?k8 ?a9 ?l9 ?c9 ?k9 ?a10 ?l10 ?c10 ?k10 ?a12 ?l12 ?c12 ?k12 ?a13 ?l13 ?c13 ?k13 ?a14 ?l14 ?c14 ?k14 ?a15 ?l15 ?c15 ?k15 ?a17 ?l17 ?c17 ?k17 ?a18 ?l18 ?c18 ?k18 ?a19 ?l19 ?c19 ?k19 ?a21 ?l21 ?c21 ?k21 ?a22 ?l22 ?c22 ?k22 ?a23 ?l23 ?c23 ?k23 ?a24 ?l24 ?c24 ?k24 ?a25 ?l25 ?c25 ?k25 ?a26 ?l26 ?c26 ?k26 ?a27 ?l27 ?c27 ?k27 ?a28 ?l28 ?c28 ?k28 ?a29 ?l29 ?c29 ?k29 ?a30 ?l30 ?c30 ?k30 ?a31 ?l31 ?c31 ?k31 ?a32 ?l32 ?c32 ?k32 ?a33 ?l33 ?c33 ?k33 ?a34 ?l34 ?c34 ?k34 ?a35 ?l35 ?c35 ?k35 ?a36 ?l36 ?c36 ?k36 ?a37 ?l37 ?c37 ?k37 ?a38 ?l38 ?c38 ?k38 ?a39 ?l39 ?c39 ?k39 ?a40 ?l40 ?c40 ?k40 ?a41 ?l41 ?c41 ?k41 ?m_ZERO ?k_ZERO ?f_gcd ?f_lcm ?z_abs ?z_all ?z_bool ?z_enumerate ?z_int ?z_isinstance ?z_len ?z_list ?z_max ?z_min ?z_range ?z_reversed ?z_set ?z_sorted ?z_str ?z_tuple ?z_zip
    (case a5 => k_is); (case l5 => k_is); (case c5 => k_is); (case k5 => k_is); (case a6 => k_is); (case l6 => k_is); (case c6 => k_is); (case k6 => k_is); (case a7 => k_is); (case l7 => k_is); (case c7 => k_is); (case k7 => k_is); (case a8 => k_is); (case l8 => k_is); (case c8 => k_is); (case k8 => k_is); (case a9 => k_is); (case l9 => k_is); (case c9 => k_is); (case k9 => k_is); (case a10 => k_is); (case l10 => k_is); (case c10 => k_is); (case k10 => k_is); (case a12 => k_is); (case l12 => k_is); (case c12 => k_is); (case k12 => k_is); (case a13 => k_is); (case l13 => k_is); (case c13 => k_is); (case k13 => k_is); (case a14 => k_is); (case l14 => k_is); (case c14 => k_is); (case k14 => k_is); (case a15 => k_is); (case l15 => k_is); (case c15 => k_is); (case k15 => k_is); (case a17 => k_is); (case l17 => k_is); (case c17 => k_is); (case k17 => k_is); (case a18 => k_is); (case l18 => k_is); (case c18 => k_is); (case k18 => k_is); (case a19 => k_is); (case l19 => k_is); (case c19 => k_is); (case k19 => k_is); (case a21 => k_is); (case l21 => k_is); (case c21 => k_is); (case k21 => k_is); (case a22 => k_is); (case l22 => k_is); (case c22 => k_is); (case k22 => k_is); (case a23 => k_is); (case l23 => k_is); (case c23 => k_is); (case k23 => k_is); (case a24 => k_is); (case l24 => k_is); (case c24 => k_is); (case k24 => k_is); (case a25 => k_is); (case l25 => k_is); (case c25 => k_is); (case k25 => k_is); (case a26 => k_is); (case l26 => k_is); (case c26 => k_is); (case k26 => k_is); (case a27 => k_is); (case l27 => k_is); (case c27 => k_is); (case k27 => k_is); (case a28 => k_is); (case l28 => k_is); (case c28 => k_is); (case k28 => k_is); (case a29 => k_is); (case l29 => k_is); (case c29 => k_is); (case k29 => k_is); (case a30 => k_is); (case l30 => k_is); (case c30 => k_is); (case k30 => k_is); (case a31 => k_is); (case l31 => k_is); (case c31 => k_is); (case k31 => k_is); (case a32 => k_is); (case l32 => k_is); (case c32 => k_is); (case k32 => k_is); (case a33 => k_is); (case l33 => k_is); (case c33 => k_is); (case k33 => k_is); (case a34 => k_is); (case l34 => k_is); (case c34 => k_is); (case k34 => k_is); (case a35 => k_is); (case l35 => k_is); (case c35 => k_is); (case k35 => k_is); (case a36 => k_is); (case l36 => k_is); (case c36 => k_is); (case k36 => k_is); (case a37 => k_is); (case l37 => k_is); (case c37 => k_is); (case k37 => k_is); (case a38 => k_is); (case l38 => k_is); (case c38 => k_is); (case k38 => k_is); (case a39 => k_is); (case l39 => k_is); (case c39 => k_is); (case k39 => k_is); (case a40 => k_is); (case l40 => k_is); (case c40 => k_is); (case k40 => k_is); (case a41 => k_is); (case l41 => k_is); (case c41 => k_is); (case k41 => k_is); (case m_ZERO => k_is); (case k_ZERO => k_is); (case f_gcd => k_is); (case f_lcm => k_is); (case z_abs => k_is); (case z_all => k_is); (case z_bool => k_is); (case z_enumerate => k_is); (case z_int => k_is); (case z_isinstance => k_is); (case z_len => k_is); (case z_list => k_is); (case z_max => k_is); (case z_min => k_is); (case z_range => k_is); (case z_reversed => k_is); (case z_set => k_is); (case z_sorted => k_is); (case z_str => k_is); (case z_tuple => k_is); (case z_zip => k_is)

