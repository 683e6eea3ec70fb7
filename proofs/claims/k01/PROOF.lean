import PyProof.Rows.All
import Wide.All
import OpenK.AllK
import Wide.FinOn
import HandS.ForMost
import HandS.Deep
import HandS.TupAny
import HandS.IsInst
import HandS.Flow
import HandS.Zip
import HandS.Wide
import HandS.Walk
import HandS.TupMul
import KE.SortData
import KE.DataCmp
import KE.KeyNested
import KE.GoesMore
import HandS.Style
import HandS.Gcd
import HandS.Rev
import HandS.Iter
import KE.DataMinMax
import PyProof.Claim2Refuses
import HandS.Conv
import HandS.TupSets
import HandS.Sort
import HandS.SetFor
import HandS.Strs
import KE.KMathGC
import KE.KDictKeyed
import KE.KDictDisplayH
import KE.KDictCopyH
import KE.KDictSum
import PySem.Challenge.RW_everychange_k01_things_that_are_tables_o
set_option Elab.async false
set_option linter.all false
set_option maxRecDepth 100000
set_option maxHeartbeats 4000000
namespace Vi
open PySem PySem.Spec PyProof.Rows L2

abbrev D := PyData
abbrev Mset := Addr → Prop
abbrev St := L2.St

/-- a tuple that stays -/
def TupAt (K : PySem.W.Frag) (H : Hp) (M : Mset) (a : Addr) (xs : List V) : Prop :=
  (Rd H a (.tup xs) ∧ ¬ M a) ∨
    ∃ (o : Obj) (its : Array Value) (n : Nat), K.lookup a = some o ∧ o.cls = .type "tuple" ∧ o.data = .seq its n ∧ its.size ≤ sizeLine ∧ Vals xs its.toList
theorem TupAt.sq {K : PySem.W.Frag} {H : Hp} {M : Mset} {a : Addr} {xs : List V} (h : TupAt K H M a xs) : SqT K H a xs := by
  rcases h with ⟨h, _⟩ | h
  · exact .inl h
  · exact .inr h

/-- a list that stays, of the module's own too (the script) -/
def LstAt (K : PySem.W.Frag) (H : Hp) (M : Mset) (a : Addr) (xs : List V) : Prop :=
  (Rd H a (.lst xs) ∧ ¬ M a) ∨
    ∃ (o : Obj) (its : Array Value) (n : Nat), K.lookup a = some o ∧ o.cls = .type "list" ∧ o.dict = none ∧ o.data = .seq its n ∧ its.size ≤ sizeLine ∧ Vals xs its.toList
theorem LstAt.sq {K : PySem.W.Frag} {H : Hp} {M : Mset} {a : Addr} {xs : List V} (h : LstAt K H M a xs) : SqL K H a xs := by
  rcases h with ⟨h, _⟩ | h
  · exact .inl h
  · exact .inr h

mutual
inductive Rep (K : PySem.W.Frag) (H : Hp) (M : Mset) : V → D → Prop
  | non : Rep K H M .non .none
  | bl (b : Bool) : Rep K H M (.bl b) (.bool b)
  | int (i : Int) : Rep K H M (.int i) (.int i)
  | str (x : Str) : Rep K H M (.str x) (.str x)
  | lst {a : Addr} {xs : List V} {ds : List D} : Rd H a (.lst xs) → ¬ M a → Reps K H M xs ds → Rep K H M (.ref a) (.list ds)
  | tup {a : Addr} {xs : List V} {ds : List D} : TupAt K H M a xs → Reps K H M xs ds → Rep K H M (.ref a) (.tuple ds)
  | scr {a : Addr} {xs : List V} {kvs : List (D × D)} : LstAt K H M a xs → Reps K H M xs (kvs.map Prod.fst) → Rep K H M (.ref a) (.dict kvs)
inductive Reps (K : PySem.W.Frag) (H : Hp) (M : Mset) : List V → List D → Prop
  | nil : Reps K H M [] []
  | cons {v : V} {vs : List V} {d : D} {ds : List D} : Rep K H M v d → Reps K H M vs ds → Reps K H M (v :: vs) (d :: ds)
end

section
variable {K : PySem.W.Frag} {H H' : Hp} {M M' : Mset}
mutual
theorem Rep.tr (t : ∀ a u, Rd H a u → ¬ M a → Rd H' a u ∧ ¬ M' a) : ∀ {v : V} {d : D}, Rep K H M v d → Rep K H' M' v d
  | _, _, .non => .non
  | _, _, .bl b => .bl b
  | _, _, .int i => .int i
  | _, _, .str x => .str x
  | _, _, .lst h n r => .lst (t _ _ h n).1 (t _ _ h n).2 (Reps.tr t r)
  | _, _, .tup h r => .tup (by
      rcases h with ⟨h, n⟩ | h
      · exact .inl (t _ _ h n)
      · exact .inr h) (Reps.tr t r)
  | _, _, .scr h r => .scr (by
      rcases h with ⟨h, n⟩ | h
      · exact .inl (t _ _ h n)
      · exact .inr h) (Reps.tr t r)
theorem Reps.tr (t : ∀ a u, Rd H a u → ¬ M a → Rd H' a u ∧ ¬ M' a) : ∀ {vs : List V} {ds : List D}, Reps K H M vs ds → Reps K H' M' vs ds
  | _, _, .nil => .nil
  | _, _, .cons h r => .cons (Rep.tr t h) (Reps.tr t r)
end
mutual
theorem Rep.dp : ∀ {v : V} {d : D}, Rep K H M v d → d.canLay0 = true → Dp K H v d
  | _, _, .non, _ => .non
  | _, _, .bl b, _ => .bl b
  | _, _, .int i, _ => .int i
  | _, _, .str x, _ => .str x
  | _, _, .lst h n r, c => .lst (.inl h) (Reps.dp r (by simpa [PyData.canLay0] using c))
  | _, _, .tup h r, c => .tup h.sq (Reps.dp r (by simpa [PyData.canLay0] using c))
  | _, _, .scr h r, c => by simp [PyData.canLay0] at c
theorem Reps.dp : ∀ {vs : List V} {ds : List D}, Reps K H M vs ds → PyData.canLayAll0 ds = true → DpAll K H vs ds
  | _, _, .nil, _ => .nil
  | _, _, .cons h r, c => .cons (Rep.dp h (by simp [PyData.canLayAll0] at c; exact c.1)) (Reps.dp r (by simp [PyData.canLayAll0] at c; exact c.2))
end
theorem Rep.smaller (h : ∀ a, M' a → M a) {v : V} {d : D} (r : Rep K H M v d) : Rep K H M' v d := r.tr fun a u q n => ⟨q, fun z => n (h a z)⟩
theorem Reps.smaller (h : ∀ a, M' a → M a) {v : List V} {d : List D} (r : Reps K H M v d) : Reps K H M' v d := r.tr fun a u q n => ⟨q, fun z => n (h a z)⟩
theorem Reps.length : ∀ {vs : List V} {ds : List D}, Reps K H M vs ds → vs.length = ds.length
  | _, _, .nil => rfl
  | _, _, .cons _ r => by rw [List.length_cons, List.length_cons, Reps.length r]
theorem Reps.append : ∀ {vs ws : List V} {ds es : List D}, Reps K H M vs ds → Reps K H M ws es → Reps K H M (vs ++ ws) (ds ++ es)
  | _, _, _, _, .nil, s => s
  | _, _, _, _, .cons h r, s => .cons h (Reps.append r s)
theorem Reps.get : ∀ {vs : List V} {ds : List D} {i : Nat} {d : D}, Reps K H M vs ds → ds[i]? = some d → ∃ v, vs[i]? = some v ∧ Rep K H M v d
  | _, _, _, _, .nil, e => by simp at e
  | _, _, 0, _, .cons h r, e => by simp at e; subst e; exact ⟨_, rfl, h⟩
  | _, _, i + 1, d, .cons h r, e => by
    obtain ⟨v, h1, h2⟩ := Reps.get (i := i) (d := d) r (by simpa using e)
    exact ⟨v, by simpa using h1, h2⟩
theorem Reps.getV : ∀ {vs : List V} {ds : List D} {i : Nat} {v : V}, Reps K H M vs ds → vs[i]? = some v → ∃ d, ds[i]? = some d ∧ Rep K H M v d
  | _, _, _, _, .nil, e => by simp at e
  | _, _, 0, _, .cons h r, e => by simp at e; subst e; exact ⟨_, rfl, h⟩
  | _, _, i + 1, v, .cons h r, e => by
    obtain ⟨d, h1, h2⟩ := Reps.getV (i := i) (v := v) r (by simpa using e)
    exact ⟨d, by simpa using h1, h2⟩
theorem Reps.take : ∀ {vs : List V} {ds : List D} (n : Nat), Reps K H M vs ds → Reps K H M (vs.take n) (ds.take n)
  | _, _, 0, _ => by simp; exact .nil
  | _, _, _ + 1, .nil => .nil
  | _, _, n + 1, .cons h r => .cons h (Reps.take n r)
theorem Reps.drop : ∀ {vs : List V} {ds : List D} (n : Nat), Reps K H M vs ds → Reps K H M (vs.drop n) (ds.drop n)
  | _, _, 0, r => r
  | _, _, _ + 1, .nil => .nil
  | _, _, n + 1, .cons h r => Reps.drop n r
theorem Reps.set : ∀ {vs : List V} {ds : List D} (i : Nat) {v : V} {d : D}, Reps K H M vs ds → Rep K H M v d → Reps K H M (vs.set i v) (ds.set i d)
  | _, _, _, _, _, .nil, _ => .nil
  | _, _, 0, _, _, .cons _ r, q => .cons q r
  | _, _, i + 1, _, _, .cons h r, q => .cons h (Reps.set i r q)
theorem Reps.erase : ∀ {vs : List V} {ds : List D} (i : Nat), Reps K H M vs ds → Reps K H M (vs.eraseIdx i) (ds.eraseIdx i)
  | _, _, _, .nil => .nil
  | _, _, 0, .cons _ r => r
  | _, _, i + 1, .cons h r => .cons h (Reps.erase i r)
theorem Reps.rep {vs : List V} {ds : List D} (h : Reps K H M vs ds) : ∀ k : Nat, Reps K H M (List.replicate k vs).flatten (List.replicate k ds).flatten
  | 0 => .nil
  | k + 1 => by
    rw [List.replicate_succ, List.replicate_succ, List.flatten_cons, List.flatten_cons]
    exact Reps.append h (Reps.rep h k)
end

/-! ### what a def's names hold -/
/-- a local list, a parameter's list, a dict (its keys and values in turn) -/
inductive Kd where
  | loc | par | dic
def Kd.isL : Kd → Bool
  | .dic => false
  | _ => true
inductive Sv where
  | imm (d : D)
  | own (pin : Kd) (ds : List D)
abbrev Fm := List (Option Sv)
/-! the keys that a dict of this layer may have: tuples of whole numbers, and of such tuples -/
mutual
def keyOf : D → NestedKey
  | .int i => .num i
  | .tuple ds => .tup (keysOf ds)
  | _ => .none
def keysOf : List D → List NestedKey
  | [] => []
  | d :: ds => keyOf d :: keysOf ds
end
def keyOkN : Nat → D → Bool
  | _, .int _ => true
  | n + 1, .tuple ds => ds.all (keyOkN n)
  | _, _ => false
def keyOk : D → Bool
  | .tuple ds => keyOkN 8 (.tuple ds)
  | _ => false
/-- the keys -/
def dKeys : List D → List D
  | k :: _ :: r => k :: dKeys r
  | _ => []
/-- keys and values in turn: what stands in the dict's table -/
inductive Ents : List DictEntry → List V → List D → Prop
  | nil : Ents [] [] []
  | cons {e : DictEntry} {es : List DictEntry} {b : Addr} {v : V} {vs : List V} {kd d : D} {ds : List D} : keyOk kd = true → (∀ w, e.hash = (keyOf kd).hash w) → e.key = .ref b → RelV v e.val → Ents es vs ds → Ents (e :: es) (.ref b :: v :: vs) (kd :: d :: ds)
def dicO (a : Addr) (vs : List V) (ds : List D) : HO := .ext fun h => ∃ o es ep, h.get? a = some o ∧ o.ExactDict ∧ o.data = .dict es ep ∧ Ents es.toList vs ds ∧ ((dKeys ds).map keyOf).Nodup ∧ (a == sysModules) = false
def cell : Kd → Addr → List V → List D → HO
  | .dic, a, vs, ds => dicO a vs ds
  | _, _, vs, _ => .lst vs

theorem cell_lst {b : Kd} (hb : b.isL = true) {a : Addr} {vs : List V} {ds : List D} : cell b a vs ds = .lst vs := by cases b <;> first | rfl | cases hb
/-- from one world to a later one: what is fixed stays -/
structure Ext (O : Mset) (H : Hp) (M : Mset) (H' : Hp) (M' : Mset) : Prop where
  keep : ∀ a o, H a = some o → (O a ∨ ¬ M a) → H' a = some o
  sub : ∀ a, O a → M' a
  new : ∀ a, M' a → M a ∨ H a = none
theorem Ext.trans {O : Mset} {H H1 H2 : Hp} {M M1 M2 : Mset} (a : Ext O H M H1 M1) (b : Ext O H1 M1 H2 M2) : Ext O H M H2 M2 := by
  refine ⟨fun x o e h => ?_, b.sub, fun x h => ?_⟩
  · have e1 := a.keep x o e h
    refine b.keep x o e1 ?_
    rcases h with h | h
    · exact .inl h
    · refine .inr fun z => ?_
      rcases a.new x z with q | q
      · exact h q
      · rw [e] at q; cases q
  · rcases b.new x h with q | q
    · exact a.new x q
    · cases e : H x with
      | none => exact .inr rfl
      | some o =>
        refine .inl (Classical.byContradiction fun n => ?_)
        have := a.keep x o e (.inr n)
        rw [this] at q; cases q
theorem Ext.less {O O' : Mset} {H H1 : Hp} {M M1 : Mset} (a : Ext O H M H1 M1) (h : ∀ x, O' x → O x) : Ext O' H M H1 M1 :=
  ⟨fun x o e q => a.keep x o e (q.imp (h x) id), fun x q => a.sub x (h x q), a.new⟩
theorem Ext.tr {O : Mset} {H H' : Hp} {M M' : Mset} (x : Ext O H M H' M') : ∀ a u, Rd H a u → ¬ M a → Rd H' a u ∧ ¬ M' a := fun a u h n => by
  refine ⟨?_, fun z => ?_⟩
  · rcases h with h | ⟨o, h⟩
    · exact .inl (x.keep a _ h (.inr n))
    · exact .inr ⟨o, x.keep a _ h (.inr n)⟩
  · rcases x.new a z with q | q
    · exact n q
    · rcases h with h | ⟨o, h⟩ <;> (rw [h] at q; cases q)

structure SR (K : PySem.W.Frag) (H : Hp) (M O : Mset) (π : Nat → Option Addr) (ρ : Fm) (σ : St) : Prop where
  len : ρ.length = σ.length
  sub : ∀ a, O a → M a
  live : ∀ a, M a → H a ≠ none
  imm : ∀ (i : Nat) (d : D), ρ[i]? = some (some (.imm d)) → ∃ v, σ[i]? = some (some v) ∧ Rep K H M v d
  own : ∀ (i : Nat) (b : Kd) (ds : List D), ρ[i]? = some (some (.own b ds)) → ∃ a vs, σ[i]? = some (some (.ref a)) ∧ H a = some (cell b a vs ds) ∧ M a ∧ ¬ O a ∧ Reps K H M vs ds ∧ (b = .par → π i = some a)
  uniq : ∀ (i j : Nat) (b c : Kd) (ds es : List D) (a : Addr), i ≠ j → ρ[i]? = some (some (.own b ds)) → ρ[j]? = some (some (.own c es)) → σ[i]? = some (some (.ref a)) → σ[j]? ≠ some (some (.ref a))

theorem Ext.refl {K : PySem.W.Frag} {H : Hp} {M O : Mset} {π : Nat → Option Addr} {ρ : Fm} {σ : St} (h : SR K H M O π ρ σ) : Ext O H M H M := ⟨fun _ _ e _ => e, h.sub, fun _ q => .inl q⟩

section
variable {K : PySem.W.Frag} {H H' : Hp} {M M' O : Mset} {π : Nat → Option Addr} {ρ ρ' : Fm} {σ : St}
/-- a new object, not owned by a name -/
theorem SR.alloc (h : SR K H M O π ρ σ) {p : Addr} {o : HO} (hp : H p = none) : SR K (upd H p o) M O π ρ σ := by
  have ne : ∀ a, M a → a ≠ p := fun a q z => h.live a q (by rw [z]; exact hp)
  have ne2 : ∀ {a : Addr} {u : HO}, H a = some u → a ≠ p := fun e z => by rw [z, hp] at e; cases e
  have t : ∀ a u, Rd H a u → ¬ M a → Rd (upd H p o) a u ∧ ¬ M a := fun a u q n => by
    refine ⟨?_, n⟩
    rcases q with q | ⟨o', q⟩
    · exact .inl (by rw [upd_ne (ne2 q)]; exact q)
    · exact .inr ⟨o', by rw [upd_ne (ne2 q)]; exact q⟩
  refine ⟨h.len, h.sub, fun a q => by rw [upd_ne (ne a q)]; exact h.live a q, fun i d e => ?_, fun i b ds e => ?_, h.uniq⟩
  · obtain ⟨v, e1, r⟩ := h.imm i d e
    exact ⟨v, e1, r.tr t⟩
  · obtain ⟨a, vs, e1, e2, e3, e4, r, e5⟩ := h.own i b ds e
    exact ⟨a, vs, e1, by rw [upd_ne (ne2 e2)]; exact e2, e3, e4, r.tr t, e5⟩
theorem Ext.alloc (h : SR K H M O π ρ σ) {p : Addr} {o : HO} (hp : H p = none) : Ext O H M (upd H p o) M :=
  ⟨fun a u e _ => by rw [upd_ne (fun z => by rw [z, hp] at e; cases e)]; exact e, h.sub, fun _ q => .inl q⟩
/-- M with p -/
def wth (M : Mset) (p : Addr) : Mset := fun a => M a ∨ a = p
/-- M without p -/
def wo (M : Mset) (p : Addr) : Mset := fun a => M a ∧ a ≠ p
theorem SR.allocOwn (h : SR K H M O π ρ σ) {p : Addr} {o : HO} (hp : H p = none) : SR K (upd H p o) (wth M p) O π ρ σ := by
  have ne2 : ∀ {a : Addr} {u : HO}, H a = some u → a ≠ p := fun e z => by rw [z, hp] at e; cases e
  have t : ∀ a u, Rd H a u → ¬ M a → Rd (upd H p o) a u ∧ ¬ wth M p a := fun a u q n => by
    rcases q with q | ⟨o', q⟩
    · exact ⟨.inl (by rw [upd_ne (ne2 q)]; exact q), fun z => z.elim n (ne2 q)⟩
    · exact ⟨.inr ⟨o', by rw [upd_ne (ne2 q)]; exact q⟩, fun z => z.elim n (ne2 q)⟩
  refine ⟨h.len, fun a q => .inl (h.sub a q), fun a q => ?_, fun i d e => ?_, fun i b ds e => ?_, h.uniq⟩
  · rcases q with q | rfl
    · rw [upd_ne (fun z => h.live a q (by rw [z]; exact hp))]; exact h.live a q
    · rw [upd_same]; intro z; cases z
  · obtain ⟨v, e1, r⟩ := h.imm i d e
    exact ⟨v, e1, r.tr t⟩
  · obtain ⟨a, vs, e1, e2, e3, e4, r, e5⟩ := h.own i b ds e
    exact ⟨a, vs, e1, by rw [upd_ne (ne2 e2)]; exact e2, .inl e3, e4, r.tr t, e5⟩
theorem Ext.allocOwn (h : SR K H M O π ρ σ) {p : Addr} {o : HO} (hp : H p = none) : Ext O H M (upd H p o) (wth M p) :=
  ⟨fun a u e _ => by rw [upd_ne (fun z => by rw [z, hp] at e; cases e)]; exact e, fun a q => .inl (h.sub a q), fun a q => q.imp id (fun z => by rw [z]; exact hp)⟩
theorem SR.less (h : SR K H M O π ρ σ) {O' : Mset} (q : ∀ a, O' a → O a) : SR K H M O' π ρ σ :=
  ⟨h.len, fun a z => h.sub a (q a z), h.live, h.imm, fun i b ds e => let ⟨a, vs, e1, e2, e3, e4, r⟩ := h.own i b ds e; ⟨a, vs, e1, e2, e3, fun z => e4 (q a z), r⟩, h.uniq⟩
/-- one more that is held -/
theorem SR.more (h : SR K H M O π ρ σ) {O' : Mset} (q : ∀ a, O' a → M a) (n : ∀ (i : Nat) (b : Kd) (ds : List D) (a : Addr), ρ[i]? = some (some (.own b ds)) → σ[i]? = some (some (.ref a)) → ¬ O' a) : SR K H M O' π ρ σ :=
  ⟨h.len, q, h.live, h.imm, fun i b ds e => let ⟨a, vs, e1, e2, e3, e4, r⟩ := h.own i b ds e; ⟨a, vs, e1, e2, e3, n i b ds a e e1, r⟩, h.uniq⟩
end

/-! ### what an expression hands on -/
inductive PR where
  | val (s : Sv)
  | slot (i : Nat)
def Apart (ρ : Fm) (σ : St) (p : Addr) : Prop := ∀ (i : Nat) (b : Kd) (ds : List D), ρ[i]? = some (some (.own b ds)) → σ[i]? ≠ some (some (.ref p))
def RP (K : PySem.W.Frag) (H : Hp) (M O : Mset) (ρ : Fm) (σ : St) : PR → V → Prop
  | .val (.imm d), v => Rep K H M v d
  | .val (.own b ds), v => ∃ p vs, v = .ref p ∧ H p = some (cell b p vs ds) ∧ M p ∧ ¬ O p ∧ Reps K H M vs ds ∧ Apart ρ σ p
  | .slot i, v => σ[i]? = some (some v)
/-- what is held of it while something else is reckoned -/
def hold (O : Mset) : PR → V → Mset
  | .val (.own _ _), .ref p => wth O p
  | _, _ => O
theorem hold_le (O : Mset) (pr : PR) (v : V) : ∀ a, O a → hold O pr v a := fun a q => by
  unfold hold
  split
  · exact .inl q
  · exact q
section
variable {K : PySem.W.Frag} {H H' : Hp} {M M' O O' : Mset} {π : Nat → Option Addr} {ρ ρ' : Fm} {σ : St} {pr : PR} {v : V}
theorem SR.hold (h : SR K H M O π ρ σ) (r : RP K H M O ρ σ pr v) : SR K H M (hold O pr v) π ρ σ := by
  unfold Vi.hold
  split
  · obtain ⟨p, vs, e, e1, e2, e3, e4, e5⟩ := r
    cases e
    refine h.more (fun a q => ?_) fun i b ds a e6 e7 z => ?_
    · rcases q with q | rfl
      · exact h.sub a q
      · exact e2
    · rcases z with z | rfl
      · obtain ⟨a', _, f1, _, _, f2, _⟩ := h.own i b ds e6
        rw [e7] at f1; cases f1; exact f2 z
      · exact e5 i b ds e6 e7
  · exact h
theorem RP.held (r : RP K H M O ρ σ pr v) (x : Ext (hold O pr v) H M H' M') (h : SR K H' M' (hold O pr v) π ρ' σ) : RP K H' M' O ρ' σ pr v := by
  match pr, v, r with
  | .val (.imm d), v, r => exact Rep.tr x.tr r
  | .slot i, v, r => exact r
  | .val (.own b ds), v, ⟨p, vs, e, e1, e2, e3, e4, e5⟩ =>
    subst e
    refine ⟨p, vs, rfl, x.keep p _ e1 (.inl (.inr rfl)), x.sub p (.inr rfl), e3, Reps.tr x.tr e4, fun i b ds e6 e7 => ?_⟩
    obtain ⟨a, _, f1, _, _, f2, _⟩ := h.own i b ds e6
    rw [e7] at f1; cases f1
    exact f2 (.inr rfl)
theorem RP.less (r : RP K H M O ρ σ pr v) (q : ∀ a, O' a → O a) : RP K H M O' ρ σ pr v := by
  match pr, v, r with
  | .val (.imm d), v, r => exact r
  | .slot i, v, r => exact r
  | .val (.own b ds), v, ⟨p, vs, e, e1, e2, e3, e4, e5⟩ => exact ⟨p, vs, e, e1, e2, fun z => e3 (q p z), e4, e5⟩
end

/-- how a value is looked at -/
def VW (K : PySem.W.Frag) (H : Hp) (M : Mset) (v : V) (d : D) : Prop :=
  match d with
  | .list ds => ∃ a vs, v = .ref a ∧ Rd H a (.lst vs) ∧ Reps K H M vs ds
  | d => Rep K H M v d
def Sv.toD : Sv → D
  | .imm d => d
  | .own _ ds => .list ds
def peek (ρ : Fm) : PR → Option D
  | .val (.own .dic _) => none
  | .val s => some s.toD
  | .slot i => match ρ[i]? with
    | some (some (.own .dic _)) => none
    | some (some s) => some s.toD
    | _ => none
def frz (ρ : Fm) : PR → Option (D × Fm)
  | .val (.own .dic _) => none
  | .val s => some (s.toD, ρ)
  | .slot i => match ρ[i]? with
    | some (some (.imm d)) => some (d, ρ)
    | some (some (.own .loc ds)) => some (.list ds, ρ.set i (some (.imm (.list ds))))
    | _ => none
section
variable {K : PySem.W.Frag} {H H' : Hp} {M M' O O' : Mset} {π : Nat → Option Addr} {ρ ρ' : Fm} {σ : St} {pr : PR} {v : V} {d : D}
theorem VW.of (r : Rep K H M v d) : VW K H M v d := by
  cases r with
  | lst h n r => exact ⟨_, _, rfl, h, r⟩
  | non => exact .non
  | bl b => exact .bl b
  | int i => exact .int i
  | str x => exact .str x
  | tup h r => exact .tup h r
  | scr h r => exact .scr h r
theorem VW.dp (r : VW K H M v d) (c : d.canLay0 = true) : Dp K H v d := by
  unfold VW at r
  split at r
  · obtain ⟨a, vs, rfl, h, r⟩ := r
    exact .lst (.inl h) (r.dp (by simpa [PyData.canLay0] using c))
  · exact r.dp c
theorem VW.lst {a : Addr} {vs : List V} {ds : List D} (h : H a = some (.lst vs)) (r : Reps K H M vs ds) : VW K H M (.ref a) (.list ds) := ⟨a, vs, rfl, .inl h, r⟩
theorem peek_vw (h : SR K H M O π ρ σ) (r : RP K H M O ρ σ pr v) (e : peek ρ pr = some d) : VW K H M v d := by
  match pr, v, r, e with
  | .val (.imm d'), v, r, e => cases e; exact .of r
  | .val (.own b ds), v, ⟨p, vs, e1, e2, _, _, e4, _⟩, e =>
    cases b with
    | dic => cases e
    | loc => cases e; subst e1; exact .lst e2 e4
    | par => cases e; subst e1; exact .lst e2 e4
  | .slot i, v, r, e =>
    have r' : σ[i]? = some (some v) := r
    cases hs : ρ[i]? with
    | none => unfold peek at e; simp only [hs] at e; cases e
    | some o =>
      cases o with
      | none => unfold peek at e; simp only [hs] at e; cases e
      | some s =>
        unfold peek at e
        simp only [hs] at e
        cases s with
        | imm d' =>
          cases e
          obtain ⟨w, f1, f2⟩ := h.imm i d' hs
          rw [r'] at f1; cases f1; exact .of f2
        | own b ds =>
          obtain ⟨a, vs, f1, f2, f3, f4, f5, f6⟩ := h.own i b ds hs
          rw [r'] at f1; cases f1
          cases b with
          | dic => cases e
          | loc => cases e; exact .lst f2 f5
          | par => cases e; exact .lst f2 f5
/-- M loses p, nobody's own -/
theorem SR.forget (h : SR K H M O π ρ σ) {p : Addr} (hp : ¬ O p) (ha : Apart ρ σ p) : SR K H (wo M p) O π ρ σ := by
  have sm : ∀ a, wo M p a → M a := fun a q => q.1
  refine ⟨h.len, fun a q => ⟨h.sub a q, fun z => hp (z ▸ q)⟩, fun a q => h.live a q.1, fun i d e => ?_, fun i b ds e => ?_, h.uniq⟩
  · obtain ⟨v, e1, r⟩ := h.imm i d e
    exact ⟨v, e1, r.smaller sm⟩
  · obtain ⟨a, vs, e1, e2, e3, e4, r, e5⟩ := h.own i b ds e
    exact ⟨a, vs, e1, e2, ⟨e3, fun z => ha i b ds e (z ▸ e1)⟩, e4, r.smaller sm, e5⟩
theorem Ext.forget (h : SR K H M O π ρ σ) {p : Addr} (hp : ¬ O p) : Ext O H M H (wo M p) :=
  ⟨fun _ _ e _ => e, fun a q => ⟨h.sub a q, fun z => hp (z ▸ q)⟩, fun _ q => .inl q.1⟩
theorem get_set {α : Type} {l : List α} {i j : Nat} {x y : α} (h : (l.set i x)[j]? = some y) : (j = i ∧ y = x) ∨ (j ≠ i ∧ l[j]? = some y) := by
  by_cases e : j = i
  · subst e
    rw [List.getElem?_set] at h
    split at h
    · split at h
      · cases h; exact .inl ⟨rfl, rfl⟩
      · cases h
    · exact absurd rfl (by assumption)
  · exact .inr ⟨e, by rw [List.getElem?_set_ne (Ne.symm e)] at h; exact h⟩
/-- a name's own list becomes fixed -/
theorem SR.freeze (h : SR K H M O π ρ σ) {i : Nat} {ds : List D} {a : Addr} {vs : List V} (e : ρ[i]? = some (some (.own .loc ds))) (e1 : σ[i]? = some (some (.ref a))) (e2 : H a = some (.lst vs)) (r : Reps K H M vs ds) (hO : ¬ O a) :
    SR K H (wo M a) O π (ρ.set i (some (.imm (.list ds)))) σ := by
  have sm : ∀ b, wo M a b → M b := fun b q => q.1
  refine ⟨by rw [List.length_set]; exact h.len, fun b q => ⟨h.sub b q, fun z => hO (z ▸ q)⟩, fun b q => h.live b q.1, fun j d f => ?_, fun j b es f => ?_, fun j k b c es fs x hjk f g => ?_⟩
  · rcases get_set f with ⟨hj, g⟩ | ⟨_, f⟩
    · subst hj
      cases g
      exact ⟨.ref a, e1, .lst (.inl e2) (fun z => z.2 rfl) (r.smaller sm)⟩
    · obtain ⟨v, g1, g2⟩ := h.imm j d f
      exact ⟨v, g1, g2.smaller sm⟩
  · rcases get_set f with ⟨_, g⟩ | ⟨hj, f⟩
    · cases g
    · obtain ⟨x, ws, g1, g2, g3, g4, g5, g6⟩ := h.own j b es f
      refine ⟨x, ws, g1, g2, ⟨g3, fun z => ?_⟩, g4, g5.smaller sm, g6⟩
      subst z
      exact h.uniq i j _ _ _ _ x (Ne.symm hj) e f e1 g1
  · rcases get_set f with ⟨_, z⟩ | ⟨_, f⟩
    · cases z
    · rcases get_set g with ⟨_, z⟩ | ⟨_, g⟩
      · cases z
      · exact h.uniq j k b c es fs x hjk f g
theorem frz_ok (h : SR K H M O π ρ σ) (r : RP K H M O ρ σ pr v) (e : frz ρ pr = some (d, ρ')) : ∃ M', Ext O H M H M' ∧ SR K H M' O π ρ' σ ∧ Rep K H M' v d := by
  match pr, v, r, e with
  | .val (.imm d'), v, r, e =>
    unfold frz at e; simp only [Option.some.injEq, Prod.mk.injEq] at e
    obtain ⟨rfl, rfl⟩ := e
    exact ⟨M, .refl h, h, r⟩
  | .val (.own .loc ds), v, ⟨p, vs, e1, e2, e3, e4, e5, e6⟩, e =>
    unfold frz at e; simp only [Option.some.injEq, Prod.mk.injEq] at e
    obtain ⟨rfl, rfl⟩ := e
    subst e1
    exact ⟨_, .forget h e4, h.forget e4 e6, .lst (.inl e2) (fun z => z.2 rfl) (e5.smaller fun a q => q.1)⟩
  | .val (.own .par ds), v, ⟨p, vs, e1, e2, e3, e4, e5, e6⟩, e =>
    unfold frz at e; simp only [Option.some.injEq, Prod.mk.injEq] at e
    obtain ⟨rfl, rfl⟩ := e
    subst e1
    exact ⟨_, .forget h e4, h.forget e4 e6, .lst (.inl e2) (fun z => z.2 rfl) (e5.smaller fun a q => q.1)⟩
  | .val (.own .dic ds), v, _, e => cases e
  | .slot i, v, r, e =>
    have r' : σ[i]? = some (some v) := r
    unfold frz at e
    simp only at e
    split at e
    · rename_i d' hs
      simp only [Option.some.injEq, Prod.mk.injEq] at e
      obtain ⟨rfl, rfl⟩ := e
      obtain ⟨w, f1, f2⟩ := h.imm i _ hs
      rw [r'] at f1; cases f1; exact ⟨M, .refl h, h, f2⟩
    · rename_i ds hs
      simp only [Option.some.injEq, Prod.mk.injEq] at e
      obtain ⟨rfl, rfl⟩ := e
      obtain ⟨a, vs, f1, f2, f3, f4, f5, f6⟩ := h.own i _ ds hs
      rw [r'] at f1; cases f1
      exact ⟨_, .forget h f4, h.freeze hs r' f2 f5 f4, .lst (.inl f2) (fun z => z.2 rfl) (f5.smaller fun a q => q.1)⟩
    · cases e
end

/-! ### expressions -/
abbrev ME := Fm → Option (PR × Fm)
def tE (K : PySem.W.Frag) (m : ME) : TE := fun σ H Q => ∃ ρ M O π pr ρ', SR K H M O π ρ σ ∧ m ρ = some (pr, ρ') ∧ ∀ v H' M', Ext O H M H' M' → SR K H' M' O π ρ' σ → RP K H' M' O ρ' σ pr v → Q v H'
def DE (X : Cx) (e : Expr) (m : ME) : Prop := PE X e (tE X.K m)
theorem _root_.L2.PE.imp {X : Cx} {e : Expr} {t t' : TE} (h : PE X e t) (i : ∀ σ H Q, t' σ H Q → t σ H Q) : PE X e t' := ⟨fun pins s σ H Q I q => h.run pins s σ H Q I (i σ H Q q)⟩
theorem _root_.L2.PT.imp {X : Cx} {e : Expr} {t t' : TT} (h : PT X e t) (i : ∀ σ H Q, t' σ H Q → t σ H Q) : PT X e t' := ⟨fun pins s σ H Q I q => h.run pins s σ H Q I (i σ H Q q)⟩
theorem _root_.L2.PA.imp {X : Cx} {e : List Expr} {t t' : TA} (h : PA X e t) (i : ∀ σ H Q, t' σ H Q → t σ H Q) : PA X e t' := ⟨fun pos pins s σ H Q I q => h.run pos pins s σ H Q I (i σ H Q q)⟩
theorem _root_.L2.PS.imp {X : Cx} {e : Stmt} {t t' : TS} (h : PS X e t) (i : ∀ D σ H, t' D σ H → t D σ H) : PS X e t' := ⟨fun pins s σ H D I q => h.run pins s σ H D I (i D σ H q)⟩
theorem _root_.L2.PSs.imp {X : Cx} {e : List Stmt} {t t' : TS} (h : PSs X e t) (i : ∀ D σ H, t' D σ H → t D σ H) : PSs X e t' := ⟨fun pins s σ H D I q => h.run pins s σ H D I (i D σ H q)⟩

section
variable {X : Cx} {a b : Expr} {ma mb : ME} {pos : Pos}
/-- a name -/
def mVar (i : Nat) : ME := fun ρ => match ρ[i]? with
  | some (some _) => some (.slot i, ρ)
  | _ => none
theorem SR.at {K : PySem.W.Frag} {H : Hp} {M O : Mset} {π : Nat → Option Addr} {ρ : Fm} {σ : St} (h : SR K H M O π ρ σ) {i : Nat} {s : Sv} (e : ρ[i]? = some (some s)) : ∃ v, σ[i]? = some (some v) := by
  cases s with
  | imm d => obtain ⟨v, e1, _⟩ := h.imm i d e; exact ⟨v, e1⟩
  | own b ds => obtain ⟨a, vs, e1, _⟩ := h.own i b ds e; exact ⟨_, e1⟩
theorem de_var {i : Nat} {x : Str} (h : PE X (.Name x pos) (tVar i)) : DE X (.Name x pos) (mVar i) := by
  refine PE.imp h fun σ H Q ⟨ρ, M, O, π, pr, ρ', hs, e, q⟩ => ?_
  unfold mVar at e
  split at e
  · rename_i s hs'
    simp only [Option.some.injEq, Prod.mk.injEq] at e
    obtain ⟨rfl, rfl⟩ := e
    obtain ⟨v, e1⟩ := hs.at hs'
    exact ⟨v, e1, q v H M (.refl hs) hs e1⟩
  · cases e
def mC (d : D) : ME := fun ρ => some (.val (.imm d), ρ)
/-- what is always the same value -/
theorem de_c {v : V} {d : D} {e : Expr} (h : PE X e (tC v)) (r : ∀ H M, Rep X.K H M v d) : DE X e (mC d) := by
  refine PE.imp h fun σ H Q ⟨ρ, M, O, π, pr, ρ', hs, e, q⟩ => ?_
  cases e
  exact q v H M (.refl hs) hs (r H M)
theorem de_int {i : Int} {j} : DE X (.Constant (.int i) j pos) (mC (.int i)) := de_c pe_int fun _ _ => .int i
theorem de_bl {i : Bool} {j} : DE X (.Constant (.bool i) j pos) (mC (.bool i)) := de_c pe_bl fun _ _ => .bl i
theorem de_non {j} : DE X (.Constant .none j pos) (mC .none) := de_c pe_non fun _ _ => .non
theorem de_str {x : Str} {j} : DE X (.Constant (.str x) j pos) (mC (.str x)) := de_c pe_str fun _ _ => .str x

/-! ### two-place and one-place operations -/
def bin (f : D → D → Option Sv) (ma mb : ME) : ME := fun ρ =>
  match ma ρ with
  | some (a, ρ1) => match mb ρ1 with
    | some (b, ρ2) => match peek ρ2 a, peek ρ2 b with
      | some x, some y => match f x y with
        | some r => some (.val r, ρ2)
        | none => none
      | _, _ => none
    | none => none
  | none => none
/-- the operation's rule answers to f -/
def OpS (X : Cx) (r : R2) (f : D → D → Option Sv) : Prop := ∀ {H : Hp} {M O : Mset} {π : Nat → Option Addr} {ρ : Fm} {σ : St} {v1 v2 : V} {d1 d2 : D} {res : Sv} {Q : VK}, SR X.K H M O π ρ σ → VW X.K H M v1 d1 → VW X.K H M v2 d2 → f d1 d2 = some res →
  (∀ v H' M', Ext O H M H' M' → SR X.K H' M' O π ρ σ → RP X.K H' M' O ρ σ (.val res) v → Q v H') → r v1 v2 H Q
theorem tE_bin {K : PySem.W.Frag} {f : D → D → Option Sv} {r : R2} (hs : ∀ {H : Hp} {M O : Mset} {π : Nat → Option Addr} {ρ : Fm} {σ : St} {v1 v2 : V} {d1 d2 : D} {res : Sv} {Q : VK}, SR K H M O π ρ σ → VW K H M v1 d1 → VW K H M v2 d2 → f d1 d2 = some res →
  (∀ v H' M', Ext O H M H' M' → SR K H' M' O π ρ σ → RP K H' M' O ρ σ (.val res) v → Q v H') → r v1 v2 H Q) {σ : St} {H : Hp} {Q : VK} (h : tE K (bin f ma mb) σ H Q) : tOp r (tE K ma) (tE K mb) σ H Q := by
  obtain ⟨ρ, M, O, π, pr, ρ', h0, e, q⟩ := h
  unfold bin at e
  split at e
  · rename_i a ρ1 ea
    split at e
    · rename_i b ρ2 eb
      split at e
      · rename_i x y ex ey
        split at e
        · rename_i res er
          simp only [Option.some.injEq, Prod.mk.injEq] at e
          obtain ⟨rfl, rfl⟩ := e
          refine ⟨ρ, M, O, π, a, ρ1, h0, ea, fun v1 H1 M1 x1 s1 r1 => ?_⟩
          refine ⟨ρ1, M1, Vi.hold O a v1, π, b, ρ2, s1.hold r1, eb, fun v2 H2 M2 x2 s2 r2 => ?_⟩
          have s2' := s2.less (hold_le O a v1)
          exact hs s2' (peek_vw s2' (r1.held x2 s2) ex) (peek_vw s2' (r2.less (hold_le O a v1)) ey) er fun v H' M' x3 s3 r3 => q v H' M' ((x1.trans (x2.less (hold_le O a v1))).trans x3) s3 r3
        · cases e
      · cases e
    · cases e
  · cases e
theorem de_op {op : Operator} {r : R2} {f : D → D → Option Sv} (ho : OpR X (binaryOp op) r) (hs : OpS X r f) (ha : DE X a ma) (hb : DE X b mb) : DE X (.BinOp a op b pos) (bin f ma mb) :=
  PE.imp (pe_op ho ha hb) fun σ H Q h => tE_bin hs h
theorem de_cmp {op : CmpOp} {r : R2} {f : D → D → Option Sv} (ho : OpR X (compareOp op) r) (hs : OpS X r f) (ha : DE X a ma) (hb : DE X b mb) (hm : behindInMarks op b = false) : DE X (.Compare a [op] [b] pos) (bin f ma mb) :=
  PE.imp (pe_cmpR ho ha hb hm) fun σ H Q h => tE_bin hs h
theorem de_ix {r : R2} {f : D → D → Option Sv} (ho : IxR X r) (hs : OpS X r f) (ha : DE X a ma) (hb : DE X b mb) (hp : PlainIx b) : DE X (.Subscript a b pos) (bin f ma mb) :=
  PE.imp (pe_ix ho ha hb hp) fun σ H Q h => tE_bin hs h
def un (f : D → Option Sv) (ma : ME) : ME := fun ρ =>
  match ma ρ with
  | some (a, ρ1) => match peek ρ1 a with
    | some x => match f x with
      | some r => some (.val r, ρ1)
      | none => none
    | none => none
  | none => none
def UnS (X : Cx) (r : V → Hp → VK → Prop) (f : D → Option Sv) : Prop := ∀ {H : Hp} {M O : Mset} {π : Nat → Option Addr} {ρ : Fm} {σ : St} {v1 : V} {d1 : D} {res : Sv} {Q : VK}, SR X.K H M O π ρ σ → VW X.K H M v1 d1 → f d1 = some res →
  (∀ v H' M', Ext O H M H' M' → SR X.K H' M' O π ρ σ → RP X.K H' M' O ρ σ (.val res) v → Q v H') → r v1 H Q
theorem tE_un {f : D → Option Sv} {r : V → Hp → VK → Prop} (hs : UnS X r f) {σ : St} {H : Hp} {Q : VK} (h : tE X.K (un f ma) σ H Q) : tE X.K ma σ H fun v H1 => r v H1 Q := by
  obtain ⟨ρ, M, O, π, pr, ρ', h0, e, q⟩ := h
  unfold un at e
  split at e
  · rename_i a ρ1 ea
    split at e
    · rename_i x ex
      split at e
      · rename_i res er
        simp only [Option.some.injEq, Prod.mk.injEq] at e
        obtain ⟨rfl, rfl⟩ := e
        exact ⟨ρ, M, O, π, a, ρ1, h0, ea, fun v1 H1 M1 x1 s1 r1 => hs s1 (peek_vw s1 r1 ex) er fun v H' M' x3 s3 r3 => q v H' M' (x1.trans x3) s3 r3⟩
      · cases e
    · cases e
  · cases e
theorem de_un {op : UnaryOp} {r : V → Hp → VK → Prop} {f : D → Option Sv} (ho : UnR X (unaryOp op) r) (hs : UnS X r f) (ha : DE X a ma) : DE X (.UnaryOp op a pos) (un f ma) :=
  PE.imp (pe_un ho ha) fun σ H Q h => tE_un hs h
/-- a built-in of one argument, by its name -/
theorem de_call1 {id : String} {x : Str} {p : Pos} {r : List V → Hp → VK → Prop} {f : D → Option Sv} (hc : CallR X (.builtin id) r) (hs : UnS X (fun v H Q => r [v] H Q) f) (hg : Gl X x) (hm : X.mg x = none) (hv : bootBuiltins x = some (.builtin id)) (ha : DE X a ma)
    (hn : x ≠ "__name__" := by decide) (hd : (x == ("__debug__" : Str)) = false := by decide) (he : starEach (a :: []) X.env = (false, eval a X.env) :: starEach [] X.env := by rfl) (hpl : (backTo pos (starEach [] X.env)).any (·.1) = false := by rfl) : DE X (.Call (.Name x p) [a] [] pos) (un f ma) :=
  PE.imp (pe_callB hc hg hm hv (pa_cons ha pa_nil he) hn hd he hpl) fun σ H Q h => tE_un hs h
theorem de_callT1 {T : String} {x : Str} {p : Pos} {r : List V → Hp → VK → Prop} {f : D → Option Sv} (hc : CallR X (.type T) r) (hs : UnS X (fun v H Q => r [v] H Q) f) (hg : Gl X x) (hm : X.mg x = none) (hv : bootBuiltins x = some (.type T)) (ha : DE X a ma)
    (hn : x ≠ "__name__" := by decide) (hd : (x == ("__debug__" : Str)) = false := by decide) (he : starEach (a :: []) X.env = (false, eval a X.env) :: starEach [] X.env := by rfl) (hpl : (backTo pos (starEach [] X.env)).any (·.1) = false := by rfl) : DE X (.Call (.Name x p) [a] [] pos) (un f ma) :=
  PE.imp (pe_callTy hc hg hm hv (pa_cons ha pa_nil he) hn hd he hpl) fun σ H Q h => tE_un hs h
end
end Vi

namespace Vi
open PySem PySem.Spec PyProof.Rows L2

/-! ### what stands behind an operation -/
section
variable {K : PySem.W.Frag} {H : Hp} {M O : Mset} {π : Nat → Option Addr} {ρ : Fm} {σ : St} {v : V} {Q : VK}
theorem alloc_tr (h : SR K H M O π ρ σ) {p : Addr} {o : HO} (hp : H p = none) : ∀ a u, Rd H a u → ¬ M a → Rd (upd H p o) a u ∧ ¬ M a := fun a u q n => by
  have ne2 : ∀ {a : Addr} {u : HO}, H a = some u → a ≠ p := fun e z => by rw [z, hp] at e; cases e
  refine ⟨?_, n⟩
  rcases q with q | ⟨o', q⟩
  · exact .inl (by rw [upd_ne (ne2 q)]; exact q)
  · exact .inr ⟨o', by rw [upd_ne (ne2 q)]; exact q⟩
theorem alloc_tr_own (h : SR K H M O π ρ σ) {p : Addr} {o : HO} (hp : H p = none) : ∀ a u, Rd H a u → ¬ M a → Rd (upd H p o) a u ∧ ¬ wth M p a := fun a u q n => by
  refine ⟨(alloc_tr h hp a u q n).1, fun z => z.elim n fun e => ?_⟩
  rcases q with q | ⟨o', q⟩ <;> (rw [e, hp] at q; cases q)
abbrev Post (K : PySem.W.Frag) (H : Hp) (M O : Mset) (π : Nat → Option Addr) (ρ : Fm) (σ : St) (res : Sv) (Q : VK) : Prop :=
  ∀ v H' M', Ext O H M H' M' → SR K H' M' O π ρ σ → RP K H' M' O ρ σ (.val res) v → Q v H'
theorem Post.now {d : D} (q : Post K H M O π ρ σ (.imm d) Q) (h : SR K H M O π ρ σ) (r : Rep K H M v d) : Q v H := q v H M (.refl h) h r
theorem Post.tup {ds : List D} {vs : List V} (q : Post K H M O π ρ σ (.imm (.tuple ds)) Q) (h : SR K H M O π ρ σ) (r : Reps K H M vs ds) {p : Addr} (hp : H p = none) : Q (.ref p) (upd H p (.tup vs)) :=
  q _ _ M (.alloc h hp) (h.alloc hp) (.tup (.inl ⟨.inl upd_same, fun z => h.live p z hp⟩) (r.tr (alloc_tr h hp)))
theorem Post.lst {ds : List D} {vs : List V} {b : Kd} (q : Post K H M O π ρ σ (.own b ds) Q) (h : SR K H M O π ρ σ) (r : Reps K H M vs ds) {p : Addr} (hp : H p = none) (hb : b.isL = true := by rfl) : Q (.ref p) (upd H p (.lst vs)) := by
  refine q _ _ (wth M p) (.allocOwn h hp) (h.allocOwn hp) ⟨p, vs, rfl, upd_same.trans (congrArg some (cell_lst hb).symm), .inr rfl, fun z => h.live p (h.sub p z) hp, r.tr (alloc_tr_own h hp), fun i b ds e e1 => ?_⟩
  obtain ⟨a, ws, f1, f2, _⟩ := h.own i b ds e
  rw [e1] at f1; cases f1
  rw [hp] at f2; cases f2
theorem VW.inI {i : Int} (r : VW K H M v (.int i)) : v = .int i := by cases (show Rep K H M v (.int i) from r); rfl
theorem VW.inB {i : Bool} (r : VW K H M v (.bool i)) : v = .bl i := by cases (show Rep K H M v (.bool i) from r); rfl
theorem VW.inS {i : Str} (r : VW K H M v (.str i)) : v = .str i := by cases (show Rep K H M v (.str i) from r); rfl
theorem VW.inN (r : VW K H M v .none) : v = .non := by cases (show Rep K H M v .none from r); rfl
theorem VW.inT {ds : List D} (r : VW K H M v (.tuple ds)) : ∃ a vs, v = .ref a ∧ TupAt K H M a vs ∧ Reps K H M vs ds := by
  cases (show Rep K H M v (.tuple ds) from r) with
  | tup h r => exact ⟨_, _, rfl, h, r⟩
theorem VW.inScr {kvs : List (D × D)} (r : VW K H M v (.dict kvs)) : ∃ a vs, v = .ref a ∧ LstAt K H M a vs ∧ Reps K H M vs (kvs.map Prod.fst) := by
  cases (show Rep K H M v (.dict kvs) from r) with
  | scr h r => exact ⟨_, _, rfl, h, r⟩
theorem VW.inL {ds : List D} (r : VW K H M v (.list ds)) : ∃ a vs, v = .ref a ∧ Rd H a (.lst vs) ∧ Reps K H M vs ds := r
/-- a list or a tuple -/
theorem VW.seq {d : D} {ds : List D} (r : VW K H M v d) (e : d = .list ds ∨ d = .tuple ds) : ∃ a vs, v = .ref a ∧ (SqL K H a vs ∨ SqT K H a vs) ∧ Reps K H M vs ds := by
  rcases e with rfl | rfl
  · obtain ⟨a, vs, e, h, r⟩ := r.inL
    exact ⟨a, vs, e, .inl (.inl h), r⟩
  · obtain ⟨a, vs, e, h, r⟩ := r.inT
    exact ⟨a, vs, e, .inr h.sq, r⟩
theorem rep_rep {v : V} {d : D} (r : VW K H M v d) (n : ∀ ds, d ≠ .list ds) : Rep K H M v d := by
  cases d with
  | list ds => exact absurd rfl (n ds)
  | _ => exact r
end

section
variable {X : Cx}
/-! ### + - * // % ** -/
def rCatR : R2 := fun x y H Q => ∃ l b xs zs, x = .ref l ∧ y = .ref b ∧ Rd H l (.lst xs) ∧ Rd H b (.lst zs) ∧ xs.length + zs.length ≤ sizeLine ∧ ∀ p, H p = none → Q (.ref p) (upd H p (.lst (xs ++ zs)))
theorem op_catR : OpR X (binaryOp .Add) rCatR := by
  intro pins s σ H x y v u Q I rx ry h
  obtain ⟨l, b, xs, zs, rfl, rfl, hH, hB, hz, q⟩ := h
  cases rx
  cases ry
  obtain ⟨z, its, n, r, e⟩ := hH.ok I.hok
  obtain ⟨z2, its2, n2, r2, e2⟩ := hB.ok I.hok
  have hl := r.length
  have hl2 := r2.length
  refine PySem.P.add_list e e2 ?_ (by rw [List.size_toArray, List.size_toArray]; omega)
  have ea : its.toArray ++ its2.toArray = (its ++ its2).toArray := by simp
  rw [ea]
  exact ⟨.ref _, _, I.lnew (t' := s.toks) (r.append r2) (by rw [List.length_append]; omega), rfl, q _ I.fresh⟩
def fits (n : Nat) : Bool := decide (n ≤ sizeLine)
theorem fits_le {n : Nat} (h : fits n = true) : n ≤ sizeLine := of_decide_eq_true h
def dAdd : D → D → Option Sv
  | .int i, .int j => some (.imm (.int (i + j)))
  | .tuple xs, .tuple ys => if fits (xs.length + ys.length) = true then some (.imm (.tuple (xs ++ ys))) else none
  | .list xs, .list ys => if fits (xs.length + ys.length) = true then some (.own .loc (xs ++ ys)) else none
  | .str x, .str y => if fits (x.length + y.length) = true then some (.imm (.str (x ++ y))) else none
  | _, _ => none
abbrev rAdd (X : Cx) : R2 := fun x y H Q => rI0 (fun i j => .int (i + j)) x y H Q ∨ rCatA X.K x y H Q ∨ rCatR x y H Q ∨ ∃ i j, x = .str i ∧ y = .str j ∧ i.length + j.length ≤ sizeLine ∧ Q (.str (i ++ j)) H
theorem op_addA : OpR X (binaryOp .Add) (rAdd X) := op_add.or (op_catA.or (op_catR.or op_add_str))
theorem os_add : OpS X (rAdd X) dAdd := by
  intro H M O π ρ σ v1 v2 d1 d2 res Q h r1 r2 e q
  unfold dAdd at e
  split at e
  · cases e
    cases r1.inI; cases r2.inI
    exact .inl ⟨_, _, rfl, rfl, Post.now q h (.int _)⟩
  · split at e
    · rename_i hz
      cases e
      obtain ⟨a, xs, rfl, ta, ra⟩ := r1.inT
      obtain ⟨b, ys, rfl, tb, rb⟩ := r2.inT
      refine .inr (.inl ⟨a, b, xs, ys, rfl, rfl, ta.sq, tb.sq, by rw [ra.length, rb.length]; exact fits_le hz, fun ex => ?_, fun _ ey => ?_, fun _ _ p hp => ?_⟩)
      · subst ex; cases ra; exact Post.now q h r2
      · subst ey; cases rb; exact Post.now q h (by rw [List.append_nil]; exact r1)
      · exact Post.tup q h (ra.append rb) hp
    · cases e
  · split at e
    · rename_i hz
      cases e
      obtain ⟨a, xs, rfl, ta, ra⟩ := r1.inL
      obtain ⟨b, ys, rfl, tb, rb⟩ := r2.inL
      exact .inr (.inr (.inl ⟨a, b, xs, ys, rfl, rfl, ta, tb, by rw [ra.length, rb.length]; exact fits_le hz, fun p hp => Post.lst q h (ra.append rb) hp⟩))
    · cases e
  · split at e
    · rename_i hz
      cases e
      cases r1.inS; cases r2.inS
      exact .inr (.inr (.inr ⟨_, _, rfl, rfl, fits_le hz, Post.now q h (.str _)⟩))
    · cases e
  · cases e
def dSub : D → D → Option Sv
  | .int i, .int j => some (.imm (.int (i - j)))
  | _, _ => none
theorem os_sub : OpS X (rI0 fun i j => .int (i - j)) dSub := by
  intro H M O π ρ σ v1 v2 d1 d2 res Q h r1 r2 e q
  unfold dSub at e
  split at e
  · cases e
    cases r1.inI; cases r2.inI
    exact ⟨_, _, rfl, rfl, Post.now q h (.int _)⟩
  · cases e
/-- how far products go -/
def mulOk (i j : Int) : Bool := decide (-(2 ^ 64) < i ∧ i < 2 ^ 64) || decide (-(2 ^ 64) < j ∧ j < 2 ^ 64) || decide (i.natAbs.log2 + j.natAbs.log2 < 1000000)
def rRepR : R2 := fun x y H Q => ∃ l k xs, x = .ref l ∧ y = .int k ∧ H l = some (.lst xs) ∧ -(2 ^ 63) ≤ k ∧ k < 2 ^ 63 ∧ xs.length * k.toNat ≤ sizeLine ∧
  ∀ p, H p = none → Q (.ref p) (upd H p (.lst (List.replicate k.toNat xs).flatten))
def dMul : D → D → Option Sv
  | .int i, .int j => if mulOk i j = true then some (.imm (.int (i * j))) else none
  | _, _ => none
abbrev rMul : R2 := fun x y H Q => rI CMul (fun i j => .int (i * j)) x y H Q ∨ rI CMulW (fun i j => .int (i * j)) x y H Q
theorem op_mulA : OpR X (binaryOp .Mult) rMul := op_mul.or op_mulW
theorem os_mul : OpS X rMul dMul := by
  intro H M O π ρ σ v1 v2 d1 d2 res Q h r1 r2 e q
  unfold dMul at e
  split at e
  · split at e
    · rename_i hz
      cases e
      cases r1.inI; cases r2.inI
      unfold mulOk at hz
      rw [Bool.or_eq_true, Bool.or_eq_true] at hz
      rcases hz with (hz | hz) | hz
      · exact .inl ⟨_, _, rfl, rfl, .inl (of_decide_eq_true hz), Post.now q h (.int _)⟩
      · exact .inl ⟨_, _, rfl, rfl, .inr (of_decide_eq_true hz), Post.now q h (.int _)⟩
      · exact .inr ⟨_, _, rfl, rfl, (of_decide_eq_true hz : _ < 1000000), Post.now q h (.int _)⟩
    · cases e
  · cases e
def divOk (j : Int) : Bool := decide (0 < j ∧ j.natAbs.log2 < 9000)
def dDiv : D → D → Option Sv
  | .int i, .int j => if divOk j = true then some (.imm (.int (i / j))) else none
  | _, _ => none
theorem os_div : OpS X (rI CDivW fun i j => .int (i / j)) dDiv := by
  intro H M O π ρ σ v1 v2 d1 d2 res Q h r1 r2 e q
  unfold dDiv at e
  split at e
  · split at e
    · rename_i hz
      cases e
      cases r1.inI; cases r2.inI
      unfold divOk at hz
      have hz' := of_decide_eq_true hz
      exact ⟨_, _, rfl, rfl, hz', Post.now q h (.int _)⟩
    · cases e
  · cases e
def dMod : D → D → Option Sv
  | .int i, .int j => if decide (0 < j) = true then some (.imm (.int (i % j))) else none
  | _, _ => none
theorem os_mod : OpS X (rI (fun _ j => 0 < j) fun i j => .int (i % j)) dMod := by
  intro H M O π ρ σ v1 v2 d1 d2 res Q h r1 r2 e q
  unfold dMod at e
  split at e
  · split at e
    · rename_i hz
      cases e
      cases r1.inI; cases r2.inI
      exact ⟨_, _, rfl, rfl, of_decide_eq_true hz, Post.now q h (.int _)⟩
    · cases e
  · cases e
def powOk (i j : Int) : Bool := decide (0 ≤ j ∧ j ≤ 1000000 ∧ i.natAbs < 2 ^ 64)
def dPow : D → D → Option Sv
  | .int i, .int j => if powOk i j = true then some (.imm (.int (i ^ j.toNat))) else none
  | _, _ => none
theorem os_pow : OpS X (rI CPow fun i j => .int (i ^ j.toNat)) dPow := by
  intro H M O π ρ σ v1 v2 d1 d2 res Q h r1 r2 e q
  unfold dPow at e
  split at e
  · split at e
    · rename_i hz
      cases e
      cases r1.inI; cases r2.inI
      unfold powOk at hz
      have hz' := of_decide_eq_true hz
      exact ⟨_, _, rfl, rfl, hz', Post.now q h (.int _)⟩
    · cases e
  · cases e
def dNeg : D → Option Sv
  | .int i => some (.imm (.int (-i)))
  | _ => none
theorem us_neg : UnS X (rU fun i => .int (-i)) dNeg := by
  intro H M O π ρ σ v1 d1 res Q h r1 e q
  unfold dNeg at e
  split at e
  · cases e
    cases r1.inI
    exact ⟨_, rfl, Post.now q h (.int _)⟩
  · cases e

/-! ### comparisons -/
def okD (d : D) : Bool := SeqAt.shaped d
def dEq (a b : D) : Option Sv := if (okD a && okD b) = true then some (.imm (.bool (PyData.eqv a b))) else none
def dNe (a b : D) : Option Sv := if (okD a && okD b) = true then some (.imm (.bool (!PyData.eqv a b))) else none
theorem os_eq : OpS X (rEqD X.K) dEq := by
  intro H M O π ρ σ v1 v2 d1 d2 res Q h r1 r2 e q
  unfold dEq at e
  split at e
  · rename_i hz
    cases e
    rw [Bool.and_eq_true] at hz
    exact ⟨d1, d2, r1.dp (SeqAt.canLay_of_shaped hz.1), r2.dp (SeqAt.canLay_of_shaped hz.2), hz.1, hz.2, Post.now q h (.bl _)⟩
  · cases e
theorem os_ne : OpS X (rNeD X.K) dNe := by
  intro H M O π ρ σ v1 v2 d1 d2 res Q h r1 r2 e q
  unfold dNe at e
  split at e
  · rename_i hz
    cases e
    rw [Bool.and_eq_true] at hz
    exact ⟨d1, d2, r1.dp (SeqAt.canLay_of_shaped hz.1), r2.dp (SeqAt.canLay_of_shaped hz.2), hz.1, hz.2, Post.now q h (.bl _)⟩
  · cases e
def dCmpI (f : Int → Int → Bool) : D → D → Option Sv
  | .int i, .int j => some (.imm (.bool (f i j)))
  | _, _ => none
theorem os_cmpI {f : Int → Int → Bool} : OpS X (rI0 fun i j => .bl (f i j)) (dCmpI f) := by
  intro H M O π ρ σ v1 v2 d1 d2 res Q h r1 r2 e q
  unfold dCmpI at e
  split at e
  · cases e
    cases r1.inI; cases r2.inI
    exact ⟨_, _, rfl, rfl, Post.now q h (.bl _)⟩
  · cases e
abbrev dLt := dCmpI fun i j => decide (i < j)
abbrev dLe := dCmpI fun i j => decide (i ≤ j)
abbrev dGt := dCmpI fun i j => decide (j < i)
abbrev dGe := dCmpI fun i j => decide (j ≤ i)
def isNon : D → Bool
  | .none => true
  | _ => false
theorem VW.non_iff {K : PySem.W.Frag} {H : Hp} {M : Mset} {v : V} {d : D} (r : VW K H M v d) : decide (v = .non) = isNon d := by
  cases d with
  | none => cases r.inN; rfl
  | bool b => cases r.inB; rfl
  | int b => cases r.inI; rfl
  | str b => cases r.inS; rfl
  | list b => obtain ⟨a, vs, rfl, _⟩ := r.inL; rfl
  | tuple b => obtain ⟨a, vs, rfl, _⟩ := r.inT; rfl
  | dict b => cases (show Rep K H M v (.dict b) from r); rfl
def dIs : D → D → Option Sv
  | a, .none => some (.imm (.bool (isNon a)))
  | _, _ => none
def dIsNot : D → D → Option Sv
  | a, .none => some (.imm (.bool (!isNon a)))
  | _, _ => none
theorem os_is : OpS X (fun x y H Q => y = .non ∧ Q (.bl (decide (x = .non))) H) dIs := by
  intro H M O π ρ σ v1 v2 d1 d2 res Q h r1 r2 e q
  unfold dIs at e
  split at e
  · cases e
    cases r2.inN
    refine ⟨rfl, ?_⟩
    rw [r1.non_iff]
    exact Post.now q h (.bl _)
  · cases e
theorem os_isnot : OpS X (fun x y H Q => y = .non ∧ Q (.bl (!decide (x = .non))) H) dIsNot := by
  intro H M O π ρ σ v1 v2 d1 d2 res Q h r1 r2 e q
  unfold dIsNot at e
  split at e
  · cases e
    cases r2.inN
    refine ⟨rfl, ?_⟩
    rw [r1.non_iff]
    exact Post.now q h (.bl _)
  · cases e
def flatD : D → Bool
  | .none | .bool _ | .int _ | .str _ => true
  | _ => false
theorem rep_flat {K : PySem.W.Frag} {H : Hp} {M : Mset} {v : V} {d : D} (r : Rep K H M v d) : flatV v = flatD d := by cases r <;> rfl
theorem rep_eqV {K : PySem.W.Frag} {H : Hp} {M : Mset} {v w : V} {d e : D} (r : Rep K H M v d) (s : Rep K H M w e) (f : flatD d = true) (g : flatD e = true) : eqV v w = PyData.eqv d e := by
  cases r <;> first | (exact absurd (show false = true from f) Bool.false_ne_true) | (cases s <;> first | (exact absurd (show false = true from g) Bool.false_ne_true) | rfl | (simp [eqV, PyData.eqv]))
theorem reps_flat {K : PySem.W.Frag} {H : Hp} {M : Mset} : ∀ {vs : List V} {ds : List D}, Reps K H M vs ds → vs.all flatV = ds.all flatD
  | _, _, .nil => rfl
  | _, _, .cons h r => by rw [List.all_cons, List.all_cons, rep_flat h, reps_flat r]
theorem reps_inV {K : PySem.W.Frag} {H : Hp} {M : Mset} {v : V} {d : D} (s : Rep K H M v d) (g : flatD d = true) : ∀ {vs : List V} {ds : List D}, Reps K H M vs ds → ds.all flatD = true → inV v vs = ds.any fun z => PyData.eqv z d
  | _, _, .nil, _ => rfl
  | _, _, .cons h r, f => by
    rw [List.all_cons, Bool.and_eq_true] at f
    have ih := reps_inV s g r f.2
    unfold inV at ih ⊢
    rw [List.any_cons, List.any_cons, ih, rep_eqV h s f.1 g]
/-- x in ds -/
def hasD (x : D) (ds : List D) : Bool := ds.any fun z => PyData.eqv z x
def dIn (neg : Bool) (x : D) : D → Option Sv
  | .list ds => if (flatD x && ds.all flatD) = true then some (.imm (.bool (if neg then !hasD x ds else hasD x ds))) else if (!neg && okD x && okD (.list ds)) = true then some (.imm (.bool (hasD x ds))) else if (neg && okD x && okD (.list ds)) = true then some (.imm (.bool (!hasD x ds))) else none
  | .tuple ds => if (flatD x && ds.all flatD) = true then some (.imm (.bool (if neg then !hasD x ds else hasD x ds))) else none
  | _ => none
abbrev rInA (X : Cx) (neg : Bool) : R2 := fun x y H Q => rIn X.K neg x y H Q ∨ (if neg then rNotInD X.K x y H Q else rInD X.K x y H Q)
theorem op_inA (hu : X.A.units + 65 < cLine) : OpR X (compareOp .In) (rInA X false) := op_in_seq.or (op_inD hu)
theorem op_notInA (hu : X.A.units + 65 < cLine) : OpR X (compareOp .NotIn) (rInA X true) := op_notIn_seq.or (op_notInD hu)
theorem flat_not {d : D} (f : flatD d = true) (ds : List D) : d ≠ .list ds := fun e => by rw [e] at f; cases f
theorem os_in (neg : Bool) : OpS X (rInA X neg) (dIn neg) := by
  intro H M O π ρ σ v1 v2 d1 d2 res Q h r1 r2 e q
  unfold dIn at e
  split at e
  · rename_i ds
    split at e
    · rename_i hz
      cases e
      rw [Bool.and_eq_true] at hz
      obtain ⟨a, vs, rfl, rd, rs⟩ := r2.inL
      have rp := rep_rep r1 (flat_not hz.1)
      refine .inl ⟨a, vs, rfl, .inl (.inl rd), by rw [rep_flat rp]; exact hz.1, by rw [reps_flat rs]; exact hz.2, ?_⟩
      rw [reps_inV rp hz.1 rs hz.2]
      exact Post.now q h (.bl _)
    · split at e
      · rename_i hz
        cases e
        rw [Bool.and_eq_true, Bool.and_eq_true] at hz
        have hn : neg = false := by simpa using hz.1.1
        subst hn
        exact .inr (show rInD X.K v1 v2 H Q from ⟨d1, ds, r1.dp (SeqAt.canLay_of_shaped hz.1.2), r2.dp (SeqAt.canLay_of_shaped hz.2), hz.1.2, hz.2, Post.now q h (.bl _)⟩)
      · split at e
        · rename_i hz
          cases e
          rw [Bool.and_eq_true, Bool.and_eq_true] at hz
          have hn : neg = true := hz.1.1
          subst hn
          exact .inr (show rNotInD X.K v1 v2 H Q from ⟨d1, ds, r1.dp (SeqAt.canLay_of_shaped hz.1.2), r2.dp (SeqAt.canLay_of_shaped hz.2), hz.1.2, hz.2, Post.now q h (.bl _)⟩)
        · cases e
  · rename_i ds
    split at e
    · rename_i hz
      cases e
      rw [Bool.and_eq_true] at hz
      obtain ⟨a, vs, rfl, rd, rs⟩ := r2.inT
      have rp := rep_rep r1 (flat_not hz.1)
      refine .inl ⟨a, vs, rfl, .inr rd.sq, by rw [rep_flat rp]; exact hz.1, by rw [reps_flat rs]; exact hz.2, ?_⟩
      rw [reps_inV rp hz.1 rs hz.2]
      exact Post.now q h (.bl _)
    · cases e
  · cases e

/-! ### places -/
def dIx : D → D → Option Sv
  | .list ds, .int i => (atI ds i).map .imm
  | .tuple ds, .int i => (atI ds i).map .imm
  | .dict kvs, .int i => (atI (kvs.map Prod.fst) i).map .imm
  | _, _ => none
abbrev rIxA (X : Cx) : R2 := fun x y H Q => rIxL X.K x y H Q ∨ rIxT X.K x y H Q
theorem ix_A : IxR X (rIxA X) := ix_list.or ix_tup
theorem atI_rep {K : PySem.W.Frag} {H : Hp} {M : Mset} {vs : List V} {ds : List D} {i : Int} {d : D} (r : Reps K H M vs ds) (e : atI ds i = some d) : ∃ v, atI vs i = some v ∧ Rep K H M v d := by
  unfold atI at e ⊢
  rw [r.length]
  cases ei : ixN ds.length i with
  | none => rw [ei] at e; cases e
  | some j =>
    rw [ei] at e
    exact r.get e
theorem os_ix : OpS X (rIxA X) dIx := by
  intro H M O π ρ σ v1 v2 d1 d2 res Q h r1 r2 e q
  unfold dIx at e
  split at e
  · obtain ⟨d, ed, er⟩ := Option.map_eq_some_iff.mp e
    subst er
    cases r2.inI
    obtain ⟨a, vs, rfl, rd, rs⟩ := r1.inL
    obtain ⟨v, ev, rv⟩ := atI_rep rs ed
    exact .inl ⟨a, vs, _, v, rfl, rfl, .inl rd, ev, Post.now q h rv⟩
  · obtain ⟨d, ed, er⟩ := Option.map_eq_some_iff.mp e
    subst er
    cases r2.inI
    obtain ⟨a, vs, rfl, rd, rs⟩ := r1.inT
    obtain ⟨v, ev, rv⟩ := atI_rep rs ed
    exact .inr ⟨a, vs, _, v, rfl, rfl, rd.sq, ev, Post.now q h rv⟩
  · obtain ⟨d, ed, er⟩ := Option.map_eq_some_iff.mp e
    subst er
    cases r2.inI
    obtain ⟨a, vs, rfl, rd, rs⟩ := r1.inScr
    obtain ⟨v, ev, rv⟩ := atI_rep rs ed
    exact .inl ⟨a, vs, _, v, rfl, rfl, rd.sq, ev, Post.now q h rv⟩
  · cases e

/-! ### built-ins of one argument -/
def dLen : D → Option Sv
  | .list ds => some (.imm (.int ds.length))
  | .tuple ds => some (.imm (.int ds.length))
  | .dict kvs => some (.imm (.int kvs.length))
  | _ => none
theorem us_len : UnS X (fun v H Q => (fun xs H Q => ∃ p ys, xs = [V.ref p] ∧ (SqL X.K H p ys ∨ SqT X.K H p ys) ∧ Q (.int ys.length) H) [v] H Q) dLen := by
  intro H M O π ρ σ v1 d1 res Q h r1 e q
  unfold dLen at e
  split at e
  · cases e
    obtain ⟨a, vs, rfl, rd, rs⟩ := r1.inL
    refine ⟨a, vs, rfl, .inl (.inl rd), ?_⟩
    rw [rs.length]
    exact Post.now q h (.int _)
  · cases e
    obtain ⟨a, vs, rfl, rd, rs⟩ := r1.inT
    refine ⟨a, vs, rfl, .inr rd.sq, ?_⟩
    rw [rs.length]
    exact Post.now q h (.int _)
  · cases e
    obtain ⟨a, vs, rfl, rd, rs⟩ := r1.inScr
    refine ⟨a, vs, rfl, .inl rd.sq, ?_⟩
    rw [rs.length, List.length_map]
    exact Post.now q h (.int _)
  · cases e
def dList : D → Option Sv
  | .list ds => some (.own .loc ds)
  | .tuple ds => some (.own .loc ds)
  | _ => none
theorem us_list : UnS X (fun v H Q => (fun xs H Q => ∃ p ys, xs = [V.ref p] ∧ (SqL X.K H p ys ∨ SqT X.K H p ys) ∧ ∀ l, H l = none → Q (.ref l) (upd H l (.lst ys))) [v] H Q) dList := by
  intro H M O π ρ σ v1 d1 res Q h r1 e q
  unfold dList at e
  split at e
  · cases e
    obtain ⟨a, vs, rfl, rd, rs⟩ := r1.inL
    exact ⟨a, vs, rfl, .inl (.inl rd), fun p hp => Post.lst q h rs hp⟩
  · cases e
    obtain ⟨a, vs, rfl, rd, rs⟩ := r1.inT
    exact ⟨a, vs, rfl, .inr rd.sq, fun p hp => Post.lst q h rs hp⟩
  · cases e
def dTuple : D → Option Sv
  | .list ds => some (.imm (.tuple ds))
  | .tuple ds => some (.imm (.tuple ds))
  | _ => none
theorem us_tuple : UnS X (fun v H Q => (fun xs H Q => ∃ p ys, xs = [V.ref p] ∧ ((SqL X.K H p ys ∧ ∀ l, H l = none → Q (.ref l) (upd H l (.tup ys))) ∨ (SqT X.K H p ys ∧ Q (.ref p) H))) [v] H Q) dTuple := by
  intro H M O π ρ σ v1 d1 res Q h r1 e q
  unfold dTuple at e
  split at e
  · cases e
    obtain ⟨a, vs, rfl, rd, rs⟩ := r1.inL
    exact ⟨a, vs, rfl, .inl ⟨.inl rd, fun p hp => Post.tup q h rs hp⟩⟩
  · cases e
    have rr := r1
    obtain ⟨a, vs, rfl, rd, rs⟩ := r1.inT
    exact ⟨a, vs, rfl, .inr ⟨rd.sq, Post.now q h rr⟩⟩
  · cases e
def dInt : D → Option Sv
  | .int i => some (.imm (.int i))
  | .bool b => some (.imm (.int (if b then 1 else 0)))
  | _ => none
theorem us_int : UnS X (fun v H Q => (fun xs H Q => (∃ i, xs = [V.int i] ∧ Q (.int i) H) ∨ ∃ k, xs = [V.bl k] ∧ Q (.int (if k then 1 else 0)) H) [v] H Q) dInt := by
  intro H M O π ρ σ v1 d1 res Q h r1 e q
  unfold dInt at e
  split at e
  · cases e
    cases r1.inI
    exact .inl ⟨_, rfl, Post.now q h (.int _)⟩
  · cases e
    cases r1.inB
    exact .inr ⟨_, rfl, Post.now q h (.int _)⟩
  · cases e
def dAbs : D → Option Sv
  | .int i => some (.imm (.int (if i < 0 then -i else i)))
  | _ => none
theorem us_abs : UnS X (fun v H Q => (fun xs H Q => ∃ i, xs = [V.int i] ∧ Q (.int (if i < 0 then -i else i)) H) [v] H Q) dAbs := by
  intro H M O π ρ σ v1 d1 res Q h r1 e q
  unfold dAbs at e
  split at e
  · cases e
    cases r1.inI
    exact ⟨_, rfl, Post.now q h (.int _)⟩
  · cases e
def boolsOf : List D → Option (List Bool)
  | [] => some []
  | .bool b :: r => (boolsOf r).map (b :: ·)
  | _ :: _ => none
theorem bools_reps {K : PySem.W.Frag} {H : Hp} {M : Mset} : ∀ {vs : List V} {ds : List D} {bs : List Bool}, Reps K H M vs ds → boolsOf ds = some bs → vs = bs.map V.bl
  | _, _, _, .nil, e => by cases e; rfl
  | _, _, bs, .cons h r, e => by
    cases h with
    | bl b =>
      obtain ⟨cs, e1, rfl⟩ := Option.map_eq_some_iff.mp (show (boolsOf _).map (b :: ·) = some bs from e)
      rw [bools_reps r e1]; rfl
    | _ => cases e
def dAll : D → Option Sv
  | .list ds => (boolsOf ds).map fun bs => .imm (.bool (bs.all id))
  | _ => none
def dAny : D → Option Sv
  | .list ds => (boolsOf ds).map fun bs => .imm (.bool (bs.any id))
  | _ => none
theorem us_all : UnS X (fun v H Q => rAll X.K [v] H Q) dAll := by
  intro H M O π ρ σ v1 d1 res Q h r1 e q
  unfold dAll at e
  split at e
  · obtain ⟨bs, e1, rfl⟩ := Option.map_eq_some_iff.mp e
    obtain ⟨a, vs, rfl, rd, rs⟩ := r1.inL
    exact ⟨a, bs, rfl, .inl (by rw [← bools_reps rs e1]; exact rd), Post.now q h (.bl _)⟩
  · cases e
theorem us_any : UnS X (fun v H Q => rAny X.K [v] H Q) dAny := by
  intro H M O π ρ σ v1 d1 res Q h r1 e q
  unfold dAny at e
  split at e
  · obtain ⟨bs, e1, rfl⟩ := Option.map_eq_some_iff.mp e
    obtain ⟨a, vs, rfl, rd, rs⟩ := r1.inL
    exact ⟨a, bs, rfl, .inl (by rw [← bools_reps rs e1]; exact rd), Post.now q h (.bl _)⟩
  · cases e
end
end Vi

namespace Vi
open PySem PySem.Spec PyProof.Rows L2

/-! ### lists of expressions, each fixed as it comes -/
abbrev MA := Fm → Option (List D × Fm)
def tA (K : PySem.W.Frag) (m : MA) : TA := fun σ H Q => ∃ ρ M O π ds ρ', SR K H M O π ρ σ ∧ m ρ = some (ds, ρ') ∧ ∀ vs H' M', Ext O H M H' M' → SR K H' M' O π ρ' σ → Reps K H' M' vs ds → Q vs H'
def DA (X : Cx) (es : List Expr) (m : MA) : Prop := PA X es (tA X.K m)
def mNil : MA := fun ρ => some ([], ρ)
def mCons (me : ME) (ma : MA) : MA := fun ρ => match me ρ with
  | some (pr, ρ1) => match frz ρ1 pr with
    | some (d, ρ2) => match ma ρ2 with
      | some (ds, ρ3) => some (d :: ds, ρ3)
      | none => none
    | none => none
  | none => none
section
variable {X : Cx} {a b c e : Expr} {es rest : List Expr} {ma mb me : ME} {mes : MA} {pos : Pos}
theorem da_nil : DA X [] mNil := PA.imp pa_nil fun σ H Q ⟨ρ, M, O, π, ds, ρ', h, e, q⟩ => by
  cases e
  exact q [] H M (.refl h) h .nil
theorem da_cons (he : DE X e me) (hes : DA X es mes) (hs : starEach (e :: es) X.env = (false, eval e X.env) :: starEach es X.env := by rfl) : DA X (e :: es) (mCons me mes) :=
  PA.imp (pa_cons he hes hs) fun σ H Q ⟨ρ, M, O, π, ds, ρ', h, e, q⟩ => by
    unfold mCons at e
    split at e
    · rename_i pr ρ1 e1
      split at e
      · rename_i d ρ2 e2
        split at e
        · rename_i ds' ρ3 e3
          simp only [Option.some.injEq, Prod.mk.injEq] at e
          obtain ⟨rfl, rfl⟩ := e
          refine ⟨ρ, M, O, π, pr, ρ1, h, e1, fun v H1 M1 x1 s1 r1 => ?_⟩
          obtain ⟨M2, x2, s2, r2⟩ := frz_ok s1 r1 e2
          exact ⟨ρ2, M2, O, π, ds', ρ3, s2, e3, fun vs H3 M3 x3 s3 r3 => q (v :: vs) H3 M3 ((x1.trans x2).trans x3) s3 (.cons (r2.tr x3.tr) r3)⟩
        · cases e
      · cases e
    · cases e
def mTup (m : MA) : ME := fun ρ => match m ρ with
  | some (ds, ρ1) => if fits ds.length = true then some (.val (.imm (.tuple ds)), ρ1) else none
  | none => none
def mLst (m : MA) : ME := fun ρ => match m ρ with
  | some (ds, ρ1) => if fits ds.length = true then some (.val (.own .loc ds), ρ1) else none
  | none => none
theorem de_tup {k : Nat} (hes : DA X es mes) : DE X (.Tuple es k pos) (mTup mes) := PE.imp (pe_tup hes) fun σ H Q ⟨ρ, M, O, π, pr, ρ', h, e, q⟩ => by
  unfold mTup at e
  split at e
  · rename_i ds ρ1 e1
    split at e
    · rename_i hz
      simp only [Option.some.injEq, Prod.mk.injEq] at e
      obtain ⟨rfl, rfl⟩ := e
      exact ⟨ρ, M, O, π, ds, ρ1, h, e1, fun vs H1 M1 x1 s1 r1 => ⟨by rw [r1.length]; exact fits_le hz, fun p hp => Post.tup (Q := Q) (fun v H' M' x2 => q v H' M' (x1.trans x2)) s1 r1 hp⟩⟩
    · cases e
  · cases e
theorem de_lst (hes : DA X es mes) : DE X (.List es pos) (mLst mes) := PE.imp (pe_lst hes) fun σ H Q ⟨ρ, M, O, π, pr, ρ', h, e, q⟩ => by
  unfold mLst at e
  split at e
  · rename_i ds ρ1 e1
    split at e
    · rename_i hz
      simp only [Option.some.injEq, Prod.mk.injEq] at e
      obtain ⟨rfl, rfl⟩ := e
      exact ⟨ρ, M, O, π, ds, ρ1, h, e1, fun vs H1 M1 x1 s1 r1 => ⟨by rw [r1.length]; exact fits_le hz, fun p hp => Post.lst (Q := Q) (fun v H' M' x2 => q v H' M' (x1.trans x2)) s1 r1 hp⟩⟩
    · cases e
  · cases e

/-! ### truth, tests -/
def dTru : D → Option Bool
  | .none => some false
  | .bool b => some b
  | .int i => some (i != 0)
  | .str x => if fits x.length = true then some ((x.length : Int) != 0) else none
  | .list ds => some (!ds.isEmpty)
  | .tuple ds => some (!ds.isEmpty)
  | _ => none
theorem reps_empty {K : PySem.W.Frag} {H : Hp} {M : Mset} {vs : List V} {ds : List D} (r : Reps K H M vs ds) : vs.isEmpty = ds.isEmpty := by cases r <;> rfl
theorem tru_vw {K : PySem.W.Frag} {H : Hp} {M : Mset} {v : V} {d : D} {k : Bool} (r : VW K H M v d) (e : dTru d = some k) : TruV K v H k := by
  cases d with
  | none => cases e; cases r.inN; rfl
  | bool b => cases e; cases r.inB; rfl
  | int b => cases e; cases r.inI; rfl
  | str b =>
    unfold dTru at e
    simp only at e
    split at e
    · rename_i hz
      cases e; cases r.inS; exact ⟨fits_le hz, rfl⟩
    · cases e
  | list b =>
    cases e
    obtain ⟨a, vs, rfl, h, rs⟩ := r.inL
    exact .inl ⟨vs, .inl h, by rw [reps_empty rs]⟩
  | tuple b =>
    cases e
    obtain ⟨a, vs, rfl, h, rs⟩ := r.inT
    exact .inr (.inl ⟨vs, h.sq, by rw [reps_empty rs]⟩)
  | dict b => cases e
abbrev MT := Fm → Option (Bool × Fm)
def tT (K : PySem.W.Frag) (m : MT) : TT := fun σ H Q => ∃ ρ M O π b ρ', SR K H M O π ρ σ ∧ m ρ = some (b, ρ') ∧ ∀ H' M', Ext O H M H' M' → SR K H' M' O π ρ' σ → Q b H'
def DT (X : Cx) (e : Expr) (m : MT) : Prop := PT X e (tT X.K m)
def mTru (ma : ME) : MT := fun ρ => match ma ρ with
  | some (pr, ρ1) => match peek ρ1 pr with
    | some d => match dTru d with
      | some b => some (b, ρ1)
      | none => none
    | none => none
  | none => none
/-- a value of any kind as a test -/
theorem dt_tru (ha : DE X a ma) (he : ∀ whole, isTrue a X.env whole = (do let v ← whole; standAt a.pos; holding [v] (truthy v)) := by intro _; rfl) : DT X a (mTru ma) :=
  PT.imp (pt_truth ha he) fun σ H Q ⟨ρ, M, O, π, b, ρ', h, e, q⟩ => by
    unfold mTru at e
    split at e
    · rename_i pr ρ1 e1
      split at e
      · rename_i d e2
        split at e
        · rename_i k e3
          simp only [Option.some.injEq, Prod.mk.injEq] at e
          obtain ⟨rfl, rfl⟩ := e
          exact ⟨ρ, M, O, π, pr, ρ1, h, e1, fun v H1 M1 x1 s1 r1 => ⟨k, tru_vw (peek_vw s1 r1 e2) e3, q H1 M1 x1 s1⟩⟩
        · cases e
      · cases e
    · cases e
def mB (m : ME) : MT := fun ρ => match m ρ with
  | some (.val (.imm (.bool b)), ρ1) => some (b, ρ1)
  | _ => none
theorem tT_B {K : PySem.W.Frag} {m : ME} {σ : St} {H : Hp} {Q : Bool → Hp → Prop} (h : tT K (mB m) σ H Q) : tE K m σ H fun x H' => ∃ k, x = .bl k ∧ Q k H' := by
  obtain ⟨ρ, M, O, π, b, ρ', h, e, q⟩ := h
  unfold mB at e
  split at e
  · rename_i k ρ1 e1
    simp only [Option.some.injEq, Prod.mk.injEq] at e
    obtain ⟨rfl, rfl⟩ := e
    refine ⟨ρ, M, O, π, _, ρ1, h, e1, fun v H1 M1 x1 s1 r1 => ⟨k, ?_, q H1 M1 x1 s1⟩⟩
    cases (show Rep K H1 M1 v (.bool k) from r1)
    rfl
  · cases e
theorem dt_cmp {op : CmpOp} {r : R2} {f : D → D → Option Sv} (ho : OpR X (compareOp op) r) (hs : OpS X r f) (ha : DE X a ma) (hb : DE X b mb) (hm : behindInMarks op b = false) : DT X (.Compare a [op] [b] pos) (mB (bin f ma mb)) :=
  PT.imp (pt_cmpR ho ha hb hm) fun σ H Q h => tE_bin hs (tT_B h)
def mNotT (m : MT) : MT := fun ρ => match m ρ with
  | some (b, ρ1) => some (!b, ρ1)
  | none => none
variable {mt mu : MT}
theorem dt_not (ha : DT X a mt) : DT X (.UnaryOp .Not a pos) (mNotT mt) := PT.imp (pt_not ha) fun σ H Q ⟨ρ, M, O, π, b, ρ', h, e, q⟩ => by
  unfold mNotT at e
  split at e
  · rename_i k ρ1 e1
    simp only [Option.some.injEq, Prod.mk.injEq] at e
    obtain ⟨rfl, rfl⟩ := e
    exact ⟨ρ, M, O, π, k, ρ1, h, e1, q⟩
  · cases e
def DW (X : Cx) (e : Expr) (m : MT) : Prop := PW X e (tT X.K m)
theorem dt_w (h : DW X e mt) : DT X e mt := PW.pt h
theorem dw_and1 (h : DT X a mt) : DW X (.BoolOp .And [a] pos) mt := pw_and1 h
theorem dw_or1 (h : DT X a mt) : DW X (.BoolOp .Or [a] pos) mt := pw_or1 h
def mAndT (m n : MT) : MT := fun ρ => match m ρ with
  | some (true, ρ1) => n ρ1
  | some (false, ρ1) => some (false, ρ1)
  | none => none
def mOrT (m n : MT) : MT := fun ρ => match m ρ with
  | some (false, ρ1) => n ρ1
  | some (true, ρ1) => some (true, ρ1)
  | none => none
theorem _root_.L2.PW.imp {X : Cx} {e : Expr} {t t' : TT} (h : PW X e t) (i : ∀ σ H Q, t' σ H Q → t σ H Q) : PW X e t' := ⟨fun w pins s σ H Q I q => h.run w pins s σ H Q I (i σ H Q q)⟩
theorem dw_and (ha : DT X a mt) (hb : DW X (.BoolOp .And (b :: rest) pos) mu) : DW X (.BoolOp .And (a :: b :: rest) pos) (mAndT mt mu) := PW.imp (pw_and ha hb) fun σ H Q ⟨ρ, M, O, π, r, ρ', h, e, q⟩ => by
  unfold mAndT at e
  split at e
  · rename_i ρ1 e1
    exact ⟨ρ, M, O, π, true, ρ1, h, e1, fun H1 M1 x1 s1 => ⟨ρ1, M1, O, π, r, ρ', s1, e, fun H2 M2 x2 s2 => q H2 M2 (x1.trans x2) s2⟩⟩
  · rename_i ρ1 e1
    simp only [Option.some.injEq, Prod.mk.injEq] at e
    obtain ⟨rfl, rfl⟩ := e
    exact ⟨ρ, M, O, π, false, ρ1, h, e1, fun H1 M1 x1 s1 => q H1 M1 x1 s1⟩
  · cases e
theorem dw_or (ha : DT X a mt) (hb : DW X (.BoolOp .Or (b :: rest) pos) mu) : DW X (.BoolOp .Or (a :: b :: rest) pos) (mOrT mt mu) := PW.imp (pw_or ha hb) fun σ H Q ⟨ρ, M, O, π, r, ρ', h, e, q⟩ => by
  unfold mOrT at e
  split at e
  · rename_i ρ1 e1
    exact ⟨ρ, M, O, π, false, ρ1, h, e1, fun H1 M1 x1 s1 => ⟨ρ1, M1, O, π, r, ρ', s1, e, fun H2 M2 x2 s2 => q H2 M2 (x1.trans x2) s2⟩⟩
  · rename_i ρ1 e1
    simp only [Option.some.injEq, Prod.mk.injEq] at e
    obtain ⟨rfl, rfl⟩ := e
    exact ⟨ρ, M, O, π, true, ρ1, h, e1, fun H1 M1 x1 s1 => q H1 M1 x1 s1⟩
  · cases e

/-! ### a if c else b; and, or, not as values -/
def mIf (c : MT) (ma mb : ME) : ME := fun ρ => match c ρ with
  | some (true, ρ1) => ma ρ1
  | some (false, ρ1) => mb ρ1
  | none => none
theorem de_if (hc : DT X c mt) (ha : DE X a ma) (hb : DE X b mb) : DE X (.IfExp c a b pos) (mIf mt ma mb) := PE.imp (pe_ifExp hc ha hb) fun σ H Q ⟨ρ, M, O, π, r, ρ', h, e, q⟩ => by
  unfold mIf at e
  split at e
  · rename_i ρ1 e1
    exact ⟨ρ, M, O, π, true, ρ1, h, e1, fun H1 M1 x1 s1 => ⟨ρ1, M1, O, π, r, ρ', s1, e, fun v H2 M2 x2 s2 r2 => q v H2 M2 (x1.trans x2) s2 r2⟩⟩
  · rename_i ρ1 e1
    exact ⟨ρ, M, O, π, false, ρ1, h, e1, fun H1 M1 x1 s1 => ⟨ρ1, M1, O, π, r, ρ', s1, e, fun v H2 M2 x2 s2 r2 => q v H2 M2 (x1.trans x2) s2 r2⟩⟩
  · cases e
def mOr (ma mb : ME) : ME := fun ρ => match ma ρ with
  | some (pr, ρ1) => match peek ρ1 pr with
    | some d => match dTru d with
      | some true => some (pr, ρ1)
      | some false => mb ρ1
      | none => none
    | none => none
  | none => none
def mAnd (ma mb : ME) : ME := fun ρ => match ma ρ with
  | some (pr, ρ1) => match peek ρ1 pr with
    | some d => match dTru d with
      | some false => some (pr, ρ1)
      | some true => mb ρ1
      | none => none
    | none => none
  | none => none
theorem de_one {op} (h : DE X a ma) : DE X (.BoolOp op [a] pos) ma := pe_one h
theorem de_or (ha : DE X a ma) (hb : DE X (.BoolOp .Or (b :: rest) pos) mb) : DE X (.BoolOp .Or (a :: b :: rest) pos) (mOr ma mb) := PE.imp (pe_orT ha hb) fun σ H Q ⟨ρ, M, O, π, r, ρ', h, e, q⟩ => by
  unfold mOr at e
  split at e
  · rename_i pr ρ1 e1
    split at e
    · rename_i d e2
      split at e
      · rename_i e3
        simp only [Option.some.injEq, Prod.mk.injEq] at e
        obtain ⟨rfl, rfl⟩ := e
        exact ⟨ρ, M, O, π, pr, ρ1, h, e1, fun v H1 M1 x1 s1 r1 => ⟨true, tru_vw (peek_vw s1 r1 e2) e3, iteT (q v H1 M1 x1 s1 r1)⟩⟩
      · rename_i e3
        exact ⟨ρ, M, O, π, pr, ρ1, h, e1, fun v H1 M1 x1 s1 r1 => ⟨false, tru_vw (peek_vw s1 r1 e2) e3, iteF ⟨ρ1, M1, O, π, r, ρ', s1, e, fun v H2 M2 x2 s2 r2 => q v H2 M2 (x1.trans x2) s2 r2⟩⟩⟩
      · cases e
    · cases e
  · cases e
theorem de_and (ha : DE X a ma) (hb : DE X (.BoolOp .And (b :: rest) pos) mb) : DE X (.BoolOp .And (a :: b :: rest) pos) (mAnd ma mb) := PE.imp (pe_andT ha hb) fun σ H Q ⟨ρ, M, O, π, r, ρ', h, e, q⟩ => by
  unfold mAnd at e
  split at e
  · rename_i pr ρ1 e1
    split at e
    · rename_i d e2
      split at e
      · rename_i e3
        simp only [Option.some.injEq, Prod.mk.injEq] at e
        obtain ⟨rfl, rfl⟩ := e
        exact ⟨ρ, M, O, π, pr, ρ1, h, e1, fun v H1 M1 x1 s1 r1 => ⟨false, tru_vw (peek_vw s1 r1 e2) e3, iteF (q v H1 M1 x1 s1 r1)⟩⟩
      · rename_i e3
        exact ⟨ρ, M, O, π, pr, ρ1, h, e1, fun v H1 M1 x1 s1 r1 => ⟨true, tru_vw (peek_vw s1 r1 e2) e3, iteT ⟨ρ1, M1, O, π, r, ρ', s1, e, fun v H2 M2 x2 s2 r2 => q v H2 M2 (x1.trans x2) s2 r2⟩⟩⟩
      · cases e
    · cases e
  · cases e
def dNot (d : D) : Option Sv := (dTru d).map fun b => .imm (.bool (!b))
theorem de_not (ha : DE X a ma) : DE X (.UnaryOp .Not a pos) (un dNot ma) := PE.imp (pe_notT ha) fun σ H Q h =>
  tE_un (r := fun x H1 Q => ∃ k, TruV X.K x H1 k ∧ Q (.bl (!k)) H1) (by
    intro H M O π ρ σ v1 d1 res Q h r1 e q
    obtain ⟨b, e1, rfl⟩ := Option.map_eq_some_iff.mp e
    exact ⟨b, tru_vw r1 e1, Post.now q h (.bl _)⟩) h

/-! ### slices -/
abbrev MO := Fm → Option (Option Int × Fm)
def tO (K : PySem.W.Frag) (m : MO) : TO := fun σ H Q => ∃ ρ M O π i ρ', SR K H M O π ρ σ ∧ m ρ = some (i, ρ') ∧ ∀ H' M', Ext O H M H' M' → SR K H' M' O π ρ' σ → Q i H'
def DO (X : Cx) (e : Option Expr) (m : MO) : Prop := PO X e (tO X.K m)
theorem _root_.L2.PO.imp {X : Cx} {e : Option Expr} {t t' : TO} (h : PO X e t) (i : ∀ σ H Q, t' σ H Q → t σ H Q) : PO X e t' := ⟨fun pins s σ H Q I q => h.run pins s σ H Q I (i σ H Q q)⟩
def mNoPart : MO := fun ρ => some (none, ρ)
def mPart (ma : ME) : MO := fun ρ => match ma ρ with
  | some (pr, ρ1) => match peek ρ1 pr with
    | some (.int i) => some (some i, ρ1)
    | _ => none
  | none => none
theorem do_none : DO X none mNoPart := PO.imp po_none fun σ H Q ⟨ρ, M, O, π, i, ρ', h, e, q⟩ => by
  cases e
  exact q H M (.refl h) h
theorem do_some (ha : DE X a ma) : DO X (some a) (mPart ma) := PO.imp (po_some ha) fun σ H Q ⟨ρ, M, O, π, r, ρ', h, e, q⟩ => by
  unfold mPart at e
  split at e
  · rename_i pr ρ1 e1
    split at e
    · rename_i i e2
      simp only [Option.some.injEq, Prod.mk.injEq] at e
      obtain ⟨rfl, rfl⟩ := e
      exact ⟨ρ, M, O, π, pr, ρ1, h, e1, fun v H1 M1 x1 s1 r1 => ⟨i, (peek_vw s1 r1 e2).inI, q H1 M1 x1 s1⟩⟩
    · cases e
  · cases e
def cutD (ds : List D) (lo hi : Option Int) : List D := (ds.drop (HT.sIx ds.length 0 lo)).take (HT.sIx ds.length ds.length hi - HT.sIx ds.length 0 lo)
theorem cut_rep {K : PySem.W.Frag} {H : Hp} {M : Mset} {vs : List V} {ds : List D} (r : Reps K H M vs ds) (lo hi : Option Int) : Reps K H M (cutV vs lo hi) (cutD ds lo hi) := by
  unfold cutV cutD
  rw [r.length]
  exact (r.drop _).take _
theorem cutD_whole {ds : List D} {lo hi : Option Int} (h : HT.sIx ds.length 0 lo = 0 ∧ HT.sIx ds.length ds.length hi = ds.length) : cutD ds lo hi = ds := by
  unfold cutD
  rw [h.1, h.2]
  simp
def dCut (lo hi : Option Int) : D → Option Sv
  | .list ds => some (.own .loc (cutD ds lo hi))
  | .tuple ds => some (.imm (.tuple (cutD ds lo hi)))
  | .dict kvs => some (.own .loc (cutD (kvs.map Prod.fst) lo hi))
  | _ => none
def mSl (me : ME) (ml mh : MO) : ME := fun ρ => match me ρ with
  | some (pr, ρ1) => match ml ρ1 with
    | some (lo, ρ2) => match mh ρ2 with
      | some (hi, ρ3) => match peek ρ3 pr with
        | some d => match dCut lo hi d with
          | some s => some (.val s, ρ3)
          | none => none
        | none => none
      | none => none
    | none => none
  | none => none
theorem de_sl {lo hi : Option Expr} {ml mh : MO} {p2 : Pos} (he : DE X e me) (hl : DO X lo ml) (hh : DO X hi mh) : DE X (.Subscript e (.Slice lo hi none p2) pos) (mSl me ml mh) :=
  PE.imp (pe_slice (sl_list.or sl_tupA) he hl hh) fun σ H Q ⟨ρ, M, O, π, r, ρ', h, e, q⟩ => by
    unfold mSl at e
    split at e
    · rename_i pr ρ1 e1
      split at e
      · rename_i lo ρ2 e2
        split at e
        · rename_i hi ρ3 e3
          split at e
          · rename_i d e4
            split at e
            · rename_i s e5
              simp only [Option.some.injEq, Prod.mk.injEq] at e
              obtain ⟨rfl, rfl⟩ := e
              refine ⟨ρ, M, O, π, pr, ρ1, h, e1, fun v H1 M1 x1 s1 r1 => ⟨ρ1, M1, hold O pr v, π, lo, ρ2, s1.hold r1, e2, fun H2 M2 x2 s2 => ⟨ρ2, M2, hold O pr v, π, hi, ρ3, s2, e3, fun H3 M3 x3 s3 => ?_⟩⟩⟩
              have s3' := s3.less (hold_le O pr v)
              have xx := x2.trans x3
              have vw := peek_vw s3' (r1.held xx s3) e4
              have q' : Post X.K H3 M3 O π ρ3 σ s Q := fun w H' M' x4 => q w H' M' ((x1.trans (xx.less (hold_le O pr v))).trans x4)
              unfold dCut at e5
              split at e5
              · cases e5
                obtain ⟨a, vs, rfl, rd, rs⟩ := vw.inL
                exact .inl ⟨a, vs, rfl, .inl rd, fun p hp => q'.lst s3' (cut_rep rs lo hi) hp⟩
              · cases e5
                have vw' := vw
                obtain ⟨a, vs, rfl, rd, rs⟩ := vw.inT
                refine .inr ⟨a, vs, rfl, rd.sq, fun hw => ?_, fun _ p hp => q'.tup s3' (cut_rep rs lo hi) hp⟩
                rw [rs.length] at hw
                rw [cutD_whole hw] at q'
                exact q'.now s3' vw'
              · cases e5
                obtain ⟨a, vs, rfl, rd, rs⟩ := vw.inScr
                exact .inl ⟨a, vs, rfl, rd.sq, fun p hp => q'.lst s3' (cut_rep rs lo hi) hp⟩
              · cases e5
            · cases e
          · cases e
        · cases e
      · cases e
    · cases e
end
end Vi

namespace Vi
open PySem PySem.Spec PyProof.Rows L2

/-! ### sorted -/
section
variable {prog : Program} {w : World} {A : Around} {E : Value → Shared → Prop} {s : Shared} {β : Type} {vs : List Value} {bs : List β} {enc : β → PyData} {R : Value → β → Prop}
theorem sorted_seq {l : Addr} {T : String} {o : Obj} {n : Nat} {Q : Value → Shared → Prop} (hT : T = "list" ∨ T = "tuple") (ho : s.heap.get? l = some o) (hc : o.cls = .type T) (hd : o.data = .seq vs.toArray n) (e : W.EachIs R vs bs)
    (er : W.EachIs (fun v b => ∃ as, Reads s.heap v (enc b) as) vs bs) (hal : W.AllAlike (bs.map enc)) (hk : W.Sortable (bs.map enc)) (hL : bs.length ≤ sizeLine) (hu : ∀ b, b ∈ bs → A.units + 2 + (enc b).depth < cLine)
    (h : ∀ (h' : Heap) (out : List Value), out.length = bs.length → (∀ b o', s.heap.get? b = some o' → h'.get? b = some o') → W.EachIs R out (bs.mergeSort (W.dataLe false enc)) → Q (.ref h'.objs.size) { s with heap := sortedHeap (h'.push (seqObj "list" vs.toArray 0)) h'.objs.size vs out.toArray }) :
    wpAny (model prog w) A (call (.builtin "sorted") [.ref l]) Q E s := by
  have hlen := e.length
  refine call_function_entry_kw kind_sorted plain_sorted entry_sorted (args_sorted1 _) ?_
  unfold Builtin.«sorted»
  refine wpAny_bind (m := checkCount "sorted" 1 1 _) (wpAny_pure ?_)
  refine wpAny_bind (wpAny_collect_seq l hT ho hc hd (fun h' kp => ?_) (by simp only [List.size_toArray]; omega))
  refine wpAny_bind (wpAny_newList ?_ (by show vs.length ≤ _; omega))
  have at_ : (h'.push (seqObj "list" vs.toArray 0)).get? h'.objs.size = some (seqObj "list" vs.toArray 0) := Heap.get?_push_size _ rfl
  have kp2 : ∀ b o', s.heap.get? b = some o' → (h'.push (seqObj "list" vs.toArray 0)).get? b = some o' := fun b o' q => Heap.get?_push_of_some _ (kp b o' q)
  have ne : ∀ b o', h'.get? b = some o' → b ≠ h'.objs.size := fun b o' q => Nat.ne_of_lt (Heap.lt_size q)
  have er' : W.EachIs (fun v b => ∃ as, Reads (W.sortingHeap (h'.push (seqObj "list" vs.toArray 0)) h'.objs.size vs) v (enc b) as) vs bs :=
    er.mono fun _ _ ⟨as, r⟩ => ⟨as, PyProof.Rows.Reads.keeps (fun b o' q => W.sortingHeap_old (ne b o' (kp b o' q)) (kp2 b o' q)) r⟩
  refine wpAny_bind (wpAny_holding (wpAny_call_entry_kw slot_list_sort ⟨_, at_, rfl⟩ entry_list_sort ?body (args_list_sort _)))
  case body =>
    show wpAny (model prog w) A.in1.in1 (Builtin.«list.sort» ⟨[.ref h'.objs.size], []⟩) _ _ { s with heap := h'.push (seqObj "list" vs.toArray 0) }
    refine wpAny_mono (W.list_sort_vals (κ := W.dataKind (W.sortingHeap (h'.push (seqObj "list" vs.toArray 0)) h'.objs.size vs) (bs.map enc)) (P := fun f s' => f = .done (.ret .none) ∧ Q (.ref h'.objs.size) s') at_ (W.SortsAt.data (s := { s with heap := W.sortingHeap (h'.push (seqObj "list" vs.toArray 0)) h'.objs.size vs }) (W.each_map (R := fun v d => ∃ as, Reads (W.sortingHeap (h'.push (seqObj "list" vs.toArray 0)) h'.objs.size vs) v d as) enc er') hal hk (W.bound_map hu)) (by omega) ⟨rfl, ?_⟩) (fun f s' hf => ?_) fun _ _ e => e
    · exact h h' _ (by rw [W.sortVals_length false rfl]; exact hlen) kp (W.sortVals_data false e er' hal)
    · obtain ⟨rfl, hq⟩ := hf
      exact ⟨_, rfl, wpAny_pure ⟨_, rfl, hq⟩⟩
end

/-- by insertion -/
def ins {β : Type} (le : β → β → Bool) (x : β) : List β → List β
  | [] => [x]
  | y :: ys => if le x y = true then x :: y :: ys else y :: ins le x ys
def isort {β : Type} (le : β → β → Bool) : List β → List β
  | [] => []
  | x :: xs => ins le x (isort le xs)
theorem ins_split {β : Type} {le : β → β → Bool} {x : β} : ∀ {l r : List β}, (∀ b ∈ l, le x b = false) → (∀ b, r.head? = some b → le x b = true) → ins le x (l ++ r) = l ++ x :: r
  | [], [], _, _ => rfl
  | [], y :: r, _, h => by
    show (if le x y = true then x :: y :: r else y :: ins le x r) = x :: y :: r
    rw [if_pos (h y rfl)]
  | b :: l, r, hl, hr => by
    show (if le x b = true then x :: b :: (l ++ r) else b :: ins le x (l ++ r)) = b :: (l ++ x :: r)
    rw [if_neg (by rw [hl b (List.mem_cons_self ..)]; decide), ins_split (fun c hc => hl c (List.mem_cons_of_mem _ hc)) hr]
theorem isort_eq {β : Type} {le : β → β → Bool} (T : W.TotalLe le) : ∀ l : List β, l.mergeSort le = isort le l
  | [] => by rw [List.mergeSort_nil]; rfl
  | x :: l => by
    have tr : ∀ a b c : β, le a b = true → le b c = true → le a c = true := T.trans
    have tt : ∀ a b : β, (le a b || le b a) = true := fun a b => Bool.or_eq_true_iff.mpr (T.total a b)
    obtain ⟨l1, l2, e1, e2, e3⟩ := List.mergeSort_cons (le := le) tr tt x l
    have hs := List.pairwise_mergeSort (le := le) tr tt (x :: l)
    rw [e1] at hs
    rw [e1]
    show l1 ++ x :: l2 = ins le x (isort le l)
    rw [← isort_eq T l, e2]
    refine (ins_split (fun b hb => by simpa using e3 b hb) fun b hb => ?_).symm
    have h2 := (List.pairwise_append.mp hs).2.1
    refine (List.pairwise_cons.mp h2).1 b ?_
    cases l2 with
    | nil => cases hb
    | cons y r => cases hb; exact List.mem_cons_self ..
theorem ins_map {β γ : Type} {le : γ → γ → Bool} (f : β → γ) (x : β) : ∀ l : List β, (ins (fun a b => le (f a) (f b)) x l).map f = ins le (f x) (l.map f)
  | [] => rfl
  | y :: l => by
    show (if le (f x) (f y) = true then x :: y :: l else y :: ins (fun a b => le (f a) (f b)) x l).map f = if le (f x) (f y) = true then f x :: f y :: l.map f else f y :: ins le (f x) (l.map f)
    split
    · rfl
    · rw [List.map_cons, ins_map f x l]
theorem isort_map {β γ : Type} {le : γ → γ → Bool} (f : β → γ) : ∀ l : List β, (isort (fun a b => le (f a) (f b)) l).map f = isort le (l.map f)
  | [] => rfl
  | x :: l => by
    show (ins (fun a b => le (f a) (f b)) x (isort (fun a b => le (f a) (f b)) l)).map f = ins le (f x) (isort le (l.map f))
    rw [ins_map, isort_map f l]
theorem ins_perm {β : Type} {le : β → β → Bool} {x : β} : ∀ l : List β, (ins le x l).Perm (x :: l)
  | [] => .refl _
  | y :: l => by
    show (if le x y = true then x :: y :: l else y :: ins le x l).Perm (x :: y :: l)
    split
    · exact .refl _
    · exact ((ins_perm l).cons y).trans (List.Perm.swap ..)
theorem isort_perm {β : Type} {le : β → β → Bool} : ∀ l : List β, (isort le l).Perm l
  | [] => .refl _
  | x :: l => (ins_perm _).trans ((isort_perm l).cons x)

/-- the order of data -/
def leD : D → D → Bool := W.dataLe false id
def sortD (ds : List D) : List D := isort leD ds
/-- what may be sorted -/
def alikeAllB (ds : List D) : Bool := ds.all fun d => ds.all fun e => W.alike d e
def headB : D → Bool
  | .tuple (_ :: _) => true
  | _ => false
def plainB : D → Bool
  | .none => false
  | .tuple _ => false
  | _ => true
def sortOk (ds : List D) : Bool := alikeAllB ds && (ds.all headB || ds.all plainB) && ds.all okD && fits ds.length
theorem sortOk_al {ds : List D} (h : sortOk ds = true) : W.AllAlike ds := fun d hd e he => by
  unfold sortOk alikeAllB at h
  rw [Bool.and_eq_true, Bool.and_eq_true, Bool.and_eq_true] at h
  exact List.all_eq_true.mp (List.all_eq_true.mp h.1.1.1 d hd) e he
theorem sortOk_so {ds : List D} (h : sortOk ds = true) : W.Sortable ds := by
  unfold sortOk at h
  rw [Bool.and_eq_true, Bool.and_eq_true, Bool.and_eq_true, Bool.or_eq_true] at h
  rcases h.1.1.2 with h | h
  · refine .inl fun d hd => ?_
    have q := List.all_eq_true.mp h d hd
    unfold headB at q
    split at q
    · exact ⟨_, _, rfl⟩
    · cases q
  · refine .inr fun d hd => ?_
    have q := List.all_eq_true.mp h d hd
    unfold plainB at q
    split at q
    · cases q
    · cases q
    · rename_i h1 h2
      exact ⟨fun e => h1 e, fun xs e => h2 xs e⟩
theorem sortOk_dp {ds : List D} (h : sortOk ds = true) : ∀ d ∈ ds, d.depth ≤ 64 := fun d hd => by
  unfold sortOk at h
  rw [Bool.and_eq_true, Bool.and_eq_true, Bool.and_eq_true] at h
  exact SeqAt.depth_of_shaped (List.all_eq_true.mp h.1.2 d hd)
theorem lay_all : ∀ {ds : List D}, (∀ d ∈ ds, d.canLay0 = true) → PyData.canLayAll0 ds = true
  | [], _ => by simp [PyData.canLayAll0]
  | d :: ds, h => by
    rw [PyData.canLayAll0, h d (List.mem_cons_self ..), lay_all fun e he => h e (List.mem_cons_of_mem _ he)]; rfl
theorem sortOk_lay {ds : List D} (h : sortOk ds = true) : PyData.canLayAll0 ds = true := lay_all fun d hd => by
  unfold sortOk at h
  rw [Bool.and_eq_true, Bool.and_eq_true, Bool.and_eq_true] at h
  exact SeqAt.canLay_of_shaped (List.all_eq_true.mp h.1.2 d hd)
theorem sortOk_len {ds : List D} (h : sortOk ds = true) : ds.length ≤ sizeLine := by
  unfold sortOk at h
  rw [Bool.and_eq_true] at h
  exact fits_le h.2
section
variable {X : Cx}
theorem each_zip {R : Value → V × D → Prop} : ∀ {us : List Value} {xs : List V} {ds : List D}, Vals xs us → xs.length = ds.length → (∀ (i : Nat) u x d, us[i]? = some u → xs[i]? = some x → ds[i]? = some d → RelV x u → R u (x, d)) → W.EachIs R us (xs.zip ds)
  | _, _, [], .nil, _, _ => .nil
  | _, _, d :: ds, .cons r t, hl, h => .cons (h 0 _ _ _ rfl rfl rfl r) (each_zip t (by simpa using hl) fun i u x d h1 h2 h3 => h (i + 1) u x d (by simpa using h1) (by simpa using h2) (by simpa using h3))
theorem each_vals : ∀ {us : List Value} {ps : List (V × D)}, W.EachIs (fun u (b : V × D) => RelV b.1 u) us ps → Vals (ps.map Prod.fst) us
  | _, _, .nil => .nil
  | _, _, .cons r t => .cons r (each_vals t)
theorem zip_snd : ∀ {xs : List V} {ds : List D}, xs.length = ds.length → (xs.zip ds).map Prod.snd = ds
  | [], [], _ => rfl
  | x :: xs, d :: ds, h => by rw [List.zip_cons_cons, List.map_cons, zip_snd (by simpa using h)]
theorem readsAll_get {h : Heap} : ∀ {ds : List D} {us : List Value} {as : List Addr} {i : Nat} {u : Value} {d : D}, ReadsAll h us ds as → us[i]? = some u → ds[i]? = some d → ∃ bs, Reads h u d bs
  | [], _, _, i, _, _, r, _, e => by simp at e
  | d :: ds, _, _, 0, _, _, .cons r1 r2, e1, e2 => by
    simp at e1 e2; subst e1; subst e2; exact ⟨_, r1⟩
  | d :: ds, _, _, i + 1, _, _, .cons r1 r2, e1, e2 => readsAll_get r2 (by simpa using e1) (by simpa using e2)
/-- sorted(x) of data: ps, the items with their data, in order -/
def rSortD (K : PySem.W.Frag) : List V → Hp → VK → Prop := fun vs H Q => ∃ (a : Addr) (xs : List V) (ds : List D), vs = [.ref a] ∧ (SqL K H a xs ∨ SqT K H a xs) ∧ xs.length = ds.length ∧ DpAll K H xs ds ∧ sortOk ds = true ∧
  ∀ p, H p = none → Q (.ref p) (upd H p (.lst ((isort (fun a b : V × D => leD a.2 b.2) (xs.zip ds)).map Prod.fst)))
theorem cr_sortD (hu : X.A.units + 70 < cLine) : CallR X (.builtin "sorted") (rSortD X.K) := by
  intro pins s σ H vs us Q I r h
  obtain ⟨a, xs, ds, rfl, hsq, hlen, hdp, hok, q⟩ := h
  rw [Vals.ref1 r]
  have core : ∀ {T : String} {o : Obj} {its : List Value} {n : Nat}, (T = "list" ∨ T = "tuple") → s.heap.get? a = some o → o.cls = .type T → o.data = .seq its.toArray n → Vals xs its → wpAny (model X.prog X.w) X.A (call (.builtin "sorted") [.ref a]) (EP X pins σ Q) X.xe s := by
    intro T o its n hT ho hc hd rv
    obtain ⟨as, hr⟩ := Dp.readsAll I ds xs its hdp rv
    have hzl : (xs.zip ds).length = ds.length := by rw [List.length_zip, hlen, Nat.min_self]
    have e : W.EachIs (fun u (b : V × D) => RelV b.1 u) its (xs.zip ds) := each_zip rv hlen fun i u x d _ _ _ r => r
    have er : W.EachIs (fun u (b : V × D) => ∃ as, Reads s.heap u (id (Prod.snd b)) as) its (xs.zip ds) := each_zip rv hlen fun i u x d h1 _ h3 _ => readsAll_get hr h1 h3
    have em : (xs.zip ds).map (fun b => id (Prod.snd b)) = ds := zip_snd hlen
    refine sorted_seq (enc := fun b : V × D => id b.2) (R := fun u (b : V × D) => RelV b.1 u) hT ho hc hd e er (by rw [em]; exact sortOk_al hok) (by rw [em]; exact sortOk_so hok) (by rw [hzl]; exact sortOk_len hok) (fun b hb => ?_) fun h' out hol kp ho2 => ?_
    · have hm : b.2 ∈ ds := by rw [← em]; exact List.mem_map.mpr ⟨b, hb, rfl⟩
      have := sortOk_dp hok _ hm
      show X.A.units + 2 + b.2.depth < cLine
      omega
    · rw [isort_eq (le := W.dataLe false fun b : V × D => id b.2) (W.sortLe_total _ _ _)] at ho2
      have I1 : Inv X pins σ H { s with heap := h' } := I.kept (t' := s.toks) kp
      have hz : ((isort (fun a b : V × D => leD a.2 b.2) (xs.zip ds)).map Prod.fst).length ≤ sizeLine := by
        rw [List.length_map, (isort_perm _).length_eq, hzl]; exact sortOk_len hok
      have hpush : (h'.push (seqObj "list" its.toArray 0)).get? h'.objs.size = some (seqObj "list" its.toArray 0) := Heap.get?_push_size _ rfl
      obtain ⟨e1, hat⟩ := sortedHeap_at (out := out.toArray) hpush
      refine ⟨.ref h'.objs.size, _, I1.laid (t' := s.toks) (o := .lst ((isort (fun a b : V × D => leD a.2 b.2) (xs.zip ds)).map Prod.fst)) (fun b u eb => ?_) (Nat.le_refl _) ⟨hz, out, e1, each_vals ho2, hat⟩, rfl, q _ I1.fresh⟩
      have hb : b < h'.objs.size := Heap.lt_size eb
      rw [sortedHeap_old (Nat.ne_of_lt hb) (by rw [size_push']; exact Nat.lt_succ_of_lt hb)]
      exact Heap.get?_push_of_some _ eb
  rcases hsq with hsq | hsq
  · obtain ⟨its, rv, ⟨o, n, ho, hc, _, hd⟩, _⟩ := I.list hsq
    exact core (.inl rfl) ho hc hd rv
  · obtain ⟨its, rv, ⟨o, ho, hc, n, hd⟩, _⟩ := I.tuple hsq
    exact core (.inr rfl) ho hc hd rv
def dSort : D → Option Sv
  | .list ds => if sortOk ds = true then some (.own .loc (sortD ds)) else none
  | .tuple ds => if sortOk ds = true then some (.own .loc (sortD ds)) else none
  | _ => none
theorem reps_sort {K : PySem.W.Frag} {H : Hp} {M : Mset} : ∀ {ps : List (V × D)}, (∀ b ∈ ps, Rep K H M b.1 b.2) → Reps K H M (ps.map Prod.fst) (ps.map Prod.snd)
  | [], _ => .nil
  | b :: ps, h => .cons (h b (List.mem_cons_self ..)) (reps_sort fun c hc => h c (List.mem_cons_of_mem _ hc))
theorem reps_zip {K : PySem.W.Frag} {H : Hp} {M : Mset} : ∀ {vs : List V} {ds : List D}, Reps K H M vs ds → ∀ b ∈ vs.zip ds, Rep K H M b.1 b.2
  | _, _, .nil, b, hb => by cases hb
  | _, _, .cons h r, b, hb => by
    rw [List.zip_cons_cons] at hb
    rcases List.mem_cons.mp hb with rfl | hb
    · exact h
    · exact reps_zip r b hb
theorem us_sort : UnS X (fun v H Q => rSortD X.K [v] H Q) dSort := by
  intro H M O π ρ σ v1 d1 res Q h r1 e q
  have fin : ∀ {vs : List V} {ds : List D} {p : Addr}, Reps X.K H M vs ds → Post X.K H M O π ρ σ (.own .loc (sortD ds)) Q → H p = none → Q (.ref p) (upd H p (.lst ((isort (fun a b : V × D => leD a.2 b.2) (vs.zip ds)).map Prod.fst))) := fun {vs ds p} rs q hp => by
    have e2 : sortD ds = (isort (fun a b : V × D => leD a.2 b.2) (vs.zip ds)).map Prod.snd := by
      rw [isort_map (le := leD) Prod.snd, zip_snd rs.length]; rfl
    rw [e2] at q
    exact q.lst h (reps_sort fun b hb => reps_zip rs b ((isort_perm _).mem_iff.mp hb)) hp
  unfold dSort at e
  split at e
  · split at e
    · rename_i hz
      cases e
      obtain ⟨a, vs, rfl, rd, rs⟩ := r1.inL
      exact ⟨a, vs, _, rfl, .inl (.inl rd), rs.length, rs.dp (sortOk_lay hz), hz, fun p hp => fin rs q hp⟩
    · cases e
  · split at e
    · rename_i hz
      cases e
      obtain ⟨a, vs, rfl, rd, rs⟩ := r1.inT
      exact ⟨a, vs, _, rfl, .inr rd.sq, rs.length, rs.dp (sortOk_lay hz), hz, fun p hp => fin rs q hp⟩
    · cases e
  · cases e

/-! ### isinstance -/
inductive Ty where
  | int | bool | str | list | tuple
def Ty.nm : Ty → String
  | .int => "int" | .bool => "bool" | .str => "str" | .list => "list" | .tuple => "tuple"
def tyN : D → Option String
  | .none => some "NoneType" | .bool _ => some "bool" | .int _ => some "int" | .str _ => some "str" | .list _ => some "list" | .tuple _ => some "tuple" | _ => none
def isT : Ty → D → Bool
  | .int, .int _ => true
  | .int, .bool _ => true
  | .bool, .bool _ => true
  | .str, .str _ => true
  | .list, .list _ => true
  | .tuple, .tuple _ => true
  | _, _ => false
theorem kit_is {K : PySem.W.Frag} {d : D} {n : String} (t : Ty) (e : tyN d = some n) : PySem.W.kitOne K (.type n) (.type t.nm) = some (isT t d) := by
  cases d <;> first | cases e | skip
  all_goals (cases t <;> first | exact kit_ty (r := true) (by decide +kernel) | exact kit_ty (r := false) (by decide +kernel))
theorem kit_is2 {K : PySem.W.Frag} {d : D} {n : String} (t u : Ty) (e : tyN d = some n) : PySem.W.kitAny K (.type n) [.type t.nm, .type u.nm] = some (isT t d || isT u d) := by
  cases h : isT t d with
  | true => exact kitAny_cons (kit_is t e) (fun z => by rw [h] at z; cases z) fun _ => rfl
  | false =>
    refine kitAny_cons (kit_is t e) (fun _ => ?_) fun z => by rw [h] at z; cases z
    cases h2 : isT u d with
    | true => exact kitAny_cons (kit_is u e) (fun z => by rw [h2] at z; cases z) fun _ => rfl
    | false => exact kitAny_cons (kit_is u e) (fun _ => kitAny_nil) fun z => by rw [h2] at z; cases z
theorem tyx_of {K : PySem.W.Frag} {H : Hp} {M : Mset} {v : V} {d : D} {n : String} (r : VW K H M v d) (e : tyN d = some n) : TyX K H v (.type n) := by
  cases d with
  | none => cases e; cases r.inN; exact .base .non
  | bool b => cases e; cases r.inB; exact .base (.bl b)
  | int b => cases e; cases r.inI; exact .base (.int b)
  | str b => cases e; cases r.inS; exact .base (.str b)
  | list b =>
    cases e
    obtain ⟨a, vs, rfl, h, rs⟩ := r.inL
    rcases h with h | ⟨o, h⟩
    · exact .base (.lst h)
    · exact .base (.frz h)
  | tuple b =>
    cases e
    obtain ⟨a, vs, rfl, h, rs⟩ := r.inT
    rcases h with ⟨h | ⟨o, h⟩, _⟩ | ⟨o, its, n, h1, h2, _⟩
    · exact .base (.tup h)
    · exact .fTuple h
    · exact .kTuple h1 h2
  | dict b => cases e
def dIsi (t : Ty) (d : D) : Option Sv := (tyN d).map fun _ => .imm (.bool (isT t d))
def dIsi2 (t u : Ty) (d : D) : Option Sv := (tyN d).map fun _ => .imm (.bool (isT t d || isT u d))
variable {a b : Expr} {ma : ME} {pos : Pos}
theorem tC_two {ta : TE} {v : V} {σ : St} {H : Hp} {Q : List V → Hp → Prop} (h : ta σ H fun x H1 => Q [x, v] H1) : tCons ta (tCons (tC v) tNil) σ H Q := h
theorem de_isi {t : Ty} {x : Str} {p : Pos} (hg : Gl X x) (hm : X.mg x = none) (hv : bootBuiltins x = some (.builtin "isinstance")) (ha : DE X a ma) (ht : PE X b (tC (.ty t.nm)))
    (hn : x ≠ "__name__" := by decide) (hd : (x == ("__debug__" : Str)) = false := by decide) (he : starEach [a, b] X.env = (false, eval a X.env) :: starEach [b] X.env := by rfl) (he2 : starEach [b] X.env = (false, eval b X.env) :: starEach [] X.env := by rfl) (hpl : (backTo pos (starEach [b] X.env)).any (·.1) = false := by rfl) :
    DE X (.Call (.Name x p) [a, b] [] pos) (un (dIsi t) ma) :=
  PE.imp (pe_callB call_isi hg hm hv (pa_cons ha (pa_cons ht pa_nil he2) he) hn hd he hpl) fun σ H Q h => tC_two (tE_un (r := fun v H Q => rIsi X.K [v, .ty t.nm] H Q) (by
    intro H M O π ρ σ v1 d1 res Q h r1 e q
    obtain ⟨n, e1, rfl⟩ := Option.map_eq_some_iff.mp e
    exact ⟨_, _, _, _, _, rfl, .ty _, tyx_of r1 e1, kit_is t e1, Post.now q h (.bl _)⟩) h)
/-- isinstance(x, (t, u)): the tuple is laid behind x -/
theorem de_isi2 {t u : Ty} {x : Str} {p p2 : Pos} {b1 b2 : Expr} {k : Nat} (hg : Gl X x) (hm : X.mg x = none) (hv : bootBuiltins x = some (.builtin "isinstance")) (ha : DE X a ma) (h1 : PE X b1 (tC (.ty t.nm))) (h2 : PE X b2 (tC (.ty u.nm)))
    (hn : x ≠ "__name__" := by decide) (hd : (x == ("__debug__" : Str)) = false := by decide) (he : starEach [a, .Tuple [b1, b2] k p2] X.env = (false, eval a X.env) :: starEach [.Tuple [b1, b2] k p2] X.env := by rfl)
    (he2 : starEach [.Tuple [b1, b2] k p2] X.env = (false, eval (.Tuple [b1, b2] k p2) X.env) :: starEach [] X.env := by rfl) (he3 : starEach [b1, b2] X.env = (false, eval b1 X.env) :: starEach [b2] X.env := by rfl) (he4 : starEach [b2] X.env = (false, eval b2 X.env) :: starEach [] X.env := by rfl)
    (hpl : (backTo pos (starEach [.Tuple [b1, b2] k p2] X.env)).any (·.1) = false := by rfl) :
    DE X (.Call (.Name x p) [a, .Tuple [b1, b2] k p2] [] pos) (un (dIsi2 t u) ma) :=
  PE.imp (pe_callB call_isiT hg hm hv (pa_cons ha (pa_cons (pe_tup (pa_cons h1 (pa_cons h2 pa_nil he4) he3)) pa_nil he2) he) hn hd he hpl) fun σ H Q h =>
    tE_un (r := fun v H Q => 2 ≤ sizeLine ∧ ∀ p, H p = none → rIsiT X.K [v, .ref p] (upd H p (.tup [.ty t.nm, .ty u.nm])) Q) (by
      intro H M O π ρ σ v1 d1 res Q h r1 e q
      obtain ⟨n, e1, rfl⟩ := Option.map_eq_some_iff.mp e
      refine ⟨by decide, fun p hp => ?_⟩
      have r1' : VW X.K (upd H p (.tup [.ty t.nm, .ty u.nm])) M v1 d1 := by
        cases d1 with
        | list ds =>
          obtain ⟨a, vs, e, hr, rs⟩ := r1.inL
          refine ⟨a, vs, e, ?_, rs.tr (alloc_tr h hp)⟩
          rcases hr with hr | ⟨o, hr⟩
          · exact .inl (by rw [upd_ne (fun z => by rw [z, hp] at hr; cases hr)]; exact hr)
          · exact .inr ⟨o, by rw [upd_ne (fun z => by rw [z, hp] at hr; cases hr)]; exact hr⟩
        | _ => exact Rep.tr (alloc_tr h hp) r1
      exact ⟨v1, p, _, _, _, _, rfl, upd_same, .cons (.ty _) (.cons (.ty _) .nil), tyx_of r1' e1, kit_is2 t u e1, q _ _ M (.alloc h hp) (h.alloc hp) (.bl _)⟩) h
end
end Vi

namespace Vi
open PySem PySem.Spec PyProof.Rows L2

inductive Fl where
  | next | brk | cont
  | ret (r : Sv)
abbrev MS := Fm → Option (Fl × Fm)
/-- what a def hands back -/
def RV (K : PySem.W.Frag) (H : Hp) (M O : Mset) (ρ : Fm) (σ : St) : Sv → V → Prop
  | .imm d, v => Rep K H M v d
  | .own b ds, v => ∃ p vs, v = .ref p ∧ H p = some (cell b p vs ds) ∧ M p ∧ ¬ O p ∧ Reps K H M vs ds ∧ ∀ (i : Nat) (es : List D), ρ[i]? = some (some (.own .par es)) → σ[i]? ≠ some (some (.ref p))
def SPost (K : PySem.W.Frag) (H : Hp) (M O : Mset) (π : Nat → Option Addr) (D : Ends) (ρ' : Fm) : Fl → Prop
  | .next => ∀ σ' H' M', Ext O H M H' M' → SR K H' M' O π ρ' σ' → D.nx σ' H'
  | .brk => ∀ σ' H' M', Ext O H M H' M' → SR K H' M' O π ρ' σ' → D.bk σ' H'
  | .cont => ∀ σ' H' M', Ext O H M H' M' → SR K H' M' O π ρ' σ' → D.ct σ' H'
  | .ret r => ∀ v σ' H' M', Ext O H M H' M' → SR K H' M' O π ρ' σ' → RV K H' M' O ρ' σ' r v → D.rt v H'
def tS (K : PySem.W.Frag) (m : MS) : TS := fun D σ H => ∃ ρ M O π fl ρ', SR K H M O π ρ σ ∧ m ρ = some (fl, ρ') ∧ SPost K H M O π D ρ' fl
def DS (X : Cx) (s : Stmt) (m : MS) : Prop := PS X s (tS X.K m)
def DSs (X : Cx) (s : List Stmt) (m : MS) : Prop := PSs X s (tS X.K m)
theorem SPost.later {K : PySem.W.Frag} {H H1 : Hp} {M M1 O O1 : Mset} {π : Nat → Option Addr} {D : Ends} {ρ' : Fm} {fl : Fl} (q : SPost K H M O π D ρ' fl) (x : Ext O H M H1 M1) : SPost K H1 M1 O π D ρ' fl := by
  cases fl with
  | next => exact fun σ' H' M' x' => q σ' H' M' (x.trans x')
  | brk => exact fun σ' H' M' x' => q σ' H' M' (x.trans x')
  | cont => exact fun σ' H' M' x' => q σ' H' M' (x.trans x')
  | ret r => exact fun v σ' H' M' x' => q v σ' H' M' (x.trans x')

/-! ### states behind a store -/
section
variable {K : PySem.W.Frag} {H H' : Hp} {M M' O O' : Mset} {π : Nat → Option Addr} {ρ ρ' : Fm} {σ : St} {pr : PR} {v : V} {d : D} {i : Nat}
theorem SR.setImm (h : SR K H M O π ρ σ) (r : Rep K H M v d) : SR K H M O π (ρ.set i (some (.imm d))) (σ.set i (some v)) := by
  refine ⟨by rw [List.length_set, List.length_set]; exact h.len, h.sub, h.live, fun j e f => ?_, fun j b es f => ?_, fun j k b c es fs x hjk f g => ?_⟩
  · rcases get_set f with ⟨hj, g⟩ | ⟨hj, f⟩
    · subst hj
      have hl : j < ρ.length := by
        have := (List.getElem?_eq_some_iff.mp f).1
        rwa [List.length_set] at this
      cases g
      exact ⟨v, by rw [List.getElem?_set_self (by rw [← h.len]; exact hl)], r⟩
    · rw [List.getElem?_set_ne (Ne.symm hj)]; exact h.imm j e f
  · rcases get_set f with ⟨_, g⟩ | ⟨hj, f⟩
    · cases g
    · rw [List.getElem?_set_ne (Ne.symm hj)]; exact h.own j b es f
  · rcases get_set f with ⟨_, z⟩ | ⟨hj, f⟩
    · cases z
    · rcases get_set g with ⟨_, z⟩ | ⟨hk, g⟩
      · cases z
      · rw [List.getElem?_set_ne (Ne.symm hj), List.getElem?_set_ne (Ne.symm hk)]; exact h.uniq j k b c es fs x hjk f g
theorem SR.setOwnC {p : Addr} {vs : List V} {ds : List D} {b : Kd} (h : SR K H M O π ρ σ) (hb : b ≠ .par) (e1 : H p = some (cell b p vs ds)) (e2 : M p) (e3 : ¬ O p) (r : Reps K H M vs ds) (ha : Apart ρ σ p) : SR K H M O π (ρ.set i (some (.own b ds))) (σ.set i (some (.ref p))) := by
  refine ⟨by rw [List.length_set, List.length_set]; exact h.len, h.sub, h.live, fun j e f => ?_, fun j b es f => ?_, fun j k b c es fs x hjk f g => ?_⟩
  · rcases get_set f with ⟨_, g⟩ | ⟨hj, f⟩
    · cases g
    · rw [List.getElem?_set_ne (Ne.symm hj)]; exact h.imm j e f
  · rcases get_set f with ⟨hj, g⟩ | ⟨hj, f⟩
    · subst hj
      have hl : j < ρ.length := by
        have := (List.getElem?_eq_some_iff.mp f).1
        rwa [List.length_set] at this
      cases g
      exact ⟨p, vs, by rw [List.getElem?_set_self (by rw [← h.len]; exact hl)], e1, e2, e3, r, fun z => absurd z hb⟩
    · rw [List.getElem?_set_ne (Ne.symm hj)]; exact h.own j b es f
  · rcases get_set f with ⟨hj, z⟩ | ⟨hj, f'⟩
    · cases z
      rcases get_set g with ⟨hk, z⟩ | ⟨hk, g'⟩
      · exact absurd (hj.trans hk.symm) hjk
      · subst hj
        intro q q2
        have hl : j < ρ.length := by
          have := (List.getElem?_eq_some_iff.mp f).1
          rwa [List.length_set] at this
        rw [List.getElem?_set_self (by rw [← h.len]; exact hl)] at q
        cases q
        rw [List.getElem?_set_ne (Ne.symm hk)] at q2
        exact ha k c fs g' q2
    · rcases get_set g with ⟨hk, z⟩ | ⟨hk, g'⟩
      · cases z
        subst hk
        rw [List.getElem?_set_ne (Ne.symm hj)]
        intro q q2
        have hl : k < ρ.length := by
          have := (List.getElem?_eq_some_iff.mp g).1
          rwa [List.length_set] at this
        rw [List.getElem?_set_self (by rw [← h.len]; exact hl)] at q2
        cases q2
        exact ha j b es f' q
      · rw [List.getElem?_set_ne (Ne.symm hj), List.getElem?_set_ne (Ne.symm hk)]; exact h.uniq j k b c es fs x hjk f' g'
theorem SR.setOwn {p : Addr} {vs : List V} {ds : List D} (h : SR K H M O π ρ σ) (e1 : H p = some (.lst vs)) (e2 : M p) (e3 : ¬ O p) (r : Reps K H M vs ds) (ha : Apart ρ σ p) : SR K H M O π (ρ.set i (some (.own .loc ds))) (σ.set i (some (.ref p))) := h.setOwnC (b := .loc) (fun z => by cases z) e1 e2 e3 r ha
theorem get_set_same {α : Type} {l : List α} {i : Nat} {x y : α} (h : l[i]? = some y) : (l.set i x)[i]? = some x := by
  rw [List.getElem?_set_self (List.getElem?_eq_some_iff.mp h).1]
/-- the list that a name owns is written -/
theorem SR.writeC {a : Addr} {b : Kd} {ws : List V} {ds es : List D} (h : SR K H M O π ρ σ) (e : ρ[i]? = some (some (.own b ds))) (e1 : σ[i]? = some (some (.ref a))) (r : Reps K H M ws es) :
    SR K (upd H a (cell b a ws es)) M O π (ρ.set i (some (.own b es))) σ ∧ Ext O H M (upd H a (cell b a ws es)) M ∧ ∀ x u, Rd H x u → ¬ M x → Rd (upd H a (cell b a ws es)) x u ∧ ¬ M x := by
  obtain ⟨a', vs', f1, f2, f3, f4, f5, f6⟩ := h.own i b ds e
  rw [e1] at f1; cases f1
  have t : ∀ x u, Rd H x u → ¬ M x → Rd (upd H a (cell b a ws es)) x u ∧ ¬ M x := fun x u q n => by
    have ne : x ≠ a := fun z => n (z ▸ f3)
    refine ⟨?_, n⟩
    rcases q with q | ⟨o, q⟩
    · exact .inl (by rw [upd_ne ne]; exact q)
    · exact .inr ⟨o, by rw [upd_ne ne]; exact q⟩
  refine ⟨⟨by rw [List.length_set]; exact h.len, h.sub, fun x q => ?_, fun j d f => ?_, fun j c fs f => ?_, fun j k b' c fs gs x hjk f g => ?_⟩, ⟨fun x o q z => ?_, h.sub, fun x q => .inl q⟩, t⟩
  · by_cases hx : x = a
    · subst hx; rw [upd_same]; intro z; exact absurd z (by simp)
    · rw [upd_ne hx]; exact h.live x q
  · rcases get_set f with ⟨_, z⟩ | ⟨hj, f⟩
    · cases z
    · obtain ⟨w, g1, g2⟩ := h.imm j d f
      exact ⟨w, g1, g2.tr t⟩
  · rcases get_set f with ⟨hj, z⟩ | ⟨hj, f⟩
    · cases z
      subst hj
      exact ⟨a, ws, e1, upd_same, f3, f4, r.tr t, f6⟩
    · obtain ⟨x, us, g1, g2, g3, g4, g5, g6⟩ := h.own j c fs f
      have ne : x ≠ a := fun z => by
        subst z
        exact h.uniq i j _ _ _ _ x (Ne.symm hj) e f e1 g1
      exact ⟨x, us, g1, by rw [upd_ne ne]; exact g2, g3, g4, g5.tr t, g6⟩
  · rcases get_set f with ⟨hj, z⟩ | ⟨hj, f'⟩
    · cases z
      rcases get_set g with ⟨hk, z⟩ | ⟨hk, g'⟩
      · exact absurd (hj.trans hk.symm) hjk
      · subst hj; exact h.uniq j k _ _ _ _ x hjk e g'
    · rcases get_set g with ⟨hk, z⟩ | ⟨hk, g'⟩
      · cases z; subst hk; exact h.uniq j k _ _ _ _ x hjk f' e
      · exact h.uniq j k _ _ _ _ x hjk f' g'
  · refine (upd_ne (fun hx => ?_)).trans q
    subst hx
    exact z.elim f4 fun n => n f3
theorem SR.write {a : Addr} {b : Kd} {ws : List V} {ds es : List D} (h : SR K H M O π ρ σ) (e : ρ[i]? = some (some (.own b ds))) (hb : b.isL = true) (e1 : σ[i]? = some (some (.ref a))) (r : Reps K H M ws es) :
    SR K (upd H a (.lst ws)) M O π (ρ.set i (some (.own b es))) σ ∧ Ext O H M (upd H a (.lst ws)) M ∧ ∀ x u, Rd H x u → ¬ M x → Rd (upd H a (.lst ws)) x u ∧ ¬ M x := by
  have q := h.writeC e e1 r
  rw [cell_lst hb] at q
  exact q
/-- a name's own list -/
theorem isL_of {b : Kd} (h : b = .dic → False) : b.isL = true := by cases b <;> first | rfl | exact absurd rfl h
theorem SR.ownL {b : Kd} {ds : List D} (h : SR K H M O π ρ σ) (e : ρ[i]? = some (some (.own b ds))) (hb : b.isL = true) : ∃ a vs, σ[i]? = some (some (.ref a)) ∧ H a = some (.lst vs) ∧ M a ∧ ¬ O a ∧ Reps K H M vs ds ∧ (b = .par → π i = some a) := by
  have q := h.own i b ds e
  simp only [cell_lst hb] at q
  exact q
/-- a value that a name is to hold -/
def take (ρ : Fm) : PR → Option (Sv × Fm)
  | .val (.imm d) => some (.imm d, ρ)
  | .val (.own .dic ds) => some (.own .dic ds, ρ)
  | .val (.own _ ds) => some (.own .loc ds, ρ)
  | .slot j => match frz ρ (.slot j) with
    | some (d, ρ1) => some (.imm d, ρ1)
    | none => none
def put (i : Nat) (pr : PR) (ρ : Fm) : Option Fm := match take ρ pr with
  | some (sv, ρ1) => some (ρ1.set i (some sv))
  | none => none
theorem put_ok (h : SR K H M O π ρ σ) (r : RP K H M O ρ σ pr v) (e : put i pr ρ = some ρ') : ∃ M', Ext O H M H M' ∧ SR K H M' O π ρ' (σ.set i (some v)) := by
  unfold put at e
  match pr, v, r with
  | .val (.imm d), v, r =>
    cases e
    exact ⟨M, .refl h, h.setImm r⟩
  | .val (.own b ds), v, ⟨p, vs, e1, e2, e3, e4, e5, e6⟩ =>
    subst e1
    cases b with
    | dic => cases e; exact ⟨M, .refl h, h.setOwnC (fun z => by cases z) e2 e3 e4 e5 e6⟩
    | loc => cases e; exact ⟨M, .refl h, h.setOwn e2 e3 e4 e5 e6⟩
    | par => cases e; exact ⟨M, .refl h, h.setOwn e2 e3 e4 e5 e6⟩
  | .slot j, v, r =>
    unfold take at e
    simp only at e
    cases ef : frz ρ (.slot j) with
    | none => rw [ef] at e; cases e
    | some dρ =>
      obtain ⟨d, ρ1⟩ := dρ
      rw [ef] at e
      cases e
      obtain ⟨M', x, s, rr⟩ := frz_ok h r ef
      exact ⟨M', x, s.setImm rr⟩
def give (ρ : Fm) : PR → Option Sv
  | .val s => some s
  | .slot i => match ρ[i]? with
    | some (some (.imm d)) => some (.imm d)
    | some (some (.own .loc ds)) => some (.own .loc ds)
    | some (some (.own .dic ds)) => some (.own .dic ds)
    | _ => none
theorem give_ok {r : Sv} (h : SR K H M O π ρ σ) (q : RP K H M O ρ σ pr v) (e : give ρ pr = some r) : RV K H M O ρ σ r v := by
  match pr, v, q with
  | .val (.imm d), v, q => cases e; exact q
  | .val (.own b ds), v, ⟨p, vs, e1, e2, e3, e4, e5, e6⟩ => cases e; exact ⟨p, vs, e1, e2, e3, e4, e5, fun i es f => e6 i .par es f⟩
  | .slot i, v, q =>
    have q' : σ[i]? = some (some v) := q
    unfold give at e
    simp only at e
    split at e
    · rename_i d hs
      cases e
      obtain ⟨w, f1, f2⟩ := h.imm i _ hs
      rw [q'] at f1; cases f1; exact f2
    · rename_i ds hs
      cases e
      obtain ⟨a, vs, f1, f2, f3, f4, f5, f6⟩ := h.own i _ ds hs
      rw [q'] at f1; cases f1
      exact ⟨a, vs, rfl, f2, f3, f4, f5, fun j es f g => by
        by_cases hij : i = j
        · subst hij; rw [hs] at f; cases f
        · exact h.uniq i j _ _ _ _ a hij hs f q' g⟩
    · rename_i ds hs
      cases e
      obtain ⟨a, vs, f1, f2, f3, f4, f5, f6⟩ := h.own i _ ds hs
      rw [q'] at f1; cases f1
      exact ⟨a, vs, rfl, f2, f3, f4, f5, fun j es f g => by
        by_cases hij : i = j
        · subst hij; rw [hs] at f; cases f
        · exact h.uniq i j _ _ _ _ a hij hs f q' g⟩
    · cases e
end

section
variable {X : Cx} {st : Stmt} {rest sa sb : List Stmt} {e : Expr} {me : ME} {m n : MS} {mt : MT} {pos : Pos}
/-! ### blocks -/
def mNext : MS := fun ρ => some (.next, ρ)
def mSeq (m n : MS) : MS := fun ρ => match m ρ with
  | some (.next, ρ1) => n ρ1
  | some (.brk, ρ1) => some (.brk, ρ1)
  | some (.cont, ρ1) => some (.cont, ρ1)
  | some (.ret r, ρ1) => some (.ret r, ρ1)
  | none => none
theorem dss_nil : DSs X [] mNext := PSs.imp pss_nil fun D σ H ⟨ρ, M, O, π, fl, ρ', h, e, q⟩ => by
  cases e
  exact q σ H M (.refl h) h
theorem dss_one (h : DS X st m) : DSs X [st] m := pss_one h
theorem dss_cons (h1 : DS X st m) (h2 : DSs X rest n) : DSs X (st :: rest) (mSeq m n) := PSs.imp (pss_cons h1 h2) fun D σ H ⟨ρ, M, O, π, fl, ρ', h, e, q⟩ => by
  unfold mSeq at e
  split at e
  · rename_i ρ1 e1
    exact ⟨ρ, M, O, π, .next, ρ1, h, e1, fun σ1 H1 M1 x1 s1 => ⟨ρ1, M1, O, π, fl, ρ', s1, e, q.later (O1 := O) x1⟩⟩
  · rename_i ρ1 e1
    cases e
    exact ⟨ρ, M, O, π, .brk, _, h, e1, q⟩
  · rename_i ρ1 e1
    cases e
    exact ⟨ρ, M, O, π, .cont, _, h, e1, q⟩
  · rename_i r ρ1 e1
    cases e
    exact ⟨ρ, M, O, π, .ret r, _, h, e1, q⟩
  · cases e
def mBrk : MS := fun ρ => some (.brk, ρ)
def mCont : MS := fun ρ => some (.cont, ρ)
theorem ds_pass : DS X (.Pass pos) mNext := PS.imp ps_pass fun D σ H ⟨ρ, M, O, π, fl, ρ', h, e, q⟩ => by
  cases e
  exact q σ H M (.refl h) h
theorem ds_brk : DS X (.Break pos) mBrk := PS.imp ps_break fun D σ H ⟨ρ, M, O, π, fl, ρ', h, e, q⟩ => by
  cases e
  exact q σ H M (.refl h) h
theorem ds_cont : DS X (.Continue pos) mCont := PS.imp ps_continue fun D σ H ⟨ρ, M, O, π, fl, ρ', h, e, q⟩ => by
  cases e
  exact q σ H M (.refl h) h
/-- a raise (or whatever is never come to) -/
def mNever : MS := fun _ => none
theorem ds_never : DS X st mNever := PS.imp ps_never fun D σ H ⟨ρ, M, O, π, fl, ρ', h, e, q⟩ => by cases e
def mIfS (c : MT) (m n : MS) : MS := fun ρ => match c ρ with
  | some (true, ρ1) => m ρ1
  | some (false, ρ1) => n ρ1
  | none => none
theorem ds_if {c : Expr} (hc : DT X c mt) (ha : DSs X sa m) (hb : DSs X sb n) : DS X (.If c sa sb pos) (mIfS mt m n) := PS.imp (ps_if hc ha hb) fun D σ H ⟨ρ, M, O, π, fl, ρ', h, e, q⟩ => by
  unfold mIfS at e
  split at e
  · rename_i ρ1 e1
    exact ⟨ρ, M, O, π, true, ρ1, h, e1, fun H1 M1 x1 s1 => iteT ⟨ρ1, M1, O, π, fl, ρ', s1, e, q.later (O1 := O) x1⟩⟩
  · rename_i ρ1 e1
    exact ⟨ρ, M, O, π, false, ρ1, h, e1, fun H1 M1 x1 s1 => iteF ⟨ρ1, M1, O, π, fl, ρ', s1, e, q.later (O1 := O) x1⟩⟩
  · cases e
def mRet (me : ME) : MS := fun ρ => match me ρ with
  | some (pr, ρ1) => match give ρ1 pr with
    | some r => some (.ret r, ρ1)
    | none => none
  | none => none
theorem ds_ret (he : DE X e me) : DS X (.Return (some e) pos) (mRet me) := PS.imp (ps_ret he) fun D σ H ⟨ρ, M, O, π, fl, ρ', h, e, q⟩ => by
  unfold mRet at e
  split at e
  · rename_i pr ρ1 e1
    split at e
    · rename_i r e2
      cases e
      exact ⟨ρ, M, O, π, pr, _, h, e1, fun v H1 M1 x1 s1 r1 => q v σ H1 M1 x1 s1 (give_ok s1 r1 e2)⟩
    · cases e
  · cases e
def mRetN : MS := fun ρ => some (.ret (.imm .none), ρ)
theorem ds_retN : DS X (.Return none pos) mRetN := PS.imp ps_retN fun D σ H ⟨ρ, M, O, π, fl, ρ', h, e, q⟩ => by
  cases e
  exact q .non σ H M (.refl h) h .non
/-- x = e -/
def mSet (i : Nat) (me : ME) : MS := fun ρ => match me ρ with
  | some (pr, ρ1) => match put i pr ρ1 with
    | some ρ2 => some (.next, ρ2)
    | none => none
  | none => none
theorem ds_set {i : Nat} (h : ∀ te, PE X e te → PS X st (tAsg te (gName i))) (he : DE X e me) : DS X st (mSet i me) := PS.imp (h _ he) fun D σ H ⟨ρ, M, O, π, fl, ρ', h, e, q⟩ => by
  unfold mSet at e
  split at e
  · rename_i pr ρ1 e1
    split at e
    · rename_i ρ2 e2
      cases e
      refine ⟨ρ, M, O, π, pr, ρ1, h, e1, fun v H1 M1 x1 s1 r1 => ?_⟩
      obtain ⟨M2, x2, s2⟩ := put_ok s1 r1 e2
      exact q _ H1 M2 (x1.trans x2) s2
    · cases e
  · cases e
/-- an expression whose value is dropped -/
def mDrop (me : ME) : MS := fun ρ => match me ρ with
  | some (_, ρ1) => some (.next, ρ1)
  | none => none
theorem ds_expr (he : DE X e me) (hs : swapsWith e none pos.line X.env = pure false := by rfl) : DS X (.Expr e pos) (mDrop me) := PS.imp (ps_expr he hs) fun D σ H ⟨ρ, M, O, π, fl, ρ', h, e, q⟩ => by
  unfold mDrop at e
  split at e
  · rename_i pr ρ1 e1
    cases e
    exact ⟨ρ, M, O, π, pr, _, h, e1, fun v H1 M1 x1 s1 r1 => q σ H1 M1 x1 s1⟩
  · cases e
theorem ds_doc {x j pos'} : DS X (.Expr (.Constant (.str x) j pos) pos') mNext := PS.imp ps_doc fun D σ H ⟨ρ, M, O, π, fl, ρ', h, e, q⟩ => by
  cases e
  exact q σ H M (.refl h) h

/-! ### methods that change a name's list -/
/-- x.append(e), as an expression -/
def mApp (i : Nat) (me : ME) : ME := fun ρ => match ρ[i]? with
  | some (some (.own .dic _)) => none
  | some (some (.own _ _)) => match me ρ with
    | some (pr, ρ1) => match frz ρ1 pr with
      | some (d, ρ2) => match ρ2[i]? with
        | some (some (.own .dic _)) => none
        | some (some (.own b ds)) => if fits (ds.length + 1) = true then some (.val (.imm .none), ρ2.set i (some (.own b (ds ++ [d])))) else none
        | _ => none
      | none => none
    | none => none
  | _ => none
theorem de_app {i : Nat} (h : ∀ t, PA X [e] t → PE X st_e (tBM X.K "list" rAppend (tVar i) t)) (he : DE X e me) (hs : starEach (e :: []) X.env = (false, eval e X.env) :: starEach [] X.env := by rfl) : DE X st_e (mApp i me) :=
  PE.imp (h _ (pa_cons he pa_nil hs)) fun σ H Q ⟨ρ, M, O, π, fl, ρ', h, e, q⟩ => by
    unfold mApp at e
    split at e
    · cases e
    · rename_i b0 ds0 hne0 e0
      obtain ⟨a, vs, f1, f2, f3, f4, f5, f6⟩ := h.ownL e0 (isL_of hne0)
      refine ⟨.ref a, f1, .inl ⟨rfl, vs, .inl (.inl f2)⟩, ?_⟩
      split at e
      · rename_i pr ρ1 e1
        split at e
        · rename_i d ρ2 e2
          split at e
          · cases e
          · rename_i b ds hne3 e3
            split at e
            · rename_i hz
              cases e
              refine ⟨ρ, M, O, π, pr, ρ1, h, e1, fun v H1 M1 x1 s1 r1 => ?_⟩
              obtain ⟨M2, x2, s2, r2⟩ := frz_ok s1 r1 e2
              obtain ⟨a', ws, g1, g2, g3, g4, g5, g6⟩ := s2.ownL e3 (isL_of hne3)
              rw [f1] at g1; cases g1
              obtain ⟨s3, x3, t3⟩ := s2.write (ws := ws ++ [v]) (es := ds ++ [d]) e3 (isL_of hne3) f1 (g5.append (.cons r2 .nil))
              exact ⟨a, ws, v, rfl, rfl, g2, by have := fits_le hz; rw [g5.length]; omega, q _ _ M2 ((x1.trans x2).trans x3) s3 .non⟩
            · cases e
          · cases e
        · cases e
      · cases e
    · cases e
/-- x.pop(k) -/
def mPopAt (i : Nat) (me : ME) : ME := fun ρ => match ρ[i]? with
  | some (some (.own .dic _)) => none
  | some (some (.own _ _)) => match me ρ with
    | some (pr, ρ1) => match peek ρ1 pr with
      | some (.int k) => match ρ1[i]? with
        | some (some (.own .dic _)) => none
        | some (some (.own b ds)) => match seqIndex? k ds.length with
          | some j => match ds[j]? with
            | some d => if decide (-(2 ^ 63) ≤ k ∧ k < 2 ^ 63) = true then some (.val (.imm d), ρ1.set i (some (.own b (ds.eraseIdx j)))) else none
            | none => none
          | none => none
        | _ => none
      | _ => none
    | none => none
  | _ => none
theorem de_popAt {i : Nat} (h : ∀ t, PA X [e] t → PE X st_e (tBM X.K "list" rPopAt (tVar i) t)) (he : DE X e me) (hs : starEach (e :: []) X.env = (false, eval e X.env) :: starEach [] X.env := by rfl) : DE X st_e (mPopAt i me) :=
  PE.imp (h _ (pa_cons he pa_nil hs)) fun σ H Q ⟨ρ, M, O, π, fl, ρ', h, e, q⟩ => by
    unfold mPopAt at e
    split at e
    · cases e
    · rename_i b0 ds0 hne0 e0
      obtain ⟨a, vs, f1, f2, f3, f4, f5, f6⟩ := h.ownL e0 (isL_of hne0)
      refine ⟨.ref a, f1, .inl ⟨rfl, vs, .inl (.inl f2)⟩, ?_⟩
      split at e
      · rename_i pr ρ1 e1
        split at e
        · rename_i k e2
          split at e
          · cases e
          · rename_i b ds hne3 e3
            split at e
            · rename_i j ej
              split at e
              · rename_i d ed
                split at e
                · rename_i hz
                  cases e
                  have hz' := of_decide_eq_true hz
                  refine ⟨ρ, M, O, π, pr, ρ1, h, e1, fun v H1 M1 x1 s1 r1 => ?_⟩
                  obtain ⟨a', ws, g1, g2, g3, g4, g5, g6⟩ := s1.ownL e3 (isL_of hne3)
                  rw [f1] at g1; cases g1
                  obtain ⟨w, hw, rw'⟩ := g5.get ed
                  obtain ⟨s3, x3, t3⟩ := s1.write (ws := ws.eraseIdx j) (es := ds.eraseIdx j) e3 (isL_of hne3) f1 (g5.erase j)
                  exact ⟨a, ws, k, j, w, rfl, by rw [(peek_vw s1 r1 e2).inI], g2, hz'.1, hz'.2, by rw [g5.length]; exact ej, hw, q _ _ M1 (x1.trans x3) s3 (rw'.tr t3)⟩
                · cases e
              · cases e
            · cases e
          · cases e
        · cases e
      · cases e
    · cases e
/-- x[k] = e -/
def mStore (i : Nat) (mk me : ME) : MS := fun ρ => match me ρ with
  | some (pr, ρ1) => match frz ρ1 pr with
    | some (d, ρ2) => match ρ2[i]? with
      | some (some (.own .dic _)) => none
      | some (some (.own _ _)) => match mk ρ2 with
        | some (pk, ρ3) => match peek ρ3 pk with
          | some (.int k) => match ρ3[i]? with
            | some (some (.own .dic _)) => none
            | some (some (.own b ds)) => match ixN ds.length k with
              | some j => some (.next, ρ3.set i (some (.own b (ds.set j d))))
              | none => none
            | _ => none
          | _ => none
        | none => none
      | _ => none
    | none => none
  | none => none
theorem ds_store {i : Nat} {k : Expr} {mk : ME} (h : ∀ te tk, PE X e te → PE X k tk → PS X st (tAsg te (gSub (tVar i) tk rSetL))) (he : DE X e me) (hk : DE X k mk) : DS X st (mStore i mk me) :=
  PS.imp (h _ _ he hk) fun D σ H ⟨ρ, M, O, π, fl, ρ', h, e, q⟩ => by
    unfold mStore at e
    split at e
    · rename_i pr ρ1 e1
      split at e
      · rename_i d ρ2 e2
        split at e
        · cases e
        · rename_i b0 ds0 hne0 e0
          split at e
          · rename_i pk ρ3 e3
            split at e
            · rename_i k e4
              split at e
              · cases e
              · rename_i b ds hne5 e5
                split at e
                · rename_i j ej
                  cases e
                  refine ⟨ρ, M, O, π, pr, ρ1, h, e1, fun v H1 M1 x1 s1 r1 => ?_⟩
                  obtain ⟨M2, x2, s2, r2⟩ := frz_ok s1 r1 e2
                  obtain ⟨a, vs, f1, f2, f3, f4, f5, f6⟩ := s2.ownL e0 (isL_of hne0)
                  refine ⟨.ref a, f1, ρ2, M2, O, π, pk, ρ3, s2, e3, fun w H3 M3 x3 s3 r3 => ?_⟩
                  obtain ⟨a', ws, g1, g2, g3, g4, g5, g6⟩ := s3.ownL e5 (isL_of hne5)
                  rw [f1] at g1; cases g1
                  obtain ⟨s4, x4, t4⟩ := s3.write (ws := ws.set j v) (es := ds.set j d) e5 (isL_of hne5) f1 (g5.set j (r2.tr x3.tr))
                  exact ⟨a, ws, k, j, rfl, (peek_vw s3 r3 e4).inI, g2, by rw [g5.length]; exact ej, q _ _ M3 (((x1.trans x2).trans x3).trans x4) s4⟩
                · cases e
              · cases e
            · cases e
          · cases e
        · cases e
      · cases e
    · cases e
end
end Vi

namespace Vi
open PySem PySem.Spec PyProof.Rows L2

/-- what was fixed stays -/
abbrev Lat (H0 : Hp) (M0 : Mset) (H : Hp) (M : Mset) : Prop := ∀ a u, Rd H0 a u → ¬ M0 a → Rd H a u ∧ ¬ M a
theorem Lat.trans {H0 H1 H2 : Hp} {M0 M1 M2 : Mset} (a : Lat H0 M0 H1 M1) (b : Lat H1 M1 H2 M2) : Lat H0 M0 H2 M2 := fun x u h n => b x u (a x u h n).1 (a x u h n).2

/-! ### targets -/
abbrev MG := D → Fm → Option Fm
def tG (K : PySem.W.Frag) (m : MG) (ts : List Nat) : TG := fun v σ H Q => ∃ ρ M O π d ρ', SR K H M O π ρ σ ∧ Rep K H M v d ∧ m d ρ = some ρ' ∧ ∀ σ', SR K H M O π ρ' σ' → (∀ j, j ∉ ts → σ'[j]? = σ[j]?) → σ'.length = σ.length → Q σ' H
def DG (X : Cx) (tg : Expr) (m : MG) (ts : List Nat) : Prop := PG X tg (tG X.K m ts)
theorem _root_.L2.PG.imp {X : Cx} {e : Expr} {t t' : TG} (h : PG X e t) (i : ∀ v σ H Q, t' v σ H Q → t v σ H Q) : PG X e t' := ⟨fun pins s σ H v u Q I r q => h.run pins s σ H v u Q I r (i v σ H Q q)⟩
theorem _root_.L2.PGs.imp {X : Cx} {e : List Expr} {t t' : TGs} (h : PGs X e t) (i : ∀ v σ H Q, t' v σ H Q → t v σ H Q) : PGs X e t' := ⟨fun pins s σ H v u Q I r q => h.run pins s σ H v u Q I r (i v σ H Q q)⟩
def mN (i : Nat) : MG := fun d ρ => some (ρ.set i (some (.imm d)))
section
variable {X : Cx} {tg e : Expr} {es : List Expr} {pos : Pos}
theorem dg_name {i : Nat} (h : PG X e (gName i)) : DG X e (mN i) [i] := PG.imp h fun v σ H Q ⟨ρ, M, O, π, d, ρ', hs, r, e, q⟩ => by
  cases e
  exact q _ (hs.setImm r) (fun j hj => List.getElem?_set_ne (fun z => hj (by simp [z]))) (List.length_set ..)
abbrev MGs := List D → Fm → Option Fm
def tGs (K : PySem.W.Frag) (m : MGs) (ts : List Nat) : TGs := fun vs σ H Q => ∃ ρ M O π ds ρ', SR K H M O π ρ σ ∧ Reps K H M vs ds ∧ m ds ρ = some ρ' ∧ ∀ σ', SR K H M O π ρ' σ' → (∀ j, j ∉ ts → σ'[j]? = σ[j]?) → σ'.length = σ.length → Q σ' H
def DGs (X : Cx) (tg : List Expr) (m : MGs) (ts : List Nat) : Prop := PGs X tg (tGs X.K m ts)
def mGnil : MGs := fun ds ρ => match ds with
  | [] => some ρ
  | _ :: _ => none
def mGcons (m : MG) (n : MGs) : MGs := fun ds ρ => match ds with
  | [] => none
  | d :: ds => match m d ρ with
    | some ρ1 => n ds ρ1
    | none => none
theorem dgs_nil : DGs X [] mGnil [] := PGs.imp pgs_nil fun vs σ H Q ⟨ρ, M, O, π, ds, ρ', hs, r, e, q⟩ => by
  unfold mGnil at e
  split at e
  · cases e
    cases r
    exact ⟨rfl, q σ hs (fun _ _ => rfl) rfl⟩
  · cases e
theorem dgs_cons {m : MG} {n : MGs} {ts us : List Nat} (h1 : DG X e m ts) (h2 : DGs X es n us) (hs : (assignEach (e :: es) X.env).map (·.2) = assign e X.env :: (assignEach es X.env).map (·.2) := by rfl) : DGs X (e :: es) (mGcons m n) (ts ++ us) :=
  PGs.imp (pgs_cons h1 h2 hs) fun vs σ H Q ⟨ρ, M, O, π, ds, ρ', hs, r, e, q⟩ => by
    unfold mGcons at e
    split at e
    · cases e
    · rename_i d ds
      cases r with
      | @cons v vs d ds rv rr =>
        split at e
        · rename_i ρ1 e1
          refine ⟨v, vs, rfl, ρ, M, O, π, d, ρ1, hs, rv, e1, fun σ1 s1 f1 l1 => ⟨ρ1, M, O, π, ds, ρ', s1, rr, e, fun σ2 s2 f2 l2 => q σ2 s2 (fun j hj => ?_) (l2.trans l1)⟩⟩
          rw [List.mem_append, not_or] at hj
          rw [f2 j hj.2, f1 j hj.1]
        · cases e
def mGtup (k : Nat) (n : MGs) : MG := fun d ρ => match d with
  | .tuple ds => if ds.length = k then n ds ρ else none
  | _ => none
theorem dg_tup {k : Nat} {n : MGs} {ts : List Nat} {kk : Nat} (hc : X.calm = true) (h : DGs X es n ts) (hn : (assignEach es X.env).length = k := by rfl) (hst : (assignEach es X.env).findIdx? (·.1) = none := by rfl) : DG X (.Tuple es kk pos) (mGtup k n) ts :=
  PG.imp (pg_tup hc h hn hst) fun v σ H Q ⟨ρ, M, O, π, d, ρ', hs, r, e, q⟩ => by
    unfold mGtup at e
    split at e
    · rename_i ds
      split at e
      · rename_i hl
        cases r with
        | tup ht rr => exact ⟨_, _, rfl, ht.sq, by rw [rr.length]; exact hl, ρ, M, O, π, ds, ρ', hs, rr, e, q⟩
      · cases e
    · cases e

/-! ### what is walked -/
def YD (K : PySem.W.Frag) (H : Hp) (M : Mset) (x : V) (H' : Hp) (d : D) : Prop :=
  (H' = H ∧ Rep K H M x d) ∨ ∃ T vs es, x = .ref T ∧ H T = none ∧ H' = upd H T (.tup vs) ∧ d = .tuple es ∧ Reps K H M vs es
structure Src (K : PySem.W.Frag) (J : It) (ds : List D) (H0 : Hp) (M0 : Mset) : Prop where
  go : ∀ H M, Lat H0 M0 H M → ∀ i, i < ds.length → J.go i H
  stop : ∀ H M, Lat H0 M0 H M → J.stop ds.length H
  yld : ∀ H M, Lat H0 M0 H M → ∀ (i : Nat) d x H', ds[i]? = some d → J.yld i H x H' → YD K H M x H' d
theorem YD.ok {K : PySem.W.Frag} {H : Hp} {M O : Mset} {π : Nat → Option Addr} {ρ : Fm} {σ : St} {x : V} {H' : Hp} {d : D} (y : YD K H M x H' d) (h : SR K H M O π ρ σ) : SR K H' M O π ρ σ ∧ Ext O H M H' M ∧ Rep K H' M x d := by
  rcases y with ⟨rfl, r⟩ | ⟨T, vs, es, rfl, hT, rfl, rfl, r⟩
  · exact ⟨h, .refl h, r⟩
  · exact ⟨h.alloc hT, .alloc h hT, .tup (.inl ⟨.inl upd_same, fun z => h.live T z hT⟩) (r.tr (alloc_tr h hT))⟩
abbrev MI := Fm → Option (List D × Fm)
def tI (K : PySem.W.Frag) (m : MI) : TI := fun σ H R => ∃ ρ M O π ds ρ', SR K H M O π ρ σ ∧ m ρ = some (ds, ρ') ∧ ∀ J H' M', Ext O H M H' M' → SR K H' M' O π ρ' σ → Src K J ds H' M' → R J H'
def DI (X : Cx) (tg iter : Expr) (m : MI) : Prop := PI X tg iter (tI X.K m)
theorem _root_.L2.PI.imp {X : Cx} {tg e : Expr} {t t' : TI} (h : PI X tg e t) (i : ∀ σ H Q, t' σ H Q → t σ H Q) : PI X tg e t' := ⟨fun pins s σ H Q I q => h.run pins s σ H Q I (i σ H Q q)⟩
def iSeq (K : PySem.W.Frag) (tl : TE) : TI := fun σ H R => tl σ H fun x H1 => ∃ a, x = .ref a ∧ (((∃ xs, SqL K H1 a xs) ∧ R (Itl K a) H1) ∨ ((∃ xs, SqT K H1 a xs) ∧ R (Itt K a) H1))
theorem pi_seq {l : Expr} {tl : TE} (hl : PE X l tl) : PI X tg l (iSeq X.K tl) := by
  refine ⟨fun pins s σ H R I h => ?_⟩
  refine thn (hl.run pins s σ H _ I h) fun v s1 ⟨x, H1, I1, r1, q1⟩ => ?_
  obtain ⟨a, e, q1⟩ := q1
  subst e
  cases r1
  rcases q1 with ⟨⟨xs, hq⟩, q⟩ | ⟨⟨xs, hq⟩, q⟩
  · obtain ⟨its, rv, p, hz⟩ := I1.list hq
    refine wpAny_pyIter_list p.isList ?_
    refine ⟨s1.heap.objs.size, [s1.heap.objs.size], _, _, H1, rfl, I1.kept (t' := s1.toks) fun b o e => Heap.get?_push_of_some _ e, turn_list a _, ⟨_, Heap.get?_push_size _ rfl, rfl, rfl⟩, fun b hb => ?_, q⟩
    have e : b = s1.heap.objs.size := by simpa using hb
    subst e
    exact I1.fpOk (Nat.le_refl _) (I1.hok.fresh (Nat.le_refl _))
  · obtain ⟨its, rv, p, hz⟩ := I1.tuple hq
    refine wpAny_pyIter_tuple (show s1.heap.IsTuple a its.toArray from p) ?_
    refine ⟨s1.heap.objs.size, [s1.heap.objs.size], _, _, H1, rfl, I1.kept (t' := s1.toks) fun b o e => Heap.get?_push_of_some _ e, turn_tuple a _, ⟨_, Heap.get?_push_size _ rfl, rfl, rfl⟩, fun b hb => ?_, q⟩
    have e : b = s1.heap.objs.size := by simpa using hb
    subst e
    exact I1.fpOk (Nat.le_refl _) (I1.hok.fresh (Nat.le_refl _))
theorem src_list {K : PySem.W.Frag} {H0 : Hp} {M0 : Mset} {a : Addr} {vs : List V} {ds : List D} (h : Rd H0 a (.lst vs)) (n : ¬ M0 a) (r : Reps K H0 M0 vs ds) : Src K (Itl K a) ds H0 M0 where
  go := fun H M l i hi => walk_list.goes i H (by rw [r.length]; exact hi) (.inl (l a _ h n).1)
  stop := fun H M l => by rw [← r.length]; exact walk_list.stops H (.inl (l a _ h n).1)
  yld := fun H M l i d x H' ed y => by
    obtain ⟨v, hv, rv⟩ := r.get ed
    obtain ⟨e1, e2⟩ := walk_list.yields i H x H' (by rw [r.length]; exact (List.getElem?_eq_some_iff.mp ed).1) (.inl (l a _ h n).1) y
    rw [hv] at e2; cases e2
    exact .inl ⟨e1, rv.tr l⟩
theorem tupAt_lat {K : PySem.W.Frag} {H0 H : Hp} {M0 M : Mset} {a : Addr} {vs : List V} (h : TupAt K H0 M0 a vs) (l : Lat H0 M0 H M) : SqT K H a vs := by
  rcases h with ⟨h, n⟩ | h
  · exact .inl (l a _ h n).1
  · exact .inr h
theorem src_tup {K : PySem.W.Frag} {H0 : Hp} {M0 : Mset} {a : Addr} {vs : List V} {ds : List D} (h : TupAt K H0 M0 a vs) (r : Reps K H0 M0 vs ds) : Src K (Itt K a) ds H0 M0 where
  go := fun H M l i hi => walk_tup.goes i H (by rw [r.length]; exact hi) (tupAt_lat h l)
  stop := fun H M l => by rw [← r.length]; exact walk_tup.stops H (tupAt_lat h l)
  yld := fun H M l i d x H' ed y => by
    obtain ⟨v, hv, rv⟩ := r.get ed
    obtain ⟨e1, e2⟩ := walk_tup.yields i H x H' (by rw [r.length]; exact (List.getElem?_eq_some_iff.mp ed).1) (tupAt_lat h l) y
    rw [hv] at e2; cases e2
    exact .inl ⟨e1, rv.tr l⟩
def itemsOf : D → Option (List D)
  | .list ds => some ds
  | .tuple ds => some ds
  | _ => none
def mISeq (me : ME) : MI := fun ρ => match me ρ with
  | some (pr, ρ1) => match frz ρ1 pr with
    | some (d, ρ2) => match itemsOf d with
      | some ds => some (ds, ρ2)
      | none => none
    | none => none
  | none => none
theorem di_seq {me : ME} (he : DE X e me) : DI X tg e (mISeq me) := PI.imp (pi_seq he) fun σ H R ⟨ρ, M, O, π, ds, ρ', h, e, q⟩ => by
  unfold mISeq at e
  split at e
  · rename_i pr ρ1 e1
    split at e
    · rename_i d ρ2 e2
      split at e
      · rename_i ds' e3
        cases e
        refine ⟨ρ, M, O, π, pr, ρ1, h, e1, fun v H1 M1 x1 s1 r1 => ?_⟩
        obtain ⟨M2, x2, s2, r2⟩ := frz_ok s1 r1 e2
        unfold itemsOf at e3
        split at e3
        · cases e3
          cases r2 with
          | lst hr n rr => exact ⟨_, rfl, .inl ⟨⟨_, .inl hr⟩, q _ H1 M2 (x1.trans x2) s2 (src_list hr n rr)⟩⟩
        · cases e3
          cases r2 with
          | tup ht rr => exact ⟨_, rfl, .inr ⟨⟨_, ht.sq⟩, q _ H1 M2 (x1.trans x2) s2 (src_tup ht rr)⟩⟩
        · cases e3
      · cases e
    · cases e
  · cases e
/-- range -/
def rngD (lo : Int) (n : Nat) : List D := (List.range n).map fun k => .int (lo + (k : Nat))
theorem rngD_len (lo : Int) (n : Nat) : (rngD lo n).length = n := by unfold rngD; simp
theorem src_rng {K : PySem.W.Frag} {H0 : Hp} {M0 : Mset} {lo : Int} {n : Nat} : Src K (Itr lo n) (rngD lo n) H0 M0 where
  go := fun H M l i hi => by rw [rngD_len] at hi; exact hi
  stop := fun H M l => by rw [rngD_len]; exact Nat.le_refl _
  yld := fun H M l i d x H' ed y => by
    obtain ⟨e1, e2⟩ := y
    subst e2
    refine .inl ⟨e1, ?_⟩
    unfold rngD at ed
    rw [List.getElem?_map] at ed
    obtain ⟨k, ek, rfl⟩ := Option.map_eq_some_iff.mp ed
    have hk : k = i := by
      obtain ⟨h1, h2⟩ := List.getElem?_eq_some_iff.mp ek
      simpa using h2.symm
    subst hk
    exact .int _
def rngOk (i : Int) : Bool := decide (-(2 ^ 62) ≤ i ∧ i < 2 ^ 62)
def mIRng1 (ma : MA) : MI := fun ρ => match ma ρ with
  | some ([.int j], ρ1) => if rngOk j = true then some (rngD 0 j.toNat, ρ1) else none
  | _ => none
def mIRng2 (ma : MA) : MI := fun ρ => match ma ρ with
  | some ([.int i, .int j], ρ1) => if (rngOk i && rngOk j) = true then some (rngD i (j - i).toNat, ρ1) else none
  | _ => none
theorem di_rng1 {a : Expr} {ma : MA} {p : Pos} (hg : Gl X "range") (hm : X.mg "range" = none) (ha : DA X [a] ma) (hs : starEach [a] X.env = [(false, eval a X.env)] := by rfl) : DI X tg (.Call (.Name "range" p) [a] [] pos) (mIRng1 ma) :=
  PI.imp (pi_range1 hg hm ha hs) fun σ H R ⟨ρ, M, O, π, ds, ρ', h, e, q⟩ => by
    unfold mIRng1 at e
    split at e
    · rename_i j ρ1 e1
      split at e
      · rename_i hz
        cases e
        have hz' := of_decide_eq_true hz
        refine ⟨ρ, M, O, π, _, _, h, e1, fun vs H1 M1 x1 s1 r1 => ?_⟩
        cases r1 with
        | cons rv rr =>
          cases rr
          cases rv
          exact ⟨j, rfl, hz'.1, hz'.2, q _ H1 M1 x1 s1 src_rng⟩
      · cases e
    · cases e
theorem di_rng2 {a b : Expr} {ma : MA} {p : Pos} (hg : Gl X "range") (hm : X.mg "range" = none) (ha : DA X [a, b] ma) (hs : starEach [a, b] X.env = [(false, eval a X.env), (false, eval b X.env)] := by rfl) (hs2 : starEach [b] X.env = [(false, eval b X.env)] := by rfl) : DI X tg (.Call (.Name "range" p) [a, b] [] pos) (mIRng2 ma) :=
  PI.imp (pi_range2 hg hm ha hs hs2) fun σ H R ⟨ρ, M, O, π, ds, ρ', h, e, q⟩ => by
    unfold mIRng2 at e
    split at e
    · rename_i i j ρ1 e1
      split at e
      · rename_i hz
        cases e
        rw [Bool.and_eq_true] at hz
        have hz1 := of_decide_eq_true hz.1
        have hz2 := of_decide_eq_true hz.2
        refine ⟨ρ, M, O, π, _, _, h, e1, fun vs H1 M1 x1 s1 r1 => ?_⟩
        cases r1 with
        | cons rv rr =>
          cases rr with
          | cons rw' rr =>
            cases rr
            cases rv
            cases rw'
            exact ⟨i, j, rfl, ⟨hz1.1, hz1.2, hz2.1, hz2.2⟩, q _ H1 M1 x1 s1 src_rng⟩
      · cases e
    · cases e
/-- zip, enumerate -/
def zipD : List D → List D → List D
  | x :: xs, y :: ys => .tuple [x, y] :: zipD xs ys
  | _, _ => []
theorem zipD_len : ∀ xs ys : List D, (zipD xs ys).length = min xs.length ys.length
  | [], _ => by simp [zipD]
  | _ :: _, [] => by simp [zipD]
  | x :: xs, y :: ys => by
    show (zipD xs ys).length + 1 = min (xs.length + 1) (ys.length + 1)
    rw [zipD_len xs ys]; omega
theorem zipD_get : ∀ {xs ys : List D} {i : Nat} {d : D}, (zipD xs ys)[i]? = some d → ∃ x y, xs[i]? = some x ∧ ys[i]? = some y ∧ d = .tuple [x, y]
  | [], _, _, _, h => by simp [zipD] at h
  | _ :: _, [], _, _, h => by simp [zipD] at h
  | x :: xs, y :: ys, 0, d, h => ⟨x, y, rfl, rfl, (Option.some.inj (show some (PyData.tuple [x, y]) = some d from h)).symm⟩
  | x :: xs, y :: ys, i + 1, d, h => by
    obtain ⟨a, b, h1, h2, h3⟩ := zipD_get (xs := xs) (ys := ys) (i := i) (d := d) (by simpa [zipD] using h)
    exact ⟨a, b, by simpa using h1, by simpa using h2, h3⟩
theorem yd_pair {K : PySem.W.Frag} {H : Hp} {M : Mset} {x : V} {H' : Hp} {f g : Nat → Option V} {i : Nat} {a b : D} {va vb : V} (y : YPair f g i H x H') (ha : f i = some va) (hb : g i = some vb) (ra : Rep K H M va a) (rb : Rep K H M vb b) : YD K H M x H' (.tuple [a, b]) := by
  obtain ⟨T, p, q, rfl, hT, rfl, h1, h2⟩ := y
  rw [ha] at h1; cases h1
  rw [hb] at h2; cases h2
  exact .inr ⟨T, _, _, rfl, hT, rfl, rfl, .cons ra (.cons rb .nil)⟩
theorem src_zipL {K : PySem.W.Frag} {H0 : Hp} {M0 : Mset} {a b : Addr} {vs ws : List V} {xs ys : List D} (h : Rd H0 a (.lst vs)) (n : ¬ M0 a) (r : Reps K H0 M0 vs xs) (h2 : Rd H0 b (.lst ws)) (n2 : ¬ M0 b) (r2 : Reps K H0 M0 ws ys) : Src K (Itz K a b) (zipD xs ys) H0 M0 := by
  have W := walk_zip (K := K) (a := a) (b := b) (xs := vs) (ys := ws) rfl
  have G : ∀ {H : Hp} {M : Mset}, Lat H0 M0 H M → SqL K H a vs ∧ SqL K H b ws := fun l => ⟨.inl (l a _ h n).1, .inl (l b _ h2 n2).1⟩
  refine ⟨fun H M l i hi => W.goes i H (by rw [r.length, r2.length, ← zipD_len]; exact hi) (G l), fun H M l => by rw [zipD_len, ← r.length, ← r2.length]; exact W.stops H (G l), fun H M l i d x H' ed y => ?_⟩
  obtain ⟨p, q, e1, e2, rfl⟩ := zipD_get ed
  obtain ⟨v, hv, rv⟩ := r.get e1
  obtain ⟨w, hw, rw'⟩ := r2.get e2
  exact yd_pair (W.yields i H x H' (by rw [r.length, r2.length, ← zipD_len]; exact (List.getElem?_eq_some_iff.mp ed).1) (G l) y) hv hw (rv.tr l) (rw'.tr l)
theorem src_zipT {K : PySem.W.Frag} {H0 : Hp} {M0 : Mset} {a b : Addr} {vs ws : List V} {xs ys : List D} (h : TupAt K H0 M0 a vs) (r : Reps K H0 M0 vs xs) (h2 : TupAt K H0 M0 b ws) (r2 : Reps K H0 M0 ws ys) : Src K (RZ.ItzT K a b) (zipD xs ys) H0 M0 := by
  refine ⟨fun H M l i hi => ?_, fun H M l => ⟨vs, ws, tupAt_lat h l, tupAt_lat h2 l, ?_⟩, fun H M l i d x H' ed y => ?_⟩
  · rw [zipD_len, ← r.length, ← r2.length] at hi
    have h1 : i < vs.length := by omega
    have h3 : i < ws.length := by omega
    exact ⟨vs, ws, vs[i], ws[i], tupAt_lat h l, tupAt_lat h2 l, by simp [h1], by simp [h3]⟩
  · rw [zipD_len, ← r.length, ← r2.length]; omega
  · obtain ⟨p, q, e1, e2, rfl⟩ := zipD_get ed
    obtain ⟨v, hv, rv⟩ := r.get e1
    obtain ⟨w, hw, rw'⟩ := r2.get e2
    obtain ⟨T, vx, vy, rfl, hT, rfl, f1, f2⟩ := y
    have g1 := f1 vs (tupAt_lat h l)
    have g2 := f2 ws (tupAt_lat h2 l)
    rw [hv] at g1; cases g1
    rw [hw] at g2; cases g2
    exact .inr ⟨T, _, _, rfl, hT, rfl, rfl, .cons (rv.tr l) (.cons (rw'.tr l) .nil)⟩
def mIZip (ma : MA) : MI := fun ρ => match ma ρ with
  | some ([.list xs, .list ys], ρ1) => some (zipD xs ys, ρ1)
  | some ([.tuple xs, .tuple ys], ρ1) => some (zipD xs ys, ρ1)
  | _ => none
theorem di_zip {a b : Expr} {ma : MA} {p tpos : Pos} {elts : List Expr} {kk : Nat} (hg : Gl X "zip") (hm : X.mg "zip" = none) (ha : DA X [a, b] ma)
    (hs : starEach [a, b] X.env = (false, eval a X.env) :: starEach [b] X.env := by rfl) (hpl : (backTo pos (starEach [b] X.env)).any (·.1) = false := by rfl) : DI X (.Tuple elts kk tpos) (.Call (.Name "zip" p) [a, b] [] pos) (mIZip ma) :=
  PI.imp (RZ.pi_zipA hg hm ha hs hpl) fun σ H R ⟨ρ, M, O, π, ds, ρ', h, e, q⟩ => by
    unfold mIZip at e
    split at e
    · rename_i xs ys ρ1 e1
      cases e
      refine ⟨ρ, M, O, π, _, _, h, e1, fun vs H1 M1 x1 s1 r1 => ?_⟩
      cases r1 with
      | cons rv rr =>
        cases rr with
        | cons rw' rr =>
          cases rr
          cases rv with
          | lst hr n rr => cases rw' with
            | lst hr2 n2 rr2 => exact ⟨_, _, _, _, rfl, .inl ⟨.inl hr, .inl hr2, q _ H1 M1 x1 s1 (src_zipL hr n rr hr2 n2 rr2)⟩⟩
    · rename_i xs ys ρ1 e1
      cases e
      refine ⟨ρ, M, O, π, _, _, h, e1, fun vs H1 M1 x1 s1 r1 => ?_⟩
      cases r1 with
      | cons rv rr =>
        cases rr with
        | cons rw' rr =>
          cases rr
          cases rv with
          | tup hr rr => cases rw' with
            | tup hr2 rr2 => exact ⟨_, _, _, _, rfl, .inr ⟨hr.sq, hr2.sq, q _ H1 M1 x1 s1 (src_zipT hr rr hr2 rr2)⟩⟩
    · cases e
def enumD (k : Nat) : List D → List D
  | [] => []
  | x :: xs => .tuple [.int (k : Nat), x] :: enumD (k + 1) xs
theorem enumD_len : ∀ (k : Nat) (xs : List D), (enumD k xs).length = xs.length
  | _, [] => rfl
  | k, x :: xs => by show (enumD (k + 1) xs).length + 1 = _; rw [enumD_len (k + 1) xs]; rfl
theorem enumD_get : ∀ {k : Nat} {xs : List D} {i : Nat} {d : D}, (enumD k xs)[i]? = some d → ∃ x, xs[i]? = some x ∧ d = .tuple [.int ((k + i : Nat) : Int), x]
  | _, [], _, _, h => by simp [enumD] at h
  | k, x :: xs, 0, d, h => ⟨x, rfl, (Option.some.inj (show some (PyData.tuple [.int (k : Nat), x]) = some d from h)).symm⟩
  | k, x :: xs, i + 1, d, h => by
    obtain ⟨a, h1, h2⟩ := enumD_get (k := k + 1) (xs := xs) (i := i) (d := d) (by simpa [enumD] using h)
    exact ⟨a, by simpa using h1, by rw [h2, show k + 1 + i = k + (i + 1) by omega]⟩
theorem src_enumL {K : PySem.W.Frag} {H0 : Hp} {M0 : Mset} {a : Addr} {vs : List V} {xs : List D} (h : Rd H0 a (.lst vs)) (n : ¬ M0 a) (r : Reps K H0 M0 vs xs) : Src K (Ite K a) (enumD 0 xs) H0 M0 := by
  have W := walk_enum (K := K) (a := a) (xs := vs)
  refine ⟨fun H M l i hi => W.goes i H (by rw [r.length, ← enumD_len 0]; exact hi) (.inl (l a _ h n).1), fun H M l => by rw [enumD_len, ← r.length]; exact W.stops H (.inl (l a _ h n).1), fun H M l i d x H' ed y => ?_⟩
  obtain ⟨p, e1, rfl⟩ := enumD_get ed
  obtain ⟨v, hv, rv⟩ := r.get e1
  rw [Nat.zero_add]
  exact yd_pair (W.yields i H x H' (by rw [r.length, ← enumD_len 0]; exact (List.getElem?_eq_some_iff.mp ed).1) (.inl (l a _ h n).1) y) rfl hv (.int _) (rv.tr l)
end

/-! ### for, while -/
section
variable {X : Cx} {tg iter c : Expr} {body : List Stmt} {pos : Pos} {mi : MI} {mg : MG} {mb : MS} {mt : MT} {ts : List Nat}
def loop (mg : MG) (mb : MS) : List D → Fm → Option (Fl × Fm)
  | [], ρ => some (.next, ρ)
  | d :: ds, ρ => match mg d ρ with
    | some ρ1 => match mb ρ1 with
      | some (.next, ρ2) => loop mg mb ds ρ2
      | some (.cont, ρ2) => loop mg mb ds ρ2
      | some (.brk, ρ2) => some (.next, ρ2)
      | some (.ret r, ρ2) => some (.ret r, ρ2)
      | none => none
    | none => none
def mFor (mi : MI) (mg : MG) (mb : MS) : MS := fun ρ => match mi ρ with
  | some (ds, ρ1) => loop mg mb ds ρ1
  | none => none
theorem ds_for (hp : PassesOwn (model X.prog X.w) X.A X.env X.xe) (hc : X.calm = true) (hi : DI X tg iter mi) (hg : DG X tg mg ts) (hb : DSs X body mb) (hs : ∀ x, foldedSetIterable iter X.env x = pure x := by intro _; rfl) : DS X (.For tg iter body [] pos) (mFor mi mg mb) :=
  PS.imp (ps_for hp hc hi hg hb hs) fun D σ H ⟨ρ, M, O, π, fl, ρ', h, e, q⟩ => by
    unfold mFor at e
    split at e
    · rename_i ds ρ1 e1
      refine ⟨ρ, M, O, π, ds, ρ1, h, e1, fun J H1 M1 x1 s1 src => ?_⟩
      have q1 := q.later (O1 := O) x1
      refine ⟨fun i m σ2 H2 => m = ds.length - i ∧ i ≤ ds.length ∧ ∃ ρ2 M2, SR X.K H2 M2 O π ρ2 σ2 ∧ Ext O H1 M1 H2 M2 ∧ loop mg mb (ds.drop i) ρ2 = some (fl, ρ'), ⟨_, rfl, Nat.zero_le _, ρ1, M1, s1, .refl s1, e⟩, ?_⟩
      rintro i m σ2 H2 ⟨rfl, hi2, ρ2, M2, s2, x2, e2⟩
      by_cases hlt : i < ds.length
      · rw [List.drop_eq_getElem_cons hlt] at e2
        have hd : ds[i]? = some ds[i] := List.getElem?_eq_getElem hlt
        refine .inr ⟨src.go H2 M2 x2.tr i hlt, fun σ3 H3 => ds.length - (i + 1) = ds.length - (i + 1) ∧ i + 1 ≤ ds.length ∧ ∃ ρ3 M3, SR X.K H3 M3 O π ρ3 σ3 ∧ Ext O H1 M1 H3 M3 ∧ loop mg mb (ds.drop (i + 1)) ρ3 = some (fl, ρ'), fun σ3 H3 w => ⟨_, by omega, w⟩, fun x H3 y => ?_⟩
        obtain ⟨s3, x3, r3⟩ := (src.yld H2 M2 x2.tr i _ x H3 hd y).ok s2
        unfold loop at e2
        split at e2
        · rename_i ρ3 e3
          refine ⟨ρ2, M2, O, π, _, ρ3, s3, r3, e3, fun σ4 s4 _ _ => ?_⟩
          have x23 := x2.trans x3
          split at e2
          · rename_i ρ5 e5
            exact ⟨ρ3, M2, O, π, .next, ρ5, s4, e5, fun σ5 H5 M5 x5 s5 => ⟨rfl, hlt, ρ5, M5, s5, x23.trans x5, e2⟩⟩
          · rename_i ρ5 e5
            exact ⟨ρ3, M2, O, π, .cont, ρ5, s4, e5, fun σ5 H5 M5 x5 s5 => ⟨rfl, hlt, ρ5, M5, s5, x23.trans x5, e2⟩⟩
          · rename_i ρ5 e5
            cases e2
            exact ⟨ρ3, M2, O, π, .brk, _, s4, e5, fun σ5 H5 M5 x5 s5 => q1 σ5 H5 M5 (x23.trans x5) s5⟩
          · rename_i r ρ5 e5
            cases e2
            exact ⟨ρ3, M2, O, π, .ret r, _, s4, e5, fun v σ5 H5 M5 x5 s5 rv => q1 v σ5 H5 M5 (x23.trans x5) s5 rv⟩
          · cases e2
        · cases e2
      · have ei : i = ds.length := by omega
        subst ei
        rw [List.drop_length] at e2
        cases e2
        exact .inl ⟨src.stop H2 M2 x2.tr, q1 σ2 H2 M2 x2 s2⟩
    · cases e
def whl (mt : MT) (mb : MS) : Nat → Fm → Option (Fl × Fm)
  | 0, _ => none
  | n + 1, ρ => match mt ρ with
    | some (false, ρ1) => some (.next, ρ1)
    | some (true, ρ1) => match mb ρ1 with
      | some (.next, ρ2) => whl mt mb n ρ2
      | some (.cont, ρ2) => whl mt mb n ρ2
      | some (.brk, ρ2) => some (.next, ρ2)
      | some (.ret r, ρ2) => some (.ret r, ρ2)
      | none => none
    | none => none
theorem ds_while {n : Nat} (hp : PassesOwn (model X.prog X.w) X.A X.env X.xe) (hc : DT X c mt) (hb : DSs X body mb) : DS X (.While c body [] pos) (whl mt mb n) :=
  PS.imp (ps_while hp hc hb) fun D σ H ⟨ρ, M, O, π, fl, ρ', h, e, q⟩ => by
    refine ⟨fun m σ2 H2 => ∃ ρ2 M2, SR X.K H2 M2 O π ρ2 σ2 ∧ Ext O H M H2 M2 ∧ whl mt mb m ρ2 = some (fl, ρ'), ⟨n, ρ, M, h, .refl h, e⟩, ?_⟩
    rintro m σ2 H2 ⟨ρ2, M2, s2, x2, e2⟩
    cases m with
    | zero => cases e2
    | succ m =>
      unfold whl at e2
      split at e2
      · rename_i ρ3 e3
        cases e2
        exact ⟨ρ2, M2, O, π, false, _, s2, e3, fun H3 M3 x3 s3 => iteF (q σ2 H3 M3 (x2.trans x3) s3)⟩
      · rename_i ρ3 e3
        refine ⟨ρ2, M2, O, π, true, ρ3, s2, e3, fun H3 M3 x3 s3 => iteT ?_⟩
        have x23 := x2.trans x3
        refine ⟨fun σ5 H5 => ∃ ρ5 M5, SR X.K H5 M5 O π ρ5 σ5 ∧ Ext O H M H5 M5 ∧ whl mt mb m ρ5 = some (fl, ρ'), fun σ5 H5 w => ⟨m, Nat.lt_succ_self m, w⟩, ?_⟩
        split at e2
        · rename_i ρ5 e5
          exact ⟨ρ3, M3, O, π, .next, ρ5, s3, e5, fun σ5 H5 M5 x5 s5 => ⟨ρ5, M5, s5, x23.trans x5, e2⟩⟩
        · rename_i ρ5 e5
          exact ⟨ρ3, M3, O, π, .cont, ρ5, s3, e5, fun σ5 H5 M5 x5 s5 => ⟨ρ5, M5, s5, x23.trans x5, e2⟩⟩
        · rename_i ρ5 e5
          cases e2
          exact ⟨ρ3, M3, O, π, .brk, _, s3, e5, fun σ5 H5 M5 x5 s5 => q σ5 H5 M5 (x23.trans x5) s5⟩
        · rename_i r ρ5 e5
          cases e2
          exact ⟨ρ3, M3, O, π, .ret r, _, s3, e5, fun v σ5 H5 M5 x5 s5 rv => q v σ5 H5 M5 (x23.trans x5) s5 rv⟩
        · cases e2
      · cases e2
end
end Vi

namespace Vi
open PySem PySem.Spec PyProof.Rows L2

/-! ### slots forgotten and brought back -/
section
variable {α : Type}
def wipeA (l : List (Option α)) : List Nat → List (Option α)
  | [] => l
  | v :: vs => (wipeA l vs).set v none
theorem wipeA_len (l : List (Option α)) : ∀ vs, (wipeA l vs).length = l.length
  | [] => rfl
  | v :: vs => by unfold wipeA; rw [List.length_set, wipeA_len l vs]
theorem wipeA_out {l : List (Option α)} {i : Nat} : ∀ {vs : List Nat}, i ∉ vs → (wipeA l vs)[i]? = l[i]?
  | [], _ => rfl
  | v :: vs, h => by
    rw [List.mem_cons, not_or] at h
    unfold wipeA
    rw [List.getElem?_set_ne (Ne.symm h.1), wipeA_out h.2]
theorem wipeA_in {l : List (Option α)} {i : Nat} : ∀ {vs : List Nat}, i ∈ vs → i < l.length → (wipeA l vs)[i]? = some none
  | [], h, _ => by cases h
  | v :: vs, h, hl => by
    unfold wipeA
    by_cases e : v = i
    · subst e
      rw [List.getElem?_set_self (by rw [wipeA_len]; exact hl)]
    · rw [List.getElem?_set_ne e]
      rcases List.mem_cons.mp h with z | z
      · exact absurd z.symm e
      · exact wipeA_in z hl
theorem wipeA_some {l : List (Option α)} {i : Nat} {x : α} {vs : List Nat} (h : (wipeA l vs)[i]? = some (some x)) : l[i]? = some (some x) ∧ i ∉ vs := by
  by_cases hi : i ∈ vs
  · by_cases hl : i < l.length
    · rw [wipeA_in hi hl] at h; cases h
    · rw [List.getElem?_eq_none (by rw [wipeA_len]; omega)] at h; cases h
  · rw [wipeA_out hi] at h; exact ⟨h, hi⟩
theorem wipeA_ext {l l' : List (Option α)} {vs : List Nat} (h : ∀ j, j ∉ vs → l[j]? = l'[j]?) (hl : l.length = l'.length) : wipeA l vs = wipeA l' vs := by
  apply List.ext_getElem?
  intro i
  by_cases hi : i ∈ vs
  · by_cases hn : i < l.length
    · rw [wipeA_in hi hn, wipeA_in hi (by omega)]
    · rw [List.getElem?_eq_none (by rw [wipeA_len]; omega), List.getElem?_eq_none (by rw [wipeA_len]; omega)]
  · rw [wipeA_out hi, wipeA_out hi, h i hi]
theorem wipe_eq (σ : St) : ∀ vs, wipe σ vs = wipeA σ vs
  | [] => rfl
  | v :: vs => by unfold wipe wipeA; rw [wipe_eq σ vs]
def restA (l l1 : List (Option α)) : List Nat → List (Option α)
  | [] => l
  | v :: vs => (restA l l1 vs).set v ((l1[v]?).getD none)
theorem restA_len (l l1 : List (Option α)) : ∀ vs, (restA l l1 vs).length = l.length
  | [] => rfl
  | v :: vs => by unfold restA; rw [List.length_set, restA_len l l1 vs]
theorem restA_out {l l1 : List (Option α)} {i : Nat} : ∀ {vs : List Nat}, i ∉ vs → (restA l l1 vs)[i]? = l[i]?
  | [], _ => rfl
  | v :: vs, h => by
    rw [List.mem_cons, not_or] at h
    unfold restA
    rw [List.getElem?_set_ne (Ne.symm h.1), restA_out h.2]
theorem restA_in {l l1 : List (Option α)} {i : Nat} : ∀ {vs : List Nat}, i ∈ vs → i < l.length → (restA l l1 vs)[i]? = some ((l1[i]?).getD none)
  | [], h, _ => by cases h
  | v :: vs, h, hl => by
    unfold restA
    by_cases e : v = i
    · subst e
      rw [List.getElem?_set_self (by rw [restA_len]; exact hl)]
    · rw [List.getElem?_set_ne e]
      rcases List.mem_cons.mp h with z | z
      · exact absurd z.symm e
      · exact restA_in z hl
end
section
variable {K : PySem.W.Frag} {H H' H1 : Hp} {M M' M1 O O' : Mset} {π : Nat → Option Addr} {ρ ρ1 ρ2 : Fm} {σ : St} {vs : List Nat} {p : Addr}
theorem SR.wipe (h : SR K H M O π ρ σ) (vs : List Nat) : SR K H M O π (wipeA ρ vs) (wipeA σ vs) := by
  refine ⟨by rw [wipeA_len, wipeA_len]; exact h.len, h.sub, h.live, fun i d e => ?_, fun i b ds e => ?_, fun i j b c ds es a hij e f g => ?_⟩
  · obtain ⟨e1, n⟩ := wipeA_some e
    rw [wipeA_out n]; exact h.imm i d e1
  · obtain ⟨e1, n⟩ := wipeA_some e
    rw [wipeA_out n]; exact h.own i b ds e1
  · obtain ⟨e1, n⟩ := wipeA_some e
    obtain ⟨f1, n2⟩ := wipeA_some f
    rw [wipeA_out n] at g
    rw [wipeA_out n2]; exact h.uniq i j b c ds es a hij e1 f1 g
def vsOk (ρ : Fm) (vs : List Nat) : Bool := vs.all fun i => match ρ[i]? with
  | some (some (.own _ _)) => false
  | _ => true
theorem vsOk_own (h : vsOk ρ vs = true) {i : Nat} (hi : i ∈ vs) {b : Kd} {ds : List D} (e : ρ[i]? = some (some (.own b ds))) : False := by
  have := List.all_eq_true.mp h i hi
  rw [e] at this
  cases this
theorem SR.unwipe (h1 : SR K H1 M1 O π ρ1 σ) (ok : vsOk ρ1 vs = true) (h2 : SR K H M O π ρ2 (wipeA σ vs)) (l : Lat H1 M1 H M) : SR K H M O π (restA ρ2 ρ1 vs) σ := by
  have len : ρ2.length = σ.length := by rw [h2.len, wipeA_len]
  have get : ∀ {i : Nat} {s : Sv}, (restA ρ2 ρ1 vs)[i]? = some (some s) → (i ∈ vs ∧ ρ1[i]? = some (some s)) ∨ (i ∉ vs ∧ ρ2[i]? = some (some s)) := fun {i s} e => by
    by_cases hi : i ∈ vs
    · by_cases hl : i < ρ2.length
      · rw [restA_in hi hl] at e
        refine .inl ⟨hi, ?_⟩
        cases q : ρ1[i]? with
        | none => rw [q] at e; cases e
        | some x => rw [q] at e; exact e
      · rw [List.getElem?_eq_none (by rw [restA_len]; omega)] at e; cases e
    · rw [restA_out hi] at e; exact .inr ⟨hi, e⟩
  refine ⟨by rw [restA_len]; exact len, h2.sub, h2.live, fun i d e => ?_, fun i b ds e => ?_, fun i j b c ds es a hij e f g => ?_⟩
  · rcases get e with ⟨hi, e⟩ | ⟨hi, e⟩
    · obtain ⟨v, f1, f2⟩ := h1.imm i d e
      exact ⟨v, f1, f2.tr l⟩
    · obtain ⟨v, f1, f2⟩ := h2.imm i d e
      rw [wipeA_out hi] at f1
      exact ⟨v, f1, f2⟩
  · rcases get e with ⟨hi, e⟩ | ⟨hi, e⟩
    · exact (vsOk_own ok hi e).elim
    · obtain ⟨x, vs', f1, f2⟩ := h2.own i b ds e
      rw [wipeA_out hi] at f1
      exact ⟨x, vs', f1, f2⟩
  · rcases get e with ⟨hi, e⟩ | ⟨hi, e⟩
    · exact (vsOk_own ok hi e).elim
    · rcases get f with ⟨hj, f⟩ | ⟨hj, f⟩
      · exact (vsOk_own ok hj f).elim
      · have := h2.uniq i j b c ds es a hij e f (by rw [wipeA_out hi]; exact g)
        rw [wipeA_out hj] at this
        exact this
/-- a held list is written -/
theorem upd_lat {o : HO} (hM : M p) : Lat H M (upd H p o) M := fun a u q n => by
  have ne : a ≠ p := fun z => n (z ▸ hM)
  refine ⟨?_, n⟩
  rcases q with q | ⟨o', q⟩
  · exact .inl (by rw [upd_ne ne]; exact q)
  · exact .inr ⟨o', by rw [upd_ne ne]; exact q⟩
theorem SR.writeO {o : HO} (h : SR K H M O π ρ σ) (hM : M p) (hO : O p) : SR K (upd H p o) M O π ρ σ := by
  refine ⟨h.len, h.sub, fun a q => ?_, fun i d e => ?_, fun i b ds e => ?_, h.uniq⟩
  · by_cases ha : a = p
    · subst ha; rw [upd_same]; intro z; cases z
    · rw [upd_ne ha]; exact h.live a q
  · obtain ⟨v, e1, r⟩ := h.imm i d e
    exact ⟨v, e1, r.tr (upd_lat hM)⟩
  · obtain ⟨a, ws, e1, e2, e3, e4, r, e5⟩ := h.own i b ds e
    exact ⟨a, ws, e1, by rw [upd_ne (fun z => e4 (by rw [z]; exact hO))]; exact e2, e3, e4, r.tr (upd_lat hM), e5⟩
theorem Ext.updM {o : HO} (x : Ext O H1 M1 H M) (hM : M1 p) (hO : ¬ O p) : Ext O H1 M1 (upd H p o) M :=
  ⟨fun a u e q => by rw [upd_ne (fun z => by subst z; exact q.elim hO fun n => n hM)]; exact x.keep a u e q, x.sub, x.new⟩
end

/-! ### comprehensions -/
section
variable {mg : MG} {mt : MT} {me : ME} {vs ts : List Nat}
def cloop (mg : MG) (mt : MT) (me : ME) (vs : List Nat) : List D → Fm → Option (List D × Fm)
  | [], ρ => some ([], ρ)
  | d :: ds, ρ => match mg d ρ with
    | some ρ1 => match mt ρ1 with
      | some (true, ρ2) => match me ρ2 with
        | some (pr, ρ3) => match frz ρ3 pr with
          | some (e, ρ4) => match cloop mg mt me vs ds (wipeA ρ4 vs) with
            | some (es, ρ5) => some (e :: es, ρ5)
            | none => none
          | none => none
        | none => none
      | some (false, ρ2) => cloop mg mt me vs ds (wipeA ρ2 vs)
      | none => none
    | none => none
theorem cread {K : PySem.W.Frag} (hts : ∀ i ∈ ts, i ∈ vs) {J : It} {ds : List D} {H0 Hs : Hp} {M0 Ms O : Mset} {π : Nat → Option Addr} {σ : St} {Dd : Addr} {ρa ρ2 : Fm} {es ea : List D} {acc : List V} {Qd : Hp → Prop}
    (src : Src K J ds H0 M0) (l : Lat H0 M0 Hs Ms) (s : SR K Hs Ms (wth O Dd) π ρa (wipeA σ vs)) (hO : ¬ O Dd) (hA : Hs Dd = some (.lst acc)) (hR : Reps K Hs Ms acc ea) (hz : ea.length + es.length ≤ sizeLine)
    (e : cloop mg mt me vs ds ρa = some (es, ρ2)) (hq : ∀ H M acc', Ext O Hs Ms H M → SR K H M (wth O Dd) π ρ2 (wipeA σ vs) → H Dd = some (.lst acc') → Reps K H M acc' (ea ++ es) → Qd H) :
    ∃ W : Nat → Nat → Hp → Prop, (∃ m, W 0 m Hs) ∧ ∀ i m H, W i m H →
      (J.stop i H ∧ Qd H) ∨ (J.go i H ∧ ∃ Nx : Hp → Prop, (∀ H', Nx H' → ∃ m', m' < m ∧ W (i + 1) m' H') ∧ ∀ x H', J.yld i H x H' → tG K mg ts x (wipe σ vs) H' fun σ2 H2 => wipe σ2 vs = wipe σ vs ∧ tT K mt σ2 H2 fun b H3 =>
        if b = true then tE K me σ2 H3 fun y H4 => ∃ acc, H4 Dd = some (.lst acc) ∧ acc.length < sizeLine ∧ Nx (upd H4 Dd (.lst (acc ++ [y]))) else Nx H3) := by
  have hMs : Ms Dd := s.sub Dd (.inr rfl)
  have less : ∀ a, O a → wth O Dd a := fun a q => .inl q
  refine ⟨fun i m H => m = ds.length - i ∧ i ≤ ds.length ∧ ∃ ρb M acc' eb es', SR K H M (wth O Dd) π ρb (wipeA σ vs) ∧ Ext O Hs Ms H M ∧ H Dd = some (.lst acc') ∧ Reps K H M acc' eb ∧ cloop mg mt me vs (ds.drop i) ρb = some (es', ρ2) ∧ ea ++ es = eb ++ es',
    ⟨_, rfl, Nat.zero_le _, ρa, Ms, acc, ea, es, s, .refl (s.less less), hA, hR, e, rfl⟩, ?_⟩
  rintro i m H ⟨rfl, hi, ρb, M, acc', eb, es', sb, xb, hAb, hRb, eb', eq⟩
  have lb : Lat H0 M0 H M := l.trans xb.tr
  by_cases hlt : i < ds.length
  · rw [List.drop_eq_getElem_cons hlt] at eb'
    have hd : ds[i]? = some ds[i] := List.getElem?_eq_getElem hlt
    refine .inr ⟨src.go H M lb i hlt, fun H' => ds.length - (i + 1) = ds.length - (i + 1) ∧ i + 1 ≤ ds.length ∧ ∃ ρb M acc' eb es', SR K H' M (wth O Dd) π ρb (wipeA σ vs) ∧ Ext O Hs Ms H' M ∧ H' Dd = some (.lst acc') ∧ Reps K H' M acc' eb ∧ cloop mg mt me vs (ds.drop (i + 1)) ρb = some (es', ρ2) ∧ ea ++ es = eb ++ es', fun H' w => ⟨_, by omega, w⟩, fun x H3 y => ?_⟩
    obtain ⟨s3, x3, r3⟩ := (src.yld H M lb i _ x H3 hd y).ok sb
    unfold cloop at eb'
    split at eb'
    · rename_i ρ3 e3
      rw [wipe_eq]
      refine ⟨ρb, M, wth O Dd, π, _, ρ3, s3, r3, e3, fun σ4 s4 fr ln => ?_⟩
      have hw : wipeA σ4 vs = wipeA σ vs := wipeA_ext (fun j hj => by rw [fr j (fun z => hj (hts j z)), wipeA_out hj]) (by rw [ln, wipeA_len])
      refine ⟨by rw [wipe_eq]; exact hw, ?_⟩
      split at eb'
      · rename_i ρ4 e4
        refine ⟨ρ3, M, wth O Dd, π, true, ρ4, s4, e4, fun H5 M5 x5 s5 => iteT ?_⟩
        split at eb'
        · rename_i pr ρ5 e5
          split at eb'
          · rename_i ee ρ6 e6
            split at eb'
            · rename_i es2 ρ7 e7
              cases eb'
              refine ⟨ρ4, M5, wth O Dd, π, pr, ρ5, s5, e5, fun v H6 M6 x6 s6 r6 => ?_⟩
              obtain ⟨M7, x7, s7, r7⟩ := frz_ok s6 r6 e6
              have xx : Ext (wth O Dd) H M H6 M7 := ((x3.trans x5).trans x6).trans x7
              have hA6 : H6 Dd = some (.lst acc') := xx.keep Dd _ hAb (.inl (.inr rfl))
              have hM7 : M7 Dd := s7.sub Dd (.inr rfl)
              have hl : acc'.length < sizeLine := by
                rw [hRb.length]
                have := congrArg List.length eq
                rw [List.length_append, List.length_append, List.length_cons] at this
                omega
              refine ⟨acc', hA6, hl, rfl, hlt, wipeA ρ6 vs, M7, acc' ++ [v], eb ++ [ee], es2, ?_, (xb.trans (xx.less less)).updM hMs hO, upd_same, ((hRb.tr xx.tr).append (.cons r7 .nil)).tr (upd_lat hM7), e7, ?_⟩
              · rw [← hw]; exact (s7.writeO hM7 (.inr rfl)).wipe vs
              · rw [eq, List.append_assoc]; rfl
            · cases eb'
          · cases eb'
        · cases eb'
      · rename_i ρ4 e4
        refine ⟨ρ3, M, wth O Dd, π, false, ρ4, s4, e4, fun H5 M5 x5 s5 => iteF ?_⟩
        have xx : Ext (wth O Dd) H M H5 M5 := x3.trans x5
        refine ⟨rfl, hlt, wipeA ρ4 vs, M5, acc', eb, es', ?_, xb.trans (xx.less less), xx.keep Dd _ hAb (.inl (.inr rfl)), hRb.tr xx.tr, eb', eq⟩
        rw [← hw]; exact s5.wipe vs
      · cases eb'
    · cases eb'
  · have ei : i = ds.length := by omega
    subst ei
    rw [List.drop_length] at eb'
    cases eb'
    rw [List.append_nil] at eq
    exact .inl ⟨src.stop H M lb, hq H M acc' xb sb hAb (by rw [eq]; exact hRb)⟩
def mComp (mi : MI) (mg : MG) (mt : MT) (me : ME) (vs : List Nat) : ME := fun ρ => match mi ρ with
  | some (ds, ρ1) => if vsOk ρ1 vs = true then match cloop mg mt me vs ds (wipeA ρ1 vs) with
    | some (es, ρ2) => if fits es.length = true then some (.val (.own .loc es), restA ρ2 ρ1 vs) else none
    | none => none
    else none
  | none => none
theorem comp_start {K : PySem.W.Frag} {H1 : Hp} {M1 O : Mset} {π : Nat → Option Addr} {ρ1 : Fm} {σ : St} {Dd : Addr} (s1 : SR K H1 M1 O π ρ1 σ) (hD : H1 Dd = none) (vs : List Nat) : SR K (upd H1 Dd (.lst [])) (wth M1 Dd) (wth O Dd) π (wipeA ρ1 vs) (wipeA σ vs) := by
  refine ((s1.allocOwn hD).wipe vs).more (fun a q => q.elim (fun z => .inl (s1.sub a z)) fun z => .inr z) fun i b ds a e1 e2 z => ?_
  obtain ⟨e3, hn⟩ := wipeA_some e1
  rw [wipeA_out hn] at e2
  obtain ⟨a', ws, f1, f2, f3, f4, _⟩ := s1.own i b ds e3
  rw [e2] at f1; cases f1
  rcases z with z | z
  · exact f4 z
  · rw [z, hD] at f2; cases f2
theorem comp_end {K : PySem.W.Frag} {H1 H : Hp} {M1 M O : Mset} {π : Nat → Option Addr} {ρ1 ρ2 : Fm} {σ : St} {Dd : Addr} {acc : List V} {es : List D} (s1 : SR K H1 M1 O π ρ1 σ) (hD : H1 Dd = none) (ok : vsOk ρ1 vs = true) (x : Ext O (upd H1 Dd (.lst [])) (wth M1 Dd) H M) (s : SR K H M (wth O Dd) π ρ2 (wipeA σ vs))
    (hA : H Dd = some (.lst acc)) (hR : Reps K H M acc es) : Ext O H1 M1 H M ∧ SR K H M O π (restA ρ2 ρ1 vs) σ ∧ RP K H M O (restA ρ2 ρ1 vs) σ (.val (.own .loc es)) (.ref Dd) := by
  have less : ∀ a, O a → wth O Dd a := fun a q => .inl q
  have x1 : Ext O H1 M1 H M := (Ext.allocOwn s1 hD).trans x
  have hO : ¬ O Dd := fun z => s1.live Dd (s1.sub Dd z) hD
  refine ⟨x1, s1.unwipe ok (s.less less) x1.tr, Dd, acc, rfl, hA, s.sub Dd (.inr rfl), hO, hR, fun i b ds e1 e2 => ?_⟩
  by_cases hi : i ∈ vs
  · by_cases hl : i < ρ2.length
    · rw [restA_in hi hl] at e1
      cases q : ρ1[i]? with
      | none => rw [q] at e1; cases e1
      | some z => rw [q] at e1; exact vsOk_own ok hi (q.trans e1)
    · rw [List.getElem?_eq_none (by rw [restA_len]; omega)] at e1; cases e1
  · rw [restA_out hi] at e1
    obtain ⟨a', ws, f1, f2, f3, f4, _⟩ := s.own i b ds e1
    rw [wipeA_out hi, e2] at f1; cases f1
    exact f4 (.inr rfl)
theorem lc_read {K : PySem.W.Frag} {mi : MI} (hts : ∀ i ∈ ts, i ∈ vs) {σ : St} {H : Hp} {Q : VK} (h : tE K (mComp mi mg mt me vs) σ H Q) : tLc (tI K mi) (tG K mg ts) (tT K mt) (tE K me) vs σ H Q := by
  obtain ⟨ρ, M, O, π, pr, ρ', h, e, q⟩ := h
  unfold mComp at e
  split at e
  · rename_i ds ρ1 e1
    split at e
    · rename_i ok
      split at e
      · rename_i es ρ2 e2
        split at e
        · rename_i hz
          cases e
          refine ⟨ρ, M, O, π, ds, ρ1, h, e1, fun J H1 M1 x1 s1 src Dd hD => ?_⟩
          have hO : ¬ O Dd := fun z => s1.live Dd (s1.sub Dd z) hD
          refine cread (ea := []) hts src (alloc_tr_own s1 hD) (comp_start s1 hD vs) hO upd_same .nil (by have := fits_le hz; simpa using this) e2 fun H2 M2 acc x2 s2 hA hR => ?_
          obtain ⟨y1, y2, y3⟩ := comp_end s1 hD ok x2 s2 hA hR
          exact q _ H2 M2 (x1.trans y1) y2 y3
        · cases e
      · cases e
    · cases e
  · cases e
/-! two clauses -/
variable {mi1 : MI} {mg1 : MG} {mt1 : MT} {vs1 ts1 : List Nat}
def c2loop (mg : MG) (mt : MT) (mi1 : MI) (mg1 : MG) (mt1 : MT) (me : ME) (vs vs1 : List Nat) : List D → Fm → Option (List D × Fm)
  | [], ρ => some ([], ρ)
  | d :: ds, ρ => match mg d ρ with
    | some ρ1 => match mt ρ1 with
      | some (true, ρ2) => match mi1 ρ2 with
        | some (ds1, ρ3) => match cloop mg1 mt1 me vs1 ds1 (wipeA ρ3 vs1) with
          | some (es1, ρ4) => match c2loop mg mt mi1 mg1 mt1 me vs vs1 ds (wipeA ρ4 vs) with
            | some (es, ρ5) => some (es1 ++ es, ρ5)
            | none => none
          | none => none
        | none => none
      | some (false, ρ2) => c2loop mg mt mi1 mg1 mt1 me vs vs1 ds (wipeA ρ2 vs)
      | none => none
    | none => none
def mComp2 (mi : MI) (mg : MG) (mt : MT) (mi1 : MI) (mg1 : MG) (mt1 : MT) (me : ME) (vs vs1 : List Nat) : ME := fun ρ => match mi ρ with
  | some (ds, ρ1) => if vsOk ρ1 vs = true then match c2loop mg mt mi1 mg1 mt1 me vs vs1 ds (wipeA ρ1 vs) with
    | some (es, ρ2) => if fits es.length = true then some (.val (.own .loc es), restA ρ2 ρ1 vs) else none
    | none => none
    else none
  | none => none
theorem lc2_read {K : PySem.W.Frag} {mi : MI} (hts : ∀ i ∈ ts, i ∈ vs) (hts1 : ∀ i ∈ ts1, i ∈ vs1) (hv : ∀ i ∈ vs1, i ∈ vs) {σ : St} {H : Hp} {Q : VK} (h : tE K (mComp2 mi mg mt mi1 mg1 mt1 me vs vs1) σ H Q) :
    tLc2 (tI K mi) (tG K mg ts) (tT K mt) (tI K mi1) (tG K mg1 ts1) (tT K mt1) (tE K me) vs vs1 σ H Q := by
  obtain ⟨ρ, M, O, π, pr, ρ', h, e, q⟩ := h
  unfold mComp2 at e
  split at e
  · rename_i ds ρ1 e1
    split at e
    · rename_i ok
      split at e
      · rename_i es ρ2 e2
        split at e
        · rename_i hz
          cases e
          refine ⟨ρ, M, O, π, ds, ρ1, h, e1, fun J H1 M1 x1 s1 src Dd hD => ?_⟩
          have hO : ¬ O Dd := fun z => s1.live Dd (s1.sub Dd z) hD
          have less : ∀ a, O a → wth O Dd a := fun a q => .inl q
          have s := comp_start s1 hD vs
          have hMs : wth M1 Dd Dd := .inr rfl
          refine ⟨fun i m H => m = ds.length - i ∧ i ≤ ds.length ∧ ∃ ρb M acc' eb es', SR K H M (wth O Dd) π ρb (wipeA σ vs) ∧ Ext O (upd H1 Dd (.lst [])) (wth M1 Dd) H M ∧ H Dd = some (.lst acc') ∧ Reps K H M acc' eb ∧ c2loop mg mt mi1 mg1 mt1 me vs vs1 (ds.drop i) ρb = some (es', ρ2) ∧ es = eb ++ es',
            ⟨_, rfl, Nat.zero_le _, _, _, [], [], es, s, .refl (s.less less), upd_same, .nil, e2, rfl⟩, ?_⟩
          rintro i m H ⟨rfl, hi, ρb, M, acc', eb, es', sb, xb, hAb, hRb, eb', eq⟩
          have lb : Lat H1 M1 H M := Lat.trans (alloc_tr_own s1 hD) xb.tr
          by_cases hlt : i < ds.length
          · rw [List.drop_eq_getElem_cons hlt] at eb'
            have hd : ds[i]? = some ds[i] := List.getElem?_eq_getElem hlt
            refine .inr ⟨src.go H M lb i hlt, fun H' => ds.length - (i + 1) = ds.length - (i + 1) ∧ i + 1 ≤ ds.length ∧ ∃ ρb M acc' eb es', SR K H' M (wth O Dd) π ρb (wipeA σ vs) ∧ Ext O (upd H1 Dd (.lst [])) (wth M1 Dd) H' M ∧ H' Dd = some (.lst acc') ∧ Reps K H' M acc' eb ∧ c2loop mg mt mi1 mg1 mt1 me vs vs1 (ds.drop (i + 1)) ρb = some (es', ρ2) ∧ es = eb ++ es', fun H' w => ⟨_, by omega, w⟩, fun x H3 y => ?_⟩
            obtain ⟨s3, x3, r3⟩ := (src.yld H M lb i _ x H3 hd y).ok sb
            unfold c2loop at eb'
            split at eb'
            · rename_i ρ3 e3
              rw [wipe_eq]
              refine ⟨ρb, M, wth O Dd, π, _, ρ3, s3, r3, e3, fun σ4 s4 fr ln => ?_⟩
              have hw : wipeA σ4 vs = wipeA σ vs := wipeA_ext (fun j hj => by rw [fr j (fun z => hj (hts j z)), wipeA_out hj]) (by rw [ln, wipeA_len])
              refine ⟨by rw [wipe_eq]; exact hw, ?_⟩
              split at eb'
              · rename_i ρ4 e4
                refine ⟨ρ3, M, wth O Dd, π, true, ρ4, s4, e4, fun H5 M5 x5 s5 => iteT ?_⟩
                split at eb'
                · rename_i ds1 ρ5 e5
                  split at eb'
                  · rename_i es1 ρ6 e6
                    split at eb'
                    · rename_i es2 ρ7 e7
                      cases eb'
                      refine ⟨ρ4, M5, wth O Dd, π, ds1, ρ5, s5, e5, fun J1 H6 M6 x6 s6 src1 => ?_⟩
                      have xx : Ext (wth O Dd) H M H6 M6 := (x3.trans x5).trans x6
                      have hA6 : H6 Dd = some (.lst acc') := xx.keep Dd _ hAb (.inl (.inr rfl))
                      have hl : eb.length + es1.length ≤ sizeLine := by
                        have h1 := fits_le hz
                        have := congrArg List.length eq
                        rw [List.length_append, List.length_append] at this
                        omega
                      refine cread hts1 src1 (fun _ _ h n => ⟨h, n⟩) (s6.wipe vs1) hO hA6 (hRb.tr xx.tr) hl e6 fun H8 M8 acc8 x8 s8 hA8 hR8 => ?_
                      refine ⟨rfl, hlt, wipeA ρ6 vs, M8, acc8, eb ++ es1, es2, ?_, (xb.trans (xx.less less)).trans x8, hA8, hR8, e7, by rw [eq, List.append_assoc]⟩
                      have hw2 : wipeA (wipeA σ4 vs1) vs = wipeA σ vs := by
                        rw [← hw]
                        exact wipeA_ext (fun j hj => wipeA_out fun z => hj (hv j z)) (wipeA_len _ _)
                      rw [← hw2]
                      exact s8.wipe vs
                    · cases eb'
                  · cases eb'
                · cases eb'
              · rename_i ρ4 e4
                refine ⟨ρ3, M, wth O Dd, π, false, ρ4, s4, e4, fun H5 M5 x5 s5 => iteF ?_⟩
                have xx : Ext (wth O Dd) H M H5 M5 := x3.trans x5
                refine ⟨rfl, hlt, wipeA ρ4 vs, M5, acc', eb, es', ?_, xb.trans (xx.less less), xx.keep Dd _ hAb (.inl (.inr rfl)), hRb.tr xx.tr, eb', eq⟩
                rw [← hw]; exact s5.wipe vs
              · cases eb'
            · cases eb'
          · have ei : i = ds.length := by omega
            subst ei
            rw [List.drop_length] at eb'
            cases eb'
            rw [List.append_nil] at eq
            obtain ⟨y1, y2, y3⟩ := comp_end s1 hD ok xb sb hAb (by rw [← eq] at hRb; exact hRb)
            exact .inl ⟨src.stop H M lb, q _ H M (x1.trans y1) y2 y3⟩
        · cases e
      · cases e
    · cases e
  · cases e
end
section
variable {X : Cx} {elt tg iter tg1 iter1 : Expr} {ifs ifs1 : List Expr} {scope : Scope} {own : List (Str × Nat)} {pos : Pos} {mi mi1 : MI} {mg mg1 : MG} {mt mt1 : MT} {me : ME} {ts ts1 vs1 : List Nat}
def DTs (X : Cx) (es : List Expr) (m : MT) : Prop := PTs X es (tT X.K m)
def mYes : MT := fun ρ => some (true, ρ)
theorem dts_nil : DTs X [] mYes := ⟨fun pins s σ H Q I ⟨ρ, M, O, π, b, ρ', h, e, q⟩ => by
  cases e
  exact pts_nil.run pins s σ H Q I (q H M (.refl h) h)⟩
theorem dts_one {c : Expr} (h : DT X c mt) : DTs X [c] mt := pts_one h
/-- a block's context -/
abbrev Bk (X : Cx) (scope : Scope) (P : Cx → Prop) : Prop := ∀ (s : Shared) (H : Hp) (C : Addr) (cl : List (Str × Addr)) (fp : List Addr), P (X.blk s H scope (compEnvC scope cl C X.env) fp)
theorem de_lc (hc : X.calm = true) (hN : X.N.Nodup) (hi : DI X tg iter mi) (ok : BlkOk X.N X.env.scope scope own) (hg : Bk X scope fun Y => DG Y tg mg ts) (ht : Bk X scope fun Y => DTs Y ifs mt) (he : Bk X scope fun Y => DE Y elt me)
    (hts : ∀ i ∈ ts, i ∈ own.map (·.2)) (hs : ∀ x, foldedSetIterable iter X.env x = pure x := by intro _; rfl) : DE X (.ListComp elt [⟨tg, iter, ifs, 0⟩] scope pos) (mComp mi mg mt me (own.map (·.2))) :=
  PE.imp (pe_lc (wi := tI X.K mi) (g := tG X.K mg ts) (tt := tT X.K mt) (te := tE X.K me) hc hN hi ok hg ht he hs) fun σ H Q h => lc_read hts h
theorem ds_setLc {i : Nat} {y : Str} {py spos : Pos} (hc : X.calm = true) (hN : X.N.Nodup) (hy : X.N[i]? = some y) (hyl : X.env.scope.names.lookup y = some .local)
    (hsw : swapsWith (.ListComp elt [⟨tg, iter, ifs, 0⟩] scope pos) (some (.Name y py)) spos.line X.env = pure true) (hi : DI X tg iter mi) (ok : BlkOk X.N X.env.scope scope own) (hg : Bk X scope fun Y => DG Y tg mg ts) (ht : Bk X scope fun Y => DTs Y ifs mt) (he : Bk X scope fun Y => DE Y elt me)
    (hts : ∀ i ∈ ts, i ∈ own.map (·.2)) (hs : ∀ x, foldedSetIterable iter X.env x = pure x := by intro _; rfl) : DS X (.Assign [.Name y py] (.ListComp elt [⟨tg, iter, ifs, 0⟩] scope pos) spos) (mSet i (mComp mi mg mt me (own.map (·.2)))) :=
  PS.imp (ps_setLc (wi := tI X.K mi) (g := tG X.K mg ts) (tt := tT X.K mt) (te := tE X.K me) hc hN hy hyl hsw hi ok hg ht he hs) fun D σ H ⟨ρ, M, O, π, fl, ρ', h, e, q⟩ => by
    unfold mSet at e
    split at e
    · rename_i pr ρ1 e1
      split at e
      · rename_i ρ2 e2
        cases e
        refine lc_read (K := X.K) hts ⟨ρ, M, O, π, pr, ρ1, h, e1, fun v H1 M1 x1 s1 r1 => ?_⟩
        obtain ⟨M2, x2, s2⟩ := put_ok s1 r1 e2
        exact q _ H1 M2 (x1.trans x2) s2
      · cases e
    · cases e
theorem de_lc2 (hc : X.calm = true) (hN : X.N.Nodup) (hi : DI X tg iter mi) (ok : BlkOk X.N X.env.scope scope own) (hv : ∀ i ∈ vs1, i ∈ own.map (·.2)) (hg : Bk X scope fun Y => DG Y tg mg ts) (ht : Bk X scope fun Y => DTs Y ifs mt) (hi1 : Bk X scope fun Y => DI Y tg1 iter1 mi1) (hg1 : Bk X scope fun Y => DG Y tg1 mg1 ts1) (ht1 : Bk X scope fun Y => DTs Y ifs1 mt1) (he : Bk X scope fun Y => DE Y elt me)
    (hts : ∀ i ∈ ts, i ∈ own.map (·.2)) (hts1 : ∀ i ∈ ts1, i ∈ vs1) (hs : ∀ x, foldedSetIterable iter X.env x = pure x := by intro _; rfl) (hs1 : ∀ env x, foldedSetIterable iter1 env x = pure x := by intro _ _; rfl) :
    DE X (.ListComp elt [⟨tg, iter, ifs, 0⟩, ⟨tg1, iter1, ifs1, 0⟩] scope pos) (mComp2 mi mg mt mi1 mg1 mt1 me (own.map (·.2)) vs1) :=
  PE.imp (pe_lc2 (wi := tI X.K mi) (g := tG X.K mg ts) (tt := tT X.K mt) (wi1 := tI X.K mi1) (g1 := tG X.K mg1 ts1) (tt1 := tT X.K mt1) (te := tE X.K me) hc hN hi ok hv hg ht hi1 hg1 ht1 he hs hs1) fun σ H Q h => lc2_read hts hts1 hv h
theorem ds_setLc2 {i : Nat} {y : Str} {py spos : Pos} (hc : X.calm = true) (hN : X.N.Nodup) (hy : X.N[i]? = some y) (hyl : X.env.scope.names.lookup y = some .local)
    (hsw : swapsWith (.ListComp elt [⟨tg, iter, ifs, 0⟩, ⟨tg1, iter1, ifs1, 0⟩] scope pos) (some (.Name y py)) spos.line X.env = pure true) (hi : DI X tg iter mi) (ok : BlkOk X.N X.env.scope scope own) (hv : ∀ i ∈ vs1, i ∈ own.map (·.2)) (hg : Bk X scope fun Y => DG Y tg mg ts) (ht : Bk X scope fun Y => DTs Y ifs mt) (hi1 : Bk X scope fun Y => DI Y tg1 iter1 mi1) (hg1 : Bk X scope fun Y => DG Y tg1 mg1 ts1) (ht1 : Bk X scope fun Y => DTs Y ifs1 mt1) (he : Bk X scope fun Y => DE Y elt me)
    (hts : ∀ i ∈ ts, i ∈ own.map (·.2)) (hts1 : ∀ i ∈ ts1, i ∈ vs1) (hs : ∀ x, foldedSetIterable iter X.env x = pure x := by intro _; rfl) (hs1 : ∀ env x, foldedSetIterable iter1 env x = pure x := by intro _ _; rfl) :
    DS X (.Assign [.Name y py] (.ListComp elt [⟨tg, iter, ifs, 0⟩, ⟨tg1, iter1, ifs1, 0⟩] scope pos) spos) (mSet i (mComp2 mi mg mt mi1 mg1 mt1 me (own.map (·.2)) vs1)) :=
  PS.imp (ps_setLc2 (wi := tI X.K mi) (g := tG X.K mg ts) (tt := tT X.K mt) (wi1 := tI X.K mi1) (g1 := tG X.K mg1 ts1) (tt1 := tT X.K mt1) (te := tE X.K me) hc hN hy hyl hsw hi ok hv hg ht hi1 hg1 ht1 he hs hs1) fun D σ H ⟨ρ, M, O, π, fl, ρ', h, e, q⟩ => by
    unfold mSet at e
    split at e
    · rename_i pr ρ1 e1
      split at e
      · rename_i ρ2 e2
        cases e
        refine lc2_read (K := X.K) hts hts1 hv ⟨ρ, M, O, π, pr, ρ1, h, e1, fun v H1 M1 x1 s1 r1 => ?_⟩
        obtain ⟨M2, x2, s2⟩ := put_ok s1 r1 e2
        exact q _ H1 M2 (x1.trans x2) s2
      · cases e
    · cases e
end
end Vi

namespace Vi
open PySem PySem.Spec PyProof.Rows L2

/-! ### what a def does, over data -/
/-- the names' values, what is handed back and the lists that were handed in to be changed -/
abbrev Out := Sv × List (Option (List D))
abbrev Fn := List Sv → Option Out
def outsOf : List Sv → Fm → Option (List (Option (List D)))
  | [], _ => some []
  | .imm _ :: as, _ :: ρ => match outsOf as ρ with
    | some os => some (none :: os)
    | none => none
  | .own _ _ :: as, some (.own .par ds) :: ρ => match outsOf as ρ with
    | some os => some (some ds :: os)
    | none => none
  | _, _ => none
def pinned : List Sv → Bool
  | [] => true
  | .imm _ :: as => pinned as
  | .own .par _ :: as => pinned as
  | .own _ _ :: _ => false
/-- nN: how many names, np: how many parameters -/
def mFn (nN np : Nat) (body : MS) : Fn := fun args =>
  if args.length = np then match body (args.map some ++ List.replicate (nN - np) none) with
    | some (.ret r, ρ) => match outsOf args ρ with
      | some os => some (r, os)
      | none => none
    | some (.next, ρ) => match outsOf args ρ with
      | some os => some (.imm .none, os)
      | none => none
    | _ => none
  else none
def OutR (K : PySem.W.Frag) (H : Hp) (M : Mset) (π : Nat → Option Addr) (os : List (Option (List D))) : Prop :=
  ∀ (i : Nat) (ds : List D), os[i]? = some (some ds) → ∃ a ws, π i = some a ∧ H a = some (.lst ws) ∧ M a ∧ Reps K H M ws ds
def RetR (K : PySem.W.Frag) (H : Hp) (M O : Mset) (π : Nat → Option Addr) (os : List (Option (List D))) : Sv → V → Prop
  | .imm d, v => Rep K H M v d
  | .own b ds, v => ∃ p vs, v = .ref p ∧ H p = some (cell b p vs ds) ∧ M p ∧ ¬ O p ∧ Reps K H M vs ds ∧ ∀ (i : Nat) (es : List D), os[i]? = some (some es) → π i ≠ some p
def spD (K : PySem.W.Frag) (n : Nat) (f : Fn) : Sp := fun vs H Q _ => ∃ M O π args r os, vs.length = n ∧ SR K H M O π (args.map some) (vs.map some) ∧ f args = some (r, os) ∧
  ∀ v H' M', (∀ a, M' a → H' a ≠ none) → Ext O H M H' M' → OutR K H' M' π os → RetR K H' M' O π os r v → Q v H'
theorem outs_len : ∀ {as : List Sv} {ρ : Fm} {os : List (Option (List D))}, outsOf as ρ = some os → os.length = as.length
  | [], _, _, e => by cases e; rfl
  | .imm _ :: as, [], _, e => by cases e
  | .imm d :: as, x :: ρ, os, e => by
    unfold outsOf at e
    split at e
    · rename_i o e1
      cases e
      rw [List.length_cons, List.length_cons, outs_len e1]
    · cases e
  | .own _ _ :: as, [], _, e => by cases e
  | .own _ _ :: as, none :: ρ, _, e => by cases e
  | .own _ _ :: as, some (.imm _) :: ρ, _, e => by cases e
  | .own _ _ :: as, some (.own .loc _) :: ρ, _, e => by cases e
  | .own _ _ :: as, some (.own .par ds) :: ρ, os, e => by
    unfold outsOf at e
    split at e
    · rename_i o e1
      cases e
      rw [List.length_cons, List.length_cons, outs_len e1]
    · cases e
theorem outs_get : ∀ {as : List Sv} {ρ : Fm} {os : List (Option (List D))} {i : Nat} {ds : List D}, outsOf as ρ = some os → os[i]? = some (some ds) → ρ[i]? = some (some (.own .par ds)) ∧ ∃ b es, as[i]? = some (.own b es)
  | [], _, _, _, _, e, h => by cases e; simp at h
  | .imm _ :: as, [], _, _, _, e, h => by cases e
  | .imm d :: as, x :: ρ, os, i, ds, e, h => by
    unfold outsOf at e
    split at e
    · rename_i o e1
      cases e
      cases i with
      | zero => simp at h
      | succ i =>
        obtain ⟨h1, h2⟩ := outs_get e1 (by simpa using h)
        exact ⟨by simpa using h1, by simpa using h2⟩
    · cases e
  | .own _ _ :: as, [], _, _, _, e, h => by cases e
  | .own _ _ :: as, none :: ρ, _, _, _, e, h => by cases e
  | .own _ _ :: as, some (.imm _) :: ρ, _, _, _, e, h => by cases e
  | .own _ _ :: as, some (.own .loc _) :: ρ, _, _, _, e, h => by cases e
  | .own b es :: as, some (.own .par ds') :: ρ, os, i, ds, e, h => by
    unfold outsOf at e
    split at e
    · rename_i o e1
      cases e
      cases i with
      | zero =>
        simp at h
        subst h
        exact ⟨rfl, b, es, rfl⟩
      | succ i =>
        obtain ⟨h1, h2⟩ := outs_get e1 (by simpa using h)
        exact ⟨by simpa using h1, by simpa using h2⟩
    · cases e
/-- an own parameter is handed out -/
theorem outs_own : ∀ {as : List Sv} {ρ : Fm} {os : List (Option (List D))} {i : Nat} {b : Kd} {es : List D}, outsOf as ρ = some os → as[i]? = some (.own b es) → ∃ ds, os[i]? = some (some ds)
  | [], _, _, _, _, _, e, h => by simp at h
  | .imm _ :: as, [], _, _, _, _, e, h => by cases e
  | .imm d :: as, x :: ρ, os, i, _, _, e, h => by
    unfold outsOf at e
    split at e
    · rename_i o e1
      cases e
      cases i with
      | zero => simp at h
      | succ i => obtain ⟨ds, h1⟩ := outs_own e1 (by simpa using h); exact ⟨ds, by simpa using h1⟩
    · cases e
  | .own _ _ :: as, [], _, _, _, _, e, h => by cases e
  | .own _ _ :: as, none :: ρ, _, _, _, _, e, h => by cases e
  | .own _ _ :: as, some (.imm _) :: ρ, _, _, _, _, e, h => by cases e
  | .own _ _ :: as, some (.own .loc _) :: ρ, _, _, _, _, e, h => by cases e
  | .own b es :: as, some (.own .par ds') :: ρ, os, i, _, _, e, h => by
    unfold outsOf at e
    split at e
    · rename_i o e1
      cases e
      cases i with
      | zero => exact ⟨ds', rfl⟩
      | succ i => obtain ⟨ds, h1⟩ := outs_own e1 (by simpa using h); exact ⟨ds, by simpa using h1⟩
    · cases e

section
variable {P : Program} {w : World} {K : PySem.W.Frag} {mg : Str → Option Value} {base : Heap}
theorem SR.pad {H : Hp} {M O : Mset} {π : Nat → Option Addr} {as : List Sv} {vs : List V} (h : SR K H M O π (as.map some) (vs.map some)) (n : Nat) : SR K H M O π (as.map some ++ List.replicate n none) (vs.map some ++ List.replicate n none) := by
  have len : as.length = vs.length := by have := h.len; simpa using this
  have get : ∀ {i : Nat} {s : Sv}, (as.map some ++ List.replicate n none)[i]? = some (some s) → (as.map some)[i]? = some (some s) ∧ i < vs.length := fun {i s} e => by
    by_cases hi : i < as.length
    · rw [List.getElem?_append_left (by simpa using hi)] at e
      exact ⟨e, by omega⟩
    · rw [List.getElem?_append_right (by simpa using hi), List.getElem?_replicate] at e
      split at e <;> cases e
  have up : ∀ {i : Nat}, i < vs.length → (vs.map some ++ List.replicate n none)[i]? = (vs.map some)[i]? := fun {i} hi => List.getElem?_append_left (by simpa using hi)
  refine ⟨by rw [List.length_append, List.length_append, h.len]; simp, h.sub, h.live, fun i d e => ?_, fun i b ds e => ?_, fun i j b c ds es a hij e f g => ?_⟩
  · obtain ⟨e1, hi⟩ := get e
    rw [up hi]; exact h.imm i d e1
  · obtain ⟨e1, hi⟩ := get e
    rw [up hi]; exact h.own i b ds e1
  · obtain ⟨e1, hi⟩ := get e
    obtain ⟨f1, hj⟩ := get f
    rw [up hi] at g
    rw [up hj]; exact h.uniq i j b c ds es a hij e1 f1 g
/-- THE RULE for a def -/
theorem fn_ok {x qual : Str} {st : Stmt} {f : Addr} {fd : FuncData} {N ps : List Str} {k : Nat} {body : MS} (F : Fun K x qual st f fd) (S : FnScope N ps (defScope st))
    (hb : ∀ (cdv : Value) (A : Around) (outer : List Env) (s : Shared) (H : Hp) (E : XK), Room k (A.deeper (envOfC qual (defScope st) s.heap.objs.size f cdv)) → DSs (cxOf CX0 P w K mg base N qual (defScope st) f cdv A outer s H E).nox (defBody st) body) :
    FnOk P w K mg base CX0 (k + 1) f fd ps (spD K ps.length (mFn N.length ps.length body)) := by
  refine F.ok S (fun vs H Q E h => ?_) (fun cdv A outer s H vs Q E hr h => ?_)
  · obtain ⟨M, O, π, args, r, os, hl, _⟩ := h
    exact hl
  · obtain ⟨M, O, π, args, r, os, hl, hs, e, q⟩ := h
    have hal : args.length = vs.length := by have := hs.len; simpa using this
    refine ⟨_, hb cdv A outer s H E hr, ?_⟩
    unfold mFn at e
    have start_eq : L2.start N vs = vs.map some ++ List.replicate (N.length - ps.length) none := by unfold L2.start; rw [hl]
    have fin : ∀ {σ' : St} {ρ' : Fm} {H' : Hp} {M' : Mset} {rr : Sv} {v : V}, Ext O H M H' M' → SR K H' M' O π ρ' σ' → RV K H' M' O ρ' σ' rr v → outsOf args ρ' = some os → rr = r → Q v H' := fun {σ' ρ' H' M' rr v} x s r1 eo er => by
      subst er
      refine q v H' M' s.live x (fun i ds ei => ?_) ?_
      · obtain ⟨e1, _⟩ := outs_get eo ei
        obtain ⟨a, ws, f1, f2, f3, f4, f5, f6⟩ := s.own i .par ds e1
        exact ⟨a, ws, f6 rfl, f2, f3, f5⟩
      · cases rr with
        | imm d => exact r1
        | own b ds =>
          obtain ⟨p, ws, g1, g2, g3, g4, g5, g6⟩ := r1
          refine ⟨p, ws, g1, g2, g3, g4, g5, fun i es ei hp => ?_⟩
          obtain ⟨e1, _⟩ := outs_get eo ei
          obtain ⟨a, us, f1, f2, f3, f4, f5, f6⟩ := s.own i .par es e1
          rw [f6 rfl] at hp; cases hp
          exact g6 i es e1 f1
    split at e
    · rename_i hn
      split at e
      · rename_i r' ρ' e1
        split at e
        · rename_i os' e2
          cases e
          refine ⟨_, M, O, π, .ret r, ρ', by rw [start_eq]; exact hs.pad _, e1, fun v σ' H' M' x s r1 => fin x s r1 e2 rfl⟩
        · cases e
      · rename_i ρ' e1
        split at e
        · rename_i os' e2
          cases e
          refine ⟨_, M, O, π, .next, ρ', by rw [start_eq]; exact hs.pad _, e1, fun σ' H' M' x s => fin (rr := .imm .none) x s .non e2 rfl⟩
        · cases e
      · cases e
    · cases e
end

/-! ### calls -/
/-- an argument: a value, or a name's own list that the callee may change -/
inductive AR where
  | v (d : D)
  | s (i : Nat)
abbrev MR := Fm → Option (List AR × Fm)
def ARep (K : PySem.W.Frag) (H : Hp) (M : Mset) (σ : St) : AR → V → Prop
  | .v d, v => Rep K H M v d
  | .s i, v => σ[i]? = some (some v)
abbrev AReps (K : PySem.W.Frag) (H : Hp) (M : Mset) (σ : St) : List V → List AR → Prop := Paired fun v a => ARep K H M σ a v
def tR (K : PySem.W.Frag) (m : MR) : TA := fun σ H Q => ∃ ρ M O π as ρ', SR K H M O π ρ σ ∧ m ρ = some (as, ρ') ∧ ∀ vs H' M', Ext O H M H' M' → SR K H' M' O π ρ' σ → AReps K H' M' σ vs as → Q vs H'
def DR (X : Cx) (es : List Expr) (m : MR) : Prop := PA X es (tR X.K m)
def rNil : MR := fun ρ => some ([], ρ)
def rVal (me : ME) (n : MR) : MR := fun ρ => match me ρ with
  | some (pr, ρ1) => match frz ρ1 pr with
    | some (d, ρ2) => match n ρ2 with
      | some (as, ρ3) => some (.v d :: as, ρ3)
      | none => none
    | none => none
  | none => none
def rSlot (i : Nat) (n : MR) : MR := fun ρ => match ρ[i]? with
  | some (some (.own _ _)) => match n ρ with
    | some (as, ρ3) => some (.s i :: as, ρ3)
    | none => none
  | _ => none
section
variable {X : Cx} {e : Expr} {es : List Expr} {me : ME} {n : MR}
theorem ARep.tr {K : PySem.W.Frag} {H H' : Hp} {M M' : Mset} {σ : St} {a : AR} {v : V} (l : Lat H M H' M') (r : ARep K H M σ a v) : ARep K H' M' σ a v := by
  cases a with
  | v d => exact Rep.tr l r
  | s i => exact r
theorem dr_nil : DR X [] rNil := PA.imp pa_nil fun σ H Q ⟨ρ, M, O, π, ds, ρ', h, e, q⟩ => by
  cases e
  exact q [] H M (.refl h) h .nil
theorem dr_val (he : DE X e me) (hes : DR X es n) (hs : starEach (e :: es) X.env = (false, eval e X.env) :: starEach es X.env := by rfl) : DR X (e :: es) (rVal me n) :=
  PA.imp (pa_cons he hes hs) fun σ H Q ⟨ρ, M, O, π, ds, ρ', h, e, q⟩ => by
    unfold rVal at e
    split at e
    · rename_i pr ρ1 e1
      split at e
      · rename_i d ρ2 e2
        split at e
        · rename_i as ρ3 e3
          cases e
          refine ⟨ρ, M, O, π, pr, ρ1, h, e1, fun v H1 M1 x1 s1 r1 => ?_⟩
          obtain ⟨M2, x2, s2, r2⟩ := frz_ok s1 r1 e2
          exact ⟨ρ2, M2, O, π, as, _, s2, e3, fun vs H3 M3 x3 s3 r3 => q (v :: vs) H3 M3 ((x1.trans x2).trans x3) s3 (.cons (r2.tr x3.tr) r3)⟩
        · cases e
      · cases e
    · cases e
theorem dr_slot {i : Nat} (he : PE X e (tVar i)) (hes : DR X es n) (hs : starEach (e :: es) X.env = (false, eval e X.env) :: starEach es X.env := by rfl) : DR X (e :: es) (rSlot i n) :=
  PA.imp (pa_cons he hes hs) fun σ H Q ⟨ρ, M, O, π, ds, ρ', h, e, q⟩ => by
    unfold rSlot at e
    split at e
    · rename_i b0 ds0 e0
      split at e
      · rename_i as ρ3 e3
        cases e
        obtain ⟨a, vs, f1, _⟩ := h.own i b0 ds0 e0
        exact ⟨_, f1, ρ, M, O, π, as, _, h, e3, fun vs H3 M3 x3 s3 r3 => q _ H3 M3 x3 s3 (.cons f1 r3)⟩
      · cases e
    · cases e
/-- the arguments as the callee sees them -/
def argsOf (ρ : Fm) : List AR → Option (List Sv)
  | [] => some []
  | .v d :: as => match argsOf ρ as with
    | some xs => some (.imm d :: xs)
    | none => none
  | .s i :: as => match ρ[i]? with
    | some (some (.own .dic _)) => none
    | some (some (.own _ ds)) => match argsOf ρ as with
      | some xs => some (.own .par ds :: xs)
      | none => none
    | _ => none
def slotsOf : List AR → List Nat
  | [] => []
  | .v _ :: as => slotsOf as
  | .s i :: as => i :: slotsOf as
def nodupB : List Nat → Bool
  | [] => true
  | i :: is => !is.contains i && nodupB is
/-- the callee's changes -/
def backTo (ρ : Fm) : List AR → List (Option (List D)) → Option Fm
  | [], [] => some ρ
  | .v _ :: as, _ :: os => backTo ρ as os
  | .s i :: as, some ds :: os => match ρ[i]? with
    | some (some (.own .dic _)) => none
    | some (some (.own b _)) => backTo (ρ.set i (some (.own b ds))) as os
    | _ => none
  | _, _ => none
def mCall (f : Fn) (mr : MR) : ME := fun ρ => match mr ρ with
  | some (as, ρ1) => if nodupB (slotsOf as) = true then match argsOf ρ1 as with
    | some args => match f args with
      | some (r, os) => match backTo ρ1 as os with
        | some ρ2 => some (.val r, ρ2)
        | none => none
      | none => none
    | none => none
    else none
  | none => none
end
section
variable {K : PySem.W.Frag} {H H' : Hp} {M M' O : Mset} {π : Nat → Option Addr} {ρ ρ' : Fm} {σ : St} {as : List AR} {vs : List V} {args : List Sv} {os : List (Option (List D))}
theorem args_len : ∀ {as : List AR} {args : List Sv}, argsOf ρ as = some args → args.length = as.length
  | [], _, e => by cases e; rfl
  | .v d :: as, _, e => by
    unfold argsOf at e
    split at e
    · rename_i xs e1
      cases e; rw [List.length_cons, List.length_cons, args_len e1]
    · cases e
  | .s i :: as, _, e => by
    unfold argsOf at e
    split at e
    · cases e
    · split at e
      · rename_i xs e1
        cases e; rw [List.length_cons, List.length_cons, args_len e1]
      · cases e
    · cases e
theorem args_get : ∀ {as : List AR} {args : List Sv} {j : Nat} {s : Sv}, argsOf ρ as = some args → args[j]? = some s → (∃ d, as[j]? = some (.v d) ∧ s = .imm d) ∨ ∃ i b ds, as[j]? = some (.s i) ∧ ρ[i]? = some (some (.own b ds)) ∧ b.isL = true ∧ s = .own .par ds
  | [], _, _, _, e, h => by cases e; simp at h
  | .v d :: as, _, j, s, e, h => by
    unfold argsOf at e
    split at e
    · rename_i xs e1
      cases e
      cases j with
      | zero => simp at h; exact .inl ⟨d, rfl, h.symm⟩
      | succ j => simpa using args_get e1 (by simpa using h)
    · cases e
  | .s i :: as, _, j, s, e, h => by
    unfold argsOf at e
    split at e
    · cases e
    · rename_i b ds hbn hb
      split at e
      · rename_i xs e1
        cases e
        cases j with
        | zero => simp at h; exact .inr ⟨i, b, ds, rfl, hb, isL_of hbn, h.symm⟩
        | succ j => simpa using args_get e1 (by simpa using h)
      · cases e
    · cases e
theorem slots_mem : ∀ {as : List AR} {j i : Nat}, as[j]? = some (.s i) → i ∈ slotsOf as
  | [], _, _, h => by simp at h
  | .v _ :: as, 0, _, h => by simp at h
  | .v _ :: as, j + 1, i, h => slots_mem (as := as) (j := j) (by simpa using h)
  | .s k :: as, 0, i, h => by simp at h; subst h; exact List.mem_cons_self ..
  | .s k :: as, j + 1, i, h => List.mem_cons_of_mem _ (slots_mem (as := as) (j := j) (by simpa using h))
theorem slots_at : ∀ {as : List AR} {i : Nat}, i ∈ slotsOf as → ∃ (j : Nat), as[j]? = some (AR.s i)
  | [], _, h => by cases h
  | .v _ :: as, i, h => by obtain ⟨j, e⟩ := slots_at (as := as) h; exact ⟨j + 1, by simpa using e⟩
  | .s k :: as, i, h => by
    rcases List.mem_cons.mp h with rfl | h
    · exact ⟨0, rfl⟩
    · obtain ⟨j, e⟩ := slots_at (as := as) h; exact ⟨j + 1, by simpa using e⟩
theorem slots_inj : ∀ {as : List AR} {j k i : Nat}, nodupB (slotsOf as) = true → as[j]? = some (.s i) → as[k]? = some (.s i) → j = k
  | [], _, _, _, _, h, _ => by simp at h
  | .v _ :: as, 0, _, _, _, h, _ => by simp at h
  | .v _ :: as, _ + 1, 0, _, _, _, h => by simp at h
  | .v _ :: as, j + 1, k + 1, i, n, h, g => by rw [slots_inj (as := as) (j := j) (k := k) n (by simpa using h) (by simpa using g)]
  | .s m :: as, 0, 0, _, _, _, _ => rfl
  | .s m :: as, 0, k + 1, i, n, h, g => by
    simp at h; subst h
    have : m ∈ slotsOf as := slots_mem (j := k) (by simpa using g)
    unfold slotsOf nodupB at n
    rw [Bool.and_eq_true] at n
    simp [this] at n
  | .s m :: as, j + 1, 0, i, n, h, g => by
    simp at g; subst g
    have : m ∈ slotsOf as := slots_mem (j := j) (by simpa using h)
    unfold slotsOf nodupB at n
    rw [Bool.and_eq_true] at n
    simp [this] at n
  | .s m :: as, j + 1, k + 1, i, n, h, g => by
    unfold slotsOf nodupB at n
    rw [Bool.and_eq_true] at n
    rw [slots_inj (as := as) (j := j) (k := k) n.2 (by simpa using h) (by simpa using g)]
theorem paired_get {α β : Type} {F : α → β → Prop} : ∀ {xs : List α} {ys : List β} {i : Nat} {y : β}, Paired F xs ys → ys[i]? = some y → ∃ x, xs[i]? = some x ∧ F x y
  | _, _, _, _, .nil, e => by simp at e
  | _, _, 0, y, .cons r _, e => by simp at e; subst e; exact ⟨_, rfl, r⟩
  | _, _, i + 1, y, .cons _ t, e => by
    obtain ⟨x, h1, h2⟩ := paired_get (i := i) t (by simpa using e)
    exact ⟨x, by simpa using h1, h2⟩
/-- what the callee may not touch -/
def calO (M : Mset) (σ : St) (is : List Nat) : Mset := fun a => M a ∧ ∀ i ∈ is, σ[i]? ≠ some (some (.ref a))
def calP (vs : List V) : Nat → Option Addr := fun j => match vs[j]? with
  | some (.ref a) => some a
  | _ => none
theorem call_start (h : SR K H M O π ρ σ) (r : AReps K H M σ vs as) (n : nodupB (slotsOf as) = true) (e : argsOf ρ as = some args) : SR K H M (calO M σ (slotsOf as)) (calP vs) (args.map some) (vs.map some) := by
  have hl : args.length = vs.length := by rw [args_len e]; exact (Paired.length r).symm
  have get : ∀ {j : Nat} {s : Sv}, (args.map some)[j]? = some (some s) → args[j]? = some s := fun {j s} q => by
    rw [List.getElem?_map] at q
    obtain ⟨x, h1, h2⟩ := Option.map_eq_some_iff.mp q
    cases h2; exact h1
  have own : ∀ {j : Nat} {c : Kd} {ds : List D}, (args.map some)[j]? = some (some (.own c ds)) → ∃ i b a ws, as[j]? = some (.s i) ∧ ρ[i]? = some (some (.own b ds)) ∧ c = .par ∧ vs[j]? = some (.ref a) ∧ σ[i]? = some (some (.ref a)) ∧ H a = some (.lst ws) ∧ M a ∧ ¬ O a ∧ Reps K H M ws ds := fun {j c ds} q => by
    rcases args_get e (get q) with ⟨d, _, z⟩ | ⟨i, b, ds', e1, e2, hL, z⟩
    · cases z
    · cases z
      obtain ⟨v, e3, e4⟩ := paired_get r e1
      obtain ⟨a, ws, f1, f2, f3, f4, f5, _⟩ := h.ownL e2 hL
      have e4' : σ[i]? = some (some v) := e4
      rw [f1] at e4'; cases e4'
      exact ⟨i, b, a, ws, e1, e2, rfl, e3, f1, f2, f3, f4, f5⟩
  have up : ∀ {j : Nat} {v : V}, vs[j]? = some v → (vs.map some)[j]? = some (some v) := fun q => by rw [List.getElem?_map, q]; rfl
  refine ⟨by rw [List.length_map, List.length_map, hl], fun a q => q.1, h.live, fun j d q => ?_, fun j c ds q => ?_, fun j k c c' ds es a hjk q q2 q3 q4 => ?_⟩
  · rcases args_get e (get q) with ⟨d', e1, z⟩ | ⟨i, b, ds', e1, e2, hL, z⟩
    · cases z
      obtain ⟨v, e3, e4⟩ := paired_get r e1
      exact ⟨v, up e3, e4⟩
    · cases z
  · obtain ⟨i, b, a, ws, e1, e2, e3, e4, f1, f2, f3, f4, f5⟩ := own q
    subst e3
    refine ⟨a, ws, up e4, f2, f3, fun z => z.2 i (slots_mem e1) f1, f5, fun _ => ?_⟩
    unfold calP
    rw [e4]
  · obtain ⟨i, b, a1, ws, e1, e2, e3, e4, f1, f2, f3, f4, f5⟩ := own q
    obtain ⟨i', b', a2, ws', e1', e2', e3', e4', f1', f2', f3', f4', f5'⟩ := own q2
    rw [up e4] at q3; cases q3
    rw [up e4'] at q4; cases q4
    have hi : i ≠ i' := fun z => by
      subst z
      exact hjk (slots_inj n e1 e1')
    exact h.uniq i i' b b' ds es a hi e2 e2' f1 f1'
/-- the names behind the callee's changes -/
theorem back_get : ∀ {as : List AR} {os : List (Option (List D))} {ρ ρ' : Fm}, nodupB (slotsOf as) = true → backTo ρ as os = some ρ' → ρ'.length = ρ.length ∧ (∀ (i : Nat), i ∉ slotsOf as → ρ'[i]? = ρ[i]?) ∧
    ∀ (i : Nat), i ∈ slotsOf as → ∃ (j : Nat) (b : Kd) (ds es : List D), as[j]? = some (AR.s i) ∧ os[j]? = some (some ds) ∧ ρ[i]? = some (some (.own b es)) ∧ ρ'[i]? = some (some (.own b ds)) ∧ b.isL = true
  | [], [], ρ, ρ', _, e => by
    cases e
    exact ⟨rfl, fun _ _ => rfl, fun i hi => by cases hi⟩
  | [], _ :: _, _, _, _, e => by cases e
  | .v _ :: as, [], _, _, _, e => by cases e
  | .v _ :: as, o :: os, ρ, ρ', n, e => by
    obtain ⟨h1, h2, h3⟩ := back_get (as := as) (os := os) n e
    refine ⟨h1, h2, fun i hi => ?_⟩
    obtain ⟨j, b, ds, es, g1, g2, g3, g4⟩ := h3 i hi
    exact ⟨j + 1, b, ds, es, by simpa using g1, by simpa using g2, g3, g4⟩
  | .s _ :: as, [], _, _, _, e => by cases e
  | .s _ :: as, none :: os, _, _, _, e => by cases e
  | .s m :: as, some ds :: os, ρ, ρ', n, e => by
    unfold backTo at e
    split at e
    · cases e
    · rename_i b es hbn hb
      unfold slotsOf nodupB at n
      rw [Bool.and_eq_true] at n
      have nm : m ∉ slotsOf as := fun z => by have := n.1; simp [z] at this
      obtain ⟨h1, h2, h3⟩ := back_get (as := as) (os := os) n.2 e
      refine ⟨by rw [h1, List.length_set], fun i hi => ?_, fun i hi => ?_⟩
      · unfold slotsOf at hi
        rw [List.mem_cons, not_or] at hi
        rw [h2 i hi.2, List.getElem?_set_ne (Ne.symm hi.1)]
      · unfold slotsOf at hi
        rcases List.mem_cons.mp hi with rfl | hi
        · exact ⟨0, b, ds, es, rfl, rfl, hb, by rw [h2 i nm]; exact get_set_same hb, isL_of hbn⟩
        · obtain ⟨j, b', ds', es', g1, g2, g3, g4, gL⟩ := h3 i hi
          have hne : i ≠ m := fun z => nm (z ▸ hi)
          rw [List.getElem?_set_ne (Ne.symm hne)] at g3
          exact ⟨j + 1, b', ds', es', by simpa using g1, by simpa using g2, g3, g4, gL⟩
    · cases e
theorem call_end (h : SR K H M O π ρ σ) (r : AReps K H M σ vs as) (n : nodupB (slotsOf as) = true) (eb : backTo ρ as os = some ρ') (lv : ∀ a, M' a → H' a ≠ none) (x : Ext (calO M σ (slotsOf as)) H M H' M') (ho : OutR K H' M' (calP vs) os) :
    Ext O H M H' M' ∧ SR K H' M' O π ρ' σ := by
  obtain ⟨b1, b2, b3⟩ := back_get n eb
  have sub : ∀ a, O a → calO M σ (slotsOf as) a := fun a q => ⟨h.sub a q, fun i hi z => by
    obtain ⟨j, b, ds, es, g1, g2, g3, g4, gL⟩ := b3 i hi
    obtain ⟨a', ws, f1, f2, f3, f4, _⟩ := h.own i b es g3
    rw [z] at f1; cases f1
    exact f4 q⟩
  have same : ∀ {i : Nat} {s : Sv}, ρ'[i]? = some (some s) → i ∉ slotsOf as → ρ[i]? = some (some s) := fun e hi => by rw [b2 _ hi] at e; exact e
  have ow : ∀ {i : Nat} {b : Kd} {ds : List D}, ρ'[i]? = some (some (.own b ds)) → ∃ es, ρ[i]? = some (some (.own b es)) := fun {i b ds} e => by
    by_cases hi : i ∈ slotsOf as
    · obtain ⟨j, b', ds', es, g1, g2, g3, g4, gL⟩ := b3 i hi
      rw [e] at g4; cases g4
      exact ⟨es, g3⟩
    · exact ⟨ds, same e hi⟩
  refine ⟨x.less sub, ⟨by rw [b1]; exact h.len, fun a q => x.sub a (sub a q), lv, fun i d e => ?_, fun i b ds e => ?_, fun i j b c ds es a hij e f g => ?_⟩⟩
  · by_cases hi : i ∈ slotsOf as
    · obtain ⟨j, b', ds', es, g1, g2, g3, g4, gL⟩ := b3 i hi
      rw [e] at g4; cases g4
    · obtain ⟨v, e1, rr⟩ := h.imm i d (same e hi)
      exact ⟨v, e1, rr.tr x.tr⟩
  · by_cases hi : i ∈ slotsOf as
    · obtain ⟨j, b', ds', es, g1, g2, g3, g4, gL⟩ := b3 i hi
      rw [e] at g4; cases g4
      obtain ⟨a, ws, f1, f2, f3, f4, f5, f6⟩ := h.ownL g3 gL
      obtain ⟨v, e3, e4⟩ := paired_get r g1
      have e4' : σ[i]? = some (some v) := e4
      rw [f1] at e4'; cases e4'
      obtain ⟨a', us, p1, p2, p3, p4⟩ := ho j ds g2
      unfold calP at p1
      rw [e3] at p1
      cases p1
      exact ⟨a, us, f1, p2.trans (congrArg some (cell_lst gL).symm), p3, f4, p4, f6⟩
    · have e0 := same e hi
      obtain ⟨a, ws, f1, f2, f3, f4, f5, f6⟩ := h.own i b ds e0
      have ha : calO M σ (slotsOf as) a := ⟨f3, fun k hk z => by
        obtain ⟨j, b', ds', es, g1, g2, g3, g4, gL⟩ := b3 k hk
        exact h.uniq i k _ _ _ _ a (fun q => hi (q ▸ hk)) e0 g3 f1 z⟩
      exact ⟨a, ws, f1, x.keep a _ f2 (.inl ha), x.sub a ha, f4, f5.tr x.tr, f6⟩
  · obtain ⟨ds', e1⟩ := ow e
    obtain ⟨es', f1⟩ := ow f
    exact h.uniq i j b c ds' es' a hij e1 f1 g
/-- what comes back -/
theorem call_ret {rr : Sv} {v : V} (h : SR K H M O π ρ σ) (r : AReps K H M σ vs as) (n : nodupB (slotsOf as) = true) (eb : backTo ρ as os = some ρ') (x : Ext (calO M σ (slotsOf as)) H M H' M') (ho : OutR K H' M' (calP vs) os) (q : RetR K H' M' (calO M σ (slotsOf as)) (calP vs) os rr v) :
    RP K H' M' O ρ' σ (.val rr) v := by
  cases rr with
  | imm d => exact q
  | own b0 ds0 =>
    obtain ⟨p, ws, e1, e2, e3, e4, e5, e6⟩ := q
    obtain ⟨b1, b2, b3⟩ := back_get n eb
    refine ⟨p, ws, e1, e2, e3, fun z => e4 ⟨h.sub p z, fun i hi y => ?_⟩, e5, fun i b ds e y => ?_⟩
    · obtain ⟨j, b, ds, es, g1, g2, g3, g4, gL⟩ := b3 i hi
      obtain ⟨a', ws', f1, f2, f3, f4, _⟩ := h.own i b es g3
      rw [y] at f1; cases f1
      exact f4 z
    · by_cases hi : i ∈ slotsOf as
      · obtain ⟨j, b', ds', es, g1, g2, g3, g4, gL⟩ := b3 i hi
        obtain ⟨v', e7, e8⟩ := paired_get r g1
        have e8' : σ[i]? = some (some v') := e8
        rw [y] at e8'; cases e8'
        exact e6 j ds' g2 (by unfold calP; rw [e7])
      · rw [b2 i hi] at e
        obtain ⟨a, us, f1, f2, f3, f4, f5, f6⟩ := h.own i b ds e
        rw [y] at f1; cases f1
        exact e4 ⟨f3, fun k hk z => by
          obtain ⟨j, b', ds', es, g1, g2, g3, g4, gL⟩ := b3 k hk
          exact h.uniq i k _ _ _ _ p (fun q => hi (q ▸ hk)) e g3 y z⟩
end
section
variable {X : Cx} {e : Expr} {es : List Expr} {me : ME} {mr : MR} {k np : Nat} {f : Addr} {fd : FuncData} {ps : List Str} {g : Fn} {x : Str} {p pos : Pos}
theorem tR_call {σ : St} {H : Hp} {Q : VK} (hn : ∀ ρ as ρ', mr ρ = some (as, ρ') → as.length = np) (h : tE X.K (mCall g mr) σ H Q) : tR X.K mr σ H fun vs H1 => spD X.K np g vs H1 Q E0 := by
  obtain ⟨ρ, M, O, π, pr, ρ', h, e, q⟩ := h
  unfold mCall at e
  split at e
  · rename_i as ρ1 e1
    split at e
    · rename_i n
      split at e
      · rename_i args e2
        split at e
        · rename_i r os e3
          split at e
          · rename_i ρ2 e4
            cases e
            refine ⟨ρ, M, O, π, as, ρ1, h, e1, fun vs H1 M1 x1 s1 r1 => ?_⟩
            refine ⟨M1, _, _, args, r, os, by rw [Paired.length r1]; exact hn _ _ _ e1, call_start s1 r1 n e2, e3, fun v H2 M2 lv x2 ho rr => ?_⟩
            obtain ⟨x3, s3⟩ := call_end s1 r1 n e4 lv x2 ho
            exact q v H2 M2 (x1.trans x3) s3 (call_ret s1 r1 n e4 x2 ho rr)
          · cases e
        · cases e
      · cases e
    · cases e
  · cases e
/-- f(e, ..) -/
theorem de_call (F : FnOk X.prog X.w X.K X.mg X.base CX0 k f fd ps (spD X.K ps.length g)) (hr : Room k X.A) (hg : Gl X x) (hm : X.mg x = some (.ref f)) (hk : PySem.W.keepIn X.K (.ref f) = true) (hb : Binds X.K fd ps [])
    (ha : DR X (e :: es) mr) (hn : ∀ ρ as ρ', mr ρ = some (as, ρ') → as.length = ps.length) (hdb : (x == ("__debug__" : Str)) = false := by decide) (he : starEach (e :: es) X.env = (false, eval e X.env) :: starEach es X.env := by rfl) (hpl : (PySem.backTo pos (starEach es X.env)).any (·.1) = false := by rfl) :
    DE X (.Call (.Name x p) (e :: es) [] pos) (mCall g mr) :=
  PE.imp (pe_call F hr hg hm hk hb .nil pass0 ha hdb he hpl) fun σ H Q h => by
    have := tR_call (X := X) hn h
    obtain ⟨ρ, M, O, π, as, ρ', h, e, q⟩ := this
    exact ⟨ρ, M, O, π, as, ρ', h, e, fun vs H' M' x s r => by show spD X.K ps.length g (vs ++ []) H' Q E0; rw [List.append_nil]; exact q vs H' M' x s r⟩
theorem de_call0 (F : FnOk X.prog X.w X.K X.mg X.base CX0 k f fd [] (spD X.K 0 g)) (hr : Room k X.A) (hg : Gl X x) (hm : X.mg x = some (.ref f)) (hk : PySem.W.keepIn X.K (.ref f) = true) (hb : Binds X.K fd [] []) (hdb : (x == ("__debug__" : Str)) = false := by decide) :
    DE X (.Call (.Name x p) [] [] pos) (mCall g rNil) :=
  PE.imp (pe_call0 (dvs := []) F hr hg hm hk hb .nil pass0 hdb) fun σ H Q h => by
    obtain ⟨ρ, M, O, π, as, ρ', h, e, q⟩ := tR_call (X := X) (np := 0) (fun ρ as ρ' e => by cases e; rfl) h
    cases e
    exact q [] H M (.refl h) h .nil
end
end Vi

namespace PySem
open Sem (wp)
open AutoSeq1 (wpAny_loadPart')
theorem vi_meets_enumerate_newT (l : Addr) (items : Array Value) (n : Nat) (dct : Option Addr) (sl : Array (Option Value)) :
    Meets (Builtin.«enumerate.__new__» ⟨[.type "enumerate", .ref l], []⟩) (fun _ R s => s.heap.get? l = some { cls := .type "tuple", dict := dct, data := .seq items n, slots := sl } ∧
      R (.ok (.ret (.ref (s.heap.push { cls := .type "tuple_iterator", data := .fields #[.ref l, .int 0 0] }).objs.size)))
        { s with heap := (s.heap.push { cls := .type "tuple_iterator", data := .fields #[.ref l, .int 0 0] }).push { cls := .type "enumerate", data := .fields #[.none, .bool false, .ref s.heap.objs.size, rawInt 0, .none, .none] } }) :=
  .of_wp fun prog w A R s h => by
    obtain ⟨hp, g, d, tk, os⟩ := s; obtain ⟨hl, h⟩ := h
    have hsub := sub_enumerate
    have hL : Heap.IsTuple (Shared.heap ⟨hp, g, d, tk, os⟩) l items := ⟨_, hl, rfl, n, rfl⟩
    wp_walk using wpAny_loadPart' hl
    refine wpAny_stack_any fun st => wpAny_pure ?_
    split
    · rename_i c _ _ _ _ _
      cases (c == Value.type "enumerate")
      · wp_walk using wpAny_loadPart' hl, wpAny_pyIter_tuple hL
        exact ⟨_, rfl, h⟩
      · wp_walk using wpAny_loadPart' hl, wpAny_pyIter_tuple hL
        exact ⟨_, rfl, h⟩
    · wp_walk using wpAny_loadPart' hl, wpAny_pyIter_tuple hL
      exact ⟨_, rfl, h⟩
theorem vi_call_enumerate_tuple {prog : Program} {w : World} {A : Around} {E : Value → Shared → Prop} {s : Shared} {l : Addr} {items : Array Value} {Q : Value → Shared → Prop} (hL : s.heap.IsTuple l items)
    (h : ∀ h', IsEnum h' (s.heap.objs.size + 1) s.heap.objs.size 0 .none → h'.IsTupleIter s.heap.objs.size l 0 → h'.objs.size = s.heap.objs.size + 2 →
      (∀ b o, s.heap.get? b = some o → h'.get? b = some o) → Q (.ref (s.heap.objs.size + 1)) { s with heap := h' }) :
    wpAny (model prog w) A (call (.type "enumerate") [.ref l]) Q E s := by
  obtain ⟨⟨c, dct, dt, sl⟩, hl, hc, n, hd⟩ := hL
  replace hc : c = .type "tuple" := hc
  replace hd : dt = .seq items n := hd
  subst hc hd
  refine callType_new F.called_enumerate (by decide) (F.typeCall_enumerate_1 _) (F.newCall_enumerate_1 _) (fun obj => F.args_object_init_2 obj _) F.entry_enumerate_new
    (vi_meets_enumerate_newT l items n dct sl) ⟨hl, ?_⟩
  have hz : (s.heap.push { cls := .type "tuple_iterator", data := .fields #[.ref l, .int 0 0] }).objs.size = s.heap.objs.size + 1 := Heap.size_push ..
  show _ ∧ _
  rw [hz]
  have he : IsEnum ((s.heap.push { cls := .type "tuple_iterator", data := .fields #[.ref l, .int 0 0] }).push
      { cls := .type "enumerate", data := .fields #[.none, .bool false, .ref s.heap.objs.size, rawInt 0, .none, .none] }) (s.heap.objs.size + 1) s.heap.objs.size 0 .none := by
    have := Heap.get?_push_size (s.heap.push { cls := .type "tuple_iterator", data := .fields #[.ref l, .int 0 0] })
      (o := { cls := .type "enumerate", data := .fields #[.none, .bool false, .ref s.heap.objs.size, rawInt 0, .none, .none] }) rfl
    rw [hz] at this; exact this
  refine ⟨⟨_, he, rfl⟩, h _ he ⟨_, Heap.get?_push_of_some _ (Heap.get?_push_size _ rfl), rfl, rfl⟩ (by rw [Heap.size_push, hz]) fun b o x => Heap.get?_push_of_some _ (Heap.get?_push_of_some _ x)⟩
end PySem
namespace Vi
open PySem PySem.Spec PyProof.Rows L2
/-! ### enumerate of a tuple -/
def IteT (K : PySem.W.Frag) (a : Addr) : It :=
  ⟨fun i H => ∃ (xs : List V) (x : V), SqT K H a xs ∧ xs[i]? = some x, fun i H v H' => ∃ T x, v = .ref T ∧ H T = none ∧ H' = upd H T (.tup [.int (i : Nat), x]) ∧ ∀ xs, SqT K H a xs → xs[i]? = some x, fun i H => ∃ xs : List V, SqT K H a xs ∧ xs.length ≤ i⟩
theorem turn_enumT {P : Program} {w : World} {K : PySem.W.Frag} {elts : List Expr} {kk : Nat} {tpos : Pos} (a e it : Addr) (hai : a ≠ it) (hae : a ≠ e) :
    Turn P w K (.Tuple elts kk tpos) (IteT K a) [e, it] e (fun i h => (∃ old, IsEnum h e it ((i : Nat) : Int) old) ∧ h.IsTupleIter it a i ∧ e ≠ it) where
  mem := by simp
  obj := fun i h st b hb => by
    obtain ⟨⟨old, he⟩, ⟨o, ho, hc, hd⟩, _⟩ := st
    have e' : b = e ∨ b = it := by simpa using hb
    rcases e' with z | z
    · rw [z]; exact ⟨_, he, fun v q => nomatch q⟩
    · rw [z]; exact ⟨o, ho, fun v q => by rw [hd] at q; cases q⟩
  keep := fun i h h' st k => let ⟨⟨old, he⟩, hi, hne⟩ := st; ⟨⟨old, k e (by simp) _ he⟩, hi.at fun o q => k it (by simp) o q, hne⟩
  item := by
    intro X hP hw hK hc i pins s σ H E I hf st hg
    subst hP hw hK
    obtain ⟨⟨old, he⟩, hit, hne⟩ := st
    obtain ⟨xs, x, hq, hx⟩ := hg
    obtain ⟨its, rv, p, hz⟩ := I.tuple hq
    obtain ⟨u, hu, ru⟩ := rv.get hx
    have hel : e < s.heap.objs.size := Heap.lt_size he
    have hil : it < s.heap.objs.size := by obtain ⟨_, q, _⟩ := hit; exact Heap.lt_size q
    have hlt : i < its.toArray.size := by simpa using (List.getElem?_eq_some_iff.mp hu).1
    refine wpAny_pyNext_enum_itemD (Draws.tuple (A := X.A.in1) (I.ok.hd hc) it a hai its.toArray) he ⟨hit, p⟩ hlt hne (by simp; exact ⟨hne, fun z => hae z.symm⟩) fun y h' tk py ho ⟨hit', _⟩ hT hsz hk => ?_
    have ey : y = u := by
      have h1 : its.toArray[i]? = some y := py
      have h2 : its.toArray[i]? = some u := by simpa using hu
      rw [h2] at h1; exact (Option.some.inj h1).symm
    subst ey
    refine ⟨_, rfl, wpAny_letOwnedTupleGo_enum (s := { s with heap := h', toks := tk + 1 }) ho fun h'' he' sb => ?_⟩
    have hT2 : h''.get? s.heap.objs.size = some { cls := .type "tuple", data := .seq #[.int i tk, y] } := (sb.2 _ (Nat.ne_of_gt hel)).trans hT
    have new : ObjOk X.prog X.w (upd H s.heap.objs.size (.tup [.int (i : Nat), x])) h'' s.heap.objs.size (.tup [.int (i : Nat), x]) :=
      ⟨by show 2 ≤ sizeLine; decide, [.int i tk, y], .cons ⟨_, rfl⟩ (.cons ru .nil), ⟨_, hT2, rfl, _, rfl⟩⟩
    have I1 : Inv X pins σ (upd H s.heap.objs.size (.tup [.int (i : Nat), x])) { s with heap := h'', toks := tk + 1 } :=
      I.turnedNew (ch := [e, it]) (fun b ob hb q => (sb.2 b (fun z => hb (by simp [z]))).trans (hk b ob (fun z => hb (by simp [z])) (fun z => hb (by simp [z])) q)) hf (Nat.le_refl _) new
    refine ⟨.ref s.heap.objs.size, _, I1, rfl, ⟨_, x, rfl, I.hok.fresh (Nat.le_refl _), rfl, fun ys hy => by rw [I.tuple_inj hy hq]; exact hx⟩, ⟨⟨y, ?_⟩, hit'.at fun o q => (sb.2 it (Ne.symm hne)).trans q, hne⟩, fun b hb => ?_⟩
    · have e1 : ((i + 1 : Nat) : Int) = (i : Int) + 1 := by omega
      rw [e1]; exact he'
    · have hb' : b < s.heap.objs.size := by
        have e' : b = e ∨ b = it := by simpa using hb
        rcases e' with z | z
        · rw [z]; exact hel
        · rw [z]; exact hil
      rw [upd_ne (Nat.ne_of_lt hb')]
      exact (hf b hb).1
  done := by
    intro X hP hw hK hc i pins s σ H E I hf st hg
    subst hP hw hK
    obtain ⟨⟨old, he⟩, hit, hne⟩ := st
    obtain ⟨xs, hq, hx⟩ := hg
    obtain ⟨its, rv, p, hz⟩ := I.tuple hq
    obtain ⟨f0, f1, f2, f3, f4, f5⟩ := hf it (by simp)
    have hl := rv.length
    have hT : s.TypeIs (.ref e) "enumerate" := ⟨_, he, rfl⟩
    unfold pyNext
    refine wpAny_bind (wpAny_attempt (wpAny_callSpecial?_slot (name := Str.ofString "__next__") hT F.slot_enumerate_next
      (wpAny_call_entry F.slot_enumerate_next hT F.entry_enumerate_next ?_ (F.args_enumerate_next_1 _))))
    show wpAny _ _ (field (.ref e) 2 >>= _) _ _ _
    refine wpAny_bind (wpAny_field he rfl (x := .ref it) rfl ?_)
    refine wpAny_bind (wpAny_nextOf_tuple_end (I.ok.hd hc) hit p (by simp; omega) fun h' x he' hx' => ?_)
    obtain ⟨o, ho, hc⟩ := hx'
    refine wpAny_bind (wpAny_isInstance (T := "StopIteration") (b := true) ⟨o, ho, hc⟩ isSubtype_stop ?_)
    exact wpAny_pure ⟨rfl, I.turned (t' := s.toks) (fun b o hb q => he' b o hb q) f0 f1 f3 f4 f5⟩
  self := fun A i s Q E st h => let ⟨⟨_, he⟩, _⟩ := st; wpAny_pyIter_enum he h
section
variable {X : Cx}
def iEnumA (K : PySem.W.Frag) (ta : TA) : TI := fun σ H R => ta σ H fun vs H1 => ∃ a xs, vs = [.ref a] ∧ ((SqL K H1 a xs ∧ R (Ite K a) H1) ∨ (SqT K H1 a xs ∧ R (IteT K a) H1))
theorem pi_enumA {e : Expr} {ta : TA} {p pos tpos : Pos} {elts : List Expr} {kk : Nat} (hg : Gl X "enumerate") (hm : X.mg "enumerate" = none) (ha : PA X [e] ta) (hs : starEach [e] X.env = [(false, eval e X.env)] := by rfl) :
    PI X (.Tuple elts kk tpos) (.Call (.Name "enumerate" p) [e] [] pos) (iEnumA X.K ta) := by
  refine ⟨fun pins s σ H R I h => ?_⟩
  refine Call_ (ld_blt I hg hm boot_enumerate (PyProof.Rows.callWith_type1 (thn (ha.run pos pins s σ H _ I h) fun us s1 ⟨vs, H1, I1, r1, q1⟩ => ?_) hs rfl))
  obtain ⟨a, xs, ex, q1⟩ := q1
  subst ex
  cases r1 with
  | cons r rr =>
    cases rr
    cases r
    rcases q1 with ⟨hq, q⟩ | ⟨hq, q⟩
    · obtain ⟨its, rv, p', hz⟩ := I1.list hq
      refine call_enumerate_list p'.isList fun h' he hit hsz hk => wpAny_pyIter_enum he ?_
      have I2 : Inv X pins σ H1 { s1 with heap := h' } := I1.kept (t' := s1.toks) hk
      refine ⟨s1.heap.objs.size + 1, [s1.heap.objs.size + 1, s1.heap.objs.size], _, _, H1, rfl, I2, turn_enum a (s1.heap.objs.size + 1) s1.heap.objs.size, ⟨⟨.none, he⟩, hit, Nat.succ_ne_self _⟩, fun b hb => ?_, q⟩
      have e' : b = s1.heap.objs.size + 1 ∨ b = s1.heap.objs.size := by simpa using hb
      have hle : s1.heap.objs.size ≤ b := by
        rcases e' with z | z
        · rw [z]; exact Nat.le_add_right _ _
        · rw [z]; exact Nat.le_refl _
      exact I1.fpOk hle (I1.hok.fresh hle)
    · obtain ⟨its, rv, p', hz⟩ := I1.tuple hq
      have hat : a < s1.heap.objs.size := p'.lt
      refine vi_call_enumerate_tuple p' fun h' he hit hsz hk => wpAny_pyIter_enum he ?_
      have I2 : Inv X pins σ H1 { s1 with heap := h' } := I1.kept (t' := s1.toks) hk
      refine ⟨s1.heap.objs.size + 1, [s1.heap.objs.size + 1, s1.heap.objs.size], _, _, H1, rfl, I2, turn_enumT a (s1.heap.objs.size + 1) s1.heap.objs.size (Nat.ne_of_lt hat) (Nat.ne_of_lt (Nat.lt_succ_of_lt hat)), ⟨⟨.none, he⟩, hit, Nat.succ_ne_self _⟩, fun b hb => ?_, q⟩
      have e' : b = s1.heap.objs.size + 1 ∨ b = s1.heap.objs.size := by simpa using hb
      have hle : s1.heap.objs.size ≤ b := by
        rcases e' with z | z
        · rw [z]; exact Nat.le_add_right _ _
        · rw [z]; exact Nat.le_refl _
      exact I1.fpOk hle (I1.hok.fresh hle)
theorem src_enumT {K : PySem.W.Frag} {H0 : Hp} {M0 : Mset} {a : Addr} {vs : List V} {xs : List D} (h : TupAt K H0 M0 a vs) (r : Reps K H0 M0 vs xs) : Src K (IteT K a) (enumD 0 xs) H0 M0 := by
  refine ⟨fun H M l i hi => ?_, fun H M l => ⟨vs, tupAt_lat h l, by rw [enumD_len, r.length]; exact Nat.le_refl _⟩, fun H M l i d x H' ed y => ?_⟩
  · rw [enumD_len, ← r.length] at hi
    exact ⟨vs, vs[i], tupAt_lat h l, by simp [hi]⟩
  · obtain ⟨p, e1, rfl⟩ := enumD_get ed
    obtain ⟨v, hv, rv⟩ := r.get e1
    obtain ⟨T, vx, rfl, hT, rfl, f1⟩ := y
    have g1 := f1 vs (tupAt_lat h l)
    rw [hv] at g1; cases g1
    rw [Nat.zero_add]
    exact .inr ⟨T, _, _, rfl, hT, rfl, rfl, .cons (.int _) (.cons (rv.tr l) .nil)⟩
def mIEnum (ma : MA) : MI := fun ρ => match ma ρ with
  | some ([.list xs], ρ1) => some (enumD 0 xs, ρ1)
  | some ([.tuple xs], ρ1) => some (enumD 0 xs, ρ1)
  | _ => none
theorem di_enum {e : Expr} {ma : MA} {p pos tpos : Pos} {elts : List Expr} {kk : Nat} (hg : Gl X "enumerate") (hm : X.mg "enumerate" = none) (ha : DA X [e] ma) (hs : starEach [e] X.env = [(false, eval e X.env)] := by rfl) :
    DI X (.Tuple elts kk tpos) (.Call (.Name "enumerate" p) [e] [] pos) (mIEnum ma) :=
  PI.imp (pi_enumA hg hm ha hs) fun σ H R ⟨ρ, M, O, π, ds, ρ', h, e, q⟩ => by
    unfold mIEnum at e
    split at e
    · rename_i xs ρ1 e1
      cases e
      refine ⟨ρ, M, O, π, _, _, h, e1, fun vs H1 M1 x1 s1 r1 => ?_⟩
      cases r1 with
      | cons rv rr =>
        cases rr
        cases rv with
        | lst hr n rr => exact ⟨_, _, rfl, .inl ⟨.inl hr, q _ H1 M1 x1 s1 (src_enumL hr n rr)⟩⟩
    · rename_i xs ρ1 e1
      cases e
      refine ⟨ρ, M, O, π, _, _, h, e1, fun vs H1 M1 x1 s1 r1 => ?_⟩
      cases r1 with
      | cons rv rr =>
        cases rr
        cases rv with
        | tup hr rr => exact ⟨_, _, rfl, .inr ⟨hr.sq, q _ H1 M1 x1 s1 (src_enumT hr rr)⟩⟩
    · cases e

/-! ### a, b = x, y -/
theorem take_ok {K : PySem.W.Frag} {H : Hp} {M O : Mset} {π : Nat → Option Addr} {ρ ρ' : Fm} {σ : St} {pr : PR} {v : V} {sv : Sv} (h : SR K H M O π ρ σ) (r : RP K H M O ρ σ pr v) (e : take ρ pr = some (sv, ρ')) : ∃ M', Ext O H M H M' ∧ SR K H M' O π ρ' σ ∧ RP K H M' O ρ' σ (.val sv) v := by
  match pr, v, r with
  | .val (.imm d), v, r => cases e; exact ⟨M, .refl h, h, r⟩
  | .val (.own b ds), v, ⟨p, vs, e1, e2, e3, e4, e5, e6⟩ =>
    cases b with
    | dic => cases e; exact ⟨M, .refl h, h, p, vs, e1, e2, e3, e4, e5, e6⟩
    | loc => cases e; exact ⟨M, .refl h, h, p, vs, e1, e2, e3, e4, e5, e6⟩
    | par => cases e; exact ⟨M, .refl h, h, p, vs, e1, e2, e3, e4, e5, e6⟩
  | .slot j, v, r =>
    unfold take at e
    simp only at e
    cases ef : frz ρ (.slot j) with
    | none => rw [ef] at e; cases e
    | some dρ =>
      obtain ⟨d, ρ1⟩ := dρ
      rw [ef] at e
      cases e
      obtain ⟨M', x, s, rr⟩ := frz_ok h r ef
      exact ⟨M', x, s, rr⟩
theorem SR.setVal {K : PySem.W.Frag} {H : Hp} {M O : Mset} {π : Nat → Option Addr} {ρ : Fm} {σ : St} {v : V} {sv : Sv} (h : SR K H M O π ρ σ) (r : RP K H M O ρ σ (.val sv) v) (hp : ∀ ds, sv ≠ .own .par ds) (i : Nat) : SR K H M O π (ρ.set i (some sv)) (σ.set i (some v)) := by
  cases sv with
  | imm d => exact h.setImm r
  | own b ds =>
    obtain ⟨p, vs, rfl, e2, e3, e4, e5, e6⟩ := r
    cases b with
    | par => exact absurd rfl (hp ds)
    | loc => exact h.setOwn e2 e3 e4 e5 e6
    | dic => exact h.setOwnC (fun z => by cases z) e2 e3 e4 e5 e6
theorem RP.set {K : PySem.W.Frag} {H : Hp} {M O : Mset} {ρ : Fm} {σ : St} {v1 v2 : V} {s1 s2 : Sv} {i : Nat} (r1 : RP K H M O ρ σ (.val s1) v1) (r2 : RP K H M (hold O (.val s1) v1) ρ σ (.val s2) v2) (hl : ρ.length = σ.length) : RP K H M O (ρ.set i (some s1)) (σ.set i (some v1)) (.val s2) v2 := by
  cases s2 with
  | imm d => exact r2
  | own b ds =>
    obtain ⟨p, vs, rfl, e2, e3, e4, e5, e6⟩ := r2
    refine ⟨p, vs, rfl, e2, e3, fun z => e4 (hold_le O _ v1 p z), e5, fun j c es f g => ?_⟩
    rcases get_set f with ⟨hj, z⟩ | ⟨hj, f'⟩
    · have hz : s1 = .own c es := (Option.some.inj z).symm
      subst hz
      have hlt : i < ρ.length := by
        subst hj
        have := (List.getElem?_eq_some_iff.mp f).1
        rwa [List.length_set] at this
      obtain ⟨q, ws, e1, _⟩ := r1
      subst e1
      subst hj
      rw [List.getElem?_set_self (by rw [← hl]; exact hlt)] at g
      cases g
      exact e4 (.inr rfl)
    · rw [List.getElem?_set_ne (Ne.symm hj)] at g
      exact e6 j c es f' g
def fine : Sv → Bool
  | .own .par _ => false
  | _ => true
theorem fine_ne {s : Sv} (h : fine s = true) : ∀ ds, s ≠ .own .par ds := fun ds e => by subst e; cases h
def mPar (i j : Nat) (ma mb : ME) : MS := fun ρ => match ma ρ with
  | some (p1, ρ1) => match take ρ1 p1 with
    | some (s1, ρ2) => match mb ρ2 with
      | some (p2, ρ3) => match take ρ3 p2 with
        | some (s2, ρ4) => if (fine s1 && fine s2) = true then some (.next, (ρ4.set i (some s1)).set j (some s2)) else none
        | none => none
      | none => none
    | none => none
  | none => none
theorem ds_par {st : Stmt} {a b : Expr} {ma mb : ME} {i j : Nat} (h : ∀ ta, PA X [a, b] ta → PS X st (tPar i j ta)) (ha : DE X a ma) (hb : DE X b mb) (hs : starEach [a, b] X.env = (false, eval a X.env) :: starEach [b] X.env := by rfl) (hs2 : starEach [b] X.env = (false, eval b X.env) :: starEach [] X.env := by rfl) : DS X st (mPar i j ma mb) :=
  PS.imp (h _ (pa_cons ha (pa_cons hb pa_nil hs2) hs)) fun D σ H ⟨ρ, M, O, π, fl, ρ', h, e, q⟩ => by
    unfold mPar at e
    split at e
    · rename_i p1 ρ1 e1
      split at e
      · rename_i s1 ρ2 e2
        split at e
        · rename_i p2 ρ3 e3
          split at e
          · rename_i s2 ρ4 e4
            split at e
            · rename_i hz
              cases e
              rw [Bool.and_eq_true] at hz
              refine ⟨ρ, M, O, π, p1, ρ1, h, e1, fun v1 H1 M1 x1 t1 r1 => ?_⟩
              obtain ⟨M2, x2, t2, r2⟩ := take_ok t1 r1 e2
              refine ⟨ρ2, M2, Vi.hold O (.val s1) v1, π, p2, ρ3, t2.hold r2, e3, fun v2 H3 M3 x3 t3 r3 => ⟨v1, v2, rfl, ?_⟩⟩
              obtain ⟨M4, x4, t4, r4⟩ := take_ok t3 r3 e4
              have le := hold_le O (.val s1) v1
              have r1' := r2.held (x3.trans x4) t4
              have t5 := (t4.less le).setVal r1' (fine_ne hz.1) i
              have r5 := RP.set (i := i) r1' r4 t4.len
              exact q _ H3 M4 ((x1.trans x2).trans ((x3.trans x4).less le)) (t5.setVal r5 (fine_ne hz.2) j)
            · cases e
          · cases e
        · cases e
      · cases e
    · cases e
/-- targets of a value that is a tuple -/
def mAsgG (me : ME) (mg : MG) : MS := fun ρ => match me ρ with
  | some (pr, ρ1) => match frz ρ1 pr with
    | some (d, ρ2) => match mg d ρ2 with
      | some ρ3 => some (.next, ρ3)
      | none => none
    | none => none
  | none => none
theorem ds_asgG {st : Stmt} {e tg : Expr} {me : ME} {mg : MG} {ts : List Nat} (h : ∀ te g, PE X e te → PG X tg g → PS X st (tAsg te g)) (he : DE X e me) (hg : DG X tg mg ts) : DS X st (mAsgG me mg) :=
  PS.imp (h _ _ he hg) fun D σ H ⟨ρ, M, O, π, fl, ρ', h, e, q⟩ => by
    unfold mAsgG at e
    split at e
    · rename_i pr ρ1 e1
      split at e
      · rename_i d ρ2 e2
        split at e
        · rename_i ρ3 e3
          cases e
          refine ⟨ρ, M, O, π, pr, ρ1, h, e1, fun v H1 M1 x1 s1 r1 => ?_⟩
          obtain ⟨M2, x2, s2, r2⟩ := frz_ok s1 r1 e2
          exact ⟨ρ2, M2, O, π, d, _, s2, r2, e3, fun σ' s3 _ _ => q σ' H1 M2 (x1.trans x2) s3⟩
        · cases e
      · cases e
    · cases e

/-! ### calls by keyword -/
theorem pe_callK0 {CX : CXT} {k : Nat} {f : Addr} {fd : FuncData} {ps ks : List Str} {sp : Sp} {E : XK} {x : Str} {p pos : Pos} {kws : List Keyword} {tk : TA} {g : List Value → List Value → List Value} {gV : List V → List V → List V}
    (F : FnOk X.prog X.w X.K X.mg X.base CX k f fd ps sp) (hr : Room k X.A) (hg : Gl X x) (hm : X.mg x = some (.ref f)) (hk : PySem.W.keepIn X.K (.ref f) = true) (hb : KBinds X.K fd ps ks g gV) (hx : Passes CX X E)
    (hkw : PK X kws tk) (hall : (backToKw pos (keywordEach kws X.env)).all (·.1.isSome) = true := by rfl) (hks : (backToKw pos (keywordEach kws X.env)).filterMap (·.1) = ks := by rfl)
    (hdb : (x == ("__debug__" : Str)) = false := by decide) (hpl : ((PySem.backTo pos (starEach [] X.env)).any (·.1) || (backToKw pos (keywordEach kws X.env)).any (·.1.isNone)) = false := by rfl) :
    PE X (.Call (.Name x p) [] kws pos) (tCallK sp gV E tNil tk) := by
  refine ⟨fun pins s σ H Q I h => ?_⟩
  refine wpAny_Call_Name_kw (ld_glob I hg hm ?_ hdb)
  refine PySem.W.callWith_KW0 (h₀ := X.base) I.ok.mod.kin hk hall (thn (hkw.run pos pins s σ H _ I h) fun ws s2 ⟨zs, H2, I2, rz, q2⟩ => ⟨I2.kIn, ?_⟩) hpl
  rw [hks]
  exact run_fnk (us := []) (vs := []) F hr hb hx I2 .nil rz q2
/-- the arguments in the parameters' order -/
def perm {α : Type} (n1 n2 : Nat) (is : List Nat) (us ws : List α) : List α := if us.length = n1 ∧ ws.length = n2 then is.filterMap fun i => (us ++ ws)[i]? else []
theorem perm_rel {α β : Type} {F : α → β → Prop} (n1 n2 : Nat) (is : List Nat) {vs : List α} {us : List β} {zs : List α} {ws : List β} (r : Paired F vs us) (s : Paired F zs ws) : Paired F (perm n1 n2 is vs zs) (perm n1 n2 is us ws) := by
  have ap : ∀ {vs : List α} {us : List β} {zs : List α} {ws : List β}, Paired F vs us → Paired F zs ws → Paired F (vs ++ zs) (us ++ ws) := fun {vs us zs ws} r s => by
    induction r with
    | nil => exact s
    | cons h t ih => exact .cons h ih
  have get : ∀ {xs : List α} {ys : List β} (i : Nat), Paired F xs ys → (xs[i]? = none ∧ ys[i]? = none) ∨ ∃ x y, xs[i]? = some x ∧ ys[i]? = some y ∧ F x y := fun {xs ys} i r => by
    induction r generalizing i with
    | nil => exact .inl ⟨by simp, by simp⟩
    | cons h t ih =>
      cases i with
      | zero => exact .inr ⟨_, _, rfl, rfl, h⟩
      | succ i => simpa using ih i
  unfold perm
  rw [Paired.length r, Paired.length s]
  split
  · have all := ap r s
    induction is with
    | nil => exact .nil
    | cons i is ih =>
      rcases get i all with ⟨e1, e2⟩ | ⟨x, y, e1, e2, f⟩
      · rw [List.filterMap_cons, List.filterMap_cons, e1, e2]; exact ih
      · rw [List.filterMap_cons, List.filterMap_cons, e1, e2]; exact .cons f ih
  · exact .nil
theorem _root_.L2.Fun.kbinds {K : PySem.W.Frag} {x qual : Str} {st : Stmt} {f : Addr} {fd : FuncData} {ps ks : List Str} {n1 n2 : Nat} {is : List Nat} (F : Fun K x qual st f fd) (hp : ps ≠ [])
    (h : ∀ (kV doc pm : Value) (an : Option Addr) (cdv ct : Value) (us ws : List Value), us.length = n1 → ws.length = n2 → bindArgs (PySem.W.fnOf x qual (defArgs st) (defBody st) (defScope st) .none kV doc pm an cdv ct) ⟨us, ks.zip ws⟩ = pure (ps.zip (is.filterMap fun i => (us ++ ws)[i]?))) : KBinds K fd ps ks (perm n1 n2 is) (perm n1 n2 is) := by
  obtain ⟨oc, od, kV, doc, pm, an, cdv, ct, osl, rfl, lk, hcd⟩ := F.ex
  refine ⟨fun s us ws _ hl => ?_, fun r s => perm_rel n1 n2 is r s⟩
  by_cases hc : us.length = n1 ∧ ws.length = n2
  · refine .of_eq ?_
    unfold perm
    rw [if_pos hc]
    exact h kV doc pm an cdv ct us ws hc.1 hc.2
  · unfold perm at hl
    rw [if_neg hc] at hl
    cases ps with
    | nil => exact absurd rfl hp
    | cons a b => cases hl
/-- keywords' values -/
def DK (X : Cx) (kws : List Keyword) (m : MR) : Prop := PK X kws (tR X.K m)
theorem _root_.L2.PK.imp {kws : List Keyword} {t t' : TA} (h : PK X kws t) (i : ∀ σ H Q, t' σ H Q → t σ H Q) : PK X kws t' := ⟨fun pos pins s σ H Q I q => h.run pos pins s σ H Q I (i σ H Q q)⟩
theorem dk_nil : DK X [] rNil := PK.imp pk_nil fun σ H Q ⟨ρ, M, O, π, ds, ρ', h, e, q⟩ => by
  cases e
  exact q [] H M (.refl h) h .nil
theorem dk_val {nm : Option Str} {e : Expr} {kpos : Pos} {kws : List Keyword} {me : ME} {n : MR} (he : DE X e me) (hes : DK X kws n) : DK X (⟨nm, e, kpos⟩ :: kws) (rVal me n) :=
  PK.imp (pk_cons he hes) fun σ H Q ⟨ρ, M, O, π, ds, ρ', h, e, q⟩ => by
    unfold rVal at e
    split at e
    · rename_i pr ρ1 e1
      split at e
      · rename_i d ρ2 e2
        split at e
        · rename_i as ρ3 e3
          cases e
          refine ⟨ρ, M, O, π, pr, ρ1, h, e1, fun v H1 M1 x1 s1 r1 => ?_⟩
          obtain ⟨M2, x2, s2, r2⟩ := frz_ok s1 r1 e2
          exact ⟨ρ2, M2, O, π, as, _, s2, e3, fun vs H3 M3 x3 s3 r3 => q (v :: vs) H3 M3 ((x1.trans x2).trans x3) s3 (.cons (r2.tr x3.tr) r3)⟩
        · cases e
      · cases e
    · cases e
def rPerm (n1 n2 : Nat) (is : List Nat) (mr mk : MR) : MR := fun ρ => match mr ρ with
  | some (as, ρ1) => match mk ρ1 with
    | some (bs, ρ2) => some (perm n1 n2 is as bs, ρ2)
    | none => none
  | none => none
theorem AReps.tr {K : PySem.W.Frag} {H H' : Hp} {M M' : Mset} {σ : St} (l : Lat H M H' M') : ∀ {vs : List V} {as : List AR}, AReps K H M σ vs as → AReps K H' M' σ vs as
  | _, _, .nil => .nil
  | _, _, .cons h t => .cons (ARep.tr l h) (AReps.tr l t)
theorem tR_perm {mr mk : MR} {n1 n2 : Nat} {is : List Nat} {σ : St} {H : Hp} {Q : List V → Hp → Prop} (h : tR X.K (rPerm n1 n2 is mr mk) σ H Q) : tR X.K mr σ H fun vs H1 => tR X.K mk σ H1 fun zs H2 => Q (perm n1 n2 is vs zs) H2 := by
  obtain ⟨ρ, M, O, π, as, ρ', h, e, q⟩ := h
  unfold rPerm at e
  split at e
  · rename_i as ρ1 e1
    split at e
    · rename_i bs ρ2 e2
      cases e
      refine ⟨ρ, M, O, π, as, ρ1, h, e1, fun vs H1 M1 x1 s1 r1 => ⟨ρ1, M1, O, π, bs, _, s1, e2, fun zs H2 M2 x2 s2 r2 => q _ H2 M2 (x1.trans x2) s2 ?_⟩⟩
      exact perm_rel n1 n2 is (AReps.tr x2.tr r1) r2
    · cases e
  · cases e
theorem de_callK0 {k : Nat} {f : Addr} {fd : FuncData} {ps ks : List Str} {g : Fn} {x : Str} {p pos : Pos} {kws : List Keyword} {mk : MR} {n1 n2 : Nat} {is : List Nat} (F : FnOk X.prog X.w X.K X.mg X.base CX0 k f fd ps (spD X.K ps.length g)) (hr : Room k X.A) (hg : Gl X x) (hm : X.mg x = some (.ref f)) (hk : PySem.W.keepIn X.K (.ref f) = true) (hb : KBinds X.K fd ps ks (perm n1 n2 is) (perm n1 n2 is))
    (hkw : DK X kws mk) (hn : ∀ ρ as ρ', rPerm n1 n2 is rNil mk ρ = some (as, ρ') → as.length = ps.length) (hall : (backToKw pos (keywordEach kws X.env)).all (·.1.isSome) = true := by rfl) (hks : (backToKw pos (keywordEach kws X.env)).filterMap (·.1) = ks := by rfl)
    (hdb : (x == ("__debug__" : Str)) = false := by decide) (hpl : ((PySem.backTo pos (starEach [] X.env)).any (·.1) || (backToKw pos (keywordEach kws X.env)).any (·.1.isNone)) = false := by rfl) :
    DE X (.Call (.Name x p) [] kws pos) (mCall g (rPerm n1 n2 is rNil mk)) :=
  PE.imp (pe_callK0 F hr hg hm hk hb pass0 hkw hall hks hdb hpl) fun σ H Q h => by
    obtain ⟨ρ, M, O, π, as, ρ', h, e, q⟩ := tR_perm (tR_call (X := X) hn h)
    cases e
    exact q [] H M (.refl h) h .nil
theorem de_callK {k : Nat} {f : Addr} {fd : FuncData} {ps ks : List Str} {g : Fn} {x : Str} {p pos : Pos} {e : Expr} {es : List Expr} {kws : List Keyword} {mr mk : MR} {n1 n2 : Nat} {is : List Nat} (F : FnOk X.prog X.w X.K X.mg X.base CX0 k f fd ps (spD X.K ps.length g)) (hr : Room k X.A) (hg : Gl X x) (hm : X.mg x = some (.ref f)) (hk : PySem.W.keepIn X.K (.ref f) = true) (hb : KBinds X.K fd ps ks (perm n1 n2 is) (perm n1 n2 is))
    (ha : DR X (e :: es) mr) (hkw : DK X kws mk) (hn : ∀ ρ as ρ', rPerm n1 n2 is mr mk ρ = some (as, ρ') → as.length = ps.length) (hall : (backToKw pos (keywordEach kws X.env)).all (·.1.isSome) = true := by rfl) (hks : (backToKw pos (keywordEach kws X.env)).filterMap (·.1) = ks := by rfl)
    (hdb : (x == ("__debug__" : Str)) = false := by decide) (he : starEach (e :: es) X.env = (false, eval e X.env) :: starEach es X.env := by rfl) (hpl : ((PySem.backTo pos (starEach (e :: es) X.env)).any (·.1) || (backToKw pos (keywordEach kws X.env)).any (·.1.isNone)) = false := by rfl) :
    DE X (.Call (.Name x p) (e :: es) kws pos) (mCall g (rPerm n1 n2 is mr mk)) :=
  PE.imp (pe_callK F hr hg hm hk hb pass0 ha hkw hall hks hdb he hpl) fun σ H Q h => tR_perm (tR_call (X := X) hn h)
/-! how many arguments -/
theorem rl_nil {n : Nat} (hn : n = 0) : ∀ ρ as ρ', rNil ρ = some (as, ρ') → as.length = n := fun ρ as ρ' e => by cases e; exact hn.symm
theorem rl_val {me : ME} {n : MR} {k : Nat} (h : ∀ ρ as ρ', n ρ = some (as, ρ') → as.length = k) : ∀ ρ as ρ', rVal me n ρ = some (as, ρ') → as.length = k + 1 := fun ρ as ρ' e => by
  unfold rVal at e
  split at e
  · split at e
    · split at e
      · rename_i e3
        cases e
        rw [List.length_cons, h _ _ _ e3]
      · cases e
    · cases e
  · cases e
theorem rl_slot {i : Nat} {n : MR} {k : Nat} (h : ∀ ρ as ρ', n ρ = some (as, ρ') → as.length = k) : ∀ ρ as ρ', rSlot i n ρ = some (as, ρ') → as.length = k + 1 := fun ρ as ρ' e => by
  unfold rSlot at e
  split at e
  · split at e
    · rename_i e3
      cases e
      rw [List.length_cons, h _ _ _ e3]
    · cases e
  · cases e
theorem rl_perm {mr mk : MR} {n1 n2 : Nat} {is : List Nat} (h1 : ∀ ρ as ρ', mr ρ = some (as, ρ') → as.length = n1) (h2 : ∀ ρ as ρ', mk ρ = some (as, ρ') → as.length = n2) (hi : is.all (fun i => decide (i < n1 + n2)) = true) : ∀ ρ as ρ', rPerm n1 n2 is mr mk ρ = some (as, ρ') → as.length = is.length := fun ρ as ρ' e => by
  unfold rPerm at e
  split at e
  · rename_i as1 ρ1 e1
    split at e
    · rename_i bs ρ2 e2
      cases e
      unfold perm
      rw [if_pos ⟨h1 _ _ _ e1, h2 _ _ _ e2⟩]
      have hl : (as1 ++ bs).length = n1 + n2 := by rw [List.length_append, h1 _ _ _ e1, h2 _ _ _ e2]
      clear e1 e2
      induction is with
      | nil => rfl
      | cons i is ih =>
        rw [List.all_cons, Bool.and_eq_true] at hi
        have hi1 : i < (as1 ++ bs).length := by rw [hl]; exact of_decide_eq_true hi.1
        rw [List.filterMap_cons, List.getElem?_eq_getElem hi1, List.length_cons, List.length_cons, ih hi.2]
    · cases e
  · cases e
/-! ### room -/
theorem room70 {A : Around} {k : Nat} (r : Room k A) : A.units + 70 < cLine := by have := r.un; omega
theorem room65 {A : Around} {k : Nat} (r : Room k A) : A.units + 65 < cLine := by have := r.un; omega
theorem room64 {A : Around} {k : Nat} (r : Room k A) : A.units + 64 < cLine := by have := r.un; omega
end
/-- a def that nothing is promised of -/
theorem fn_zero {P : Program} {w : World} {K : PySem.W.Frag} {mg : Str → Option Value} {base : Heap} {f : Addr} {fd : FuncData} {ps : List Str} {k : Nat} : FnOk P w K mg base CX0 k f fd ps (spD K ps.length fun _ => none) :=
  ⟨fun vs H Q E ⟨M, O, π, args, r, os, hl, _⟩ => hl, fun A outer s H args us vs Q E _ _ _ _ ⟨M, O, π, as, r, os, _, _, e, _⟩ => by cases e⟩
/-- the law's promise -/
theorem law_sp {K : PySem.W.Frag} {g : Fn} {H : Hp} {a : Addr} {ns : List Int} (hS : SqL K H a (ns.map V.int)) (e : ∃ os, g [.imm (.dict (ns.map fun n => (.int n, .none)))] = some (.imm (.bool true), os)) : spD K 1 g [.ref a] H (fun v _ => v = .bl true) fun _ _ _ => False := by
  obtain ⟨os, e⟩ := e
  have rs : Reps K H (fun _ => False) (ns.map V.int) ((ns.map fun n => ((.int n : D), (.none : D))).map Prod.fst) := by
    induction ns with
    | nil => exact .nil
    | cons n ns ih => exact .cons (.int n) (by
        clear ih e hS
        induction ns with
        | nil => exact .nil
        | cons m ns ih => exact .cons (.int m) ih)
  refine ⟨fun _ => False, fun _ => False, fun _ => none, _, _, os, rfl, ⟨rfl, fun _ z => z, fun _ z => z.elim, fun i d h => ?_, fun i b ds h => ?_, fun i j b c ds es x _ h => ?_⟩, e, fun v H' M' _ _ _ r => ?_⟩
  · cases i with
    | zero =>
      cases h
      exact ⟨.ref a, rfl, .scr (by
        rcases hS with h | h
        · exact .inl ⟨h, fun z => z⟩
        · exact .inr h) rs⟩
    | succ i => simp at h
  · cases i with
    | zero => cases h
    | succ i => simp at h
  · cases i with
    | zero => cases h
    | succ i => simp at h
  · cases (show Rep K H' M' v (.bool true) from r)
    rfl
end Vi

namespace Vi
open PySem PySem.Spec PyProof.Rows L2
section
variable {K : PySem.W.Frag} {H H' : Hp} {M M' O O' : Mset} {π : Nat → Option Addr} {ρ ρ' : Fm} {σ : St} {v : V}
theorem last_get {α : Type} {l : List α} {x y : α} {i : Nat} (h : (l ++ [x])[i]? = some y) : l[i]? = some y ∨ (i = l.length ∧ y = x) := by
  by_cases hi : i < l.length
  · rw [List.getElem?_append_left hi] at h; exact .inl h
  · rw [List.getElem?_append_right (by omega)] at h
    by_cases hz : i - l.length = 0
    · rw [hz] at h; cases h; exact .inr ⟨by omega, rfl⟩
    · obtain ⟨m, hm⟩ : ∃ m, i - l.length = m + 1 := ⟨i - l.length - 1, by omega⟩
      rw [hm] at h; simp at h
theorem lt_of_get {α : Type} {l : List α} {i : Nat} {y : α} (h : l[i]? = some y) : i < l.length := by
  rcases Nat.lt_or_ge i l.length with q | q
  · exact q
  · rw [List.getElem?_eq_none q] at h; cases h
/-- a hidden name for a fresh list -/
theorem SR.snoc (h : SR K H M O π ρ σ) {b : Kd} {ds : List D} {p : Addr} (hb : b.isL = true) (r : RP K H M O ρ σ (.val (.own b ds)) (.ref p)) : SR K H M O π (ρ ++ [some (.own .loc ds)]) (σ ++ [some (.ref p)]) := by
  obtain ⟨p', vs, e0, e1, e2, e3, e4, e5⟩ := r
  cases e0
  have up : ∀ {i : Nat}, i < σ.length → (σ ++ [some (V.ref p)])[i]? = σ[i]? := fun {i} hi => List.getElem?_append_left hi
  have lastσ : (σ ++ [some (V.ref p)])[ρ.length]? = some (some (.ref p)) := by rw [h.len, List.getElem?_append_right (Nat.le_refl _), Nat.sub_self]; rfl
  refine ⟨by rw [List.length_append, List.length_append, h.len]; rfl, h.sub, h.live, fun i d e => ?_, fun i c es e => ?_, fun i j c c' es fs x hij e f g => ?_⟩
  · rcases last_get e with e | ⟨_, e⟩
    · obtain ⟨v, f1, f2⟩ := h.imm i d e
      exact ⟨v, by rw [up (lt_of_get f1)]; exact f1, f2⟩
    · cases e
  · rcases last_get e with e | ⟨rfl, e2⟩
    · obtain ⟨a, ws, f1, f2⟩ := h.own i c es e
      exact ⟨a, ws, by rw [up (lt_of_get f1)]; exact f1, f2⟩
    · cases e2
      exact ⟨p, vs, lastσ, e1.trans (congrArg some (cell_lst hb)), e2, e3, e4, fun z => by cases z⟩
  · rcases last_get e with e | ⟨rfl, _⟩
    · have hi := lt_of_get e
      rw [up (by rw [← h.len]; exact hi)] at g
      rcases last_get f with f | ⟨rfl, _⟩
      · have hj := lt_of_get f
        rw [up (by rw [← h.len]; exact hj)]
        exact h.uniq i j c c' es fs x hij e f g
      · rw [lastσ]
        intro z; cases z
        exact e5 i c es e g
    · rw [lastσ] at g
      cases g
      rcases last_get f with f | ⟨rfl, _⟩
      · have hj := lt_of_get f
        rw [up (by rw [← h.len]; exact hj)]
        exact e5 j c' fs f
      · exact absurd rfl hij
theorem SR.unsnoc {x : Option Sv} {y : Option V} (h : SR K H M O π (ρ ++ [x]) (σ ++ [y])) : SR K H M O π ρ σ := by
  have hl : ρ.length = σ.length := by have := h.len; simpa using this
  have up : ∀ {i : Nat} {s : Option Sv}, ρ[i]? = some s → (ρ ++ [x])[i]? = some s ∧ (σ ++ [y])[i]? = σ[i]? := fun {i s} e => by
    have hi := lt_of_get e
    exact ⟨by rw [List.getElem?_append_left hi]; exact e, List.getElem?_append_left (by omega)⟩
  refine ⟨hl, h.sub, h.live, fun i d e => ?_, fun i c es e => ?_, fun i j c c' es fs a hij e f g => ?_⟩
  · obtain ⟨e1, e2⟩ := up e
    rw [← e2]; exact h.imm i d e1
  · obtain ⟨e1, e2⟩ := up e
    rw [← e2]; exact h.own i c es e1
  · obtain ⟨e1, e2⟩ := up e
    obtain ⟨f1, f2⟩ := up f
    rw [← f2]; exact h.uniq i j c c' es fs a hij e1 f1 (by rw [e2]; exact g)
theorem RP.unsnoc {x : Option Sv} {y : Option V} {s : Sv} (hl : ρ.length = σ.length) (h : RP K H M O (ρ ++ [x]) (σ ++ [y]) (.val s) v) : RP K H M O ρ σ (.val s) v := by
  cases s with
  | imm d => exact h
  | own b ds =>
    obtain ⟨p, vs, e0, e1, e2, e3, e4, e5⟩ := h
    refine ⟨p, vs, e0, e1, e2, e3, e4, fun i c es e => ?_⟩
    have hi := lt_of_get e
    have := e5 i c es (by rw [List.getElem?_append_left hi]; exact e)
    rw [List.getElem?_append_left (by omega)] at this
    exact this
end
/-- f(e), e a fresh list that f may change -/
def mCallO (f : Fn) (me : ME) : ME := fun ρ => match me ρ with
  | some (.val (.own .dic _), _) => none
  | some (.val (.own _ ds), ρ1) => match f [.own .par ds] with
    | some (r, [some _]) => some (.val r, ρ1)
    | _ => none
  | _ => none
section
variable {X : Cx} {e : Expr} {me : ME} {k : Nat} {f : Addr} {fd : FuncData} {ps : List Str} {g : Fn} {x : Str} {p pos : Pos}
theorem de_callO (F : FnOk X.prog X.w X.K X.mg X.base CX0 k f fd ps (spD X.K ps.length g)) (hr : Room k X.A) (hg : Gl X x) (hm : X.mg x = some (.ref f)) (hk : PySem.W.keepIn X.K (.ref f) = true) (hb : Binds X.K fd ps [])
    (ha : DE X e me) (hp : ps.length = 1) (hdb : (x == ("__debug__" : Str)) = false := by decide) (he : starEach [e] X.env = (false, eval e X.env) :: starEach [] X.env := by rfl) (hpl : (PySem.backTo pos (starEach [] X.env)).any (·.1) = false := by rfl) :
    DE X (.Call (.Name x p) [e] [] pos) (mCallO g me) :=
  PE.imp (pe_call F hr hg hm hk hb .nil pass0 (pa_cons ha pa_nil he) hdb he hpl) fun σ H Q ⟨ρ, M, O, π, pr, ρ', h, e, q⟩ => by
    unfold mCallO at e
    split at e
    · cases e
    · rename_i b ds ρ1 hnb e1
      split at e
      · rename_i r ds' e2
        cases e
        refine ⟨ρ, M, O, π, _, _, h, e1, fun v H1 M1 x1 s1 r1 => ?_⟩
        obtain ⟨a, vs, rfl, r2⟩ := (show ∃ a vs, v = .ref a ∧ _ from r1)
        have s2 := s1.snoc (isL_of hnb) r1
        have as2 : AReps X.K H1 M1 (σ ++ [some (V.ref a)]) [.ref a] [AR.s ρ'.length] := .cons (show (σ ++ [some (V.ref a)])[ρ'.length]? = some (some (.ref a)) by rw [s1.len, List.getElem?_append_right (Nat.le_refl _), Nat.sub_self]; rfl) .nil
        have gt : (ρ' ++ [some (Sv.own .loc ds)])[ρ'.length]? = some (some (.own .loc ds)) := by rw [List.getElem?_append_right (Nat.le_refl _), Nat.sub_self]; rfl
        have ea : argsOf (ρ' ++ [some (Sv.own .loc ds)]) [AR.s ρ'.length] = some [.own .par ds] := by
          unfold argsOf; rw [gt]; rfl
        have eb : backTo (ρ' ++ [some (Sv.own .loc ds)]) [AR.s ρ'.length] [some ds'] = some (ρ' ++ [some (Sv.own .loc ds')]) := by
          unfold backTo; rw [gt]
          show some ((ρ' ++ [some (Sv.own .loc ds)]).set ρ'.length (some (.own .loc ds'))) = _
          rw [List.set_append_right _ _ (Nat.le_refl _), Nat.sub_self]; rfl
        show spD X.K ps.length g ([V.ref a] ++ []) H1 Q E0
        refine ⟨M1, _, _, [.own .par ds], r, [some ds'], by rw [hp]; rfl, call_start s2 as2 rfl ea, e2, fun v H2 M2 lv x2 ho rr => ?_⟩
        obtain ⟨x3, s3⟩ := call_end s2 as2 rfl eb lv x2 ho
        have r3 := call_ret s2 as2 rfl eb x2 ho rr
        have s4 := s3.unsnoc
        exact q v H2 M2 (x1.trans x3) s4 (r3.unsnoc s4.len)
      · cases e
    · cases e
end
end Vi

namespace Vi
open PySem PySem.Spec PyProof.Rows L2
section
variable {X : Cx}
/-! ### < and the like of any data -/
def rCmpD (K : PySem.W.Frag) (f : D → D → Bool) : R2 := fun x y H Q => ∃ d e, Dp K H x d ∧ Dp K H y e ∧ SeqAt.shaped d = true ∧ SeqAt.shaped e = true ∧ W.alike d e = true ∧ d ≠ .none ∧ Q (.bl (f d e)) H
theorem room_cmp {A : Around} {d e : D} (h : SeqAt.shaped d = true) (hu : A.units + 64 < cLine) : A.units + min d.depth e.depth < cLine := by
  have h1 := SeqAt.depth_of_shaped h
  have h2 : min d.depth e.depth ≤ d.depth := Nat.min_le_left _ _
  omega
theorem op_ltDD (hu : X.A.units + 64 < cLine) : OpR X (compareOp .Lt) (rCmpD X.K fun d e => W.dataLt d e) := by
  intro pins s σ H x y v u Q I rx ry h
  obtain ⟨d, e, hd, he, sd, se, al, hn, q⟩ := h
  obtain ⟨as, r1⟩ := Dp.reads I d x v hd rx
  obtain ⟨bs, r2⟩ := Dp.reads I e y u he ry
  exact W.lt_data r1 r2 al hn (room_cmp sd hu) ⟨.bl _, H, I, rfl, q⟩
theorem op_gtDD (hu : X.A.units + 64 < cLine) : OpR X (compareOp .Gt) (rCmpD X.K fun d e => W.dataLt e d) := by
  intro pins s σ H x y v u Q I rx ry h
  obtain ⟨d, e, hd, he, sd, se, al, hn, q⟩ := h
  obtain ⟨as, r1⟩ := Dp.reads I d x v hd rx
  obtain ⟨bs, r2⟩ := Dp.reads I e y u he ry
  exact W.gt_data r1 r2 al hn (room_cmp sd hu) ⟨.bl _, H, I, rfl, q⟩
theorem op_leDD (hu : X.A.units + 64 < cLine) : OpR X (compareOp .LtE) (rCmpD X.K fun d e => !W.dataLt e d) := by
  intro pins s σ H x y v u Q I rx ry h
  obtain ⟨d, e, hd, he, sd, se, al, hn, q⟩ := h
  obtain ⟨as, r1⟩ := Dp.reads I d x v hd rx
  obtain ⟨bs, r2⟩ := Dp.reads I e y u he ry
  exact W.le_data r1 r2 al hn (room_cmp sd hu) ⟨.bl _, H, I, rfl, q⟩
theorem op_geDD (hu : X.A.units + 64 < cLine) : OpR X (compareOp .GtE) (rCmpD X.K fun d e => !W.dataLt d e) := by
  intro pins s σ H x y v u Q I rx ry h
  obtain ⟨d, e, hd, he, sd, se, al, hn, q⟩ := h
  obtain ⟨as, r1⟩ := Dp.reads I d x v hd rx
  obtain ⟨bs, r2⟩ := Dp.reads I e y u he ry
  exact W.ge_data r1 r2 al hn (room_cmp sd hu) ⟨.bl _, H, I, rfl, q⟩
def dCmpD (g : Int → Int → Bool) (f : D → D → Bool) : D → D → Option Sv
  | .int i, .int j => some (.imm (.bool (g i j)))
  | a, b => if (okD a && okD b && W.alike a b && !isNon a) = true then some (.imm (.bool (f a b))) else none
theorem os_cmpD {g : Int → Int → Bool} {f : D → D → Bool} : OpS X (fun x y H Q => rI0 (fun i j => .bl (g i j)) x y H Q ∨ rCmpD X.K f x y H Q) (dCmpD g f) := by
  intro H M O π ρ σ v1 v2 d1 d2 res Q h r1 r2 e q
  unfold dCmpD at e
  split at e
  · cases e
    cases r1.inI; cases r2.inI
    exact .inl ⟨_, _, rfl, rfl, Post.now q h (.bl _)⟩
  · split at e
    · rename_i hz
      cases e
      rw [Bool.and_eq_true, Bool.and_eq_true, Bool.and_eq_true] at hz
      exact .inr ⟨d1, d2, r1.dp (SeqAt.canLay_of_shaped hz.1.1.1), r2.dp (SeqAt.canLay_of_shaped hz.1.1.2), hz.1.1.1, hz.1.1.2, hz.1.2, fun z => by rw [z] at hz; exact absurd hz.2 (by decide), Post.now q h (.bl _)⟩
    · cases e
theorem op_ltA (hu : X.A.units + 64 < cLine) : OpR X (compareOp .Lt) (fun x y H Q => rI0 (fun i j => .bl (decide (i < j))) x y H Q ∨ rCmpD X.K (fun d e => W.dataLt d e) x y H Q) := op_lt.or (op_ltDD hu)
theorem op_leA (hu : X.A.units + 64 < cLine) : OpR X (compareOp .LtE) (fun x y H Q => rI0 (fun i j => .bl (decide (i ≤ j))) x y H Q ∨ rCmpD X.K (fun d e => !W.dataLt e d) x y H Q) := op_le.or (op_leDD hu)
theorem op_gtA (hu : X.A.units + 64 < cLine) : OpR X (compareOp .Gt) (fun x y H Q => rI0 (fun i j => .bl (decide (j < i))) x y H Q ∨ rCmpD X.K (fun d e => W.dataLt e d) x y H Q) := op_gt.or (op_gtDD hu)
theorem op_geA (hu : X.A.units + 64 < cLine) : OpR X (compareOp .GtE) (fun x y H Q => rI0 (fun i j => .bl (decide (j ≤ i))) x y H Q ∨ rCmpD X.K (fun d e => !W.dataLt d e) x y H Q) := op_ge.or (op_geDD hu)
abbrev dLtA := dCmpD (fun i j => decide (i < j)) fun d e => W.dataLt d e
abbrev dLeA := dCmpD (fun i j => decide (i ≤ j)) fun d e => !W.dataLt e d
abbrev dGtA := dCmpD (fun i j => decide (j < i)) fun d e => W.dataLt e d
abbrev dGeA := dCmpD (fun i j => decide (j ≤ i)) fun d e => !W.dataLt d e
/-! ### sum, str, list times a number -/
def intsOf : List D → Option (List Int)
  | [] => some []
  | .int i :: r => (intsOf r).map (i :: ·)
  | _ :: _ => none
theorem ints_reps {K : PySem.W.Frag} {H : Hp} {M : Mset} : ∀ {vs : List V} {ds : List D} {bs : List Int}, Reps K H M vs ds → intsOf ds = some bs → vs = bs.map V.int
  | _, _, _, .nil, e => by cases e; rfl
  | _, _, bs, .cons h r, e => by
    cases h with
    | int b =>
      obtain ⟨cs, e1, rfl⟩ := Option.map_eq_some_iff.mp (show (intsOf _).map (b :: ·) = some bs from e)
      rw [ints_reps r e1]; rfl
    | _ => cases e
def dSum : D → Option Sv
  | .list ds => (intsOf ds).map fun ns => .imm (.int ns.sum)
  | _ => none
theorem us_sum : UnS X (fun v H Q => rSum X.K [v] H Q) dSum := by
  intro H M O π ρ σ v1 d1 res Q h r1 e q
  unfold dSum at e
  split at e
  · obtain ⟨bs, e1, rfl⟩ := Option.map_eq_some_iff.mp e
    obtain ⟨a, vs, rfl, rd, rs⟩ := r1.inL
    exact ⟨a, bs, rfl, .inl (by rw [← ints_reps rs e1]; exact rd), Post.now q h (.int _)⟩
  · cases e
def dStr : D → Option Sv
  | .int i => if decide (i.natAbs.log2 < 1920) = true then some (.imm (.str (toString i))) else none
  | _ => none
theorem us_str : UnS X (fun v H Q => (fun xs H Q => ∃ i, xs = [V.int i] ∧ i.natAbs.log2 < 1920 ∧ Q (.str (toString i)) H) [v] H Q) dStr := by
  intro H M O π ρ σ v1 d1 res Q h r1 e q
  unfold dStr at e
  split at e
  · split at e
    · rename_i hz
      cases e
      cases r1.inI
      exact ⟨_, rfl, of_decide_eq_true hz, Post.now q h (.str _)⟩
    · cases e
  · cases e
variable {a b e : Expr} {ma mb me : ME} {mes : MA} {es : List Expr} {pos : Pos}
/-- a fresh list * k -/
def mRep (ma mb : ME) : ME := fun ρ => match ma ρ with
  | some (.val (.own .dic _), _) => none
  | some (.val (.own _ xs), ρ1) => match mb ρ1 with
    | some (pk, ρ2) => match peek ρ2 pk with
      | some (.int k) => if decide (-(2 ^ 63) ≤ k ∧ k < 2 ^ 63 ∧ xs.length * k.toNat ≤ sizeLine) = true then some (.val (.own .loc (List.replicate k.toNat xs).flatten), ρ2) else none
      | _ => none
    | none => none
  | _ => none
theorem de_rep (ha : DE X a ma) (hb : DE X b mb) : DE X (.BinOp a .Mult b pos) (mRep ma mb) := PE.imp (pe_op op_rep ha hb) fun σ H Q ⟨ρ, M, O, π, pr, ρ', h, e, q⟩ => by
  unfold mRep at e
  split at e
  · cases e
  · rename_i b0 xs ρ1 hnb e1
    split at e
    · rename_i pk ρ2 e2
      split at e
      · rename_i k ek
        split at e
        · rename_i hz
          cases e
          have hz' := of_decide_eq_true hz
          refine ⟨ρ, M, O, π, _, ρ1, h, e1, fun v1 H1 M1 x1 s1 r1 => ?_⟩
          refine ⟨ρ1, M1, Vi.hold O _ v1, π, pk, _, s1.hold r1, e2, fun v2 H2 M2 x2 s2 r2 => ?_⟩
          have s2' := s2.less (hold_le O (.val (.own b0 xs)) v1)
          obtain ⟨p, vs, e3, e4', e5, e6, e7, e8⟩ := r1.held x2 s2
          have e4 := e4'.trans (congrArg some (cell_lst (isL_of hnb)))
          have ev := (peek_vw s2' (r2.less (hold_le O (.val (.own b0 xs)) v1)) ek).inI
          subst e3 ev
          exact ⟨p, k, vs, rfl, rfl, e4, hz'.1, hz'.2.1, by rw [e7.length]; exact hz'.2.2, fun p' hp' => Post.lst (Q := Q) (fun v H' M' x3 s3 r3 => q v H' M' ((x1.trans (x2.less (hold_le O (.val (.own b0 xs)) (.ref p)))).trans x3) s3 r3) s2' (e7.rep k.toNat) hp'⟩
        · cases e
      · cases e
    · cases e
  · cases e
/-! ### built-ins of several values -/
def mA (f : List D → Option Sv) (m : MA) : ME := fun ρ => match m ρ with
  | some (ds, ρ1) => match f ds with
    | some r => some (.val r, ρ1)
    | none => none
  | none => none
def AS (X : Cx) (r : List V → Hp → VK → Prop) (f : List D → Option Sv) : Prop := ∀ {H : Hp} {M O : Mset} {π : Nat → Option Addr} {ρ : Fm} {σ : St} {vs : List V} {ds : List D} {res : Sv} {Q : VK}, SR X.K H M O π ρ σ → Reps X.K H M vs ds → f ds = some res →
  (∀ v H' M', Ext O H M H' M' → SR X.K H' M' O π ρ σ → RP X.K H' M' O ρ σ (.val res) v → Q v H') → r vs H Q
theorem de_callA {id : String} {x : Str} {p : Pos} {r : List V → Hp → VK → Prop} {f : List D → Option Sv} (hc : CallR X (.builtin id) r) (hs : AS X r f) (hg : Gl X x) (hm : X.mg x = none) (hv : bootBuiltins x = some (.builtin id)) (ha : DA X (e :: es) mes)
    (hn : x ≠ "__name__" := by decide) (hd : (x == ("__debug__" : Str)) = false := by decide) (he : starEach (e :: es) X.env = (false, eval e X.env) :: starEach es X.env := by rfl) (hpl : (PySem.backTo pos (starEach es X.env)).any (·.1) = false := by rfl) : DE X (.Call (.Name x p) (e :: es) [] pos) (mA f mes) :=
  PE.imp (pe_callB hc hg hm hv ha hn hd he hpl) fun σ H Q ⟨ρ, M, O, π, pr, ρ', h, e, q⟩ => by
    unfold mA at e
    split at e
    · rename_i ds ρ1 e1
      split at e
      · rename_i r er
        cases e
        exact ⟨ρ, M, O, π, ds, _, h, e1, fun vs H1 M1 x1 s1 r1 => hs s1 r1 er fun v H' M' x3 s3 r3 => q v H' M' (x1.trans x3) s3 r3⟩
      · cases e
    · cases e
def dMin2 : List D → Option Sv
  | [.int i, .int j] => some (.imm (.int (if j < i then j else i)))
  | _ => none
def dMax2 : List D → Option Sv
  | [.int i, .int j] => some (.imm (.int (if j > i then j else i)))
  | _ => none
theorem as_min2 : AS X (fun xs H Q => ∃ i j, xs = [V.int i, V.int j] ∧ Q (.int (if j < i then j else i)) H) dMin2 := by
  intro H M O π ρ σ vs ds res Q h r e q
  unfold dMin2 at e
  split at e
  · cases e
    cases r with
    | cons r1 r2 => cases r2 with
      | cons r2 r3 =>
        cases r3; cases r1; cases r2
        exact ⟨_, _, rfl, Post.now q h (.int _)⟩
  · cases e
theorem as_max2 : AS X (fun xs H Q => ∃ i j, xs = [V.int i, V.int j] ∧ Q (.int (if j > i then j else i)) H) dMax2 := by
  intro H M O π ρ σ vs ds res Q h r e q
  unfold dMax2 at e
  split at e
  · cases e
    cases r with
    | cons r1 r2 => cases r2 with
      | cons r2 r3 =>
        cases r3; cases r1; cases r2
        exact ⟨_, _, rfl, Post.now q h (.int _)⟩
  · cases e
/-! ### x.pop(), x.extend(e) -/
def mPop (i : Nat) : ME := fun ρ => match ρ[i]? with
  | some (some (.own .dic _)) => none
  | some (some (.own b ds)) => match ds[ds.length - 1]? with
    | some d => some (.val (.imm d), ρ.set i (some (.own b ds.dropLast)))
    | none => none
  | _ => none
theorem Reps.dropLast {K : PySem.W.Frag} {H : Hp} {M : Mset} {vs : List V} {ds : List D} (h : Reps K H M vs ds) : Reps K H M vs.dropLast ds.dropLast := by
  rw [List.dropLast_eq_take, List.dropLast_eq_take, h.length]; exact h.take _
theorem de_pop {i : Nat} {st_e : Expr} (h : PE X st_e (tBM0 X.K "list" rPop (tVar i))) : DE X st_e (mPop i) :=
  PE.imp h fun σ H Q ⟨ρ, M, O, π, fl, ρ', h, e, q⟩ => by
    unfold mPop at e
    split at e
    · cases e
    · rename_i b ds hne0 e0
      obtain ⟨a, vs, f1, f2, f3, f4, f5, f6⟩ := h.ownL e0 (isL_of hne0)
      split at e
      · rename_i d ed
        cases e
        obtain ⟨w, hw, rw'⟩ := f5.get ed
        obtain ⟨s3, x3, t3⟩ := h.write (ws := vs.dropLast) (es := ds.dropLast) e0 (isL_of hne0) f1 f5.dropLast
        exact ⟨.ref a, f1, .inl ⟨rfl, vs, .inl (.inl f2)⟩, a, vs, w, rfl, rfl, f2, by rw [f5.length]; exact hw, q _ _ M x3 s3 (rw'.tr t3)⟩
      · cases e
    · cases e
def ownD (ρ : Fm) : PR → Option (List D)
  | .val (.own .dic _) => none
  | .val (.own _ ds) => some ds
  | .slot j => match ρ[j]? with
    | some (some (.own .dic _)) => none
    | some (some (.own _ ds)) => some ds
    | _ => none
  | _ => none
theorem ownD_ok {K : PySem.W.Frag} {H : Hp} {M O : Mset} {π : Nat → Option Addr} {ρ : Fm} {σ : St} {pr : PR} {v : V} {ds : List D} (h : SR K H M O π ρ σ) (r : RP K H M O ρ σ pr v) (e : ownD ρ pr = some ds) : ∃ p vs, v = .ref p ∧ H p = some (.lst vs) ∧ Reps K H M vs ds := by
  match pr, v, r, e with
  | .val (.own b ds'), v, ⟨p, vs, e1, e2, _, _, e4, _⟩, e =>
    cases b with
    | dic => cases e
    | loc => cases e; exact ⟨p, vs, e1, e2, e4⟩
    | par => cases e; exact ⟨p, vs, e1, e2, e4⟩
  | .slot j, v, r, e =>
    have r' : σ[j]? = some (some v) := r
    unfold ownD at e
    simp only at e
    split at e
    · cases e
    · rename_i b ds' hnb hs
      cases e
      obtain ⟨a, vs, f1, f2, f3, f4, f5, f6⟩ := h.ownL hs (isL_of hnb)
      rw [r'] at f1; cases f1
      exact ⟨a, vs, rfl, f2, f5⟩
    · cases e
/-- x.extend(e), e a list of nobody else's -/
def mExt (i : Nat) (me : ME) : ME := fun ρ => match ρ[i]? with
  | some (some (.own .dic _)) => none
  | some (some (.own _ _)) => match me ρ with
    | some (pr, ρ1) => match ownD ρ1 pr with
      | some es => match ρ1[i]? with
        | some (some (.own .dic _)) => none
        | some (some (.own b ds)) => if fits (ds.length + es.length) = true then some (.val (.imm .none), ρ1.set i (some (.own b (ds ++ es)))) else none
        | _ => none
      | none => none
    | none => none
  | _ => none
theorem de_ext {i : Nat} {st_e : Expr} (h : ∀ t, PA X [e] t → PE X st_e (tBM X.K "list" rExtend (tVar i) t)) (he : DE X e me) (hs : starEach (e :: []) X.env = (false, eval e X.env) :: starEach [] X.env := by rfl) : DE X st_e (mExt i me) :=
  PE.imp (h _ (pa_cons he pa_nil hs)) fun σ H Q ⟨ρ, M, O, π, fl, ρ', h, e, q⟩ => by
    unfold mExt at e
    split at e
    · cases e
    · rename_i b0 ds0 hne0 e0
      obtain ⟨a, vs, f1, f2, f3, f4, f5, f6⟩ := h.ownL e0 (isL_of hne0)
      refine ⟨.ref a, f1, .inl ⟨rfl, vs, .inl (.inl f2)⟩, ?_⟩
      split at e
      · rename_i pr ρ1 e1
        split at e
        · rename_i es e2
          split at e
          · cases e
          · rename_i b ds hne3 e3
            split at e
            · rename_i hz
              cases e
              refine ⟨ρ, M, O, π, pr, ρ1, h, e1, fun v H1 M1 x1 s1 r1 => ?_⟩
              obtain ⟨a', ws, g1, g2, g3, g4, g5, g6⟩ := s1.ownL e3 (isL_of hne3)
              rw [f1] at g1; cases g1
              obtain ⟨p, zs, rfl, g7, g8⟩ := ownD_ok s1 r1 e2
              obtain ⟨s3, x3, t3⟩ := s1.write (ws := ws ++ zs) (es := ds ++ es) e3 (isL_of hne3) f1 (g5.append g8)
              exact ⟨a, p, ws, zs, rfl, rfl, g2, g7, by have := fits_le hz; rw [g5.length, g8.length]; omega, q _ _ M1 (x1.trans x3) s3 .non⟩
            · cases e
          · cases e
        · cases e
      · cases e
    · cases e
end
end Vi

namespace HT
open PySem PyProof.Rows PySem.Spec
section
variable {prog : Program} {w : World} {A : Around} {E : Value → Shared → Prop} {s : Shared}
theorem vi_applied_rev {sl : Addr} {vs : Value} {n : Nat} {Q : Int × Int × Nat → Shared → Prop} (hs : s.heap.IsSliceOf sl .none .none vs) (ps : IsPart vs (some (-1)))
    (h : Q ((n : Int) - 1, -1, n) s) : wpAny (model prog w) A (Builtin.Slice.sliceApplied (.ref sl) (pure (n : Int))) Q E s := by
  obtain ⟨os, hos, hcs, hds⟩ := id hs
  unfold Builtin.Slice.sliceApplied Builtin.Slice.sliceFields
  refine wpAny_bind (wpAny_bind (wpAny_field hos hds (x := Value.none) rfl (wpAny_bind (wpAny_field hos hds (x := Value.none) rfl (wpAny_bind (wpAny_field hos hds (x := vs) rfl (wpAny_pure ?_)))))))
  refine wpAny_bind (slicePart_ ps ?_)
  show wpAny _ _ (if ((-1 : Int) == 0) = true then _ else _) _ _ s
  rw [if_neg (by decide)]
  refine wpAny_bind (slicePart_none (wpAny_bind (slicePart_none (wpAny_bind (wpAny_pure ?_)))))
  show wpAny _ _ (pure ((n : Int) - 1, (-1 : Int), Builtin.Slice.slicePlaces ((n : Int) - 1) (-1) (-1))) _ _ s
  have e : Builtin.Slice.slicePlaces ((n : Int) - 1) (-1) (-1) = n := by
    unfold Builtin.Slice.slicePlaces
    rw [if_neg (by decide)]
    by_cases hn : (n : Int) - 1 > -1
    · rw [if_pos hn, show (-(-1) : Int) = 1 by decide, Int.ediv_one]; omega
    · rw [if_neg hn]; omega
  rw [e]
  exact wpAny_pure h
theorem vi_fm_congr {α β : Type} {f g : α → Option β} : ∀ {l : List α}, (∀ x ∈ l, f x = g x) → l.filterMap f = l.filterMap g
  | [], _ => rfl
  | x :: l, h => by rw [List.filterMap_cons, List.filterMap_cons, h x (List.mem_cons_self ..), vi_fm_congr fun y hy => h y (List.mem_cons_of_mem _ hy)]
theorem vi_fm_all {α : Type} : ∀ l : List α, (List.range l.length).filterMap (fun m => l[m]?) = l
  | [] => rfl
  | x :: l => by
    rw [List.length_cons, List.range_succ_eq_map, List.filterMap_cons, List.filterMap_map]
    show x :: (List.range l.length).filterMap (fun m => l[m]?) = _
    rw [vi_fm_all l]
theorem vi_pick_rev (xs : Array Value) : ((List.range xs.size).filterMap fun (m : Nat) => xs[(((xs.size : Int) - 1) + (m : Int) * (-1)).toNat]?).toArray = xs.toList.reverse.toArray := by
  have e : ∀ m ∈ List.range xs.size, (fun (m : Nat) => xs[(((xs.size : Int) - 1) + (m : Int) * (-1)).toNat]?) m = xs.toList.reverse[m]? := fun m hm => by
    have hm' := List.mem_range.mp hm
    show xs[(((xs.size : Int) - 1) + (m : Int) * (-1)).toNat]? = _
    rw [List.getElem?_reverse (by simpa using hm'), show (((xs.size : Int) - 1) + (m : Int) * (-1)).toNat = xs.toList.length - 1 - m by rw [Array.length_toList]; omega]
    simp
  rw [vi_fm_congr e]
  have := vi_fm_all xs.toList.reverse
  rw [List.length_reverse, Array.length_toList] at this
  rw [this]
theorem vi_tuple_rev {t sl : Addr} {items : Array Value} {vs : Value} {Q : Value → Shared → Prop} (ht : IsTup s.heap t items) (hs : s.heap.IsSliceOf sl .none .none vs) (ps : IsPart vs (some (-1)))
    (h : Q (.ref s.heap.objs.size) { s with heap := s.heap.push { cls := .type "tuple", data := .seq items.toList.reverse.toArray } })
    (hsz : items.size ≤ sizeLine) : wpAny (model prog w) A (getItem (.ref t) (.ref sl)) Q E s := by
  have htake : sizeOk (.seq items.toList.reverse.toArray) := by
    show items.toList.reverse.toArray.size ≤ sizeLine
    rw [List.size_toArray, List.length_reverse, Array.length_toList]
    exact hsz
  obtain ⟨os, hos, hcs, hds⟩ := id hs
  have hTs : s.TypeIs (.ref sl) "slice" := ⟨os, hos, hcs⟩
  unfold getItem
  try with_reducible refine wpAny_holding ?_
  first | refine wpAny_bind (wpAny_pure ?_) | skip
  refine wpAny_bind (wpAny_sequenceKey ht.typeIs (by decide) ?_)
  refine wpAny_bind (wpAny_callSpecial?_slot (name := Str.ofString "__getitem__") ht.typeIs PyProof.Rows.slot_tuple_getitem
    (wpAny_call_entry PyProof.Rows.slot_tuple_getitem ht.typeIs entry_tuple_getitem ?_ (args_tuple_getitem _ _)))
  show wpAny _ _ (Builtin.Tuple.tupleItemsOf (.ref t) >>= _) _ _ s
  refine wpAny_bind (tupleItemsOf_ ht ?_)
  refine wpAny_bind (wpAny_typeOf hTs ?_)
  rw [if_pos (by decide)]
  refine wpAny_bind (vi_applied_rev hs ps ?_)
  show wpAny _ _ (if ((((items.size : Int) - 1)) == 0 && (-1 : Int) == 1 && items.size == items.size) = true then _ else _) _ _ s
  rw [if_neg (by simp), vi_pick_rev]
  first
    | exact wpAny_bind (m := Builtin.Tuple.tupleExact _) (wpAny_newObj_type (wpAny_pure ⟨_, rfl, wpAny_pure h⟩) htake)
    | exact wpAny_bind (m := Builtin.Tuple.tupleExact _) (wpAny_newObj_type (wpAny_bind (wpAny_pure (wpAny_pure ⟨_, rfl, wpAny_pure h⟩))) htake)
    | exact wpAny_bind (wpAny_bind (m := Builtin.Tuple.tupleExact _) (wpAny_newObj_type (wpAny_pure (wpAny_pure ⟨_, rfl, wpAny_pure h⟩)) htake))
    | exact wpAny_bind (wpAny_bind (m := Builtin.Tuple.tupleExact _) (wpAny_newObj_type (wpAny_pure ⟨_, rfl, wpAny_pure h⟩) htake))
end
end HT
namespace Vi
open PySem PySem.Spec PyProof.Rows L2 HT
section
variable {X : Cx} {e : Expr} {te : TE} {me : ME}
def tRevT (K : PySem.W.Frag) (te : TE) : TE := fun σ H Q => te σ H fun x H1 => ∃ a xs, x = .ref a ∧ SqT K H1 a xs ∧ ∀ p, H1 p = none → Q (.ref p) (upd H1 p (.tup xs.reverse))
theorem pe_revT {k : Nat} {p1 p2 p3 pos : Pos} (he : PE X e te) : PE X (.Subscript e (.Slice none none (some (.UnaryOp .USub (.Constant (.int 1) k p1) p2)) p3) pos) (tRevT X.K te) := by
  refine ⟨fun pins s σ H Q I h => ?_⟩
  refine Subscript_ (thn (he.run pins s σ H _ I h) fun v s1 ⟨x, H1, I1, r1, q1⟩ => ?_)
  obtain ⟨a, xs, ex, hx, q⟩ := q1
  subst ex
  cases r1
  have hst : PO X (some (.UnaryOp .USub (.Constant (.int 1) k p1) p2)) (tPart (tUn (rU fun i => .int (-i)) (tC (.int 1)))) := po_some (pe_un un_neg pe_int)
  refine wpAny_Slice (thn (po_none.run pins s1 σ H1 (fun o H2 => o = none ∧ H2 = H1) I1 ⟨rfl, rfl⟩) fun vl s2 ⟨l, H2, I2, pl, el, e2⟩ => ?_)
  subst el e2
  refine thn (po_none.run pins s2 σ H2 (fun o H3 => o = none ∧ H3 = H2) I2 ⟨rfl, rfl⟩) fun vu s3 ⟨u, H3, I3, pu, eu, e3⟩ => ?_
  subst eu e3
  refine thn (hst.run pins s3 σ H3 (fun o H4 => o = some (-1) ∧ H4 = H3) I3 ⟨1, rfl, -1, rfl, rfl, rfl⟩) fun vs s4 ⟨o, H4, I4, ps, eo, e4⟩ => ?_
  subst eo e4
  have I5 : Inv X pins σ H4 { s4 with heap := s4.heap.push { cls := .type "slice", data := .fields #[vl, vu, vs] } } := I4.kept (t' := s4.toks) fun b ob q => Heap.get?_push_of_some _ q
  obtain ⟨its, r, ht, hz⟩ := I5.tuple hx
  have hlen := r.length
  cases pl
  cases pu
  show wpAny (model X.prog X.w) X.A (subscriptTail e (.Slice none none (some (.UnaryOp .USub (.Constant (.int 1) k p1) p2)) p3) (.ref a) (.ref s4.heap.objs.size)) (EP X pins σ Q) X.xe { s4 with heap := s4.heap.push { cls := .type "slice", data := .fields #[.none, .none, vs] } }
  refine tail_any (ops := [.ref a, .ref s4.heap.objs.size]) ht.typeIs (PyProof.Rows.slot_tuple_getitem.lookup) ?_ (by with_unfolding_all rfl)
  refine vi_tuple_rev ht (Heap.IsSliceOf.new _ .none .none vs) ps ?_ (by rw [List.size_toArray]; omega)
  refine ⟨.ref _, _, I5.laid (t' := s4.toks) (o := .tup xs.reverse) (fun b ob q => Heap.get?_push_of_some _ q) (Nat.le_refl _) ?_, rfl, q _ (I5.hok.fresh (Nat.le_refl _))⟩
  exact ⟨by rw [List.length_reverse]; exact hz, _, r.reverse, ⟨_, Heap.get?_push_size _ rfl, rfl, 0, rfl⟩⟩
theorem pe_either {e : Expr} {t u : TE} (h1 : PE X e t) (h2 : PE X e u) : PE X e fun σ H Q => t σ H Q ∨ u σ H Q := ⟨fun pins s σ H Q I h => h.elim (fun z => h1.run pins s σ H Q I z) fun z => h2.run pins s σ H Q I z⟩
theorem Reps.reverse {K : PySem.W.Frag} {H : Hp} {M : Mset} : ∀ {vs : List V} {ds : List D}, Reps K H M vs ds → Reps K H M vs.reverse ds.reverse
  | _, _, .nil => .nil
  | _, _, .cons h r => by
    rw [List.reverse_cons, List.reverse_cons]
    exact (Reps.reverse r).append (.cons h .nil)
def dRev : D → Option Sv
  | .list ds => some (.own .loc ds.reverse)
  | .tuple ds => some (.imm (.tuple ds.reverse))
  | _ => none
/-- e[::-1] -/
theorem de_rev {k : Nat} {p1 p2 p3 pos : Pos} (he : DE X e me) : DE X (.Subscript e (.Slice none none (some (.UnaryOp .USub (.Constant (.int 1) k p1) p2)) p3) pos) (un dRev me) :=
  PE.imp (pe_either (pe_revL he) (pe_revT he)) fun σ H Q h => by
    obtain ⟨ρ, M, O, π, pr, ρ', h0, e, q⟩ := h
    unfold un at e
    split at e
    · rename_i a ρ1 ea
      split at e
      · rename_i x ex
        split at e
        · rename_i res er
          simp only [Option.some.injEq, Prod.mk.injEq] at e
          obtain ⟨rfl, rfl⟩ := e
          cases x with
          | list ds =>
            cases er
            refine .inl ⟨ρ, M, O, π, a, ρ1, h0, ea, fun v1 H1 M1 x1 s1 r1 => ?_⟩
            obtain ⟨a', vs, rfl, rd, rs⟩ := (peek_vw s1 r1 ex).inL
            exact ⟨a', vs, rfl, .inl rd, fun p hp => Post.lst (Q := Q) (fun v H' M' x3 s3 r3 => q v H' M' (x1.trans x3) s3 r3) s1 rs.reverse hp⟩
          | tuple ds =>
            cases er
            refine .inr ⟨ρ, M, O, π, a, ρ1, h0, ea, fun v1 H1 M1 x1 s1 r1 => ?_⟩
            obtain ⟨a', vs, rfl, rd, rs⟩ := (peek_vw s1 r1 ex).inT
            exact ⟨a', vs, rfl, rd.sq, fun p hp => Post.tup (Q := Q) (fun v H' M' x3 s3 r3 => q v H' M' (x1.trans x3) s3 r3) s1 rs.reverse hp⟩
          | _ => cases er
        · cases e
      · cases e
    · cases e
end
end Vi

namespace Vi
open PySem PySem.Spec PyProof.Rows L2
section
variable {X : Cx} {pos : Pos} {me mk : ME} {e k : Expr}
/-! ### op= -/
theorem pget_list : PGet X (rIxL X.K) := by
  intro pins s σ H x y v u Q I rx ry h
  obtain ⟨p, xs, i, z, rfl, rfl, hq, he, q⟩ := h
  cases rx
  obtain ⟨t, rfl⟩ := ry
  obtain ⟨its, r, pl, hz⟩ := I.list hq
  obtain ⟨j, h1, h2, h3, h4, h5⟩ := atI_get he
  obtain ⟨w, ew, rw'⟩ := r.get h2
  have hl := r.length
  have hn := line63
  have fin : EP X pins σ Q w s := ⟨z, H, I, rw', q⟩
  by_cases h0 : 0 ≤ i
  · have hj : i.toNat = j := by
      rw [seqIndex_of h0 h5] at h1
      exact Option.some.inj h1
    exact wpAny_getItem_list pl.isList h0 (by omega) (by rw [hj]; simpa using ew) fin
  · have hj : (i + (its.toArray.size : Int)).toNat = j := by
      rw [seqIndex_neg (by omega) h4] at h1
      rw [List.size_toArray, ← hl]
      exact Option.some.inj h1
    exact wpAny_getItem_list_neg pl.isList (by omega) (by rw [List.size_toArray] <;> omega) (by omega) (by rw [hj]; simpa using ew) fin
/-- x[k] op= e, of ints -/
def mAugS (f : Int → Int → Int) (i : Nat) (mk me : ME) : MS := fun ρ => match ρ[i]? with
  | some (some (.own .dic _)) => none
  | some (some (.own _ _)) => match mk ρ with
    | some (pk, ρ1) => match peek ρ1 pk with
      | some (.int k) => match ρ1[i]? with
        | some (some (.own .dic _)) => none
        | some (some (.own _ ds)) => match atI ds k with
          | some (.int x) => match me ρ1 with
            | some (pr, ρ2) => match peek ρ2 pr with
              | some (.int y) => match ρ2[i]? with
                | some (some (.own .dic _)) => none
                | some (some (.own b ds)) => match ixN ds.length k with
                  | some j => some (.next, ρ2.set i (some (.own b (ds.set j (.int (f x y))))))
                  | none => none
                | _ => none
              | _ => none
            | none => none
          | _ => none
        | _ => none
      | _ => none
    | none => none
  | _ => none
theorem ds_augS {st : Stmt} {f : Int → Int → Int} {i : Nat} (h : ∀ te tk, PE X e te → PE X k tk → PS X st (tAugS (tVar i) tk te (rIxL X.K) (ipI f) rSetL)) (he : DE X e me) (hk : DE X k mk) : DS X st (mAugS f i mk me) :=
  PS.imp (h _ _ he hk) fun D σ H ⟨ρ, M, O, π, fl, ρ', h, e, q⟩ => by
    unfold mAugS at e
    split at e
    · cases e
    · rename_i b0 ds0 hne0 e0
      split at e
      · rename_i pk ρ1 e1
        split at e
        · rename_i k e2
          split at e
          · cases e
          · rename_i b1 ds1 hne3 e3
            split at e
            · rename_i x e4
              split at e
              · rename_i pr ρ2 e5
                split at e
                · rename_i y e6
                  split at e
                  · cases e
                  · rename_i b ds hne7 e7
                    split at e
                    · rename_i j ej
                      cases e
                      obtain ⟨a, vs, f1, f2, f3, f4, f5, f6⟩ := h.ownL e0 (isL_of hne0)
                      refine ⟨.ref a, f1, ρ, M, O, π, pk, ρ1, h, e1, fun v H1 M1 x1 s1 r1 => ?_⟩
                      obtain ⟨a', ws, g1, g2, g3, g4, g5, g6⟩ := s1.ownL e3 (isL_of hne3)
                      rw [f1] at g1; cases g1
                      have hk := (peek_vw s1 r1 e2).inI
                      subst hk
                      obtain ⟨w, ew, rw'⟩ := atI_rep g5 e4
                      cases rw'
                      refine ⟨a, ws, k, .int x, rfl, rfl, .inl (.inl g2), ew, ?_⟩
                      refine ⟨ρ1, M1, O, π, pr, ρ2, s1, e5, fun w H2 M2 x2 s2 r2 => ?_⟩
                      have hy := (peek_vw s2 r2 e6).inI
                      subst hy
                      obtain ⟨a'', us, k1, k2, k3, k4, k5, k6⟩ := s2.ownL e7 (isL_of hne7)
                      rw [f1] at k1; cases k1
                      refine ⟨x, y, rfl, rfl, ?_⟩
                      obtain ⟨s4, x4, t4⟩ := s2.write (ws := us.set j (.int (f x y))) (es := ds.set j (.int (f x y))) e7 (isL_of hne7) f1 (k5.set j (.int _))
                      exact ⟨a, us, k, j, rfl, rfl, k2, by rw [k5.length]; exact ej, q _ _ M2 ((x1.trans x2).trans x4) s4⟩
                    · cases e
                  · cases e
                · cases e
              · cases e
            · cases e
          · cases e
        · cases e
      · cases e
    · cases e
/-- x op= e, of ints -/
def mAugN (f : Int → Int → Int) (i : Nat) (me : ME) : MS := fun ρ => match ρ[i]? with
  | some (some (.imm (.int x))) => match me ρ with
    | some (pr, ρ1) => match peek ρ1 pr with
      | some (.int y) => match put i (.val (.imm (.int (f x y)))) ρ1 with
        | some ρ2 => some (.next, ρ2)
        | none => none
      | _ => none
    | none => none
  | _ => none
theorem ds_augN {st : Stmt} {f : Int → Int → Int} {i : Nat} (h : ∀ te, PE X e te → PS X st (tAug i te (ipI f))) (he : DE X e me) : DS X st (mAugN f i me) :=
  PS.imp (h _ he) fun D σ H ⟨ρ, M, O, π, fl, ρ', h, e, q⟩ => by
    unfold mAugN at e
    split at e
    · rename_i x e0
      split at e
      · rename_i pr ρ1 e1
        split at e
        · rename_i y e2
          split at e
          · rename_i ρ2 e3
            cases e
            obtain ⟨v, f1, f2⟩ := h.imm i _ e0
            cases f2
            refine ⟨.int x, f1, ρ, M, O, π, pr, ρ1, h, e1, fun w H1 M1 x1 s1 r1 => ?_⟩
            have hy := (peek_vw s1 r1 e2).inI
            subst hy
            refine ⟨x, y, rfl, rfl, ?_⟩
            obtain ⟨M2, x2, s2⟩ := put_ok s1 (show RP X.K H1 M1 O ρ1 σ (.val (.imm (.int (f x y)))) (.int (f x y)) from .int _) e3
            exact q _ H1 M2 (x1.trans x2) s2
          · cases e
        · cases e
      · cases e
    · cases e
/-- a, b = x, y with names that comprehensions read -/
theorem ds_parC {st : Stmt} {a b : Expr} {ma mb : ME} {i j : Nat} (h : ∀ ta, PA X [a, b] ta → PS X st (tAsg (tTup ta) (gTup X.K 2 (gCons (gName i) (gCons (gName j) gNil))))) (ha : DE X a ma) (hb : DE X b mb) (hs : starEach [a, b] X.env = (false, eval a X.env) :: starEach [b] X.env := by rfl) (hs2 : starEach [b] X.env = (false, eval b X.env) :: starEach [] X.env := by rfl) : DS X st (mPar i j ma mb) :=
  PS.imp (h _ (pa_cons ha (pa_cons hb pa_nil hs2) hs)) fun D σ H ⟨ρ, M, O, π, fl, ρ', h, e, q⟩ => by
    unfold mPar at e
    split at e
    · rename_i p1 ρ1 e1
      split at e
      · rename_i s1 ρ2 e2
        split at e
        · rename_i p2 ρ3 e3
          split at e
          · rename_i s2 ρ4 e4
            split at e
            · rename_i hz
              cases e
              rw [Bool.and_eq_true] at hz
              refine ⟨ρ, M, O, π, p1, ρ1, h, e1, fun v1 H1 M1 x1 t1 r1 => ?_⟩
              obtain ⟨M2, x2, t2, r2⟩ := take_ok t1 r1 e2
              refine ⟨ρ2, M2, Vi.hold O (.val s1) v1, π, p2, ρ3, t2.hold r2, e3, fun v2 H3 M3 x3 t3 r3 => ⟨by show 2 ≤ sizeLine; decide, fun p hp => ⟨p, [v1, v2], rfl, .inl (.inl upd_same), rfl, v1, [v2], rfl, v2, [], rfl, rfl, ?_⟩⟩⟩
              obtain ⟨M4, x4, t4, r4⟩ := take_ok t3 r3 e4
              have le := hold_le O (.val s1) v1
              have y1 : Ext (Vi.hold (Vi.hold O (.val s1) v1) (.val s2) v2) H3 M4 (upd H3 p (.tup [v1, v2])) M4 := .alloc (t4.hold r4) hp
              have u4 := (t4.hold r4).alloc (o := .tup [v1, v2]) hp
              have le2 := hold_le (Vi.hold O (.val s1) v1) (.val s2) v2
              have r4' := r4.held y1 u4
              have r1' := r2.held ((x3.trans x4).trans (y1.less le2)) (u4.less le2)
              have t5 := ((u4.less le2).less le).setVal r1' (fine_ne hz.1) i
              have r5 := RP.set (i := i) r1' r4' u4.len
              exact q _ _ M4 ((x1.trans x2).trans (((x3.trans x4).trans (y1.less le2)).less le)) (t5.setVal r5 (fine_ne hz.2) j)
            · cases e
          · cases e
        · cases e
      · cases e
    · cases e
end
end Vi

namespace Vi
open PySem PySem.Spec PyProof.Rows L2
section
variable {ρ ρ0 ρ1 ρ2 ρ3 : Fm} {me ma mb : ME} {m n : MS} {mt : MT} {mi : MI} {mg : MG} {d s t : D} {r sv : Sv} {ds es : List D} {pr p1 p2 : PR} {i : Nat} {os : List (Option (List D))} {fl : Fl}
theorem c_fits {n : Nat} (h : n ≤ 10000) : fits n = true := decide_eq_true (by unfold sizeLine; omega)
theorem c_rng {i : Int} (h : -1000000 ≤ i ∧ i ≤ 1000000) : rngOk i = true := decide_eq_true (by constructor <;> omega)
theorem c_call {f : Fn} {mr : MR} {as : List AR} {args : List Sv} (h1 : mr ρ = some (as, ρ1)) (h2 : nodupB (slotsOf as) = true) (h3 : argsOf ρ1 as = some args) (h4 : f args = some (r, os)) (h5 : Vi.backTo ρ1 as os = some ρ2) : mCall f mr ρ = some (.val r, ρ2) := by
  unfold mCall
  rw [h1]
  simp only [h2, h3, h4, h5, if_true]
theorem c_set (h1 : me ρ = some (pr, ρ1)) (h2 : put i pr ρ1 = some ρ2) : mSet i me ρ = some (.next, ρ2) := by
  unfold mSet
  rw [h1]
  simp only [h2]
theorem c_ret (h1 : me ρ = some (pr, ρ1)) (h2 : give ρ1 pr = some r) : mRet me ρ = some (.ret r, ρ1) := by
  unfold mRet
  rw [h1]
  simp only [h2]
theorem c_drop (h1 : me ρ = some (pr, ρ1)) : mDrop me ρ = some (.next, ρ1) := by
  unfold mDrop
  rw [h1]
theorem c_bin {f : D → D → Option Sv} (h1 : ma ρ = some (p1, ρ1)) (h2 : mb ρ1 = some (p2, ρ2)) (h3 : peek ρ2 p1 = some s) (h4 : peek ρ2 p2 = some t) (h5 : f s t = some r) : bin f ma mb ρ = some (.val r, ρ2) := by
  unfold bin
  rw [h1]
  simp only [h2, h3, h4, h5]
theorem c_un {f : D → Option Sv} (h1 : ma ρ = some (p1, ρ1)) (h3 : peek ρ1 p1 = some s) (h5 : f s = some r) : un f ma ρ = some (.val r, ρ1) := by
  unfold un
  rw [h1]
  simp only [h3, h5]
theorem c_seq {x : Option (Fl × Fm)} (h : m ρ = some (.next, ρ1)) (h2 : n ρ1 = x) : mSeq m n ρ = x := by unfold mSeq; rw [h]; exact h2
theorem c_for {x : Option (Fl × Fm)} (h : mi ρ = some (ds, ρ1)) (h2 : loop mg m ds ρ1 = x) : mFor mi mg m ρ = x := by unfold mFor; rw [h]; exact h2
theorem c_nil : loop mg m [] ρ = some (.next, ρ) := rfl
theorem c_cons {x : Option (Fl × Fm)} (h1 : mg d ρ = some ρ1) (h2 : m ρ1 = some (.next, ρ2)) (h3 : loop mg m ds ρ2 = x) : loop mg m (d :: ds) ρ = x := by
  rw [loop, h1]
  simp only [h2]
  exact h3
theorem c_cons_cont {x : Option (Fl × Fm)} (h1 : mg d ρ = some ρ1) (h2 : m ρ1 = some (.cont, ρ2)) (h3 : loop mg m ds ρ2 = x) : loop mg m (d :: ds) ρ = x := by
  rw [loop, h1]
  simp only [h2]
  exact h3
theorem c_ifT {x : Option (Fl × Fm)} (h : mt ρ = some (true, ρ1)) (h2 : m ρ1 = x) : mIfS mt m n ρ = x := by unfold mIfS; rw [h]; exact h2
theorem c_ifF {x : Option (Fl × Fm)} (h : mt ρ = some (false, ρ1)) (h2 : n ρ1 = x) : mIfS mt m n ρ = x := by unfold mIfS; rw [h]; exact h2
theorem c_tru {b : Bool} (h1 : me ρ = some (pr, ρ1)) (h2 : peek ρ1 pr = some d) (h3 : dTru d = some b) : mTru me ρ = some (b, ρ1) := by
  unfold mTru
  rw [h1]
  simp only [h2, h3]
theorem c_andT {x : Option (PR × Fm)} (h1 : ma ρ = some (pr, ρ1)) (h2 : peek ρ1 pr = some d) (h3 : dTru d = some true) (h4 : mb ρ1 = x) : mAnd ma mb ρ = x := by
  unfold mAnd
  rw [h1]
  simp only [h2, h3]
  exact h4
theorem c_andF (h1 : ma ρ = some (pr, ρ1)) (h2 : peek ρ1 pr = some d) (h3 : dTru d = some false) : mAnd ma mb ρ = some (pr, ρ1) := by
  unfold mAnd
  rw [h1]
  simp only [h2, h3]
/-- a and b, of bools -/
theorem c_andB {a b : Bool} (h1 : ma ρ = some (.val (.imm (.bool a)), ρ)) (h2 : a = true → mb ρ = some (.val (.imm (.bool b)), ρ)) : mAnd ma mb ρ = some (.val (.imm (.bool (a && b))), ρ) := by
  cases a
  · exact c_andF h1 rfl rfl
  · exact c_andT h1 rfl rfl (h2 rfl)
theorem c_comp {mg : MG} {mt : MT} {me : ME} {vs : List Nat} (h1 : mi ρ = some (ds, ρ1)) (h2 : vsOk ρ1 vs = true) (h3 : cloop mg mt me vs ds (wipeA ρ1 vs) = some (es, ρ2)) (h4 : fits es.length = true) (h5 : restA ρ2 ρ1 vs = ρ3) : mComp mi mg mt me vs ρ = some (.val (.own .loc es), ρ3) := by
  show (match mi ρ with
    | some (ds, ρ1) => if vsOk ρ1 vs = true then match cloop mg mt me vs ds (wipeA ρ1 vs) with
      | some (es, ρ2) => if fits es.length = true then some (PR.val (.own .loc es), restA ρ2 ρ1 vs) else none
      | none => none
      else none
    | none => none) = _
  rw [h1]
  show (if vsOk ρ1 vs = true then _ else _) = _
  rw [if_pos h2, h3]
  show (if fits es.length = true then _ else _) = _
  rw [if_pos h4, h5]
theorem c_cnil {vs : List Nat} : cloop mg mt me vs [] ρ = some ([], ρ) := rfl
theorem c_ccons {vs : List Nat} {ρ4 ρ5 : Fm} {e : D} (h1 : mg d ρ = some ρ1) (h2 : mt ρ1 = some (true, ρ2)) (h3 : me ρ2 = some (pr, ρ3)) (h4 : frz ρ3 pr = some (e, ρ4)) (h5 : cloop mg mt me vs ds (wipeA ρ4 vs) = some (es, ρ5)) : cloop mg mt me vs (d :: ds) ρ = some (e :: es, ρ5) := by
  rw [cloop, h1]
  simp only [h2, h3, h4, h5]
theorem c_cskip {vs : List Nat} {x : Option (List D × Fm)} (h1 : mg d ρ = some ρ1) (h2 : mt ρ1 = some (false, ρ2)) (h5 : cloop mg mt me vs ds (wipeA ρ2 vs) = x) : cloop mg mt me vs (d :: ds) ρ = x := by
  rw [cloop, h1]
  simp only [h2, h5]
theorem c_fn {nN np : Nat} {ms : MS} {us : List Sv} (hn : us.length = np) (h0 : us.map some ++ List.replicate (nN - np) none = ρ0) (h : ms ρ0 = some (.ret r, ρ)) (ho : outsOf us ρ = some os) : mFn nN np ms us = some (r, os) := by
  unfold mFn
  rw [if_pos hn, h0, h]
  simp only [ho]
theorem c_rng1 {ma : MA} {n : Nat} (h : ma ρ = some ([.int (n : Int)], ρ1)) (hn : n ≤ 1000000) : mIRng1 ma ρ = some (rngD 0 n, ρ1) := by
  have r1 : rngOk (n : Int) = true := c_rng (by omega)
  unfold mIRng1
  rw [h]
  simp only [r1, if_true, Int.toNat_natCast]
theorem c_rng2 {ma : MA} {i j : Int} {n : Nat} (h : ma ρ = some ([.int i, .int j], ρ1)) (hi : -1000000 ≤ i ∧ i ≤ 1000000) (hj : -1000000 ≤ j ∧ j ≤ 1000000) (hn : (j - i).toNat = n) : mIRng2 ma ρ = some (rngD i n, ρ1) := by
  have r1 : rngOk i = true := c_rng hi
  have r2 : rngOk j = true := c_rng hj
  unfold mIRng2
  rw [h]
  simp only [r1, r2, Bool.and_self, if_true, hn]
theorem c_addL (h : ds.length + es.length ≤ 10000) : dAdd (.list ds) (.list es) = some (.own .loc (ds ++ es)) := by
  have hf : fits (ds.length + es.length) = true := c_fits h
  unfold dAdd
  simp only [hf, if_true]
theorem c_addT (h : ds.length + es.length ≤ 10000) : dAdd (.tuple ds) (.tuple es) = some (.imm (.tuple (ds ++ es))) := by
  have hf : fits (ds.length + es.length) = true := c_fits h
  unfold dAdd
  simp only [hf, if_true]
theorem c_mul {i j : Int} (h : -(2 ^ 64) < j ∧ j < 2 ^ 64) : mulOk i j = true := by
  unfold mulOk; rw [Bool.or_eq_true, Bool.or_eq_true]; exact .inl (.inr (decide_eq_true h))
theorem c_mul' {i j : Int} (h : -(2 ^ 64) < i ∧ i < 2 ^ 64) : mulOk i j = true := by
  unfold mulOk; rw [Bool.or_eq_true, Bool.or_eq_true]; exact .inl (.inl (decide_eq_true h))
end
end Vi

namespace Vi
open PySem PySem.Spec PyProof.Rows L2 RT
section
variable {X : Cx} {pos : Pos} {e : Expr} {es : List Expr} {me : ME} {mes : MA} {tg : Expr}
/-! ### a function that a module's name holds -/
theorem de_callF {id : String} {x : Str} {p : Pos} {r : List V → Hp → VK → Prop} {f : List D → Option Sv} (hc : CallR X (.builtin id) r) (hs : AS X r f) (hg : Gl X x) (hm : X.mg x = some (.builtin id)) (ha : DA X (e :: es) mes)
    (hd : (x == ("__debug__" : Str)) = false := by decide) (he : starEach (e :: es) X.env = (false, eval e X.env) :: starEach es X.env := by rfl) (hpl : (PySem.backTo pos (starEach es X.env)).any (·.1) = false := by rfl) : DE X (.Call (.Name x p) (e :: es) [] pos) (mA f mes) :=
  PE.imp (pe_callBfun hc hg hm ha hd he hpl) fun σ H Q ⟨ρ, M, O, π, pr, ρ', h, e, q⟩ => by
    unfold mA at e
    split at e
    · rename_i ds ρ1 e1
      split at e
      · rename_i r er
        cases e
        exact ⟨ρ, M, O, π, ds, _, h, e1, fun vs H1 M1 x1 s1 r1 => hs s1 r1 er fun v H' M' x3 s3 r3 => q v H' M' (x1.trans x3) s3 r3⟩
      · cases e
    · cases e
def dGcd : List D → Option Sv
  | [.int i, .int j] => some (.imm (.int ((Nat.gcd i.natAbs j.natAbs : Nat) : Int)))
  | _ => none
theorem as_gcd : AS X rGcd dGcd := by
  intro H M O π ρ σ vs ds res Q h r e q
  unfold dGcd at e
  split at e
  · cases e
    cases r with
    | cons r1 r2 => cases r2 with
      | cons r2 r3 =>
        cases r3; cases r1; cases r2
        exact ⟨_, _, rfl, Post.now q h (.int _)⟩
  · cases e
/-! ### a module's tuple of whole numbers -/
def ConstT (K : PySem.W.Frag) (mg : Str → Option Value) (x : Str) (is : List Int) : Prop :=
  ∃ (z : Addr) (o : Obj) (its : Array Value) (n : Nat), mg x = some (.ref z) ∧ K.lookup z = some o ∧ o.cls = .type "tuple" ∧ o.data = .seq its n ∧ its.size ≤ sizeLine ∧ Vals (is.map V.int) its.toList
theorem reps_ints {K : PySem.W.Frag} {H : Hp} {M : Mset} : ∀ is : List Int, Reps K H M (is.map V.int) (is.map PyData.int)
  | [] => .nil
  | i :: is => .cons (.int i) (reps_ints is)
theorem de_const {x : Str} {is : List Int} (hg : Gl X x) (hc : ConstT X.K X.mg x is) (hd : (x == ("__debug__" : Str)) = false := by decide) : DE X (.Name x pos) (mC (.tuple (is.map .int))) := by
  obtain ⟨z, o, its, n, h1, h2, h3, h4, h5, h6⟩ := hc
  exact de_c (v := .ref z) (pe_glob hg h1 rfl hd) fun H M => .tup (.inr ⟨o, its, n, h2, h3, h4, h5, h6⟩) (reps_ints is)
/-! ### reversed -/
theorem src_revL {K : PySem.W.Frag} {H0 : Hp} {M0 : Mset} {a : Addr} {vs : List V} {ds : List D} (h : Rd H0 a (.lst vs)) (n : ¬ M0 a) (r : Reps K H0 M0 vs ds) : Src K (Itv K a vs.length) ds.reverse H0 M0 := by
  refine ⟨fun H M l i hi => ?_, fun H M l => by show vs.length ≤ ds.reverse.length; rw [List.length_reverse, r.length]; exact Nat.le_refl _, fun H M l i d x H' ed y => ?_⟩
  · rw [List.length_reverse, ← r.length] at hi
    exact ⟨hi, vs, vs[vs.length - 1 - i]'(by omega), .inl (l a _ h n).1, List.getElem?_eq_getElem _⟩
  · have hi : i < ds.length := by
      have := (List.getElem?_eq_some_iff.mp ed).1
      rwa [List.length_reverse] at this
    rw [List.getElem?_reverse hi] at ed
    obtain ⟨v, hv, rv⟩ := r.get ed
    obtain ⟨e1, e2⟩ := y
    have e3 := e2 vs (.inl (l a _ h n).1)
    rw [r.length, hv] at e3; cases e3
    exact .inl ⟨e1, rv.tr l⟩
theorem src_revT {K : PySem.W.Frag} {H0 : Hp} {M0 : Mset} {a : Addr} {vs : List V} {ds : List D} (h : TupAt K H0 M0 a vs) (r : Reps K H0 M0 vs ds) : Src K (ItvT K a vs.length) ds.reverse H0 M0 := by
  refine ⟨fun H M l i hi => ?_, fun H M l => by show vs.length ≤ ds.reverse.length; rw [List.length_reverse, r.length]; exact Nat.le_refl _, fun H M l i d x H' ed y => ?_⟩
  · rw [List.length_reverse, ← r.length] at hi
    exact ⟨hi, vs, vs[vs.length - 1 - i]'(by omega), tupAt_lat h l, List.getElem?_eq_getElem _⟩
  · have hi : i < ds.length := by
      have := (List.getElem?_eq_some_iff.mp ed).1
      rwa [List.length_reverse] at this
    rw [List.getElem?_reverse hi] at ed
    obtain ⟨v, hv, rv⟩ := r.get ed
    obtain ⟨e1, e2⟩ := y
    have e3 := e2 vs (tupAt_lat h l)
    rw [r.length, hv] at e3; cases e3
    exact .inl ⟨e1, rv.tr l⟩
def mIRev (me : ME) : MI := fun ρ => match me ρ with
  | some (pr, ρ1) => match frz ρ1 pr with
    | some (d, ρ2) => match itemsOf d with
      | some ds => some (ds.reverse, ρ2)
      | none => none
    | none => none
  | none => none
theorem di_rev {p : Pos} (hg : Gl X "reversed") (hm : X.mg "reversed" = none) (he : DE X e me) (hs : starEach [e] X.env = (false, eval e X.env) :: starEach [] X.env := by rfl) : DI X tg (.Call (.Name "reversed" p) [e] [] pos) (mIRev me) := PI.imp (pi_revA hg hm he hs) fun σ H R ⟨ρ, M, O, π, ds, ρ', h, e, q⟩ => by
  unfold mIRev at e
  split at e
  · rename_i pr ρ1 e1
    split at e
    · rename_i d ρ2 e2
      split at e
      · rename_i ds' e3
        cases e
        refine ⟨ρ, M, O, π, pr, ρ1, h, e1, fun v H1 M1 x1 s1 r1 => ?_⟩
        obtain ⟨M2, x2, s2, r2⟩ := frz_ok s1 r1 e2
        unfold itemsOf at e3
        split at e3
        · cases e3
          cases r2 with
          | lst hr n rr => exact ⟨_, _, rfl, .inl ⟨.inl hr, q _ H1 M2 (x1.trans x2) s2 (src_revL hr n rr)⟩⟩
        · cases e3
          cases r2 with
          | tup ht rr => exact ⟨_, _, rfl, .inr ⟨ht.sq, q _ H1 M2 (x1.trans x2) s2 (src_revT ht rr)⟩⟩
        · cases e3
      · cases e
    · cases e
  · cases e
/-! ### range(i, j, -1) -/
def downD (lo : Int) (n : Nat) : List D := (List.range n).map fun k => .int (lo + (k : Nat) * (-1))
theorem src_down {K : PySem.W.Frag} {H0 : Hp} {M0 : Mset} {lo : Int} {n : Nat} : Src K (Itc lo (-1) n) (downD lo n) H0 M0 where
  go := fun H M l i hi => by unfold downD at hi; rw [List.length_map, List.length_range] at hi; exact hi
  stop := fun H M l => by unfold downD; rw [List.length_map, List.length_range]; exact Nat.le_refl _
  yld := fun H M l i d x H' ed y => by
    obtain ⟨e1, e2⟩ := y
    subst e2
    refine .inl ⟨e1, ?_⟩
    unfold downD at ed
    rw [List.getElem?_map] at ed
    obtain ⟨k, ek, rfl⟩ := Option.map_eq_some_iff.mp ed
    have hk : k = i := by
      obtain ⟨h1, h2⟩ := List.getElem?_eq_some_iff.mp ek
      rw [List.getElem_range] at h2
      exact h2.symm
    subst hk
    exact .int _
def mIDown (ma : MA) : MI := fun ρ => match ma ρ with
  | some ([.int i, .int j, .int (-1)], ρ1) => if (rngOk i && rngOk j) = true then some (downD i (i - j).toNat, ρ1) else none
  | _ => none
theorem di_down {a b c : Expr} {ma : MA} {p : Pos} (hg : Gl X "range") (hm : X.mg "range" = none) (ha : DA X [a, b, c] ma)
    (hs : starEach [a, b, c] X.env = (false, eval a X.env) :: starEach [b, c] X.env := by rfl) (hpl : (PySem.backTo pos (starEach [b, c] X.env)).any (·.1) = false := by rfl) : DI X tg (.Call (.Name "range" p) [a, b, c] [] pos) (mIDown ma) :=
  PI.imp (pi_range3 hg hm ha hs hpl) fun σ H R ⟨ρ, M, O, π, ds, ρ', h, e, q⟩ => by
    unfold mIDown at e
    split at e
    · rename_i i j ρ1 e1
      split at e
      · rename_i hz
        cases e
        rw [Bool.and_eq_true] at hz
        have hz1 := of_decide_eq_true hz.1
        have hz2 := of_decide_eq_true hz.2
        refine ⟨ρ, M, O, π, _, _, h, e1, fun vs H1 M1 x1 s1 r1 => ?_⟩
        cases r1 with
        | cons rv rr =>
          cases rr with
          | cons rw' rr =>
            cases rr with
            | cons rz rr =>
              cases rr
              cases rv
              cases rw'
              cases rz
              exact ⟨i, j, -1, _, rfl, RgC.neg (by omega) (by omega) (by omega) (by omega), q _ H1 M1 x1 s1 src_down⟩
      · cases e
    · cases e
end
end Vi

namespace Vi
open PySem PySem.Spec PyProof.Rows L2
section
variable {X : Cx}
/-! ### min(a list of data), max -/
def notNone : D → Bool
  | .none => false
  | _ => true
def minOk (ds : List D) : Bool := alikeAllB ds && ds.all notNone && ds.all okD && decide (PyData.depthAll ds ≤ 64)
theorem minOk_al {ds : List D} (h : minOk ds = true) : W.AlikeAll ds := by
  unfold minOk alikeAllB at h
  rw [Bool.and_eq_true, Bool.and_eq_true, Bool.and_eq_true] at h
  refine ⟨fun d hd e he => List.all_eq_true.mp (List.all_eq_true.mp h.1.1.1 d hd) e he, fun d hd z => ?_⟩
  have := List.all_eq_true.mp h.1.1.2 d hd
  rw [z] at this; cases this
theorem minOk_lay {ds : List D} (h : minOk ds = true) : PyData.canLayAll0 ds = true := lay_all fun d hd => by
  unfold minOk at h
  rw [Bool.and_eq_true, Bool.and_eq_true, Bool.and_eq_true] at h
  exact SeqAt.canLay_of_shaped (List.all_eq_true.mp h.1.2 d hd)
theorem minOk_dep {ds : List D} (h : minOk ds = true) : PyData.depthAll ds ≤ 64 := by
  unfold minOk at h
  rw [Bool.and_eq_true] at h
  exact of_decide_eq_true h.2
theorem readsAll_i {h : Heap} : ∀ {ds : List D} {us : List Value} {as : List Addr} {i : Nat} {u : Value}, ReadsAll h us ds as → us[i]? = some u → ∃ d bs, ds[i]? = some d ∧ Reads h u d bs
  | [], _, _, i, _, r, e => by cases r; simp at e
  | d :: ds, _, _, 0, _, .cons r1 r2, e1 => by
    simp at e1; subst e1; exact ⟨_, _, rfl, r1⟩
  | d :: ds, _, _, i + 1, _, .cons r1 r2, e1 => by
    obtain ⟨d', bs, h1, h2⟩ := readsAll_i r2 (i := i) (by simpa using e1)
    exact ⟨d', bs, by simpa using h1, h2⟩
def rMinD (K : PySem.W.Frag) : List V → Hp → VK → Prop := fun vs H Q => ∃ (a : Addr) (xs : List V) (d : D) (ds : List D), vs = [.ref a] ∧ SqL K H a xs ∧ DpAll K H xs (d :: ds) ∧ minOk (d :: ds) = true ∧ ∀ (i : Nat) (x : V), xs[i]? = some x → (d :: ds)[i]? = some (W.minD d ds) → Q x H
theorem cr_minD (hc : X.calm = true) (hu : X.A.units + 70 < cLine) : CallR X (.builtin "min") (rMinD X.K) := by
  intro pins s σ H vs us Q I r h
  obtain ⟨a, xs, d, ds, rfl, hsq, hdp, hok, q⟩ := h
  rw [Vals.ref1 r]
  obtain ⟨its, rv, pl, hz⟩ := I.list hsq
  obtain ⟨as, hr⟩ := Dp.readsAll I (d :: ds) xs its hdp rv
  have hdep := minOk_dep hok
  refine W.min_list_data (I.ok.hd hc) pl.isList (show ReadsAll s.heap its.toArray.toList (d :: ds) as by simpa using hr) (minOk_al hok) (by omega) fun i v h' tk bs hv rd kp => ?_
  have hv' : its[i]? = some v := by simpa using hv
  obtain ⟨e, bs2, he, re⟩ := readsAll_i hr hv'
  have e1 := (Reads.unique (Reads.keeps kp re) _ _ rd).1
  subst e1
  have hl := rv.length
  have hi : i < xs.length := by
    have := (List.getElem?_eq_some_iff.mp hv').1
    omega
  obtain ⟨w, ew, rw'⟩ := rv.get (List.getElem?_eq_getElem hi)
  rw [hv'] at ew; cases ew
  exact ⟨_, H, I.kept (t' := tk) kp, rw', q i _ (List.getElem?_eq_getElem hi) he⟩
def dMinL : D → Option Sv
  | .list (d :: ds) => if minOk (d :: ds) = true then some (.imm (W.minD d ds)) else none
  | _ => none
theorem us_minL : UnS X (fun v H Q => rMinD X.K [v] H Q) dMinL := by
  intro H M O π ρ σ v1 d1 res Q h r1 e q
  unfold dMinL at e
  split at e
  · split at e
    · rename_i hz
      cases e
      obtain ⟨a, vs, rfl, rd, rs⟩ := r1.inL
      refine ⟨a, vs, _, _, rfl, .inl rd, rs.dp (minOk_lay hz), hz, fun i x hx hd => ?_⟩
      obtain ⟨y, hy, ry⟩ := rs.get hd
      rw [hx] at hy; cases hy
      exact Post.now q h ry
    · cases e
  · cases e
end
end Vi

namespace Vi
open PySem PySem.Spec PyProof.Rows L2
section
variable {prog : Program} {w : World} {A : Around} {E : Value → Shared → Prop} {s : Shared}
theorem draw_list {it t : Addr} {items : Array Value} (hne : t ≠ it) : ∀ (n i : Nat) (s : Shared) (Q : List Value → Shared → Prop), s.heap.IsListIter it t i → s.heap.IsList t items → i + n ≤ items.size →
    (∀ h', h'.IsListIter it t (i + n) → Heap.SameBut it s.heap h' → Q ((items.toList.drop i).take n) { s with heap := h' }) → wpAny (model prog w) A (draw (.ref it) n) Q E s
  | 0, i, s, Q, hit, _, _, hQ => by
    show wpAny _ _ (pure []) Q E s
    exact wpAny_pure (by simpa using hQ s.heap hit (Heap.SameBut.refl ..))
  | n + 1, i, s, Q, hit, ht, hle, hQ => by
    have hlt : i < items.size := by omega
    show wpAny _ _ (pyNext (.ref it) >>= _) Q E s
    refine wpAny_bind (wpAny_pyNext_list_item hit ht (x := items[i]) (by simp [hlt]) fun h₁ hit₁ hs₁ => ?_)
    refine wpAny_bind (wpAny_holding (draw_list hne n (i + 1) _ _ hit₁ (ht.extBut hs₁.extBut hne) (by omega) fun h₂ hit₂ hs₂ => wpAny_pure ?_))
    have hd : items.toList.drop i = items[i] :: items.toList.drop (i + 1) := by simp [List.drop_eq_getElem_cons, hlt]
    have := hQ h₂ (by rw [show i + (n + 1) = i + 1 + n by omega]; exact hit₂) (hs₁.trans hs₂)
    rw [hd, List.take_succ_cons] at this
    exact this
theorem isList_push {h : Heap} {t : Addr} {items : Array Value} (o : Obj) (x : h.IsList t items) : (h.push o).IsList t items := let ⟨o', ho, r⟩ := x; ⟨o', Heap.get?_push_of_some _ ho, r⟩
theorem unpackItems_list {t : Addr} {items : Array Value} {Q : List Value → Shared → Prop} (hh : A.handled = none) (ht : s.heap.IsList t items)
    (hQ : ∀ h', Heap.ExtBut s.heap.objs.size s.heap h' → Q items.toList { s with heap := h' }) : wpAny (model prog w) A (unpackItems (.ref t) items.size none) Q E s := by
  have hlt : t ≠ s.heap.objs.size := by obtain ⟨o, ho, _⟩ := ht; exact Nat.ne_of_lt (Heap.lt_size ho)
  unfold unpackItems
  refine wpAny_bind ?_
  · unfold notIterableAtAll
    refine wpAny_bind (wpAny_specialOf ht.typeIs slot_list_iter.lookup ?_)
    refine wpAny_pure ?_
    simp only [Bool.false_eq_true, if_false]
    refine wpAny_bind (wpAny_holding (wpAny_pyIter_list ht ?_))
    refine wpAny_bind (wpAny_holding (draw_list hlt items.size 0 _ _ ⟨_, Heap.get?_push_size _ rfl, rfl, rfl⟩ (isList_push _ ht) (by omega) fun h₁ hit₁ hs₁ => ?_))
    have hall : List.take items.size (List.drop 0 items.toList) = items.toList := by
      rw [List.drop_zero]; exact List.take_of_length_le (by simp)
    rw [hall]
    rw [if_neg (by simp)]
    have ht₁ : h₁.IsList t items := (isList_push _ ht).extBut hs₁.extBut hlt
    refine wpAny_bind (wpAny_holding (wpAny_pyNext_list_end hh hit₁ ht₁ (by simp) fun h₂ he₂ => ?_))
    simp only [Option.isSome_none, Bool.false_eq_true, if_false]
    refine wpAny_pure (hQ h₂ fun b o hb e => he₂ b o hb (hs₁.extBut b o hb (Heap.get?_push_of_some _ e)))
theorem assign_Tuple_list {env : Env} {elts : List Expr} {x1} {pos : Pos} {t : Addr} {items : Array Value} {Q : Unit → Shared → Prop} (hh : A.handled = none) (ht : s.heap.IsList t items)
    (hn : (assignEach elts env).length = items.size) (hstar : (assignEach elts env).findIdx? (·.1) = none)
    (h : ∀ h', Heap.ExtBut s.heap.objs.size s.heap h' → wpAny (model prog w) A (assignInOrder ((assignEach elts env).map (·.2)) items.toList) Q E { s with heap := h' }) :
    wpAny (model prog w) A (assign (.Tuple elts x1 pos) env (.ref t)) Q E s := by
  rw [assign_Tuple]
  refine wpAny_bind (wpAny_standAt ?_)
  unfold unpack
  rw [hn, hstar]
  exact wpAny_bind (wpAny_holding (unpackItems_list hh ht h))
end
section
variable {X : Cx} {pos : Pos}
/-- (a, b, ..) = a tuple or a list of that length -/
def gSeq (K : PySem.W.Frag) (n : Nat) (t : TGs) : TG := fun v σ H Q => ∃ a xs, v = .ref a ∧ (SqT K H a xs ∨ SqL K H a xs) ∧ xs.length = n ∧ t xs σ H Q
theorem pg_seq {es : List Expr} {k : Nat} {t : TGs} {n : Nat} (hc : X.calm = true) (h : PGs X es t)
    (hn : (assignEach es X.env).length = n := by rfl) (hst : (assignEach es X.env).findIdx? (·.1) = none := by rfl) : PG X (.Tuple es k pos) (gSeq X.K n t) := by
  refine ⟨fun pins s σ H v u Q I r hw => ?_⟩
  obtain ⟨a, xs, e1, hq, hl, hw⟩ := hw
  subst e1
  cases r
  rcases hq with hq | hq
  · obtain ⟨its, rv, ht, hz⟩ := I.tuple hq
    refine assign_Tuple_tuple (I.ok.hd hc) ht (by simp [hn, ← hl, rv.length]) hst fun h' hx => ?_
    have I1 : Inv X pins σ H { s with heap := h' } := I.kept (t' := s.toks) fun b o e => hx b o (Nat.ne_of_lt (Heap.lt_size e)) e
    exact h.run pins _ σ H xs _ Q I1 (by simpa using rv) hw
  · obtain ⟨its, rv, ht, hz⟩ := I.list hq
    refine assign_Tuple_list (I.ok.hd hc) ht.isList (by simp [hn, ← hl, rv.length]) hst fun h' hx => ?_
    have I1 : Inv X pins σ H { s with heap := h' } := I.kept (t' := s.toks) fun b o e => hx b o (Nat.ne_of_lt (Heap.lt_size e)) e
    exact h.run pins _ σ H xs _ Q I1 (by simpa using rv) hw
variable {es : List Expr}
def mGseq (k : Nat) (n : MGs) : MG := fun d ρ => match d with
  | .tuple ds => if ds.length = k then n ds ρ else none
  | .list ds => if ds.length = k then n ds ρ else none
  | _ => none
theorem dg_seq {k : Nat} {n : MGs} {ts : List Nat} {kk : Nat} (hc : X.calm = true) (h : DGs X es n ts) (hn : (assignEach es X.env).length = k := by rfl) (hst : (assignEach es X.env).findIdx? (·.1) = none := by rfl) : DG X (.Tuple es kk pos) (mGseq k n) ts :=
  PG.imp (pg_seq hc h hn hst) fun v σ H Q ⟨ρ, M, O, π, d, ρ', hs, r, e, q⟩ => by
    unfold mGseq at e
    split at e
    · rename_i ds
      split at e
      · rename_i hl
        cases r with
        | tup ht rr => exact ⟨_, _, rfl, .inl ht.sq, by rw [rr.length]; exact hl, ρ, M, O, π, ds, ρ', hs, rr, e, q⟩
      · cases e
    · rename_i ds
      split at e
      · rename_i hl
        cases r with
        | lst hr n rr => exact ⟨_, _, rfl, .inr (.inl hr), by rw [rr.length]; exact hl, ρ, M, O, π, ds, ρ', hs, rr, e, q⟩
      · cases e
    · cases e
end
end Vi

namespace Vi
open PySem PySem.Spec PyProof.Rows L2
section
variable {X : Cx} {pos p2 : Pos}
/-- o[a:c] = v -/
def gSlc (to : TE) (ta tc : TO) : TG := fun v σ H Q => to σ H fun o H1 => ta σ H1 fun a H2 => tc σ H2 fun c H3 =>
  ∃ (l b : Addr) (xs ys : List V) (i j : Int), o = .ref l ∧ v = .ref b ∧ a = some i ∧ c = some j ∧ H3 l = some (.lst xs) ∧ H3 b = some (.lst ys) ∧ l ≠ b ∧ 0 ≤ i ∧ i ≤ j ∧ j ≤ xs.length ∧ xs.length + ys.length ≤ sizeLine ∧ Q σ (upd H3 l (.lst (xs.take i.toNat ++ ys ++ xs.drop j.toNat)))
theorem pg_slc {o ea ec : Expr} {to : TE} {ta tc : TO} (ho : PE X o to) (h1 : PO X (some ea) ta) (h2 : PO X (some ec) tc)
    (ha : ∀ v, assign (.Subscript o (.Slice (some ea) (some ec) none p2) pos) X.env v = (do
      let ov ← holding [v] (eval o X.env)
      let iv ← holding [v, ov] (eval (.Slice (some ea) (some ec) none p2) X.env)
      standAt pos
      holding [v, ov, iv] (setItem ov iv v)
      release [iv, v, ov] []) := by intro _; rfl) : PG X (.Subscript o (.Slice (some ea) (some ec) none p2) pos) (gSlc to ta tc) := by
  refine ⟨fun pins s σ H v u Q I r h => ?_⟩
  rw [ha]
  refine wpAny_bind (wpAny_holding (thn (ho.run pins s σ H _ I h) fun ov s1 ⟨x, H1, I1, r1, q1⟩ => ?_))
  refine wpAny_bind (wpAny_holding (wpAny_Slice (thn (h1.run pins s1 σ H1 _ I1 q1) fun vl s2 ⟨l', H2, I2, pl, q2⟩ => thn (h2.run pins s2 σ H2 _ I2 q2) fun vu s3 ⟨u', H3, I3, pu, q3⟩ => ?_)))
  rw [evalPart_none]
  refine wpAny_pure ?_
  obtain ⟨l, b, xs, ys, i, j, rfl, rfl, rfl, rfl, hl, hb, hne, h0, hij, hj, hz, q⟩ := q3
  have I4 : Inv X pins σ H3 { s3 with heap := s3.heap.push { cls := .type "slice", data := .fields #[vl, vu, .none] } } := I3.kept (t' := s3.toks) fun b ob q => Heap.get?_push_of_some _ q
  obtain rfl : ov = Value.ref l := r1
  obtain rfl : u = Value.ref b := r
  have ra : RelV (.int i) vl := by cases pl; exact ⟨_, rfl⟩
  have rc : RelV (.int j) vu := by cases pu; exact ⟨_, rfl⟩
  refine wpAny_bind (wpAny_standAt (wpAny_bind (wpAny_holding (set_slice I4 hl hb hne (Heap.IsSliceOf.new ..) ra rc h0 hij hj hz fun s5 I5 => ?_))))
  exact wpAny_release ⟨σ, _, I5, q⟩
variable {me : ME} {mk mk2 : MO} {e ka kc : Expr}
/-- x[a:c] = a fresh list -/
def mSlice (i : Nat) (ma mc : MO) (me : ME) : MS := fun ρ => match me ρ with
  | some (.val (.own .dic _), _) => none
  | some (.val (.own _ ys), ρ1) => match ρ1[i]? with
    | some (some (.own .dic _)) => none
    | some (some (.own _ _)) => match ma ρ1 with
      | some (some a, ρ2) => match mc ρ2 with
        | some (some c, ρ3) => match ρ3[i]? with
          | some (some (.own .dic _)) => none
          | some (some (.own b ds)) => if (decide (0 ≤ a) && decide (a ≤ c) && decide (c ≤ ds.length) && fits (ds.length + ys.length)) = true then some (.next, ρ3.set i (some (.own b (ds.take a.toNat ++ ys ++ ds.drop c.toNat)))) else none
          | _ => none
        | _ => none
      | _ => none
    | _ => none
  | _ => none
theorem ds_slice {st : Stmt} {i : Nat} (h : ∀ te ta tc, PE X e te → PO X (some ka) ta → PO X (some kc) tc → PS X st (tAsg te (gSlc (tVar i) ta tc))) (he : DE X e me) (h1 : DO X (some ka) mk) (h2 : DO X (some kc) mk2) : DS X st (mSlice i mk mk2 me) :=
  PS.imp (h _ _ _ he h1 h2) fun D σ H ⟨ρ, M, O, π, fl, ρ', h, e, q⟩ => by
    unfold mSlice at e
    split at e
    · cases e
    · rename_i b0 ys ρ1 hnb e1
      split at e
      · cases e
      · rename_i b1 ds1 hne2 e2
        split at e
        · rename_i a ρ2 e3
          split at e
          · rename_i c ρ3 e4
            split at e
            · cases e
            · rename_i b ds hne5 e5
              split at e
              · rename_i hz
                cases e
                rw [Bool.and_eq_true, Bool.and_eq_true, Bool.and_eq_true] at hz
                have z1 := of_decide_eq_true hz.1.1.1
                have z2 := of_decide_eq_true hz.1.1.2
                have z3 := of_decide_eq_true hz.1.2
                have z4 := fits_le hz.2
                refine ⟨ρ, M, O, π, .val (.own b0 ys), ρ1, h, e1, fun v H1 M1 x1 s1 r1 => ?_⟩
                obtain ⟨l, vs, f1, f2, f3, f4, f5, f6⟩ := s1.ownL e2 (isL_of hne2)
                refine ⟨.ref l, f1, ρ1, M1, Vi.hold O (.val (.own b0 ys)) v, π, some a, ρ2, s1.hold r1, e3, fun H2 M2 x2 s2 => ?_⟩
                refine ⟨ρ2, M2, Vi.hold O (.val (.own b0 ys)) v, π, some c, ρ3, s2, e4, fun H3 M3 x3 s3 => ?_⟩
                have le := hold_le O (.val (.own b0 ys)) v
                obtain ⟨p, ws, k1, k2', k3, k4, k5, k6⟩ := r1.held (x2.trans x3) s3
                have k2 := k2'.trans (congrArg some (cell_lst (isL_of hnb)))
                subst k1
                have s3' := s3.less le
                obtain ⟨l', us, g1, g2, g3, g4, g5, g6⟩ := s3'.ownL e5 (isL_of hne5)
                rw [f1] at g1; cases g1
                have hne : l ≠ p := fun z => k6 i b ds e5 (by rw [f1, z])
                obtain ⟨s4, x4, t4⟩ := s3'.write (ws := us.take a.toNat ++ ws ++ us.drop c.toNat) (es := ds.take a.toNat ++ ys ++ ds.drop c.toNat) e5 (isL_of hne5) f1 (((g5.take _).append k5).append (g5.drop _))
                exact ⟨l, p, us, ws, a, c, rfl, rfl, rfl, rfl, g2, k2, hne, z1, z2, by rw [g5.length]; exact z3, by rw [g5.length, k5.length]; exact z4, q _ _ M3 ((x1.trans ((x2.trans x3).less le)).trans x4) s4⟩
              · cases e
            · cases e
          · cases e
        · cases e
      · cases e
    · cases e
end
end Vi

namespace Vi
open PySem PySem.Spec PyProof.Rows L2
section
variable {X : Cx} {pos p p2 pos2 : Pos} {e : Expr} {me : ME}
/-- list(range(e)) -/
def mLRng (me : ME) : ME := fun ρ => match me ρ with
  | some (pr, ρ1) => match peek ρ1 pr with
    | some (.int j) => if (rngOk j && decide (j ≤ 16777216)) = true then some (.val (.own .loc (rngD 0 j.toNat)), ρ1) else none
    | _ => none
  | none => none
theorem reps_rng {K : PySem.W.Frag} {H : Hp} {M : Mset} (lo : Int) : ∀ l : List Nat, Reps K H M (l.map fun i => V.int (lo + (i : Nat))) (l.map fun i => PyData.int (lo + (i : Nat)))
  | [] => .nil
  | i :: l => .cons (.int _) (reps_rng lo l)
theorem de_lrng (hc : X.calm = true) (hg : Gl X "list") (hm : X.mg "list" = none) (hg2 : Gl X "range") (hm2 : X.mg "range" = none) (he : DE X e me) (na : starEach [e] X.env = (false, eval e X.env) :: starEach [] X.env := by rfl)
    (na2 : starEach [.Call (.Name "range" p2) [e] [] pos2] X.env = (false, eval (.Call (.Name "range" p2) [e] [] pos2) X.env) :: starEach [] X.env := by rfl) : DE X (.Call (.Name "list" p) [.Call (.Name "range" p2) [e] [] pos2] [] pos) (mLRng me) :=
  PE.imp (pe_listRg hc hg hm (prg_1 hg2 hm2 he na) na2) fun σ H Q ⟨ρ, M, O, π, pr, ρ', h, e, q⟩ => by
    unfold mLRng at e
    split at e
    · rename_i pr1 ρ1 e1
      split at e
      · rename_i j e2
        split at e
        · rename_i hz
          cases e
          rw [Bool.and_eq_true] at hz
          have z1 := of_decide_eq_true hz.1
          have z2 := of_decide_eq_true hz.2
          refine ⟨ρ, M, O, π, pr1, _, h, e1, fun v H1 M1 x1 s1 r1 => ?_⟩
          have ev := (peek_vw s1 r1 e2).inI
          subst ev
          refine ⟨j, rfl, ⟨by omega, by omega, by omega, by omega, by omega⟩, fun a ha => ?_⟩
          have hr : Reps X.K H1 M1 (rgV 0 j) (rngD 0 j.toNat) := by
            unfold rgV rngD
            rw [show j - 0 = j by omega]
            exact reps_rng 0 _
          exact Post.lst (Q := Q) (fun v H' M' x3 s3 r3 => q v H' M' (x1.trans x3) s3 r3) s1 hr ha
        · cases e
      · cases e
    · cases e
end
end Vi

namespace Vi
open PySem PySem.Spec PyProof.Rows L2
section
variable {X : Cx} {pos : Pos}
def tPar3 (i j k : Nat) (ta : TA) : TS := fun D σ H => ta σ H fun vs H1 => ∃ u v w, vs = [u, v, w] ∧ D.nx (((σ.set i (some u)).set j (some v)).set k (some w)) H1
theorem set3 {α : Type} (l : List α) {i j k : Nat} (a b c : α) (h1 : i ≠ j) (h2 : i ≠ k) (h3 : j ≠ k) : ((l.set k c).set j b).set i a = ((l.set i a).set j b).set k c := by
  rw [List.set_comm c b (Ne.symm h3), List.set_comm c a (Ne.symm h2), List.set_comm b a (Ne.symm h1)]
theorem ps_par3 {i j k : Nat} {x y z : Str} {a b c : Expr} {ta : TA} {px py pz pt : Pos} {kt k2 pt2} (hc : X.calm = true) (hN : X.N.Nodup) (hi : X.N[i]? = some x) (hj : X.N[j]? = some y) (hk : X.N[k]? = some z) (hij : i ≠ j) (hik : i ≠ k) (hjk : j ≠ k)
    (hx : X.env.scope.names.lookup x = some .local) (hy : X.env.scope.names.lookup y = some .local) (hz : X.env.scope.names.lookup z = some .local) (ha : PA X [a, b, c] ta)
    (hw : swappedStores [.Tuple [.Name x px, .Name y py, .Name z pz] kt pt] (.Tuple [a, b, c] k2 pt2) X.env = pure (some [x, y, z]))
    (hs : swapsWithSole [.Tuple [.Name x px, .Name y py, .Name z pz] kt pt] (.Tuple [a, b, c] k2 pt2) pos.line X.env = pure false := by rfl) :
    PS X (.Assign [.Tuple [.Name x px, .Name y py, .Name z pz] kt pt] (.Tuple [a, b, c] k2 pt2) pos) (tPar3 i j k ta) := by
  refine ⟨fun pins s σ H D I h => ?_⟩
  rw [exec_Assign_arm]
  refine wpAny_bind (wpAny_standAt ?_)
  rw [hs]
  refine wpAny_bind (wpAny_pure ?_)
  rw [if_neg (by decide)]
  refine wpAny_bind (Tuple_ (thn (ha.run _ pins s σ H _ I h) fun us s1 ⟨vs, H1, I1, r1, q1⟩ => ?_))
  obtain ⟨u, v, w, e1, q1⟩ := q1
  subst e1
  obtain ⟨u1, u2, u3, rfl, rv, rw', rz⟩ : ∃ u1 u2 u3, us = [u1, u2, u3] ∧ RelV u u1 ∧ RelV v u2 ∧ RelV w u3 := by
    cases r1 with
    | cons p q =>
      cases q with
      | cons p' q' =>
        cases q' with
        | cons p'' q'' =>
          cases q''
          exact ⟨_, _, _, rfl, p, p', p''⟩
  refine wpAny_newObj_type ?_ (by show 3 ≤ sizeLine; decide)
  have I2 : Inv X pins σ H1 { s1 with heap := s1.heap.push { cls := .type "tuple", data := .seq [u1, u2, u3].toArray } } := I1.kept (t' := s1.toks) fun b o e => Heap.get?_push_of_some _ e
  rw [hw]
  refine wpAny_bind (wpAny_pure ?_)
  show wpAny (model X.prog X.w) X.A (do rule "assign.swapped-stores"; let items ← unpackItems (.ref s1.heap.objs.size) 3 none; assignInOrder [fun v => bindName X.env z v, fun v => bindName X.env y v, fun v => bindName X.env x v] items.reverse; pure Flow.next) _ _ _
  refine wpAny_bind (wpAny_rule (wpAny_bind (unpackItems_tuple (items := #[u1, u2, u3]) (I.ok.hd hc) (IsTup.new s1.heap _) fun h' hx' => ?_)))
  have I3 := I2.kept (h' := h') (t' := s1.toks) fun b o e => hx' b o (Nat.ne_of_lt (Heap.lt_size e)) e
  show wpAny _ _ (assignInOrder [fun v => bindName X.env z v, fun v => bindName X.env y v, fun v => bindName X.env x v] [u3, u2, u1] >>= fun _ => pure Flow.next) _ _ _
  refine wpAny_bind (assignInOrder_cons (wpAny_bindName (store_ok I3 hN hk (.inl hz) rz (fun s2 I4 => ?_) (.inr hz))))
  refine assignInOrder_cons (wpAny_bindName (store_ok I4 hN hj (.inl hy) rw' (fun s3 I5 => ?_) (.inr hy)))
  refine assignInOrder_cons (wpAny_bindName (store_ok I5 hN hi (.inl hx) rv (fun s4 I6 => assignInOrder_nil (wpAny_pure ?_)) (.inr hx)))
  rw [set3 _ _ _ _ hij hik hjk] at I6
  exact ⟨_, H1, I6, q1⟩
/-- a, b, c = x, y, z -/
def mPar3 (i j k : Nat) (ma mb mc : ME) : MS := fun ρ => match ma ρ with
  | some (p1, ρ1) => match frz ρ1 p1 with
    | some (d1, ρ2) => match mb ρ2 with
      | some (p2, ρ3) => match frz ρ3 p2 with
        | some (d2, ρ4) => match mc ρ4 with
          | some (p3, ρ5) => match frz ρ5 p3 with
            | some (d3, ρ6) => some (.next, ((ρ6.set i (some (.imm d1))).set j (some (.imm d2))).set k (some (.imm d3)))
            | none => none
          | none => none
        | none => none
      | none => none
    | none => none
  | none => none
theorem ds_par3 {st : Stmt} {a b c : Expr} {ma mb mc : ME} {i j k : Nat} (h : ∀ ta, PA X [a, b, c] ta → PS X st (tPar3 i j k ta)) (ha : DE X a ma) (hb : DE X b mb) (hcc : DE X c mc) (hs : starEach [a, b, c] X.env = (false, eval a X.env) :: starEach [b, c] X.env := by rfl) (hs2 : starEach [b, c] X.env = (false, eval b X.env) :: starEach [c] X.env := by rfl) (hs3 : starEach [c] X.env = (false, eval c X.env) :: starEach [] X.env := by rfl) : DS X st (mPar3 i j k ma mb mc) :=
  PS.imp (h _ (pa_cons ha (pa_cons hb (pa_cons hcc pa_nil hs3) hs2) hs)) fun D σ H ⟨ρ, M, O, π, fl, ρ', h, e, q⟩ => by
    unfold mPar3 at e
    split at e
    · rename_i p1 ρ1 e1
      split at e
      · rename_i d1 ρ2 e2
        split at e
        · rename_i p2 ρ3 e3
          split at e
          · rename_i d2 ρ4 e4
            split at e
            · rename_i p3 ρ5 e5
              split at e
              · rename_i d3 ρ6 e6
                cases e
                refine ⟨ρ, M, O, π, p1, ρ1, h, e1, fun v1 H1 M1 x1 t1 r1 => ?_⟩
                obtain ⟨M2, x2, t2, r2⟩ := frz_ok t1 r1 e2
                refine ⟨ρ2, M2, O, π, p2, ρ3, t2, e3, fun v2 H3 M3 x3 t3 r3 => ?_⟩
                obtain ⟨M4, x4, t4, r4⟩ := frz_ok t3 r3 e4
                refine ⟨ρ4, M4, O, π, p3, ρ5, t4, e5, fun v3 H5 M5 x5 t5 r5 => ⟨v1, v2, v3, rfl, ?_⟩⟩
                obtain ⟨M6, x6, t6, r6⟩ := frz_ok t5 r5 e6
                have y1 := r2.tr (((x3.trans x4).trans x5).trans x6).tr
                have y2 := r4.tr (x5.trans x6).tr
                exact q _ H5 M6 ((((((x1.trans x2).trans x3).trans x4).trans x5).trans x6)) (((t6.setImm y1).setImm y2).setImm r6)
              · cases e
            · cases e
          · cases e
        · cases e
      · cases e
    · cases e
end
end Vi

namespace Vi
open PySem PySem.Spec PyProof.Rows L2
section
variable {ρ ρ0 ρ1 ρ2 ρ3 : Fm} {me ma mb : ME} {m n : MS} {mt : MT} {mi : MI} {mg : MG} {d s t : D} {r sv : Sv} {ds es : List D} {pr p1 p2 : PR} {i : Nat} {as : MA}
theorem c_lst (h : as ρ = some (ds, ρ1)) (hf : fits ds.length = true) : mLst as ρ = some (.val (.own .loc ds), ρ1) := by
  unfold mLst
  rw [h]
  simp only [hf, if_true]
theorem c_tup (h : as ρ = some (ds, ρ1)) (hf : fits ds.length = true) : mTup as ρ = some (.val (.imm (.tuple ds)), ρ1) := by
  unfold mTup
  rw [h]
  simp only [hf, if_true]
theorem c_acons (h1 : me ρ = some (pr, ρ1)) (h2 : frz ρ1 pr = some (d, ρ2)) (h3 : as ρ2 = some (ds, ρ3)) : mCons me as ρ = some (d :: ds, ρ3) := by
  unfold mCons
  rw [h1]
  simp only [h2, h3]
theorem c_anil : mNil ρ = some ([], ρ) := rfl
theorem c_rval {mr : MR} {ars : List AR} (h1 : me ρ = some (pr, ρ1)) (h2 : frz ρ1 pr = some (d, ρ2)) (h3 : mr ρ2 = some (ars, ρ3)) : rVal me mr ρ = some (.v d :: ars, ρ3) := by
  unfold rVal
  rw [h1]
  simp only [h2, h3]
theorem c_b {b : Bool} (h : me ρ = some (.val (.imm (.bool b)), ρ1)) : mB me ρ = some (b, ρ1) := by
  unfold mB
  rw [h]
theorem c_not {b : Bool} (h : mt ρ = some (b, ρ1)) : mNotT mt ρ = some (!b, ρ1) := by
  unfold mNotT
  rw [h]
theorem c_seqA {a b : MS} {x : Option (Fl × Fm)} (h : mSeq (mSeq a b) n ρ = x) : mSeq a (mSeq b n) ρ = x := by
  rw [← h]
  unfold mSeq
  cases a ρ with
  | none => rfl
  | some r => obtain ⟨f, ρ1⟩ := r; cases f <;> rfl
theorem c_whF {k : Nat} (h : mt ρ = some (false, ρ1)) : whl mt m (k + 1) ρ = some (.next, ρ1) := by
  rw [whl, h]
theorem c_whT {k : Nat} {x : Option (Fl × Fm)} (h : mt ρ = some (true, ρ1)) (h2 : m ρ1 = some (.next, ρ2)) (h3 : whl mt m k ρ2 = x) : whl mt m (k + 1) ρ = x := by
  rw [whl, h]
  simp only [h2]
  exact h3
theorem c_par {i j : Nat} {s1 s2 : Sv} (h1 : ma ρ = some (p1, ρ1)) (h2 : take ρ1 p1 = some (s1, ρ2)) (h3 : mb ρ2 = some (p2, ρ3)) {ρ4 : Fm} (h4 : take ρ3 p2 = some (s2, ρ4)) (h5 : (fine s1 && fine s2) = true) : mPar i j ma mb ρ = some (.next, (ρ4.set i (some s1)).set j (some s2)) := by
  unfold mPar
  rw [h1]
  simp only [h2, h3, h4, h5, if_true]
theorem c_app {i : Nat} {b b2 : Kd} {ys : List D} (h0 : ρ[i]? = some (some (.own b2 ys))) (h1 : me ρ = some (pr, ρ1)) (h2 : frz ρ1 pr = some (d, ρ2)) (h3 : ρ2[i]? = some (some (.own b ds))) (h4 : fits (ds.length + 1) = true) (hb : b.isL = true := by rfl) (hb2 : b2.isL = true := by rfl) : mApp i me ρ = some (.val (.imm .none), ρ2.set i (some (.own b (ds ++ [d])))) := by
  unfold mApp
  cases b <;> cases b2 <;> first | (exact absurd hb (by decide)) | (exact absurd hb2 (by decide)) | (rw [h0]; simp only [h1, h2, h3, h4, if_true])
end
end Vi

namespace Vi
open PySem PySem.Spec PyProof.Rows L2
section
variable {X : Cx}
/-! ### in, of any data in a tuple -/
def rInT (K : PySem.W.Frag) (neg : Bool) : R2 := fun x y H Q => ∃ d ds, Dp K H x d ∧ Dp K H y (.tuple ds) ∧ SeqAt.shaped d = true ∧ SeqAt.shaped (.tuple ds) = true ∧ Q (.bl (if neg then !hasD d ds else hasD d ds)) H
theorem op_inT (hu : X.A.units + 65 < cLine) : OpR X (compareOp .In) (rInT X.K false) := by
  intro pins s σ H x y v u Q I rx ry h
  obtain ⟨d, ds, hd, he, sd, se, q⟩ := h
  obtain ⟨as, r1⟩ := Dp.reads I d x v hd rx
  obtain ⟨bs, r2⟩ := Dp.reads I (.tuple ds) y u he ry
  exact SeqAt.in_tuple_reads r2 r1 (SeqAt.canLay_of_shaped se) (SeqAt.canLay_of_shaped sd) (room_in_shaped sd hu) ⟨.bl _, H, I, rfl, q⟩
theorem op_notInT (hu : X.A.units + 65 < cLine) : OpR X (compareOp .NotIn) (rInT X.K true) := by
  intro pins s σ H x y v u Q I rx ry h
  obtain ⟨d, ds, hd, he, sd, se, q⟩ := h
  obtain ⟨as, r1⟩ := Dp.reads I d x v hd rx
  obtain ⟨bs, r2⟩ := Dp.reads I (.tuple ds) y u he ry
  exact SeqAt.notIn_tuple_reads r2 r1 (SeqAt.canLay_of_shaped se) (SeqAt.canLay_of_shaped sd) (room_in_shaped sd hu) ⟨.bl _, H, I, rfl, q⟩
def dInT (neg : Bool) (x y : D) : Option Sv := match y with
  | .tuple ds => if (okD x && okD (.tuple ds)) = true then some (.imm (.bool (if neg then !hasD x ds else hasD x ds))) else none
  | y => dIn neg x y
abbrev rInB (X : Cx) (neg : Bool) : R2 := fun x y H Q => rInA X neg x y H Q ∨ rInT X.K neg x y H Q
theorem op_inB (hu : X.A.units + 65 < cLine) : OpR X (compareOp .In) (rInB X false) := (op_inA hu).or (op_inT hu)
theorem op_notInB (hu : X.A.units + 65 < cLine) : OpR X (compareOp .NotIn) (rInB X true) := (op_notInA hu).or (op_notInT hu)
theorem os_inB (neg : Bool) : OpS X (rInB X neg) (dInT neg) := by
  intro H M O π ρ σ v1 v2 d1 d2 res Q h r1 r2 e q
  unfold dInT at e
  split at e
  · rename_i ds
    split at e
    · rename_i hz
      cases e
      rw [Bool.and_eq_true] at hz
      exact .inr ⟨d1, ds, r1.dp (SeqAt.canLay_of_shaped hz.1), r2.dp (SeqAt.canLay_of_shaped hz.2), hz.1, hz.2, Post.now q h (.bl _)⟩
    · cases e
  · exact .inl (os_in neg h r1 r2 e q)
end
end Vi

namespace Vi
open PySem PySem.Spec PyProof.Rows L2
theorem ends_at {a c n : Nat} (hac : a ≤ c) (ha : a ≤ n) : sliceBounds (some (a : Int)) (some (c : Int)) none n = ((a : Int), ((min c n : Nat) : Int), 1) := by
  have h1 : ¬ ((a : Int) < 0) := by omega
  have h2 : ¬ ((c : Int) < 0) := by omega
  simp only [sliceBounds, Option.getD_none, h1, h2, if_false, show (1 : Int) > 0 by decide, if_true]
  congr 1
  · omega
  · congr 1; omega
section
variable {prog : Program} {w : World} {A : Around} {E : Value → Shared → Prop} {s : Shared}
/-- xs[a:c] = ys, c maybe behind the end -/
theorem put_slice {l b sl : Addr} {xs ys : Array Value} {n n2 : Nat} {vl vu : Value} {a c : Nat} {Q : Unit → Shared → Prop} (e : s.heap.get? l = some { cls := .type "list", data := .seq xs n }) (e2 : s.heap.get? b = some { cls := .type "list", data := .seq ys n2 }) (hne : l ≠ b) (hs : s.heap.IsSliceOf sl vl vu .none)
    (pl : IsPart vl (some (a : Int))) (pu : IsPart vu (some (c : Int))) (hac : a ≤ c) (ha : a ≤ xs.size) (hsz : xs.size + ys.size ≤ sizeLine) (h : Q () { s with heap := s.heap.update l (Obj.mapSeq fun zs => zs.extract 0 a ++ ys ++ zs.extract (min c xs.size) zs.size) }) : wpAny (model prog w) A (setItem (.ref l) (.ref sl) (.ref b)) Q E s := by
  have hl : s.heap.IsList l xs := PySem.IsL.isList e; have hb : s.heap.IsList b ys := PySem.IsL.isList e2
  obtain ⟨os, hos, hcs, hds⟩ := id hs; have hTs : s.TypeIs (.ref sl) "slice" := ⟨os, hos, hcs⟩
  have hstep : ¬ ((rawPart none == rawInt 0) = true) := Bool.false_ne_true; have hsame : Builtin.List.listSameRef (.ref l) (.ref b) = false := beq_eq_false_iff_ne.mpr hne
  have hmax : (max (a : Int) ((min c xs.size : Nat) : Int)).toNat = min c xs.size := by omega
  have hz' : ((fun zs : Array Value => zs.extract 0 a ++ ys ++ zs.extract (min c xs.size) zs.size) xs).size ≤ sizeLine + 1 := by simp only [Array.size_append, Array.size_extract]; omega
  unfold setItem; try with_reducible refine wpAny_holding ?_
  first | refine wpAny_bind (wpAny_pure ?_) | skip
  refine wpAny_bind (wpAny_sequenceKey hl.typeIs (by decide) ?_); refine wpAny_bind (wpAny_callSpecial?_slot (name := Str.ofString "__setitem__") hl.typeIs slot_list_setitem (wpAny_call_entry slot_list_setitem hl.typeIs entry_list_setitem ?_ (args_list_setitem _ _ _)))
  show wpAny _ _ (Builtin.List.listSubscript? (.ref sl) >>= _) _ _ s; refine wpAny_bind ?_; unfold Builtin.List.listSubscript?
  refine wpAny_bind (wpAny_specialOf hTs slice_no_index ?_); simp only [Option.isNone_none, if_true]; refine wpAny_pure ?_
  show wpAny _ _ (typeOf (.ref sl) >>= _) _ _ s; refine wpAny_bind (wpAny_typeOf hTs ?_)
  first | rw [if_neg (by decide)] | refine PySem.W.KFB.if_not (by decide) ?_
  rw [listSliceParts_eq]; refine wpAny_bind (wpAny_bind (wpAny_field hos hds (x := .none) rfl (wpAny_bind (wpAny_listPart .none ?_))))
  rw [if_neg hstep]; refine wpAny_bind (wpAny_field hos hds (x := vl) rfl (wpAny_bind (wpAny_listPart pl ?_)))
  refine wpAny_bind (wpAny_field hos hds (x := vu) rfl (wpAny_bind (wpAny_listPart pu (wpAny_pure ?_)))); first | simp only [hsame, Bool.false_eq_true, if_false] | refine PySem.W.KFB.if_not hsame ?_ | (dsimp only; rw [if_neg (by rw [hsame]; exact Bool.false_ne_true)])
  refine wpAny_bind (m := Builtin.List.listAllItems (.ref b) "must assign iterable to extended slice") ?_; unfold Builtin.List.listAllItems
  refine wpAny_bind (wpAny_typeOf hb.typeIs ?_); first | refine PySem.W.KFB.if_so (by decide) ?_ | rw [if_pos (by decide)] | simp only [beq_self_eq_true, Bool.true_or, if_true]
  unfold Builtin.List.listItems; refine wpAny_bind (wpAny_seqItems e2 rfl (wpAny_pure ?_)); refine wpAny_bind (wpAny_bind (wpAny_seqItems e rfl (wpAny_pure ?_)))
  refine wpAny_bind (wpAny_of_eq ((sliceIndices_raw (some (a : Int)) (some (c : Int)) none xs.size (by simp)).trans (congrArg (pure : Int × Int × Int → Sem (Int × Int × Int)) (ends_at hac ha))) ?_)
  show wpAny _ _ (if ((1 : Int) == 1) = true then _ else _) _ _ s; rw [if_pos (by decide)]; refine wpAny_bind (wpAny_rule ?_)
  first | simp only [notLongL hsz, Bool.false_eq_true, if_false] | refine PySem.W.KFB.if_not (notLongL hsz) ?_
  first | refine wpAny_bind (wpAny_pure ?_) | skip
  show wpAny _ _ (updateSeq l (fun zs => zs.extract 0 ((a : Int)).toNat ++ ys ++ zs.extract (max (a : Int) ((min c xs.size : Nat) : Int)).toNat zs.size) >>= _) _ _ _
  rw [hmax, Int.toNat_natCast]; refine wpAny_bind (wpAny_updateSeq (hz := Nat.le_trans (Nat.le_add_right _ _) hsz) (_hz' := hz') e rfl ?_); refine wpAny_bind (wpAny_letGo ?_)
  first | exact wpAny_bind (wpAny_pure (wpAny_pure ⟨.none, rfl, wpAny_pure h⟩)) | exact wpAny_pure ⟨.none, rfl, wpAny_pure h⟩
end
section
variable {X : Cx} {pos p2 : Pos}
theorem put_slice_I {pins : List (Addr × Obj)} {s : Shared} {σ : St} {H : Hp} {l b sl : Addr} {xs ys : List V} {a c : Nat} {vl vu : Value} {Q : Unit → Shared → Prop} (I : Inv X pins σ H s) (hH : H l = some (.lst xs)) (hB : H b = some (.lst ys)) (hne : l ≠ b) (hs : s.heap.IsSliceOf sl vl vu .none)
    (pl : IsPart vl (some (a : Int))) (pu : IsPart vu (some (c : Int))) (hac : a ≤ c) (ha : a ≤ xs.length) (hz : xs.length + ys.length ≤ sizeLine) (h : ∀ s', Inv X pins σ (upd H l (.lst (xs.take a ++ ys ++ xs.drop c))) s' → Q () s') : wpAny (model X.prog X.w) X.A (setItem (.ref l) (.ref sl) (.ref b)) Q X.xe s := by
  obtain ⟨z, its, n, r, hl, e⟩ := I.lstM hH; obtain ⟨z2, its2, n2, r2, hl2, e2⟩ := I.lstM hB
  have hd : xs.drop (min c its.length) = xs.drop c := by
    have := r.length
    by_cases k : c ≤ xs.length
    · rw [Nat.min_eq_left (by omega)]
    · rw [Nat.min_eq_right (by omega), List.drop_of_length_le (by omega), List.drop_of_length_le (by omega)]
  rw [← hd] at h
  refine put_slice (a := a) (c := c) e e2 hne hs pl pu hac (by rw [List.size_toArray]; omega) (by rw [List.size_toArray, List.size_toArray]; omega) (h _ ?_)
  refine I.lset (its' := its.take a ++ its2 ++ its.drop (min c its.length)) (t' := s.toks) hH e ?_ (Vals.append (Vals.append (r.take _) r2) (r.drop _)) ?_
  · rw [← splice_eq]
    simp only [List.size_toArray]
  · rw [List.length_append, List.length_append, List.length_take, List.length_drop]
    omega
def gSlx (to : TE) (ta tc : TO) : TG := fun v σ H Q => to σ H fun o H1 => ta σ H1 fun a H2 => tc σ H2 fun c H3 =>
  ∃ (l b : Addr) (xs ys : List V) (i j : Nat), o = .ref l ∧ v = .ref b ∧ a = some (i : Int) ∧ c = some (j : Int) ∧ H3 l = some (.lst xs) ∧ H3 b = some (.lst ys) ∧ l ≠ b ∧ i ≤ j ∧ i ≤ xs.length ∧ xs.length + ys.length ≤ sizeLine ∧ Q σ (upd H3 l (.lst (xs.take i ++ ys ++ xs.drop j)))
theorem pg_slx {o ea ec : Expr} {to : TE} {ta tc : TO} (ho : PE X o to) (h1 : PO X (some ea) ta) (h2 : PO X (some ec) tc)
    (ha : ∀ v, assign (.Subscript o (.Slice (some ea) (some ec) none p2) pos) X.env v = (do
      let ov ← holding [v] (eval o X.env)
      let iv ← holding [v, ov] (eval (.Slice (some ea) (some ec) none p2) X.env)
      standAt pos
      holding [v, ov, iv] (setItem ov iv v)
      release [iv, v, ov] []) := by intro _; rfl) : PG X (.Subscript o (.Slice (some ea) (some ec) none p2) pos) (gSlx to ta tc) := by
  refine ⟨fun pins s σ H v u Q I r h => ?_⟩
  rw [ha]
  refine wpAny_bind (wpAny_holding (thn (ho.run pins s σ H _ I h) fun ov s1 ⟨x, H1, I1, r1, q1⟩ => ?_))
  refine wpAny_bind (wpAny_holding (wpAny_Slice (thn (h1.run pins s1 σ H1 _ I1 q1) fun vl s2 ⟨l', H2, I2, pl, q2⟩ => thn (h2.run pins s2 σ H2 _ I2 q2) fun vu s3 ⟨u', H3, I3, pu, q3⟩ => ?_)))
  rw [evalPart_none]
  refine wpAny_pure ?_
  obtain ⟨l, b, xs, ys, i, j, rfl, rfl, rfl, rfl, hl, hb, hne, hij, hj, hz, q⟩ := q3
  have I4 : Inv X pins σ H3 { s3 with heap := s3.heap.push { cls := .type "slice", data := .fields #[vl, vu, .none] } } := I3.kept (t' := s3.toks) fun b ob q => Heap.get?_push_of_some _ q
  obtain rfl : ov = Value.ref l := r1
  obtain rfl : u = Value.ref b := r
  refine wpAny_bind (wpAny_standAt (wpAny_bind (wpAny_holding (put_slice_I I4 hl hb hne (Heap.IsSliceOf.new ..) pl pu hij hj hz fun s5 I5 => ?_))))
  exact wpAny_release ⟨σ, _, I5, q⟩
variable {me : ME} {mk mk2 : MO} {e ka kc : Expr}
/-- x[a:c] = a fresh list, c maybe behind the end -/
def mSlx (i : Nat) (ma mc : MO) (me : ME) : MS := fun ρ => match me ρ with
  | some (.val (.own .dic _), _) => none
  | some (.val (.own _ ys), ρ1) => match ρ1[i]? with
    | some (some (.own .dic _)) => none
    | some (some (.own _ _)) => match ma ρ1 with
      | some (some a, ρ2) => match mc ρ2 with
        | some (some c, ρ3) => match ρ3[i]? with
          | some (some (.own .dic _)) => none
          | some (some (.own b ds)) => if (decide (0 ≤ a) && decide (a ≤ c) && decide (a ≤ ds.length) && fits (ds.length + ys.length)) = true then some (.next, ρ3.set i (some (.own b (ds.take a.toNat ++ ys ++ ds.drop c.toNat)))) else none
          | _ => none
        | _ => none
      | _ => none
    | _ => none
  | _ => none
theorem ds_slx {st : Stmt} {i : Nat} (h : ∀ te ta tc, PE X e te → PO X (some ka) ta → PO X (some kc) tc → PS X st (tAsg te (gSlx (tVar i) ta tc))) (he : DE X e me) (h1 : DO X (some ka) mk) (h2 : DO X (some kc) mk2) : DS X st (mSlx i mk mk2 me) :=
  PS.imp (h _ _ _ he h1 h2) fun D σ H ⟨ρ, M, O, π, fl, ρ', h, e, q⟩ => by
    unfold mSlx at e
    split at e
    · cases e
    · rename_i b0 ys ρ1 hnb e1
      split at e
      · cases e
      · rename_i b1 ds1 hne2 e2
        split at e
        · rename_i a ρ2 e3
          split at e
          · rename_i c ρ3 e4
            split at e
            · cases e
            · rename_i b ds hne5 e5
              split at e
              · rename_i hz
                cases e
                rw [Bool.and_eq_true, Bool.and_eq_true, Bool.and_eq_true] at hz
                have z1 := of_decide_eq_true hz.1.1.1
                have z2 := of_decide_eq_true hz.1.1.2
                have z3 := of_decide_eq_true hz.1.2
                have z4 := fits_le hz.2
                obtain ⟨a, rfl⟩ := Int.eq_ofNat_of_zero_le z1
                obtain ⟨c, rfl⟩ := Int.eq_ofNat_of_zero_le (Int.le_trans z1 z2)
                rw [Int.toNat_natCast, Int.toNat_natCast] at q
                refine ⟨ρ, M, O, π, .val (.own b0 ys), ρ1, h, e1, fun v H1 M1 x1 s1 r1 => ?_⟩
                obtain ⟨l, vs, f1, f2, f3, f4, f5, f6⟩ := s1.ownL e2 (isL_of hne2)
                refine ⟨.ref l, f1, ρ1, M1, Vi.hold O (.val (.own b0 ys)) v, π, _, ρ2, s1.hold r1, e3, fun H2 M2 x2 s2 => ?_⟩
                refine ⟨ρ2, M2, Vi.hold O (.val (.own b0 ys)) v, π, _, ρ3, s2, e4, fun H3 M3 x3 s3 => ?_⟩
                have le := hold_le O (.val (.own b0 ys)) v
                obtain ⟨p, ws, k1, k2', k3, k4, k5, k6⟩ := r1.held (x2.trans x3) s3
                have k2 := k2'.trans (congrArg some (cell_lst (isL_of hnb)))
                subst k1
                have s3' := s3.less le
                obtain ⟨l', us, g1, g2, g3, g4, g5, g6⟩ := s3'.ownL e5 (isL_of hne5)
                rw [f1] at g1; cases g1
                have hne : l ≠ p := fun z => k6 i b ds e5 (by rw [f1, z])
                obtain ⟨s4, x4, t4⟩ := s3'.write (ws := us.take a ++ ws ++ us.drop c) (es := ds.take a ++ ys ++ ds.drop c) e5 (isL_of hne5) f1 (((g5.take _).append k5).append (g5.drop _))
                exact ⟨l, p, us, ws, a, c, rfl, rfl, rfl, rfl, g2, k2, hne, by omega, by rw [g5.length]; omega, by rw [g5.length, k5.length]; exact z4, q _ _ M3 ((x1.trans ((x2.trans x3).less le)).trans x4) s4⟩
              · cases e
            · cases e
          · cases e
        · cases e
      · cases e
    · cases e
end
end Vi

namespace Vi
open PySem PySem.Spec PyProof.Rows L2
section
variable {K : PySem.W.Frag} {H : Hp} {M O : Mset} {π : Nat → Option Addr} {ρ : Fm} {σ : St} {i : Nat} {b : Kd} {ds : List D} {a : Addr} {vl : List V}
theorem get_drop {ρ : Fm} {i j : Nat} {s : Sv} (e : (ρ.set i none)[j]? = some (some s)) : j ≠ i ∧ ρ[j]? = some (some s) := by
  rcases get_set e with ⟨_, z⟩ | z
  · cases z
  · exact z
/-- a name's own list is lent: nobody may look at the name -/
theorem SR.lend (h : SR K H M O π ρ σ) (e : ρ[i]? = some (some (.own b ds))) (ea : σ[i]? = some (some (.ref a))) (hM : M a) : SR K H M (wth O a) π (ρ.set i none) σ := by
  have h1 : SR K H M O π (ρ.set i none) σ := ⟨by rw [List.length_set]; exact h.len, h.sub, h.live, fun j d f => h.imm j d (get_drop f).2, fun j c es f => h.own j c es (get_drop f).2, fun j k c d es fs x hjk f g => h.uniq j k c d es fs x hjk (get_drop f).2 (get_drop g).2⟩
  refine h1.more (fun x q => q.elim (h.sub x) fun z => z ▸ hM) fun j c es x f g z => ?_
  obtain ⟨hj, f'⟩ := get_drop f
  rcases z with z | rfl
  · obtain ⟨y, _, k1, _, _, k2, _⟩ := h.own j c es f'
    rw [g] at k1; cases k1
    exact k2 z
  · exact h.uniq i j b c ds es x (Ne.symm hj) e f' ea g
/-- and given back -/
theorem SR.back (h : SR K H M (wth O a) π ρ σ) (hb : b.isL = true) (ea : σ[i]? = some (some (.ref a))) (hH : H a = some (.lst vl)) (hM : M a) (hO : ¬ O a) (hr : Reps K H M vl ds) (hp : b = .par → π i = some a) : SR K H M O π (ρ.set i (some (.own b ds))) σ := by
  refine ⟨by rw [List.length_set]; exact h.len, fun x q => h.sub x (.inl q), h.live, fun j d f => ?_, fun j c es f => ?_, fun j k c d es fs x hjk f g k1 => ?_⟩
  · rcases get_set f with ⟨_, z⟩ | ⟨_, f⟩
    · cases z
    · exact h.imm j d f
  · rcases get_set f with ⟨rfl, z⟩ | ⟨_, f⟩
    · cases z
      exact ⟨a, vl, ea, hH.trans (congrArg some (cell_lst hb).symm), hM, hO, hr, hp⟩
    · obtain ⟨y, ws, k1, k2, k3, k4, k5, k6⟩ := h.own j c es f
      exact ⟨y, ws, k1, k2, k3, fun z => k4 (.inl z), k5, k6⟩
  · rcases get_set f with ⟨hj, z⟩ | ⟨hj, f⟩
    · subst hj
      rcases get_set g with ⟨hk, _⟩ | ⟨hk, g⟩
      · exact fun _ => hjk hk.symm
      · intro k2
        rw [ea] at k1; cases k1
        obtain ⟨y, _, m1, _, _, m2, _⟩ := h.own k d fs g
        rw [k2] at m1; cases m1
        exact m2 (.inr rfl)
    · rename_i f0
      have f' : ρ[j]? = some (some (.own c es)) := (get_set f0).elim (fun z => absurd z.1 hj) fun z => z.2
      rcases get_set g with ⟨hk, z⟩ | ⟨hk, g⟩
      · subst hk
        intro k2
        rw [ea] at k2; cases k2
        obtain ⟨y, _, m1, _, _, m2, _⟩ := h.own j c es f'
        rw [k1] at m1; cases m1
        exact m2 (.inr rfl)
      · exact h.uniq j k c d es fs x hjk f' g k1
end
section
variable {mg : MG} {mt : MT} {me : ME} {vs ts : List Nat}
theorem creadB {K : PySem.W.Frag} (hts : ∀ i ∈ ts, i ∈ vs) {a : Addr} {vl : List V} {ds : List D} {Hs : Hp} {Ms O : Mset} {π : Nat → Option Addr} {σ : St} {Dd : Addr} {ρa ρ2 : Fm} {es ea : List D} {acc : List V} {Qd : Hp → Prop}
    (ha : O a) (hH : Hs a = some (.lst vl)) (hr : Reps K Hs Ms vl ds) (s : SR K Hs Ms (wth O Dd) π ρa (wipeA σ vs)) (hO : ¬ O Dd) (hA : Hs Dd = some (.lst acc)) (hR : Reps K Hs Ms acc ea) (hz : ea.length + es.length ≤ sizeLine)
    (e : cloop mg mt me vs ds ρa = some (es, ρ2)) (hq : ∀ H M acc', Ext O Hs Ms H M → SR K H M (wth O Dd) π ρ2 (wipeA σ vs) → H Dd = some (.lst acc') → Reps K H M acc' (ea ++ es) → Qd H) :
    ∃ W : Nat → Nat → Hp → Prop, (∃ m, W 0 m Hs) ∧ ∀ i m H, W i m H →
      ((Itl K a).stop i H ∧ Qd H) ∨ ((Itl K a).go i H ∧ ∃ Nx : Hp → Prop, (∀ H', Nx H' → ∃ m', m' < m ∧ W (i + 1) m' H') ∧ ∀ x H', (Itl K a).yld i H x H' → tG K mg ts x (wipe σ vs) H' fun σ2 H2 => wipe σ2 vs = wipe σ vs ∧ tT K mt σ2 H2 fun b H3 =>
        if b = true then tE K me σ2 H3 fun y H4 => ∃ acc, H4 Dd = some (.lst acc) ∧ acc.length < sizeLine ∧ Nx (upd H4 Dd (.lst (acc ++ [y]))) else Nx H3) := by
  have hMs : Ms Dd := s.sub Dd (.inr rfl)
  have less : ∀ a, O a → wth O Dd a := fun a q => .inl q
  refine ⟨fun i m H => m = ds.length - i ∧ i ≤ ds.length ∧ ∃ ρb M acc' eb es', SR K H M (wth O Dd) π ρb (wipeA σ vs) ∧ Ext O Hs Ms H M ∧ H Dd = some (.lst acc') ∧ Reps K H M acc' eb ∧ cloop mg mt me vs (ds.drop i) ρb = some (es', ρ2) ∧ ea ++ es = eb ++ es',
    ⟨_, rfl, Nat.zero_le _, ρa, Ms, acc, ea, es, s, .refl (s.less less), hA, hR, e, rfl⟩, ?_⟩
  rintro i m H ⟨rfl, hi, ρb, M, acc', eb, es', sb, xb, hAb, hRb, eb', eq⟩
  have hHa : H a = some (.lst vl) := xb.keep a _ hH (.inl ha)
  have hrb : Reps K H M vl ds := hr.tr xb.tr
  by_cases hlt : i < ds.length
  · rw [List.drop_eq_getElem_cons hlt] at eb'
    have hd : ds[i]? = some ds[i] := List.getElem?_eq_getElem hlt
    refine .inr ⟨walk_list.goes i H (by rw [hrb.length]; exact hlt) (.inl (.inl hHa)), fun H' => ds.length - (i + 1) = ds.length - (i + 1) ∧ i + 1 ≤ ds.length ∧ ∃ ρb M acc' eb es', SR K H' M (wth O Dd) π ρb (wipeA σ vs) ∧ Ext O Hs Ms H' M ∧ H' Dd = some (.lst acc') ∧ Reps K H' M acc' eb ∧ cloop mg mt me vs (ds.drop (i + 1)) ρb = some (es', ρ2) ∧ ea ++ es = eb ++ es', fun H' w => ⟨_, by omega, w⟩, fun x H3 y => ?_⟩
    obtain ⟨s3, x3, r3⟩ : SR K H3 M (wth O Dd) π ρb (wipeA σ vs) ∧ Ext (wth O Dd) H M H3 M ∧ Rep K H3 M x ds[i] := by
      obtain ⟨v, hv, rv⟩ := hrb.get hd
      obtain ⟨y1, y2⟩ := walk_list.yields i H x H3 (by rw [hrb.length]; exact hlt) (.inl (.inl hHa)) y
      rw [hv] at y2; cases y2
      subst y1
      exact ⟨sb, .refl sb, rv⟩
    unfold cloop at eb'
    split at eb'
    · rename_i ρ3 e3
      rw [wipe_eq]
      refine ⟨ρb, M, wth O Dd, π, _, ρ3, s3, r3, e3, fun σ4 s4 fr ln => ?_⟩
      have hw : wipeA σ4 vs = wipeA σ vs := wipeA_ext (fun j hj => by rw [fr j (fun z => hj (hts j z)), wipeA_out hj]) (by rw [ln, wipeA_len])
      refine ⟨by rw [wipe_eq]; exact hw, ?_⟩
      split at eb'
      · rename_i ρ4 e4
        refine ⟨ρ3, M, wth O Dd, π, true, ρ4, s4, e4, fun H5 M5 x5 s5 => iteT ?_⟩
        split at eb'
        · rename_i pr ρ5 e5
          split at eb'
          · rename_i ee ρ6 e6
            split at eb'
            · rename_i es2 ρ7 e7
              cases eb'
              refine ⟨ρ4, M5, wth O Dd, π, pr, ρ5, s5, e5, fun v H6 M6 x6 s6 r6 => ?_⟩
              obtain ⟨M7, x7, s7, r7⟩ := frz_ok s6 r6 e6
              have xx : Ext (wth O Dd) H M H6 M7 := ((x3.trans x5).trans x6).trans x7
              have hA6 : H6 Dd = some (.lst acc') := xx.keep Dd _ hAb (.inl (.inr rfl))
              have hM7 : M7 Dd := s7.sub Dd (.inr rfl)
              have hl : acc'.length < sizeLine := by
                rw [hRb.length]
                have := congrArg List.length eq
                rw [List.length_append, List.length_append, List.length_cons] at this
                omega
              refine ⟨acc', hA6, hl, rfl, hlt, wipeA ρ6 vs, M7, acc' ++ [v], eb ++ [ee], es2, ?_, (xb.trans (xx.less less)).updM hMs hO, upd_same, ((hRb.tr xx.tr).append (.cons r7 .nil)).tr (upd_lat hM7), e7, ?_⟩
              · rw [← hw]; exact (s7.writeO hM7 (.inr rfl)).wipe vs
              · rw [eq, List.append_assoc]; rfl
            · cases eb'
          · cases eb'
        · cases eb'
      · rename_i ρ4 e4
        refine ⟨ρ3, M, wth O Dd, π, false, ρ4, s4, e4, fun H5 M5 x5 s5 => iteF ?_⟩
        have xx : Ext (wth O Dd) H M H5 M5 := x3.trans x5
        refine ⟨rfl, hlt, wipeA ρ4 vs, M5, acc', eb, es', ?_, xb.trans (xx.less less), xx.keep Dd _ hAb (.inl (.inr rfl)), hRb.tr xx.tr, eb', eq⟩
        rw [← hw]; exact s5.wipe vs
      · cases eb'
    · cases eb'
  · have ei : i = ds.length := by omega
    subst ei
    rw [List.drop_length] at eb'
    cases eb'
    rw [List.append_nil] at eq
    exact .inl ⟨by rw [← hrb.length]; exact walk_list.stops H (.inl (.inl hHa)), hq H M acc' xb sb hAb (by rw [eq]; exact hRb)⟩
/-- a comprehension over a name's own list, which stays its own -/
def mCompB (i : Nat) (mg : MG) (mt : MT) (me : ME) (vs : List Nat) : ME := fun ρ => match ρ[i]? with
  | some (some (.own .dic _)) => none
  | some (some (.own b ds)) => if (!vs.contains i && vsOk (ρ.set i none) vs) = true then match cloop mg mt me vs ds (wipeA (ρ.set i none) vs) with
    | some (es, ρ2) => if fits es.length = true then some (.val (.own .loc es), (restA ρ2 (ρ.set i none) vs).set i (some (.own b ds))) else none
    | none => none
    else none
  | _ => none
theorem lcB_read {K : PySem.W.Frag} {i : Nat} (hts : ∀ i ∈ ts, i ∈ vs) {σ : St} {H : Hp} {Q : VK} (h : tE K (mCompB i mg mt me vs) σ H Q) : tLc (iSeq K (tVar i)) (tG K mg ts) (tT K mt) (tE K me) vs σ H Q := by
  obtain ⟨ρ, M, O, π, pr, ρ', h, e, q⟩ := h
  unfold mCompB at e
  split at e
  · cases e
  · rename_i b ds hne0 e0
    split at e
    · rename_i ok'
      rw [Bool.and_eq_true] at ok'
      have ok := ok'.2
      split at e
      · rename_i es ρ2 e2
        split at e
        · rename_i hz
          cases e
          obtain ⟨a, vl, f1, f2, f3, f4, f5, f6⟩ := h.ownL e0 (isL_of hne0)
          have s0 := h.lend e0 f1 f3
          refine ⟨.ref a, f1, a, rfl, .inl ⟨⟨vl, .inl (.inl f2)⟩, fun Dd hD => ?_⟩⟩
          have hne : a ≠ Dd := fun z => by rw [z, hD] at f2; cases f2
          have hO : ¬ wth O a Dd := fun z => z.elim (fun z => h.live Dd (h.sub Dd z) hD) fun z => hne z.symm
          refine creadB (ea := []) (vl := vl) hts (.inr rfl) (by rw [upd_ne hne]; exact f2) (f5.tr (alloc_tr_own h hD)) (comp_start s0 hD vs) hO upd_same .nil (by have := fits_le hz; simpa using this) e2 fun H2 M2 acc x2 s2 hA hR => ?_
          obtain ⟨y1, y2, y3⟩ := comp_end s0 hD ok x2 s2 hA hR
          have g1 : H2 a = some (.lst vl) := y1.keep a _ f2 (.inl (.inr rfl))
          have g2 : M2 a := y1.sub a (.inr rfl)
          obtain ⟨p, ws, k1, k2, k3, k4, k5, k6⟩ := y3
          refine q _ H2 M2 (y1.less fun x z => .inl z) (y2.back (isL_of hne0) f1 g1 g2 f4 (f5.tr y1.tr) f6) ⟨p, ws, k1, k2, k3, fun z => k4 (.inl z), k5, fun j c fs z1 z2 => ?_⟩
          rcases get_set z1 with ⟨rfl, _⟩ | ⟨_, z1⟩
          · rw [f1] at z2; cases z2
            exact k4 (.inr rfl)
          · exact k6 j c fs z1 z2
        · cases e
      · cases e
    · cases e
  · cases e
end
section
variable {X : Cx} {elt tg iter : Expr} {ifs : List Expr} {scope : Scope} {own : List (Str × Nat)} {pos : Pos} {mg : MG} {mt : MT} {me : ME} {ts : List Nat}
theorem de_lcB {j : Nat} (hc : X.calm = true) (hN : X.N.Nodup) (hi : PE X iter (tVar j)) (ok : BlkOk X.N X.env.scope scope own) (hg : Bk X scope fun Y => DG Y tg mg ts) (ht : Bk X scope fun Y => DTs Y ifs mt) (he : Bk X scope fun Y => DE Y elt me)
    (hts : ∀ i ∈ ts, i ∈ own.map (·.2)) (hs : ∀ x, foldedSetIterable iter X.env x = pure x := by intro _; rfl) : DE X (.ListComp elt [⟨tg, iter, ifs, 0⟩] scope pos) (mCompB j mg mt me (own.map (·.2))) :=
  PE.imp (pe_lc (wi := iSeq X.K (tVar j)) (g := tG X.K mg ts) (tt := tT X.K mt) (te := tE X.K me) hc hN (pi_seq hi) ok hg ht he hs) fun σ H Q h => lcB_read hts h
theorem ds_setLcB {i j : Nat} {y : Str} {py spos : Pos} (hc : X.calm = true) (hN : X.N.Nodup) (hy : X.N[i]? = some y) (hyl : X.env.scope.names.lookup y = some .local)
    (hsw : swapsWith (.ListComp elt [⟨tg, iter, ifs, 0⟩] scope pos) (some (.Name y py)) spos.line X.env = pure true) (hi : PE X iter (tVar j)) (ok : BlkOk X.N X.env.scope scope own) (hg : Bk X scope fun Y => DG Y tg mg ts) (ht : Bk X scope fun Y => DTs Y ifs mt) (he : Bk X scope fun Y => DE Y elt me)
    (hts : ∀ i ∈ ts, i ∈ own.map (·.2)) (hs : ∀ x, foldedSetIterable iter X.env x = pure x := by intro _; rfl) : DS X (.Assign [.Name y py] (.ListComp elt [⟨tg, iter, ifs, 0⟩] scope pos) spos) (mSet i (mCompB j mg mt me (own.map (·.2)))) :=
  PS.imp (ps_setLc (wi := iSeq X.K (tVar j)) (g := tG X.K mg ts) (tt := tT X.K mt) (te := tE X.K me) hc hN hy hyl hsw (pi_seq hi) ok hg ht he hs) fun D σ H ⟨ρ, M, O, π, fl, ρ', h, e, q⟩ => by
    unfold mSet at e
    split at e
    · rename_i pr ρ1 e1
      split at e
      · rename_i ρ2 e2
        cases e
        refine lcB_read (K := X.K) hts ⟨ρ, M, O, π, pr, ρ1, h, e1, fun v H1 M1 x1 s1 r1 => ?_⟩
        obtain ⟨M2, x2, s2⟩ := put_ok s1 r1 e2
        exact q _ H1 M2 (x1.trans x2) s2
      · cases e
    · cases e
end
end Vi

namespace Vi
open PySem PySem.Spec PyProof.Rows L2
section
variable {X : Cx}
/-! ### a tuple some times -/
def dMulT : D → D → Option Sv
  | .tuple ds, .int k => if (!ds.isEmpty && decide (2 ≤ k) && decide (k ≤ 1000) && decide (ds.length ≤ 1000)) = true then some (.imm (.tuple (List.replicate k.toNat ds).flatten)) else none
  | a, b => dMul a b
theorem op_mulT : OpR X (binaryOp .Mult) (fun x y H Q => rMul x y H Q ∨ rRepT X.K x y H Q) := op_mulA.or op_repT
theorem os_mulT : OpS X (fun x y H Q => rMul x y H Q ∨ rRepT X.K x y H Q) dMulT := by
  intro H M O π ρ σ v1 v2 d1 d2 res Q h r1 r2 e q
  unfold dMulT at e
  split at e
  · rename_i ds k
    split at e
    · rename_i hz
      cases e
      rw [Bool.and_eq_true, Bool.and_eq_true, Bool.and_eq_true] at hz
      obtain ⟨a, vs, rfl, rd, rs⟩ := r1.inT
      cases r2.inI
      refine .inr ⟨a, k, vs, rfl, rfl, rd.sq, fun z => ?_, of_decide_eq_true hz.1.1.2, of_decide_eq_true hz.1.2, by rw [rs.length]; exact of_decide_eq_true hz.2, fun p hp => Post.tup q h (rs.rep k.toNat) hp⟩
      have hl := rs.length
      rw [z] at hl
      have : ds = [] := List.length_eq_zero_iff.mp hl.symm
      rw [this] at hz
      exact absurd hz.1.1.1 (by decide)
    · cases e
  · exact .inl (os_mul h r1 r2 e q)
end
end Vi

namespace Vi
open PySem PySem.Spec PyProof.Rows L2
/-! sorted(set(x)) of pairs of small counts -/
def prOf : D → Option (Int × Int)
  | .tuple [.int a, .int b] => if decide (0 ≤ a ∧ a < 64 ∧ 0 ≤ b ∧ b < 64) = true then some (a, b) else none
  | _ => none
def prsOf : List D → Option (List (Int × Int))
  | [] => some []
  | d :: ds => match prOf d, prsOf ds with
    | some p, some ps => some (p :: ps)
    | _, _ => none
def cd (p : Int × Int) : Int := p.1 * 64 + p.2
def insP (x : Int × Int) : List (Int × Int) → List (Int × Int)
  | [] => [x]
  | y :: ys => if cd x < cd y then x :: y :: ys else if cd x = cd y then y :: ys else y :: insP x ys
def setP (ps : List (Int × Int)) : List (Int × Int) := ps.foldr insP []
def toP (p : Int × Int) : D := .tuple [.int p.1, .int p.2]
def dSortSet : D → Option Sv
  | .list ds => match prsOf ds with
    | some ps => if decide (ps.length < 64) = true then some (.own .loc ((setP ps).map toP)) else none
    | none => none
  | _ => none
/-! strictly ascending -/
def Asc (ps : List (Int × Int)) : Prop := ps.Pairwise fun p q => cd p < cd q
theorem ins_mem {x y : Int × Int} : ∀ {ps : List (Int × Int)}, y ∈ insP x ps → y = x ∨ y ∈ ps
  | [], h => .inl (List.mem_singleton.mp h)
  | z :: ps, h => by
    unfold insP at h
    split at h
    · exact (List.mem_cons.mp h)
    · split at h
      · exact .inr h
      · rcases List.mem_cons.mp h with h | h
        · exact .inr (by rw [h]; exact List.mem_cons_self ..)
        · rcases ins_mem h with h | h
          · exact .inl h
          · exact .inr (List.mem_cons_of_mem _ h)
theorem ins_asc {x : Int × Int} : ∀ {ps : List (Int × Int)}, Asc ps → Asc (insP x ps)
  | [], _ => List.pairwise_singleton ..
  | z :: ps, h => by
    have h1 := List.pairwise_cons.mp h
    unfold insP
    split
    · rename_i c
      exact List.pairwise_cons.mpr ⟨fun y hy => by
        rcases List.mem_cons.mp hy with rfl | hy
        · exact c
        · have := h1.1 y hy; omega, h⟩
    · split
      · exact h
      · exact List.pairwise_cons.mpr ⟨fun y hy => by
          rcases ins_mem hy with rfl | hy
          · omega
          · exact h1.1 y hy, ins_asc h1.2⟩
theorem set_asc : ∀ ps, Asc (setP ps)
  | [] => List.Pairwise.nil
  | x :: ps => ins_asc (set_asc ps)
theorem ins_has {x : Int × Int} : ∀ {ps : List (Int × Int)}, (∃ y ∈ insP x ps, cd y = cd x) ∧ ∀ y ∈ ps, y ∈ insP x ps
  | [] => ⟨⟨x, List.mem_singleton.mpr rfl, rfl⟩, fun _ h => by cases h⟩
  | z :: ps => by
    unfold insP
    split
    · exact ⟨⟨x, List.mem_cons_self .., rfl⟩, fun y hy => List.mem_cons_of_mem _ hy⟩
    · split
      · rename_i c
        exact ⟨⟨z, List.mem_cons_self .., c.symm⟩, fun y hy => hy⟩
      · obtain ⟨⟨y, h1, h2⟩, h3⟩ := ins_has (x := x) (ps := ps)
        refine ⟨⟨y, List.mem_cons_of_mem _ h1, h2⟩, fun w hw => ?_⟩
        rcases List.mem_cons.mp hw with rfl | hw
        · exact List.mem_cons_self ..
        · exact List.mem_cons_of_mem _ (h3 w hw)
theorem set_sub : ∀ {ps : List (Int × Int)} {y : Int × Int}, y ∈ setP ps → y ∈ ps
  | [], _, h => by cases h
  | x :: ps, y, h => by
    rcases ins_mem (show y ∈ insP x (setP ps) from h) with rfl | h
    · exact List.mem_cons_self ..
    · exact List.mem_cons_of_mem _ (set_sub h)
theorem set_all : ∀ {ps : List (Int × Int)} {y : Int × Int}, y ∈ ps → ∃ z ∈ setP ps, cd z = cd y
  | x :: ps, y, h => by
    rcases List.mem_cons.mp h with rfl | h
    · exact ins_has.1
    · obtain ⟨z, h1, h2⟩ := set_all h
      exact ⟨z, ins_has.2 z h1, h2⟩
/-- two that ascend and have the same codes are equal, where the code tells the pair -/
theorem asc_eq : ∀ {ps qs : List (Int × Int)}, Asc ps → Asc qs → (∀ p ∈ ps, p ∈ qs) → (∀ q ∈ qs, q ∈ ps) → ps = qs
  | [], [], _, _, _, _ => rfl
  | [], q :: qs, _, _, _, h => absurd (h q (List.mem_cons_self ..)) (List.not_mem_nil)
  | p :: ps, [], _, _, h, _ => absurd (h p (List.mem_cons_self ..)) (List.not_mem_nil)
  | p :: ps, q :: qs, h1, h2, h3, h4 => by
    have a1 := List.pairwise_cons.mp h1
    have a2 := List.pairwise_cons.mp h2
    have e : p = q := by
      rcases List.mem_cons.mp (h3 p (List.mem_cons_self ..)) with e | e
      · exact e
      · rcases List.mem_cons.mp (h4 q (List.mem_cons_self ..)) with f | f
        · exact f.symm
        · have := a2.1 p e; have := a1.1 q f; omega
    subst e
    rw [asc_eq a1.2 a2.2 (fun x hx => by
      rcases List.mem_cons.mp (h3 x (List.mem_cons_of_mem _ hx)) with rfl | e
      · have := a1.1 x hx; omega
      · exact e) fun x hx => by
      rcases List.mem_cons.mp (h4 x (List.mem_cons_of_mem _ hx)) with rfl | e
      · have := a2.1 x hx; omega
      · exact e]
def Bp (p : Int × Int) : Prop := (0 ≤ p.1 ∧ p.1 < 64) ∧ (0 ≤ p.2 ∧ p.2 < 64)
theorem cd_inj {p q : Int × Int} (hp : Bp p) (hq : Bp q) (h : cd p = cd q) : p = q := by
  obtain ⟨a, b⟩ := p
  obtain ⟨c, d⟩ := q
  obtain ⟨⟨h1, h2⟩, h3, h4⟩ := hp
  obtain ⟨⟨h5, h6⟩, h7, h8⟩ := hq
  simp only [cd] at *
  have : a = c := by omega
  have : b = d := by omega
  subst_vars
  rfl
theorem pr_of {d : D} {p : Int × Int} (h : prOf d = some p) : d = toP p ∧ Bp p := by
  unfold prOf at h
  split at h
  · split at h
    · rename_i a b c
      cases h
      have := of_decide_eq_true c
      exact ⟨rfl, ⟨this.1, this.2.1⟩, this.2.2.1, this.2.2.2⟩
    · cases h
  · cases h
theorem prs_of : ∀ {ds : List D} {ps : List (Int × Int)}, prsOf ds = some ps → ds = ps.map toP ∧ ∀ p ∈ ps, Bp p
  | [], ps, h => by cases h; exact ⟨rfl, fun _ h => by cases h⟩
  | d :: ds, ps, h => by
    unfold prsOf at h
    split at h
    · rename_i p qs h1 h2
      cases h
      obtain ⟨e1, b1⟩ := pr_of h1
      obtain ⟨e2, b2⟩ := prs_of h2
      refine ⟨by rw [List.map_cons, ← e1, ← e2], fun x hx => ?_⟩
      rcases List.mem_cons.mp hx with rfl | hx
      · exact b1
      · exact b2 x hx
    · cases h
def ls (p : Int × Int) : List Int := [p.1, p.2]
theorem ls_inj {p q : Int × Int} (h : ls p = ls q) : p = q := by
  obtain ⟨a, b⟩ := p
  obtain ⟨c, d⟩ := q
  simp only [ls, List.cons.injEq] at h
  rw [h.1, h.2.1]
theorem reps_prs {K : PySem.W.Frag} {H : Hp} {M : Mset} : ∀ {ps : List (Int × Int)} {vs : List V}, Reps K H M vs (ps.map toP) → ∃ ks : List (Addr × List Int), vs = ks.map (fun p => V.ref p.1) ∧ ks.map (·.2) = ps.map ls ∧ ∀ p ∈ ks, TupAt K H M p.1 (p.2.map V.int)
  | [], _, .nil => ⟨[], rfl, rfl, fun _ h => by cases h⟩
  | p :: ps, _, .cons h r => by
    obtain ⟨ks, h1, h2, h3⟩ := reps_prs r
    obtain ⟨a, b⟩ := p
    cases h with
    | @tup ad xs ds ht hr =>
      cases hr with
      | cons q1 hr =>
        cases hr with
        | cons q2 hr =>
          cases hr
          cases q1
          cases q2
          refine ⟨(ad, [a, b]) :: ks, by rw [h1]; rfl, by rw [List.map_cons, List.map_cons, h2]; rfl, fun p hp => ?_⟩
          rcases List.mem_cons.mp hp with rfl | hp
          · exact ht
          · exact h3 p hp
theorem reps_of {K : PySem.W.Frag} {H : Hp} {M : Mset} : ∀ {ks : List (Addr × List Int)} {ps : List (Int × Int)}, ks.map (·.2) = ps.map ls → (∀ p ∈ ks, TupAt K H M p.1 (p.2.map V.int)) → Reps K H M (ks.map fun p => V.ref p.1) (ps.map toP)
  | [], [], _, _ => .nil
  | [], p :: ps, h, _ => by simp at h
  | k :: ks, [], h, _ => by simp at h
  | k :: ks, p :: ps, h, hk => by
    rw [List.map_cons, List.map_cons] at h
    injection h with h1 h2
    have hk1 := hk k (List.mem_cons_self ..)
    rw [h1] at hk1
    exact .cons (.tup hk1 (.cons (.int _) (.cons (.int _) .nil))) (reps_of h2 fun q hq => hk q (List.mem_cons_of_mem _ hq))
section
variable {X : Cx}
def rSS (X : Cx) (v : V) (H : Hp) (Q : VK) : Prop := rSetOfT X.K X.prog X.w [v] H fun v2 H2 => rSortedT X.K X.prog X.w [v2] H2 Q
theorem us_sortset : UnS X (rSS X) dSortSet := by
  intro H M O π ρ σ v1 d1 res Q h r1 e q
  unfold dSortSet at e
  split at e
  · rename_i ds
    split at e
    · rename_i ps hps
      split at e
      · rename_i hl
        cases e
        have hl := of_decide_eq_true hl
        obtain ⟨hds, hb⟩ := prs_of hps
        subst hds
        obtain ⟨a, vs, rfl, rd, rs⟩ := r1.inL
        obtain ⟨ks, rfl, hk2, hk3⟩ := reps_prs rs
        have hkl : ks.length = ps.length := by
          have := congrArg List.length hk2
          rwa [List.length_map, List.length_map] at this
        refine ⟨a, ks, rfl, .inl rd, fun p hp => (hk3 p hp).sq, by omega, fun b L hbn hs1 hs2 => ?_⟩
        have tr := (Ext.alloc h (o := SetTO X.prog X.w b L) hbn).tr
        have h2 := h.alloc (o := SetTO X.prog X.w b L) hbn
        have tt : ∀ {x : Addr} {us : List V}, TupAt X.K H M x us → TupAt X.K (upd H b (SetTO X.prog X.w b L)) M x us := fun t => by
          rcases t with ⟨t, n⟩ | t
          · exact .inl (tr _ _ t n)
          · exact .inr t
        have hLs : ∀ p ∈ L, ∃ w ∈ ps, p.2 = ls w := fun p hp => by
          have hm : p.2 ∈ ks.map (·.2) := List.mem_map.mpr ⟨p, hs1 p hp, rfl⟩
          rw [hk2] at hm
          obtain ⟨w, hw, e⟩ := List.mem_map.mp hm
          exact ⟨w, hw, e.symm⟩
        refine ⟨b, L, 2, 64, rfl, upd_same, fun p hp => (tt (hk3 p (hs1 p hp))).sq, by decide, fun p hp => ?_, fun L' p pm nd hf pw hp => ?_⟩
        · obtain ⟨w, hw, e⟩ := hLs p hp
          rw [e]
          refine ⟨rfl, fun m hm => ?_⟩
          have := hb w hw
          simp only [ls, List.mem_cons, List.not_mem_nil, or_false] at hm
          rcases hm with rfl | rfl
          · exact this.1
          · exact this.2
        · obtain ⟨qs, hqs⟩ : ∃ qs : List (Int × Int), L'.map (·.2) = qs.map ls ∧ ∀ w ∈ qs, w ∈ ps := by
            have : ∀ L0 : List (Addr × List Int), (∀ p ∈ L0, p ∈ L) → ∃ qs : List (Int × Int), L0.map (·.2) = qs.map ls ∧ ∀ w ∈ qs, w ∈ ps := by
              intro L0
              induction L0 with
              | nil => intro _; exact ⟨[], rfl, fun _ h => by cases h⟩
              | cons k L0 ih =>
                intro hh
                obtain ⟨qs, e1, e2⟩ := ih fun p hp => hh p (List.mem_cons_of_mem _ hp)
                obtain ⟨w, hw, e⟩ := hLs k (hh k (List.mem_cons_self ..))
                refine ⟨w :: qs, by rw [List.map_cons, List.map_cons, e1, e], fun x hx => ?_⟩
                rcases List.mem_cons.mp hx with rfl | hx
                · exact hw
                · exact e2 x hx
            exact this L' fun p hp => pm.mem_iff.mp hp
          obtain ⟨hq1, hq2⟩ := hqs
          have hcode : ∀ w : Int × Int, TS.code 64 (ls w) = cd w := fun w => code_pair w.1 w.2
          have hasc : Asc qs := by
            have p1 : (qs.map ls).Pairwise fun x y => TS.code 64 x ≤ TS.code 64 y := by
              rw [← hq1, List.pairwise_map]
              exact pw
            have p2 : (qs.map ls).Pairwise (· ≠ ·) := by rw [← hq1]; exact nd
            rw [List.pairwise_map] at p1 p2
            refine (p1.and p2).imp_of_mem fun {x y} hx hy hxy => ?_
            have c := hxy.1
            rw [hcode, hcode] at c
            have : cd x ≠ cd y := fun z => hxy.2 (by rw [cd_inj (hb x (hq2 x hx)) (hb y (hq2 y hy)) z])
            omega
          have hsame : qs = setP ps := asc_eq hasc (set_asc ps) (fun x hx => by
              obtain ⟨z, z1, z2⟩ := set_all (hq2 x hx)
              rw [← cd_inj (hb z (set_sub z1)) (hb x (hq2 x hx)) z2]
              exact z1) fun x hx => by
              have h1 : ls x ∈ ks.map (·.2) := by rw [hk2]; exact List.mem_map.mpr ⟨x, set_sub hx, rfl⟩
              obtain ⟨k, hk, e⟩ := List.mem_map.mp h1
              have h2 : ls x ∈ L.map (·.2) := by rw [← e]; exact hs2 k hk
              have h3 : ls x ∈ L'.map (·.2) := ((pm.map (·.2)).mem_iff).mpr h2
              rw [hq1] at h3
              obtain ⟨w, hw, e⟩ := List.mem_map.mp h3
              rw [← ls_inj e]
              exact hw
          have rr : Reps X.K (upd H b (SetTO X.prog X.w b L)) M (L'.map fun p => V.ref p.1) (qs.map toP) := reps_of hq1 fun p hp => tt (hk3 p (hs1 p (pm.mem_iff.mp hp)))
          rw [hsame] at rr
          have q2 : Post X.K (upd H b (SetTO X.prog X.w b L)) M O π ρ σ (.own .loc ((setP ps).map toP)) Q := fun v H' M' x s r => q v H' M' ((Ext.alloc h (o := SetTO X.prog X.w b L) hbn).trans x) s r
          exact q2.lst h2 rr hp
      · cases e
    · cases e
  · cases e
variable {a : Expr} {ma : ME}
theorem de_sortset {x y : Str} {p1 p2 pos1 pos2 : Pos} {f : D → Option Sv} (hcS : CallR X (.type "set") (rSetOfT X.K X.prog X.w)) (hcT : CallR X (.builtin "sorted") (rSortedT X.K X.prog X.w)) (hs : UnS X (rSS X) f)
    (hg1 : Gl X x) (hm1 : X.mg x = none) (hv1 : bootBuiltins x = some (.builtin "sorted")) (hg2 : Gl X y) (hm2 : X.mg y = none) (hv2 : bootBuiltins y = some (.type "set")) (ha : DE X a ma)
    (hn1 : x ≠ "__name__" := by decide) (hd1 : (x == ("__debug__" : Str)) = false := by decide) (hn2 : y ≠ "__name__" := by decide) (hd2 : (y == ("__debug__" : Str)) = false := by decide)
    (he2 : starEach (a :: []) X.env = (false, eval a X.env) :: starEach [] X.env := by rfl) (hpl2 : (PySem.backTo pos2 (starEach [] X.env)).any (·.1) = false := by rfl)
    (he1 : starEach (.Call (.Name y p2) [a] [] pos2 :: []) X.env = (false, eval (.Call (.Name y p2) [a] [] pos2) X.env) :: starEach [] X.env := by rfl) (hpl1 : (PySem.backTo pos1 (starEach [] X.env)).any (·.1) = false := by rfl) :
    DE X (.Call (.Name x p1) [.Call (.Name y p2) [a] [] pos2] [] pos1) (un f ma) :=
  PE.imp (pe_callB hcT hg1 hm1 hv1 (pa_cons (pe_callTy hcS hg2 hm2 hv2 (pa_cons ha pa_nil he2) hn2 hd2 he2 hpl2) pa_nil he1) hn1 hd1 he1 hpl1) fun σ H Q h => tE_un hs h
end
end Vi

namespace Vi
open PySem PySem.Spec PyProof.Rows L2
section
variable {X : Cx}
/-- sorted(x) of data, or of a list of one item at most -/
def rSortW (K : PySem.W.Frag) : List V → Hp → VK → Prop := fun vs H Q => rSortD K vs H Q ∨ ∃ (a : Addr) (xs : List V), vs = [.ref a] ∧ SqL K H a xs ∧ xs.length ≤ 1 ∧ ∀ p, H p = none → Q (.ref p) (upd H p (.lst xs))
theorem perm_one {α : Type} {l m : List α} (h : l.Perm m) (hm : m.length ≤ 1) : l = m := by
  match m, hm with
  | [], _ => exact h.eq_nil
  | [x], _ => exact List.perm_singleton.mp h
theorem cr_sortW (hu : X.A.units + 70 < cLine) : CallR X (.builtin "sorted") (rSortW X.K) := by
  intro pins s σ H vs us Q I r h
  rcases h with h | ⟨a, xs, rfl, hs, hl, q⟩
  · exact cr_sortD hu pins s σ H vs us Q I r h
  · obtain ⟨its, rv, hls, hz⟩ := I.list hs
    rw [Vals.ref1 r]
    have hlen : its.length = xs.length := rv.length.symm
    refine Srt.sorted_any (vs := its) (by simpa using hls.isList) (by rw [hlen]; exact hz) (fun h2 => absurd h2 (by omega)) fun out ho => ?_
    have e : out = its := perm_one ho (by omega)
    subst e
    obtain ⟨ep, he'⟩ := PyProof.Rows.sortedAll_at s.heap out out.toArray
    have hfit : xs.length ≤ sizeLine := hz
    exact ⟨.ref _, upd H (s.heap.objs.size + 1) (.lst xs), I.laid (t' := s.toks) (fun _ _ => PyProof.Rows.sortedAll_old) (Nat.le_succ _) ⟨hfit, out, ep, rv, he'⟩, rfl, q _ (I.hok.fresh (Nat.le_succ _))⟩
def dSortW : D → Option Sv
  | .list ds => if sortOk ds = true then some (.own .loc (sortD ds)) else if decide (ds.length ≤ 1) = true then some (.own .loc ds) else none
  | d => dSort d
theorem us_sortW : UnS X (fun v H Q => rSortW X.K [v] H Q) dSortW := by
  intro H M O π ρ σ v1 d1 res Q h r1 e q
  unfold dSortW at e
  split at e
  · rename_i ds
    split at e
    · rename_i hz
      exact .inl (us_sort h r1 (show (if sortOk ds = true then some (Sv.own .loc (sortD ds)) else none) = some res by rw [if_pos hz]; exact e) q)
    · split at e
      · rename_i hl
        cases e
        have hl := of_decide_eq_true hl
        obtain ⟨a, vs, rfl, rd, rs⟩ := r1.inL
        have q2 : Post X.K H M O π ρ σ (.own .loc ds) Q := q
        exact .inr ⟨a, vs, rfl, .inl rd, by rw [rs.length]; exact hl, fun p hp => q2.lst h rs hp⟩
      · cases e
  · exact .inl (us_sort h r1 e q)
end
end Vi

namespace Vi
open PySem PySem.Spec PyProof.Rows L2
/-! ### a tuple any number of times -/
theorem rep_same (at0 : Addr) (vs : Array Value) (en : Nat) (td : Option Addr) (ts : Array (Option Value)) (k : Int) (tk0 : Tok)
    (big : (decide (k < -(2 ^ 63)) || decide (k ≥ 2 ^ 63)) = false) (one : (vs.isEmpty || k == 1) = true) :
    Meets (Builtin.«tuple.__mul__» ⟨[.ref at0, .int k tk0], []⟩) (fun _ R s => s.heap.get? at0 = some { cls := .type "tuple", dict := td, data := .seq vs en, slots := ts } ∧ R (.ok (.ret (Value.ref at0))) s) :=
  .of_wp fun prog w A R s ⟨hat, k1⟩ => by
    obtain ⟨s1, s2, s3, s4, s5⟩ := s
    have ix := AutoSeq1.idx_int
    wp_walk using wpAny_loadPart' hat
    repeat (first
      | (refine wpAny_ite_false (decide_eq_false (by rw [big]; decide)) ?_; wp_walk using wpAny_loadPart' hat)
      | (refine wpAny_ite_true (decide_eq_true one) ?_; wp_walk using wpAny_loadPart' hat))
    all_goals (first | exact ⟨_, rfl, k1⟩ | exact k1 | skip)
theorem rep_none (at0 : Addr) (vs : Array Value) (en : Nat) (td : Option Addr) (ts : Array (Option Value)) (k : Int) (tk0 : Tok)
    (big : (decide (k < -(2 ^ 63)) || decide (k ≥ 2 ^ 63)) = false) (one : (vs.isEmpty || k == 1) = false) (low : (decide (k ≤ 0) || vs.isEmpty) = true) :
    Meets (Builtin.«tuple.__mul__» ⟨[.ref at0, .int k tk0], []⟩) (fun _ R s => s.heap.get? at0 = some { cls := .type "tuple", dict := td, data := .seq vs en, slots := ts } ∧
      R (.ok (.ret (Value.ref s.heap.objs.size))) { s with heap := s.heap.push { cls := Value.type "tuple", data := Data.seq #[] }, toks := s.toks }) :=
  .of_wp fun prog w A R s ⟨hat, k1⟩ => by
    obtain ⟨s1, s2, s3, s4, s5⟩ := s
    have ix := AutoSeq1.idx_int
    wp_walk using wpAny_loadPart' hat
    repeat (first
      | (refine wpAny_ite_false (decide_eq_false (by rw [big]; decide)) ?_; wp_walk using wpAny_loadPart' hat)
      | (refine wpAny_ite_false (decide_eq_false (by rw [one]; decide)) ?_; wp_walk using wpAny_loadPart' hat)
      | (refine wpAny_ite_true (decide_eq_true low) ?_; wp_walk using wpAny_loadPart' hat))
    all_goals (first | exact ⟨_, rfl, k1⟩ | exact k1 | skip)
/-- tuple * k, no new tuple or the empty one -/
def rRepS (K : PySem.W.Frag) : R2 := fun x y H Q => ∃ l k xs, x = .ref l ∧ y = .int k ∧ SqT K H l xs ∧ -1000000 ≤ k ∧ k ≤ 1000000 ∧ (xs = [] ∨ k = 1) ∧ Q (.ref l) H
def rRep0 (K : PySem.W.Frag) : R2 := fun x y H Q => ∃ l k xs, x = .ref l ∧ y = .int k ∧ SqT K H l xs ∧ -1000000 ≤ k ∧ k ≤ 0 ∧ xs ≠ [] ∧ ∀ p, H p = none → Q (.ref p) (upd H p (.tup []))
section
variable {X : Cx}
theorem op_repS : OpR X (binaryOp .Mult) (rRepS X.K) := by
  intro pins s σ H x y v u Q I rx ry h
  obtain ⟨l, k, xs, rfl, rfl, hT, h1, h2, hor, q⟩ := h
  cases rx
  obtain ⟨t, rfl⟩ := ry
  obtain ⟨its, r, ⟨⟨cls, dd, data, sl⟩, ho, hc, n, hd⟩, hs⟩ := I.tuple hT
  simp only at hc hd
  subst hc hd
  have big : (decide (k < -(2 ^ 63)) || decide (k ≥ 2 ^ 63)) = false := by
    rw [Bool.or_eq_false_iff]; exact ⟨decide_eq_false (by omega), decide_eq_false (by omega)⟩
  have one : (its.toArray.isEmpty || k == 1) = true := by
    rcases hor with h | h
    · have : its = [] := List.eq_nil_of_length_eq_zero (by rw [← r.length, h]; rfl)
      rw [this]; rfl
    · rw [h]; simp
  refine wpAny_binaryOp_repeat_ref (T := "tuple") (U := "int") (by decide) ⟨_, ho, rfl⟩ (fun s' => typeIs_int s' k t) noFill_tuple_mul F.fills_int_mul F.slot_int_rmul repeat_tuple F.slot_int_index.lookup ?_
  refine call_meets F.slot_int_rmul (typeIs_int s k t) F.entry_int_rmul (F.args_int_rmul_2 _ _) (int_rmul_tuple k t l its.toArray n dd sl) ⟨ho, rfl, ⟨_, ho, rfl⟩, ?_⟩
  exact call_meets F.slot_tuple_mul ⟨_, ho, rfl⟩ F.entry_tuple_mul (F.args_tuple_mul_2 _ _) (rep_same l its.toArray n dd sl k t big one) ⟨ho, ⟨.ref l, H, I, rfl, q⟩⟩
theorem op_rep0 : OpR X (binaryOp .Mult) (rRep0 X.K) := by
  intro pins s σ H x y v u Q I rx ry h
  obtain ⟨l, k, xs, rfl, rfl, hT, h1, h2, hne, q⟩ := h
  cases rx
  obtain ⟨t, rfl⟩ := ry
  obtain ⟨its, r, ⟨⟨cls, dd, data, sl⟩, ho, hc, n, hd⟩, hs⟩ := I.tuple hT
  simp only at hc hd
  subst hc hd
  have big : (decide (k < -(2 ^ 63)) || decide (k ≥ 2 ^ 63)) = false := by
    rw [Bool.or_eq_false_iff]; exact ⟨decide_eq_false (by omega), decide_eq_false (by omega)⟩
  have one : (its.toArray.isEmpty || k == 1) = false := by
    have hk : (k == 1) = false := beq_eq_false_iff_ne.mpr (by omega)
    cases its with
    | nil => exact absurd (List.eq_nil_of_length_eq_zero (by rw [r.length]; rfl)) hne
    | cons a b => rw [hk]; rfl
  have low : (decide (k ≤ 0) || its.toArray.isEmpty) = true := by rw [decide_eq_true h2]; rfl
  refine wpAny_binaryOp_repeat_ref (T := "tuple") (U := "int") (by decide) ⟨_, ho, rfl⟩ (fun s' => typeIs_int s' k t) noFill_tuple_mul F.fills_int_mul F.slot_int_rmul repeat_tuple F.slot_int_index.lookup ?_
  refine call_meets F.slot_int_rmul (typeIs_int s k t) F.entry_int_rmul (F.args_int_rmul_2 _ _) (int_rmul_tuple k t l its.toArray n dd sl) ⟨ho, rfl, ⟨_, ho, rfl⟩, ?_⟩
  refine call_meets F.slot_tuple_mul ⟨_, ho, rfl⟩ F.entry_tuple_mul (F.args_tuple_mul_2 _ _) (rep_none l its.toArray n dd sl k t big one low) ⟨ho, ?_⟩
  exact ⟨.ref s.heap.objs.size, _, I.laid (t' := s.toks) (o := .tup []) (fun b ob q => Heap.get?_push_of_some _ q) (Nat.le_refl _) ⟨Nat.zero_le _, [], .nil, IsTup.new _ _⟩, rfl, q _ (I.hok.fresh (Nat.le_refl _))⟩
def dMulN : D → D → Option Sv
  | .tuple ds, .int k => if decide (-1000000 ≤ k ∧ k ≤ 1000000) = true then (if (ds.isEmpty || k == 1) = true then some (.imm (.tuple ds)) else if decide (k ≤ 0) = true then some (.imm (.tuple [])) else dMulT (.tuple ds) (.int k)) else none
  | a, b => dMul a b
abbrev rMulN (K : PySem.W.Frag) : R2 := fun x y H Q => (rMul x y H Q ∨ rRepT K x y H Q) ∨ rRepS K x y H Q ∨ rRep0 K x y H Q
theorem op_mulN : OpR X (binaryOp .Mult) (rMulN X.K) := op_mulT.or (op_repS.or op_rep0)
theorem os_mulN : OpS X (rMulN X.K) dMulN := by
  intro H M O π ρ σ v1 v2 d1 d2 res Q h r1 r2 e q
  unfold dMulN at e
  split at e
  · rename_i ds k
    split at e
    · rename_i hz
      have hz := of_decide_eq_true hz
      obtain ⟨a, vs, hv, rd, rs⟩ := r1.inT
      split at e
      · rename_i h1
        cases e
        have hr : Rep X.K H M v1 (.tuple ds) := r1
        cases r2.inI
        subst hv
        refine .inr (.inl ⟨a, k, vs, rfl, rfl, rd.sq, hz.1, hz.2, ?_, ?_⟩)
        · rw [Bool.or_eq_true] at h1
          rcases h1 with h1 | h1
          · exact .inl (List.eq_nil_of_length_eq_zero (by rw [rs.length, List.isEmpty_iff.mp h1]; rfl))
          · exact .inr (beq_iff_eq.mp h1)
        · exact Post.now q h hr
      · rename_i h1
        split at e
        · rename_i h2
          cases e
          cases r2.inI
          subst hv
          refine .inr (.inr ⟨a, k, vs, rfl, rfl, rd.sq, hz.1, of_decide_eq_true h2, fun z => h1 ?_, fun p hp => Post.tup q h .nil hp⟩)
          have hl := rs.length
          rw [z] at hl
          rw [List.length_eq_zero_iff.mp hl.symm]; rfl
        · exact .inl (os_mulT h r1 r2 e q)
    · cases e
  · exact .inl (.inl (os_mul h r1 r2 e q))
end
end Vi

namespace Vi
open PySem PySem.Spec PyProof.Rows L2
section
variable {X : Cx}
/-! ### max(a list of data) -/
def rMaxDL (K : PySem.W.Frag) : List V → Hp → VK → Prop := fun vs H Q => ∃ (a : Addr) (xs : List V) (d : D) (ds : List D), vs = [.ref a] ∧ SqL K H a xs ∧ DpAll K H xs (d :: ds) ∧ minOk (d :: ds) = true ∧ ∀ (i : Nat) (x : V), xs[i]? = some x → (d :: ds)[i]? = some (W.maxD d ds) → Q x H
theorem cr_maxDL (hc : X.calm = true) (hu : X.A.units + 70 < cLine) : CallR X (.builtin "max") (rMaxDL X.K) := by
  intro pins s σ H vs us Q I r h
  obtain ⟨a, xs, d, ds, rfl, hsq, hdp, hok, q⟩ := h
  rw [Vals.ref1 r]
  obtain ⟨its, rv, pl, hz⟩ := I.list hsq
  obtain ⟨as, hr⟩ := Dp.readsAll I (d :: ds) xs its hdp rv
  have hdep := minOk_dep hok
  refine W.max_list_data (I.ok.hd hc) pl.isList (show ReadsAll s.heap its.toArray.toList (d :: ds) as by simpa using hr) (minOk_al hok) (by omega) fun i v h' tk bs hv rd kp => ?_
  have hv' : its[i]? = some v := by simpa using hv
  obtain ⟨e, bs2, he, re⟩ := readsAll_i hr hv'
  have e1 := (Reads.unique (Reads.keeps kp re) _ _ rd).1
  subst e1
  have hl := rv.length
  have hi : i < xs.length := by
    have := (List.getElem?_eq_some_iff.mp hv').1
    omega
  obtain ⟨w, ew, rw'⟩ := rv.get (List.getElem?_eq_getElem hi)
  rw [hv'] at ew; cases ew
  exact ⟨_, H, I.kept (t' := tk) kp, rw', q i _ (List.getElem?_eq_getElem hi) he⟩
def dMaxL : D → Option Sv
  | .list (d :: ds) => if minOk (d :: ds) = true then some (.imm (W.maxD d ds)) else none
  | _ => none
theorem us_maxL : UnS X (fun v H Q => rMaxDL X.K [v] H Q) dMaxL := by
  intro H M O π ρ σ v1 d1 res Q h r1 e q
  unfold dMaxL at e
  split at e
  · split at e
    · rename_i hz
      cases e
      obtain ⟨a, vs, rfl, rd, rs⟩ := r1.inL
      refine ⟨a, vs, _, _, rfl, .inl rd, rs.dp (minOk_lay hz), hz, fun i x hx hd => ?_⟩
      obtain ⟨y, hy, ry⟩ := rs.get hd
      rw [hx] at hy; cases hy
      exact Post.now q h ry
    · cases e
  · cases e
end
end Vi

namespace Vi
open PySem PySem.Spec PyProof.Rows L2
/-! a name's own list, looked at and given back -/
def atomD : D → Bool
  | .none | .bool _ | .int _ | .str _ => true
  | _ => false
section
variable {K : PySem.W.Frag} {H H' : Hp} {M M' O : Mset} {π : Nat → Option Addr} {ρ ρ' : Fm} {σ : St} {v : V} {d : D}
theorem atom_rep (h : Rep K H M v d) (a : atomD d = true) : Rep K H' M' v d := by
  cases h with
  | non => exact .non
  | bl b => exact .bl b
  | int i => exact .int i
  | str x => exact .str x
  | lst _ _ _ => cases a
  | tup _ _ => cases a
  | scr _ _ => cases a
theorem atom_reps : ∀ {vs : List V} {ds : List D}, Reps K H M vs ds → ds.all atomD = true → Reps K H' M' vs ds
  | _, _, .nil, _ => .nil
  | _, _, .cons h r, a => by
    rw [List.all_cons, Bool.and_eq_true] at a
    exact .cons (atom_rep h a.1) (atom_reps r a.2)
def keep1 : Option Sv → Option Sv → Option Sv
  | some (.imm d), _ => some (.imm d)
  | some (.own _ _), some (.own b ds) => if ds.all atomD = true then some (.own b ds) else none
  | _, _ => none
def keepF (i : Nat) (ds : List D) (ρ ρ' : Fm) : Fm := (List.zipWith keep1 ρ ρ').set i (some (.own .loc ds))
theorem keepF_at {i j : Nat} {ds : List D} {s : Sv} (h : (keepF i ds ρ ρ')[j]? = some (some s)) : (j = i ∧ s = .own .loc ds) ∨ (j ≠ i ∧ ∃ x y, ρ[j]? = some x ∧ ρ'[j]? = some y ∧ keep1 x y = some s) := by
  unfold keepF at h
  rcases get_set h with ⟨h1, h2⟩ | ⟨h1, h2⟩
  · cases h2; exact .inl ⟨h1, rfl⟩
  · rw [List.getElem?_zipWith] at h2
    refine .inr ⟨h1, ?_⟩
    cases ex : ρ[j]? with
    | none => rw [ex] at h2; cases h2
    | some x =>
      cases ey : ρ'[j]? with
      | none => rw [ex, ey] at h2; cases h2
      | some y =>
        rw [ex, ey] at h2
        exact ⟨x, y, rfl, rfl, by injection h2⟩
theorem keep1_imm {x y : Option Sv} {d : D} (h : keep1 x y = some (.imm d)) : x = some (.imm d) := by
  match x, y, h with
  | some (.imm e), _, h => unfold keep1 at h; exact h
  | some (.own _ _), some (.own b ds), h => unfold keep1 at h; simp only at h; split at h <;> cases h
  | some (.own _ _), some (.imm _), h => unfold keep1 at h; cases h
  | some (.own _ _), none, h => unfold keep1 at h; cases h
  | none, _, h => unfold keep1 at h; cases h
theorem keep1_own {x y : Option Sv} {b : Kd} {ds : List D} (h : keep1 x y = some (.own b ds)) : y = some (.own b ds) ∧ ds.all atomD = true := by
  match x, y, h with
  | some (.imm e), _, h => unfold keep1 at h; cases h
  | some (.own _ _), some (.own c es), h =>
    unfold keep1 at h
    simp only at h
    split at h
    · cases h; exact ⟨rfl, by assumption⟩
    · cases h
  | some (.own _ _), some (.imm _), h => unfold keep1 at h; cases h
  | some (.own _ _), none, h => unfold keep1 at h; cases h
  | none, _, h => unfold keep1 at h; cases h
def mKeep (i : Nat) (me : ME) : ME := fun ρ => match ρ[i]? with
  | some (some (.own .loc ds)) => match me (ρ.set i (some (.imm (.list ds)))) with
    | some (.val (.imm d), ρ') => if (atomD d && decide (ρ'.length = ρ.length)) = true then some (.val (.imm d), keepF i ds ρ ρ') else none
    | _ => none
  | _ => none
theorem tE_keep {i : Nat} {me : ME} {Q : VK} (h : tE K (mKeep i me) σ H Q) : tE K me σ H Q := by
  obtain ⟨ρ, M, O, π, pr, ρ2, hs, e, q⟩ := h
  unfold mKeep at e
  split at e
  · rename_i ds hi
    obtain ⟨a, vl, f1, f2, f3, f4, f5, _⟩ := hs.own i _ ds hi
    have hz := hs.freeze hi f1 f2 f5 f4
    split at e
    · rename_i d ρ' em
      split at e
      · rename_i hc
        rw [Bool.and_eq_true, decide_eq_true_eq] at hc
        cases e
        refine ⟨_, wo M a, O, π, _, ρ', hz, em, fun v H' M' x s r => ?_⟩
        have t : ∀ y u, Rd H y u → ¬ M y → Rd H' y u ∧ ¬ wth M' a y := fun y u h1 h2 => by
          obtain ⟨h3, h4⟩ := x.tr y u h1 fun z => h2 z.1
          exact ⟨h3, fun z => z.elim h4 fun z => h2 (z ▸ f3)⟩
        have ha : H' a = some (.lst vl) := x.keep a _ f2 (.inr fun z => z.2 rfl)
        have hn : ¬ M' a := (x.tr a _ (.inl f2) fun z => z.2 rfl).2
        refine q v H' (wth M' a) ⟨fun y o h1 h2 => x.keep y o h1 (h2.imp id fun h3 z => h3 z.1), fun y h1 => .inl (x.sub y h1), fun y h1 => ?_⟩ ?_ (atom_rep r hc.1)
        · rcases h1 with h1 | rfl
          · exact (x.new y h1).imp (fun z => z.1) id
          · exact .inl f3
        · have hl : (keepF i ds ρ ρ').length = ρ.length := by
            unfold keepF
            rw [List.length_set, List.length_zipWith, hc.2, Nat.min_self]
          refine ⟨hl.trans hs.len, fun y h1 => .inl (s.sub y h1), fun y h1 => ?_, fun j d' h1 => ?_, fun j b es h1 => ?_, fun j k b c es gs y hjk h1 h2 h3 h4 => ?_⟩
          · rcases h1 with h1 | rfl
            · exact s.live y h1
            · rw [ha]; intro z; cases z
          · rcases keepF_at h1 with ⟨_, z⟩ | ⟨_, u, w, k1, _, k3⟩
            · cases z
            · obtain ⟨v', g1, g2⟩ := hs.imm j d' (by rw [k1, keep1_imm k3])
              exact ⟨v', g1, g2.tr t⟩
          · rcases keepF_at h1 with ⟨rfl, z⟩ | ⟨_, u, w, _, k2, k3⟩
            · cases z
              exact ⟨a, vl, f1, ha, .inr rfl, f4, f5.tr t, fun z => by cases z⟩
            · obtain ⟨k4, k5⟩ := keep1_own k3
              obtain ⟨y, ws, g1, g2, g3, g4, g5, g6⟩ := s.own j b es (by rw [k2, k4])
              exact ⟨y, ws, g1, g2, .inl g3, g4, atom_reps g5 k5, g6⟩
          · rcases keepF_at h1 with ⟨rfl, _⟩ | ⟨n1, u, w, _, k2, k3⟩
            · rcases keepF_at h2 with ⟨rfl, _⟩ | ⟨_, u', w', _, k2', k3'⟩
              · exact hjk rfl
              · obtain ⟨y', ws, g1, g2, g3, _⟩ := s.own k c gs (by rw [k2', (keep1_own k3').1])
                rw [h4] at g1; cases g1
                rw [f1] at h3; cases h3
                exact hn g3
            · obtain ⟨y', ws, g1, g2, g3, _⟩ := s.own j b es (by rw [k2, (keep1_own k3).1])
              rcases keepF_at h2 with ⟨rfl, _⟩ | ⟨_, u', w', _, k2', k3'⟩
              · rw [h3] at g1; cases g1
                rw [f1] at h4; cases h4
                exact hn g3
              · exact s.uniq j k b c es gs y hjk (by rw [k2, (keep1_own k3).1]) (by rw [k2', (keep1_own k3').1]) h3 h4
      · cases e
    · cases e
  · cases e
def mFz (i : Nat) (me : ME) : ME := fun ρ => match frz ρ (.slot i) with
  | some (_, ρ1) => me ρ1
  | none => none
theorem tE_fz {i : Nat} {me : ME} {Q : VK} (h : tE K (mFz i me) σ H Q) : tE K me σ H Q := by
  obtain ⟨ρ, M, O, π, pr, ρ2, hs, e, q⟩ := h
  unfold mFz at e
  split at e
  · rename_i d ρ1 hf
    have : ∃ v, σ[i]? = some (some v) := by
      unfold frz at hf
      simp only at hf
      split at hf
      · rename_i d' hd; exact hs.at hd
      · rename_i ds hd; exact hs.at hd
      · cases hf
    obtain ⟨v, hv⟩ := this
    obtain ⟨M', x, s, _⟩ := frz_ok hs (pr := .slot i) (v := v) hv hf
    exact ⟨ρ1, M', O, π, pr, ρ2, s, e, fun v2 H2 M2 x2 s2 r2 => q v2 H2 M2 (x.trans x2) s2 r2⟩
  · cases e
end
theorem de_keep {X : Cx} {e : Expr} {i : Nat} {me : ME} (h : DE X e me) : DE X e (mKeep i me) := PE.imp h fun _ _ _ q => tE_keep q
theorem de_fz {X : Cx} {e : Expr} {i : Nat} {me : ME} (h : DE X e me) : DE X e (mFz i me) := PE.imp h fun _ _ _ q => tE_fz q
end Vi

namespace Vi
open PySem PySem.Spec PyProof.Rows L2
/-! << and two comparisons in a row -/
def dShl : D → D → Option Sv
  | .int i, .int j => if powOk i j = true then some (.imm (.int (i * 2 ^ j.toNat))) else none
  | _, _ => none
theorem os_shl {X : Cx} : OpS X (rI CPow fun i j => .int (i * 2 ^ j.toNat)) dShl := by
  intro H M O π ρ σ v1 v2 d1 d2 res Q h r1 r2 e q
  unfold dShl at e
  split at e
  · split at e
    · rename_i hz
      cases e
      cases r1.inI; cases r2.inI
      unfold powOk at hz
      have hz' := of_decide_eq_true hz
      exact ⟨_, _, rfl, rfl, hz', Post.now q h (.int _)⟩
    · cases e
  · cases e
def mChain (f g : D → D → Option Sv) (ma mb mc : ME) : ME := fun ρ => match ma ρ with
  | some (.val (.imm a), ρ1) => match mb ρ1 with
    | some (.val (.imm b), ρ2) => match f a b with
      | some (.imm (.bool true)) => match mc ρ2 with
        | some (.val (.imm c), ρ3) => match g b c with
          | some r => some (.val r, ρ3)
          | none => none
        | _ => none
      | some (.imm (.bool false)) => some (.val (.imm (.bool false)), ρ2)
      | _ => none
    | _ => none
  | _ => none
theorem tE_chain {X : Cx} {f g : D → D → Option Sv} {r r' : R2} (hf : OpS X r f) (hg : OpS X r' g) {ma mb mc : ME} {σ : St} {H : Hp} {Q : VK} (h : tE X.K (mChain f g ma mb mc) σ H Q) : tChain r r' (tE X.K ma) (tE X.K mb) (tE X.K mc) σ H Q := by
  obtain ⟨ρ, M, O, π, pr, ρ', h0, e, q⟩ := h
  unfold mChain at e
  split at e
  · rename_i a ρ1 ea
    split at e
    · rename_i b ρ2 eb
      refine ⟨ρ, M, O, π, _, ρ1, h0, ea, fun v1 H1 M1 x1 s1 r1 => ?_⟩
      refine ⟨ρ1, M1, O, π, _, ρ2, s1, eb, fun v2 H2 M2 x2 s2 r2 => ?_⟩
      have r1' : Rep X.K H2 M2 v1 a := Rep.tr x2.tr r1
      split at e
      · rename_i ef
        refine hf s2 (.of r1') (.of r2) ef fun z H3 M3 x3 s3 r3 => ?_
        have r3' : Rep X.K H3 M3 z (.bool true) := r3
        cases r3'
        refine ⟨true, rfl, ?_⟩
        split at e
        · rename_i c ρ3 ec
          split at e
          · rename_i res eg
            cases e
            rw [if_pos rfl]
            refine ⟨ρ2, M3, O, π, _, _, s3, ec, fun v4 H4 M4 x4 s4 r4 => ?_⟩
            have r2' : Rep X.K H4 M4 v2 b := Rep.tr x4.tr (Rep.tr x3.tr r2)
            exact hg s4 (.of r2') (.of r4) eg fun v5 H5 M5 x5 s5 r5 => q v5 H5 M5 ((((x1.trans x2).trans x3).trans x4).trans x5) s5 r5
          · cases e
        · cases e
      · rename_i ef
        cases e
        refine hf s2 (.of r1') (.of r2) ef fun z H3 M3 x3 s3 r3 => ?_
        have r3' : Rep X.K H3 M3 z (.bool false) := r3
        cases r3'
        refine ⟨false, rfl, ?_⟩
        rw [if_neg (by decide)]
        exact q _ H3 M3 ((x1.trans x2).trans x3) s3 (.bl false)
      · cases e
    · cases e
  · cases e
theorem de_chain {X : Cx} {a b c : Expr} {ma mb mc : ME} {pos : Pos} {op op' : CmpOp} {r r' : R2} {f g : D → D → Option Sv} (ho : OpR X (compareOp op) r) (hs : OpS X r f) (ho' : OpR X (compareOp op') r') (hs' : OpS X r' g) (ha : DE X a ma) (hb : DE X b mb) (hc : DE X c mc)
    (hm : lastMarks [op, op'] [b, c] = false := by with_unfolding_all rfl) : DE X (.Compare a [op, op'] [b, c] pos) (mChain f g ma mb mc) :=
  PE.imp (pe_chain ho ho' ha hb hc hm) fun _ _ _ q => tE_chain hs hs' q
end Vi

namespace L2
open PySem PySem.Spec PyProof.Rows
section
variable {P : Program} {w : World} {A : Around} {E : Value → Shared → Prop} {s : Shared}
abbrev bare (w : World) : Obj := { cls := .type "set", dict := none, data := .set #[] 0 (.fresh 0 0 (!w.params.followText "set-order")) }
/-- what __init__ of a new set leaves, handed a list -/
def Filled (w : World) (s : Shared) (ns : List Int) (r : Value) (s2 : Shared) : Prop :=
  r = .none ∧ ∃ h' tk c, s2 = { s with heap := h', toks := tk } ∧ SetR w h' s.heap.objs.size (fun j => decide (j ∈ ns)) c ∧ c ≤ ns.length ∧ ∀ b o, s.heap.get? b = some o → h'.get? b = some o
theorem filled_list {l : Addr} {items : Array Value} {ns : List Int} (hA : A.handled = none) (hl : s.heap.IsList l items) (hi : IntsAre items.toList ns) (hb : ns.length + 1 < scanBound) :
    codeAny (model P w) A (.call (.builtin "set.__init__") ⟨[.ref s.heap.objs.size, .ref l], []⟩) (wants (Filled w s ns) E) { s with heap := s.heap.push (bare w) } := by
  have top : (s.heap.push (bare w)).get? s.heap.objs.size = some (bare w) := Heap.get?_push_size _ rfl
  have ty : Shared.TypeIs { s with heap := s.heap.push (bare w) } (.ref s.heap.objs.size) "set" := ⟨_, top, rfl⟩
  refine codeAny_call_builtin F.called_set.init.plain F.entry_set_init (check_set_init_1 ty ?_)
  obtain ⟨⟨k, dd, dt, sl⟩, at_l, e1, m, e2⟩ := hl
  simp only at e1 e2
  subst e1 e2
  have at_l' := Heap.get?_push_of_some (bare w) at_l
  have n1 := F.sub_list_set
  have n2 := F.sub_list_frozenset
  have n3 : (Value.type "list" == Value.type "dict") = false := by decide
  unfold Builtin.«set.__init__» noKeywords Builtin.Frozenset.updateFrom
  generalize hit : pyIter = it
  wp_walk
  subst hit
  have size : items.size = ns.length := by
    have z := IntsAre.length hi
    rwa [Array.length_toList] at z
  have isL : (s.heap.push (bare w)).IsList l items := ⟨_, at_l', rfl, m, rfl⟩
  have lt := Heap.lt_size at_l
  have grow : (s.heap.push (bare w)).objs.size = s.heap.objs.size + 1 := Heap.size_push ..
  apply wpAny_pyIter_list isL
  apply wpAny_bind
  apply wpAny_runValue
  have val : ∀ (i : Nat) (v : Value), items[i]? = some v → ∃ k t, ns[i]? = some k ∧ v = .int k t := by
    intro i v hv
    have hlt : i < ns.length := by rw [← size]; exact (Array.getElem?_eq_some_iff.mp hv).1
    obtain ⟨t, e⟩ := IntsAre.int_at hi i v (by rw [Array.getElem?_toList]; exact hv)
    have hk := List.getElem?_eq_getElem hlt
    rw [List.getD_eq_getElem?_getD, hk] at e
    exact ⟨_, t, hk, e⟩
  have apart : l ≠ (s.heap.push (bare w)).objs.size := by
    rw [grow]; exact Nat.ne_of_lt (Nat.lt_succ_of_lt lt)
  have off : s.heap.objs.size ∉ [(s.heap.push (bare w)).objs.size, l] := by
    intro z
    rcases List.mem_cons.mp z with z | z
    · rw [grow] at z; exact Nat.ne_of_lt (Nat.lt_succ_self _) z
    · exact Nat.ne_of_lt lt (List.mem_singleton.mp z).symm
  have W := (Walks.list (prog := P) (w := w) (A := A.in1.in1) (by simp [hA]) _ l apart items).toS
  have empty : ((s.heap.push (bare w)).push { cls := .type "list_iterator", data := .fields #[.ref l, .int 0 0] }).get? s.heap.objs.size = some (bare w) := Heap.get?_push_of_some _ top
  refine set_update_ints W s.heap.objs.size off ns size hb val items.size 0 _ (by simp) (Nat.zero_le _) ⟨⟨_, Heap.get?_push_size _ rfl, rfl, rfl⟩, isL.push _⟩ ⟨0, Nat.le_refl 0, setR_new_at empty⟩ ?_
  intro s3 n mv le set
  obtain ⟨h3, g3, d3, t3, o3⟩ := s3
  have same : g3 = s.gens ∧ d3 = s.drawn ∧ o3 = s.os := ⟨mv.gens, mv.drawn, mv.os⟩
  obtain ⟨rfl, rfl, rfl⟩ := same
  rw [size] at le
  apply wpAny_pure
  apply wpAny_pure
  refine ⟨rfl, h3, t3, n, rfl, set, le, fun b o e => ?_⟩
  have low := Heap.lt_size e
  refine mv.heap b o (fun z => ?_) (Heap.get?_push_of_some _ (Heap.get?_push_of_some _ e))
  rcases List.mem_cons.mp z with z | z
  · exact Nat.ne_of_lt low z
  · have z2 := List.mem_singleton.mp z
    rw [z2] at low
    change (s.heap.push (bare w)).objs.size < _ at low
    rw [grow] at low
    exact Nat.lt_irrefl _ (Nat.lt_trans (Nat.lt_succ_self _) low)
theorem set_of_list {l : Addr} {items : Array Value} {ns : List Int} {Q : Value → Shared → Prop} (hA : A.handled = none) (hl : s.heap.IsList l items) (hi : IntsAre items.toList ns) (hb : ns.length + 1 < scanBound)
    (h : ∀ r s2, Filled w s ns r s2 → Q (.ref s.heap.objs.size) s2) : wpAny (model P w) A (call (.type "set") [.ref l]) Q E s := by
  have made := F.called_set.made
  have sub := F.called_set.sub
  have one := F.called_set.notType
  have two := F.called_set.canCreate
  have arg := F.typeCall_set_1 (.ref l)
  have lk := F.called_set.init.lookup
  have bd := F.called_set.init.bind (.ref s.heap.objs.size)
  obtain ⟨c, tl, mro⟩ := F.called_set.mro
  wp_walk
  apply codeAny_of_tree
  change wpAny _ _ (callAny (Value.type "set") ⟨[Value.ref l], []⟩) _ _ s
  apply wpAny_pure
  refine ⟨Code.quiet_builtin _ (by decide +kernel), ?_⟩
  apply codeAny_builtin F.entry_type_call
  rw [Around.under_plain (weight_type_call_type "set" _ []) rfl]
  have top : (s.heap.push (bare w)).get? s.heap.objs.size = some (bare w) := Heap.get?_push_size _ rfl
  have ty : Shared.TypeIs { s with heap := s.heap.push (bare w) } (.ref s.heap.objs.size) "set" := ⟨_, top, rfl⟩
  repeat (any_goals (first | wp_step | assumption))
  refine codeAny_mono (code_set_led1 (.ref l) (Q₁ := fun x s1 => x = .ref s.heap.objs.size ∧ s1 = { s with heap := s.heap.push (bare w) }) (E := E) ⟨rfl, rfl⟩) ?_
  intro r s1 hr
  match r, hr with
  | .error e, hr => exact hr
  | .ok (.ret x), hr =>
    obtain ⟨rfl, rfl⟩ := hr
    repeat (any_goals (first | wp_step | assumption))
    refine codeAny_mono (filled_list (E := E) (by simp [hA]) hl hi hb) ?_
    intro r s2 hr
    match r, hr with
    | .error e, hr => exact hr
    | .ok (.ret y), hr =>
      have hf := h y s2 hr
      obtain ⟨rfl, h2, tk, n, rfl, hset, hn, keep⟩ := hr
      repeat (any_goals (first | wp_step | assumption))
end
end L2
namespace Vi
open PySem PySem.Spec PyProof.Rows L2
/-! sorted(set(x)) of a list of whole numbers -/
def insI (x : Int) : List Int → List Int
  | [] => [x]
  | y :: ys => if x < y then x :: y :: ys else if x = y then y :: ys else y :: insI x ys
def setI (ns : List Int) : List Int := ns.foldr insI []
theorem insI_mem {x y : Int} : ∀ {l : List Int}, y ∈ insI x l ↔ y = x ∨ y ∈ l
  | [] => by simp [insI]
  | z :: l => by
    unfold insI
    split
    · simp
    · split
      · rename_i e
        subst e
        simp
      · rw [List.mem_cons, insI_mem (l := l), List.mem_cons]
        constructor
        · rintro (h | h | h)
          · exact .inr (.inl h)
          · exact .inl h
          · exact .inr (.inr h)
        · rintro (h | h | h)
          · exact .inr (.inl h)
          · exact .inl h
          · exact .inr (.inr h)
theorem insI_asc {x : Int} : ∀ {l : List Int}, l.Pairwise (· < ·) → (insI x l).Pairwise (· < ·)
  | [], _ => List.pairwise_singleton ..
  | z :: l, h => by
    obtain ⟨h1, h2⟩ := List.pairwise_cons.mp h
    unfold insI
    split
    · rename_i c
      refine List.pairwise_cons.mpr ⟨fun y hy => ?_, h⟩
      rcases List.mem_cons.mp hy with rfl | hy
      · exact c
      · exact Int.lt_trans c (h1 y hy)
    · split
      · exact h
      · refine List.pairwise_cons.mpr ⟨fun y hy => ?_, insI_asc h2⟩
        rcases insI_mem.mp hy with rfl | hy
        · omega
        · exact h1 y hy
theorem setI_mem {y : Int} : ∀ {ns : List Int}, y ∈ setI ns ↔ y ∈ ns
  | [] => Iff.rfl
  | x :: ns => by
    show y ∈ insI x (setI ns) ↔ _
    rw [insI_mem, setI_mem (ns := ns), List.mem_cons]
theorem setI_asc : ∀ ns : List Int, (setI ns).Pairwise (· < ·)
  | [] => List.Pairwise.nil
  | x :: ns => insI_asc (setI_asc ns)
theorem ascI_eq : ∀ {l m : List Int}, l.Pairwise (· < ·) → m.Pairwise (· < ·) → (∀ k, k ∈ l ↔ k ∈ m) → l = m
  | [], [], _, _, _ => rfl
  | [], y :: m, _, _, h => absurd ((h y).mpr (List.mem_cons_self ..)) List.not_mem_nil
  | x :: l, [], _, _, h => absurd ((h x).mp (List.mem_cons_self ..)) List.not_mem_nil
  | x :: l, y :: m, h1, h2, h => by
    obtain ⟨a1, a2⟩ := List.pairwise_cons.mp h1
    obtain ⟨b1, b2⟩ := List.pairwise_cons.mp h2
    have e : x = y := by
      rcases List.mem_cons.mp ((h x).mp (List.mem_cons_self ..)) with e | e
      · exact e
      · rcases List.mem_cons.mp ((h y).mpr (List.mem_cons_self ..)) with f | f
        · exact f.symm
        · have := a1 y f; have := b1 x e; omega
    subst e
    rw [ascI_eq a2 b2 fun k => ?_]
    constructor
    · intro hk
      rcases List.mem_cons.mp ((h k).mp (List.mem_cons_of_mem _ hk)) with rfl | z
      · have := a1 k hk; omega
      · exact z
    · intro hk
      rcases List.mem_cons.mp ((h k).mpr (List.mem_cons_of_mem _ hk)) with rfl | z
      · have := b1 k hk; omega
      · exact z
def intsOf2 : List D → Option (List Int)
  | [] => some []
  | .int i :: ds => match intsOf2 ds with
    | some ns => some (i :: ns)
    | none => none
  | _ => none
theorem ints_of_eq2 : ∀ {ds : List D} {ns : List Int}, intsOf2 ds = some ns → ds = ns.map .int
  | [], ns, h => by cases h; rfl
  | .int i :: ds, ns, h => by
    unfold intsOf2 at h
    split at h
    · rename_i ms e
      cases h
      rw [ints_of_eq2 e]; rfl
    · cases h
def dSortSetI : D → Option Sv
  | .list ds => match intsOf2 ds with
    | some ns => if decide (ns.length < 63) = true then some (.own .loc ((setI ns).map .int)) else none
    | none => none
  | _ => none
section
variable {X : Cx}
def rSetI (K : PySem.W.Frag) (w : World) : List V → Hp → VK → Prop := fun xs H Q => ∃ (l : Addr) (ns : List Int), xs = [V.ref l] ∧ SqL K H l (ns.map V.int) ∧ ns.length < 63 ∧
  ∀ a c, H a = none → c ≤ ns.length → Q (.ref a) (upd H a (SetO w a (fun j => decide (j ∈ ns)) c))
theorem cr_setI (hc : X.calm = true) : CallR X (.type "set") (rSetI X.K X.w) := by
  intro pins s σ H xs us Q I r h
  obtain ⟨l, ns, rfl, hl, hf, q⟩ := h
  rw [Vals.ref1 r]
  obtain ⟨its, rv, pl, hz⟩ := I.list hl
  have hn : H s.heap.objs.size = none := I.hok.fresh (Nat.le_refl _)
  refine set_of_list (ns := ns) (I.ok.hd hc) pl.isList (by simpa using rv.ints) (by unfold scanBound; omega) fun r s2 f => ?_
  obtain ⟨_, h', tk, c, rfl, R, hcn, k⟩ := f
  exact ⟨.ref s.heap.objs.size, upd H s.heap.objs.size (SetO X.w s.heap.objs.size (fun j => decide (j ∈ ns)) c), I.laid (t' := tk) k (Nat.le_refl _) (setO_new R), rfl, q _ c hn hcn⟩
theorem reps_ints2 {K : PySem.W.Frag} {H : Hp} {M : Mset} : ∀ {ns : List Int} {vs : List V}, Reps K H M vs (ns.map .int) → vs = ns.map V.int
  | [], _, .nil => rfl
  | n :: ns, _, .cons h r => by
    cases h
    rw [reps_ints2 r]; rfl
theorem ints_reps2 {K : PySem.W.Frag} {H : Hp} {M : Mset} : ∀ ns : List Int, Reps K H M (ns.map V.int) (ns.map .int)
  | [] => .nil
  | n :: ns => .cons (.int n) (ints_reps2 ns)
def rSSI (X : Cx) : V → Hp → VK → Prop := fun v H Q => rSetI X.K X.w [v] H fun y H1 => rSortedSet X.w [y] H1 Q
theorem us_sortsetI : UnS X (rSSI X) dSortSetI := by
  intro H M O π ρ σ v1 d1 res Q h r1 e q
  unfold dSortSetI at e
  split at e
  · rename_i ds
    split at e
    · rename_i ns hns
      split at e
      · rename_i hlen
        cases e
        have hlen := of_decide_eq_true hlen
        obtain ⟨a, vs, rfl, rd, rs⟩ := r1.inL
        have hds := ints_of_eq2 hns
        subst hds
        have hv := reps_ints2 rs
        subst hv
        refine ⟨a, ns, rfl, .inl rd, hlen, fun b c hbn hcn => ?_⟩
        have h2 := h.alloc (o := SetO X.w b (fun j => decide (j ∈ ns)) c) hbn
        refine ⟨b, _, c, rfl, upd_same, by omega, fun ms p asc mem _ hp => ?_⟩
        have e : ms = setI ns := ascI_eq asc (setI_asc ns) fun k => by rw [mem, decide_eq_true_eq, setI_mem]
        rw [e]
        have q2 : Post X.K (upd H b (SetO X.w b (fun j => decide (j ∈ ns)) c)) M O π ρ σ (.own .loc ((setI ns).map .int)) Q := fun v H' M' x s r => q v H' M' ((Ext.alloc h (o := SetO X.w b (fun j => decide (j ∈ ns)) c) hbn).trans x) s r
        exact q2.lst h2 (ints_reps2 _) hp
      · cases e
    · cases e
  · cases e
variable {a : Expr} {ma : ME}
theorem de_sortsetI {x y : Str} {p1 p2 pos1 pos2 : Pos} {f : D → Option Sv} (hcS : CallR X (.type "set") (rSetI X.K X.w)) (hcT : CallR X (.builtin "sorted") (rSortedSet X.w)) (hs : UnS X (rSSI X) f)
    (hg1 : Gl X x) (hm1 : X.mg x = none) (hv1 : bootBuiltins x = some (.builtin "sorted")) (hg2 : Gl X y) (hm2 : X.mg y = none) (hv2 : bootBuiltins y = some (.type "set")) (ha : DE X a ma)
    (hn1 : x ≠ "__name__" := by decide) (hd1 : (x == ("__debug__" : Str)) = false := by decide) (hn2 : y ≠ "__name__" := by decide) (hd2 : (y == ("__debug__" : Str)) = false := by decide)
    (he2 : starEach (a :: []) X.env = (false, eval a X.env) :: starEach [] X.env := by rfl) (hpl2 : (PySem.backTo pos2 (starEach [] X.env)).any (·.1) = false := by rfl)
    (he1 : starEach (.Call (.Name y p2) [a] [] pos2 :: []) X.env = (false, eval (.Call (.Name y p2) [a] [] pos2) X.env) :: starEach [] X.env := by rfl) (hpl1 : (PySem.backTo pos1 (starEach [] X.env)).any (·.1) = false := by rfl) :
    DE X (.Call (.Name x p1) [.Call (.Name y p2) [a] [] pos2] [] pos1) (un f ma) :=
  PE.imp (pe_callB hcT hg1 hm1 hv1 (pa_cons (pe_callTy hcS hg2 hm2 hv2 (pa_cons ha pa_nil he2) hn2 hd2 he2 hpl2) pa_nil he1) hn1 hd1 he1 hpl1) fun σ H Q h => tE_un hs h
end
end Vi

namespace Vi
open PySem PySem.Spec PyProof.Rows L2
section
variable {X : Cx}
def rLcm : List V → Hp → VK → Prop := fun vs H Q => ∃ a b : Int, vs = [.int a, .int b] ∧ a.natAbs < 2 ^ 64 ∧ b.natAbs < 2 ^ 64 ∧ Q (.int ((a.natAbs.lcm b.natAbs : Nat) : Int)) H
theorem cr_lcm : CallR X (.builtin "math.lcm") rLcm := by
  intro pins s σ H vs us Q I r h
  obtain ⟨a, b, rfl, ha, hb, q⟩ := h
  obtain ⟨t, u, rfl⟩ := Vals.int2 r
  exact PySem.W.mc_lcm ha hb fun _ => ⟨.int _, H, I.tok _, ⟨_, rfl⟩, q⟩
def dLcm : List D → Option Sv
  | [.int i, .int j] => if decide (i.natAbs < 2 ^ 64 ∧ j.natAbs < 2 ^ 64) = true then some (.imm (.int ((i.natAbs.lcm j.natAbs : Nat) : Int))) else none
  | _ => none
theorem as_lcm : AS X rLcm dLcm := by
  intro H M O π ρ σ vs ds res Q h r e q
  unfold dLcm at e
  split at e
  · split at e
    · rename_i hz
      have hz := of_decide_eq_true hz
      cases e
      cases r with
      | cons r1 r2 => cases r2 with
        | cons r2 r3 =>
          cases r3; cases r1; cases r2
          exact ⟨_, _, rfl, hz.1, hz.2, Post.now q h (.int _)⟩
    · cases e
  · cases e
end
end Vi

namespace Vi
open PySem PySem.Spec PyProof.Rows L2
section
variable {X : Cx}
/-- // by a divisor of either sign -/
def CDivN (_ j : Int) : Prop := j < 0 ∧ j.natAbs.log2 < 9000
theorem op_fdivN : OpR X (binaryOp .FloorDiv) (rI CDivN fun i j => .int ((-i) / (-j))) := opI fun i j _ _ _ _ _ hc q => by
  have h1 : j < 0 := hc.1
  refine floordiv_int (by omega) ?_ (.inl (PyProof.noPylong_of_log2 hc.2))
  have e : i.fdiv j = (-i) / (-j) := by
    rw [← Int.neg_fdiv_neg, Int.fdiv_eq_ediv_of_nonneg (-i) (by omega)]
  rw [e]; exact q
def divNk (j : Int) : Bool := decide (j < 0 ∧ j.natAbs.log2 < 9000)
def dDivN : D → D → Option Sv
  | .int i, .int j => if divOk j = true then some (.imm (.int (i / j))) else if divNk j = true then some (.imm (.int ((-i) / (-j)))) else none
  | _, _ => none
abbrev rDivN : R2 := fun x y H Q => rI CDivW (fun i j => .int (i / j)) x y H Q ∨ rI CDivN (fun i j => .int ((-i) / (-j))) x y H Q
theorem op_fdivA : OpR X (binaryOp .FloorDiv) rDivN := op_fdivW.or op_fdivN
theorem os_divN : OpS X rDivN dDivN := by
  intro H M O π ρ σ v1 v2 d1 d2 res Q h r1 r2 e q
  unfold dDivN at e
  split at e
  · split at e
    · rename_i hz
      cases e
      cases r1.inI; cases r2.inI
      unfold divOk at hz
      have hz' := of_decide_eq_true hz
      exact .inl ⟨_, _, rfl, rfl, hz', Post.now q h (.int _)⟩
    · split at e
      · rename_i hz
        cases e
        cases r1.inI; cases r2.inI
        unfold divNk at hz
        have hz' := of_decide_eq_true hz
        exact .inr ⟨_, _, rfl, rfl, hz', Post.now q h (.int _)⟩
      · cases e
  · cases e
end
end Vi

namespace Vi
open PySem PySem.Spec PyProof.Rows L2

/-! ### own dicts: keys are tuples of whole numbers, and of such tuples -/
section
variable {X : Cx} {pins : List (Addr × Obj)} {σ : St} {H : Hp} {s : Shared} {M : Mset}
theorem keyN_is (I : Inv X pins σ H s) : ∀ (n : Nat) {d : D} {v : V} {u : Value}, keyOkN n d = true → Rep X.K H M v d → RelV v u → NestedIs s.heap (keyOf d) u ∧ (keyOf d).depth ≤ n
  | n, .int i, v, u, _, r, q => by
    cases r
    obtain ⟨t, rfl⟩ := q
    exact ⟨.int i t, Nat.zero_le _⟩
  | n + 1, .tuple ds, v, u, h, r, q => by
    cases r with
    | @tup a xs _ ht hr =>
      cases (show u = Value.ref a from q)
      obtain ⟨its, rv, hit, _⟩ := I.tuple ht.sq
      have hall : ∀ e ∈ ds, keyOkN n e = true := List.all_eq_true.mp (by unfold keyOkN at h; exact h)
      have core : ∀ {es : List D} {xs : List V} {us : List Value}, (∀ e ∈ es, keyOkN n e = true) → Reps X.K H M xs es → Vals xs us → NestedAll s.heap (keysOf es) us ∧ NestedKey.depthAll (keysOf es) ≤ n := by
        intro es
        induction es with
        | nil => intro xs us _ r v; cases r; cases v; exact ⟨.nil, Nat.zero_le _⟩
        | cons e es ih =>
          intro xs us he r v
          cases r with
          | cons r1 r2 =>
            cases v with
            | cons v1 v2 =>
              obtain ⟨k1, k2⟩ := keyN_is I n (he e (List.mem_cons_self ..)) r1 v1
              obtain ⟨k3, k4⟩ := ih (fun x hx => he x (List.mem_cons_of_mem _ hx)) r2 v2
              exact ⟨.cons k1 k3, Nat.max_le.mpr ⟨k2, k4⟩⟩
      obtain ⟨k1, k2⟩ := core hall hr rv
      obtain ⟨o, ho, hc, n', hd⟩ := hit
      exact ⟨.tup ho hc hd (by simpa using k1), Nat.succ_le_succ k2⟩
  | 0, .tuple ds, _, _, h, _, _ => by cases h
  | n, .none, _, _, h, _, _ => by cases n <;> cases h
  | n, .bool _, _, _, h, _, _ => by cases n <;> cases h
  | n, .str _, _, _, h, _, _ => by cases n <;> cases h
  | n, .list _, _, _, h, _, _ => by cases n <;> cases h
  | n, .dict _, _, _, h, _, _ => by cases n <;> cases h
theorem key_tup {d : D} (h : keyOk d = true) : ∃ ds, d = .tuple ds := by
  cases d with
  | tuple ds => exact ⟨ds, rfl⟩
  | _ => cases h
theorem key_okN {d : D} (h : keyOk d = true) : keyOkN 8 d = true := by
  obtain ⟨ds, rfl⟩ := key_tup h
  exact h
theorem key_is (I : Inv X pins σ H s) {d : D} {v : V} {u : Value} (h : keyOk d = true) (r : Rep X.K H M v d) (q : RelV v u) : ∃ b, v = .ref b ∧ u = .ref b ∧ (nestedKind X.prog X.w).is s.heap (keyOf d) b := by
  obtain ⟨ds, rfl⟩ := key_tup h
  have k := keyN_is I 8 (key_okN h) r q
  cases r with
  | @tup a xs _ ht hr =>
    cases (show u = Value.ref a from q)
    exact ⟨a, rfl, rfl, k⟩
end
/-- the hash of such a key is the same in each world -/
theorem hashN : ∀ (n : Nat) {d : D}, keyOkN n d = true → ∀ w w' : World, (keyOf d).hash w = (keyOf d).hash w'
  | n, .int i, _, w, w' => rfl
  | n + 1, .tuple ds, h, w, w' => by
    have hall : ∀ e ∈ ds, keyOkN n e = true := List.all_eq_true.mp (by unfold keyOkN at h; exact h)
    have core : ∀ {es : List D}, (∀ e ∈ es, keyOkN n e = true) → NestedKey.hashes w (keysOf es) = NestedKey.hashes w' (keysOf es) := by
      intro es
      induction es with
      | nil => intro _; rfl
      | cons e es ih =>
        intro he
        show (keyOf e).hash w :: NestedKey.hashes w (keysOf es) = (keyOf e).hash w' :: NestedKey.hashes w' (keysOf es)
        rw [hashN n (he e (List.mem_cons_self ..)) w w', ih fun x hx => he x (List.mem_cons_of_mem _ hx)]
    show reduceHash (Builtin.Tuple.tupleHashOf (NestedKey.hashes w (keysOf ds))) = reduceHash (Builtin.Tuple.tupleHashOf (NestedKey.hashes w' (keysOf ds)))
    rw [core hall]
  | 0, .tuple ds, h, _, _ => by cases h
  | n, .none, h, _, _ => by cases n <;> cases h
  | n, .bool _, h, _, _ => by cases n <;> cases h
  | n, .str _, h, _, _ => by cases n <;> cases h
  | n, .list _, h, _, _ => by cases n <;> cases h
  | n, .dict _, h, _, _ => by cases n <;> cases h
theorem all_ok_mem {n : Nat} {ds : List D} (h : keyOkN (n + 1) (.tuple ds) = true) : ∀ e ∈ ds, keyOkN n e = true := List.all_eq_true.mp (by unfold keyOkN at h; exact h)
/-- == of such data is equality of the keys -/
theorem eqvN : ∀ (n : Nat) {d e : D}, keyOkN n d = true → keyOkN n e = true → (PyData.eqv d e = decide (keyOf d = keyOf e)) := by
  intro n
  induction n with
  | zero =>
    intro d e h1 h2
    cases d with
    | int i =>
      cases e with
      | int j =>
        show (i == j) = decide (NestedKey.num i = NestedKey.num j)
        by_cases h : i = j
        · subst h; simp
        · simp [h]
      | _ => cases h2
    | _ => cases h1
  | succ n ih =>
    intro d e h1 h2
    cases d with
    | int i =>
      cases e with
      | int j =>
        show (i == j) = decide (NestedKey.num i = NestedKey.num j)
        by_cases h : i = j
        · subst h; simp
        · simp [h]
      | tuple es =>
        show false = decide (NestedKey.num i = NestedKey.tup (keysOf es))
        exact (decide_eq_false fun z => nomatch z).symm
      | _ => cases h2
    | tuple ds =>
      cases e with
      | int j =>
        show false = decide (NestedKey.tup (keysOf ds) = NestedKey.num j)
        exact (decide_eq_false fun z => nomatch z).symm
      | tuple es =>
        show PyData.eqvAll ds es = decide (NestedKey.tup (keysOf ds) = NestedKey.tup (keysOf es))
        have core : ∀ {xs ys : List D}, (∀ e ∈ xs, keyOkN n e = true) → (∀ e ∈ ys, keyOkN n e = true) → PyData.eqvAll xs ys = decide (keysOf xs = keysOf ys) := by
          intro xs
          induction xs with
          | nil =>
            intro ys _ _
            cases ys with
            | nil => rfl
            | cons y ys => exact (decide_eq_false fun z => nomatch z).symm
          | cons x xs ihx =>
            intro ys hx hy
            cases ys with
            | nil => exact (decide_eq_false fun z => nomatch z).symm
            | cons y ys =>
              show (PyData.eqv x y && PyData.eqvAll xs ys) = decide (keyOf x :: keysOf xs = keyOf y :: keysOf ys)
              rw [ih (hx x (List.mem_cons_self ..)) (hy y (List.mem_cons_self ..)), ihx (fun e he => hx e (List.mem_cons_of_mem _ he)) fun e he => hy e (List.mem_cons_of_mem _ he)]
              by_cases a : keyOf x = keyOf y
              · by_cases b : keysOf xs = keysOf ys
                · simp [a, b]
                · simp [a, b]
              · simp [a]
        rw [core (all_ok_mem h1) (all_ok_mem h2)]
        by_cases h : keysOf ds = keysOf es
        · simp [h]
        · simp [h]
      | _ => cases h2
    | _ => cases h1
theorem key_eqv {d e : D} (h1 : keyOk d = true) (h2 : keyOk e = true) : PyData.eqv d e = decide (keyOf d = keyOf e) := eqvN 8 (key_okN h1) (key_okN h2)

/-! ### the table, its keys and values in turn -/
abbrev Xs := List (NestedKey × Addr × Value)
inductive XS : Xs → List V → List D → Prop
  | nil : XS [] [] []
  | cons {b : Addr} {val : Value} {v : V} {kd d : D} {xs : Xs} {vs : List V} {ds : List D} : keyOk kd = true → RelV v val → XS xs vs ds → XS ((keyOf kd, b, val) :: xs) (.ref b :: v :: vs) (kd :: d :: ds)
theorem XS.of {P : Program} {w : World} : ∀ {es : List DictEntry} {vs : List V} {ds : List D}, Ents es vs ds → ∃ xs, es = xs.map (entryOfKey (nestedKind P w)) ∧ XS xs vs ds
  | _, _, _, .nil => ⟨[], rfl, .nil⟩
  | _, _, _, .cons (e := e) (b := b) (kd := kd) hk hh he hv r => by
    obtain ⟨xs, h1, h2⟩ := XS.of (P := P) (w := w) r
    refine ⟨(keyOf kd, b, e.val) :: xs, ?_, .cons hk hv h2⟩
    rw [List.map_cons, h1]
    congr 1
    obtain ⟨eh, ek, ev⟩ := e
    have hh' : eh = (keyOf kd).hash w := hh w
    have he' : ek = .ref b := he
    rw [hh', he']
    rfl
theorem XS.to {P : Program} {w : World} : ∀ {xs : Xs} {vs : List V} {ds : List D}, XS xs vs ds → Ents (xs.map (entryOfKey (nestedKind P w))) vs ds
  | _, _, _, .nil => .nil
  | _, _, _, .cons hk hv r => .cons hk (fun w' => hashN 8 (key_okN hk) w w') rfl hv (XS.to r)
theorem XS.keys : ∀ {xs : Xs} {vs : List V} {ds : List D}, XS xs vs ds → xs.map (·.1) = (dKeys ds).map keyOf
  | _, _, _, .nil => rfl
  | _, _, _, .cons hk hv r => by
    show _ :: _ = _ :: _
    rw [XS.keys r]
theorem XS.len : ∀ {xs : Xs} {vs : List V} {ds : List D}, XS xs vs ds → ds.length = 2 * xs.length
  | _, _, _, .nil => rfl
  | _, _, _, .cons hk hv r => by
    show _ + 1 + 1 = _
    rw [XS.len r, List.length_cons]; omega
section
variable {X : Cx} {pins : List (Addr × Obj)} {σ : St} {H : Hp} {s : Shared} {M : Mset}
theorem XS.is (I : Inv X pins σ H s) : ∀ {xs : Xs} {vs : List V} {ds : List D}, XS xs vs ds → Reps X.K H M vs ds → ∀ x ∈ xs, (nestedKind X.prog X.w).is s.heap x.1 x.2.1
  | _, _, _, .nil, _, x, hx => by cases hx
  | _, _, _, .cons hk hv r, .cons q1 (.cons q2 q), x, hx => by
    rcases List.mem_cons.mp hx with rfl | hx
    · obtain ⟨b, e1, e2, e3⟩ := key_is I hk q1 (show RelV (.ref _) (.ref _) from rfl)
      cases e1
      exact e3
    · exact XS.is I r q x hx
/-- what stands at a name's own dict -/
theorem dic_of (I : Inv X pins σ H s) {a : Addr} {vs : List V} {ds : List D} (e : H a = some (dicO a vs ds)) (r : Reps X.K H M vs ds) :
    ∃ xs, s.heap.DictOfH (nestedKind X.prog X.w) a xs ∧ XS xs vs ds ∧ (a == sysModules) = false := by
  obtain ⟨⟨o, es, ep, h1, h2, h3, h4, h5, h6⟩, _⟩ := I.hok a _ e
  obtain ⟨xs, h7, h8⟩ := XS.of (P := X.prog) (w := X.w) h4
  exact ⟨xs, ⟨o, es, ep, h1, h2, h3, h7, h8.is I r, by rw [h8.keys]; exact h5⟩, h8, h6⟩
end
theorem dic_new {P : Program} {w : World} {H' : Hp} {h' : Heap} {a : Addr} {xs : Xs} {vs : List V} {ds : List D} (dd : h'.DictOfH (nestedKind P w) a xs) (x : XS xs vs ds) (hd : (a == sysModules) = false) : ObjOk P w H' h' a (dicO a vs ds) := by
  obtain ⟨o, es, ep, h1, h2, h3, h4, _, h5⟩ := dd
  refine ⟨⟨o, es, ep, h1, h2, h3, by rw [h4]; exact x.to, by rw [← x.keys]; exact h5, hd⟩, ⟨o, h1⟩, fun g1 g2 ⟨o', es', ep', k1, k2⟩ hk => ⟨o', es', ep', hk _ k1, k2⟩⟩
/-! a look, a store -/
def dGet : List D → D → Option D
  | k :: v :: r, d => if PyData.eqv k d = true then some v else dGet r d
  | _, _ => none
def dPut : List D → D → D → List D
  | k :: v :: r, d, x => if PyData.eqv k d = true then k :: x :: r else k :: v :: dPut r d x
  | _, d, x => [d, x]
theorem atKey_cons {y : NestedKey × Addr × Value} {xs : Xs} {k : NestedKey} : atKey (y :: xs) k = if y.1 = k then some y.2 else atKey xs k := by
  unfold atKey
  rw [List.find?_cons]
  by_cases h : y.1 = k
  · simp [h]
  · simp [h]
theorem XS.get {K : PySem.W.Frag} {H : Hp} {M : Mset} {kd : D} (hk : keyOk kd = true) : ∀ {xs : Xs} {vs : List V} {ds : List D}, XS xs vs ds → Reps K H M vs ds →
    (dGet ds kd = none ∧ atKey xs (keyOf kd) = none) ∨ ∃ d p v, dGet ds kd = some d ∧ atKey xs (keyOf kd) = some p ∧ RelV v p.2 ∧ Rep K H M v d
  | _, _, _, .nil, _ => .inl ⟨rfl, rfl⟩
  | _, _, _, .cons (kd := kd') (d := d') hk' hv r, .cons q1 (.cons q2 q) => by
    rw [atKey_cons]
    unfold dGet
    rw [key_eqv hk' hk]
    by_cases h : keyOf kd' = keyOf kd
    · refine .inr ⟨d', _, _, by rw [if_pos (decide_eq_true h)], by rw [if_pos h], hv, q2⟩
    · rw [if_neg (by simpa using h), if_neg h]
      exact XS.get hk r q
theorem stored_cons {y : NestedKey × Addr × Value} {xs : Xs} {k : NestedKey} {a : Addr} {v : Value} (hn : ((y :: xs).map (·.1)).Nodup) : storedH (y :: xs) k a v = if y.1 = k then (y.1, y.2.1, v) :: xs else y :: storedH xs k a v := by
  rw [List.map_cons, List.nodup_cons] at hn
  unfold storedH
  rw [atKey_cons]
  by_cases h : y.1 = k
  · rw [if_pos h, if_pos h]
    simp only [Option.isSome_some, if_true]
    rw [List.map_cons, map_putAt_of_not_mem xs k v (by rw [← h]; exact hn.1)]
    unfold putAt
    rw [if_pos h]
  · rw [if_neg h, if_neg h]
    split
    · rw [List.map_cons]
      unfold putAt
      rw [if_neg h]
    · rfl
theorem XS.put {K : PySem.W.Frag} {H : Hp} {M : Mset} {kd d : D} {b : Addr} {v : V} {val : Value} (hk : keyOk kd = true) (hv : RelV v val) (rk : Rep K H M (.ref b) kd) (rv : Rep K H M v d) : ∀ {xs : Xs} {vs : List V} {ds : List D}, XS xs vs ds → Reps K H M vs ds → (xs.map (·.1)).Nodup →
    ∃ vs', XS (storedH xs (keyOf kd) b val) vs' (dPut ds kd d) ∧ Reps K H M vs' (dPut ds kd d)
  | _, _, _, .nil, _, _ => ⟨[.ref b, v], .cons hk hv .nil, .cons rk (.cons rv .nil)⟩
  | _, _, _, .cons (kd := kd') (d := d') (b := b') (v := v') hk' hv' r, .cons q1 (.cons q2 q), hn => by
    rw [stored_cons hn]
    unfold dPut
    rw [key_eqv hk' hk]
    rw [List.map_cons, List.nodup_cons] at hn
    by_cases h : keyOf kd' = keyOf kd
    · rw [if_pos h, if_pos (decide_eq_true h)]
      exact ⟨_, .cons hk' hv r, .cons q1 (.cons rv q)⟩
    · rw [if_neg h, if_neg (by simpa using h)]
      obtain ⟨vs', h1, h2⟩ := XS.put hk hv rk rv r q hn.2
      exact ⟨_, .cons hk' hv' h1, .cons q1 (.cons q2 h2)⟩

section
variable {K : PySem.W.Frag} {H : Hp} {M O : Mset} {π : Nat → Option Addr} {ρ : Fm} {σ : St} {Q : VK}
theorem Post.cell {ds : List D} {vs : List V} {b : Kd} (q : Post K H M O π ρ σ (.own b ds) Q) (h : SR K H M O π ρ σ) (r : Reps K H M vs ds) {p : Addr} (hp : H p = none) : Q (.ref p) (upd H p (cell b p vs ds)) := by
  refine q _ _ (wth M p) (.allocOwn h hp) (h.allocOwn hp) ⟨p, vs, rfl, upd_same, .inr rfl, fun z => h.live p (h.sub p z) hp, r.tr (alloc_tr_own h hp), fun i b ds e e1 => ?_⟩
  obtain ⟨a, ws, f1, f2, _⟩ := h.own i b ds e
  rw [e1] at f1; cases f1
  rw [hp] at f2; cases f2
end
theorem VW.key {K : PySem.W.Frag} {H : Hp} {M : Mset} {v : V} {d : D} (r : VW K H M v d) (hk : keyOk d = true) : Rep K H M v d := by
  obtain ⟨ds, rfl⟩ := key_tup hk
  exact r
theorem dic_empty {P : Program} {w : World} {H : Hp} (h : Heap) (hb : sysModules < h.objs.size) : ObjOk P w H (h.push { cls := .type "dict", data := .dict #[] }) h.objs.size (dicO h.objs.size [] []) :=
  dic_new (Heap.DictOfH.new h) .nil (beq_eq_false_iff_ne.mpr (Ne.symm (Nat.ne_of_lt hb)))
def tDNew : TE := fun _ H Q => ∀ p, H p = none → Q (.ref p) (upd H p (dicO p [] []))
section
variable {X : Cx} {pos : Pos} {o i e k st_e : Expr} {td ty tv : TE} {me mk : ME}
theorem pe_dnew0 : PE X (.Dict [] [] pos) tDNew := ⟨fun pins s σ H Q I h =>
  wpAny_Dict_empty ⟨.ref s.heap.objs.size, _, I.laid (a := s.heap.objs.size) (o := dicO s.heap.objs.size [] []) (t' := s.toks) (fun _ _ q => Heap.get?_push_of_some _ q) (Nat.le_refl _) (dic_empty s.heap I.big), rfl, h _ (I.hok.fresh (Nat.le_refl _))⟩⟩
/-- {} -/
def mDNew : ME := fun ρ => some (.val (.own .dic []), ρ)
theorem de_dnew : DE X (.Dict [] [] pos) mDNew := PE.imp pe_dnew0 fun σ H Q ⟨ρ, M, O, π, pr, ρ', h, e, q⟩ => by
  cases e
  exact fun p hp => Post.cell (b := .dic) (fun v H' M' x2 => q v H' M' x2) h .nil hp
/-- k in d, k not in d -/
def tInDic (K : PySem.W.Frag) (neg : Bool) (ty td : TE) : TE := fun σ H Q => ty σ H fun y H1 => td σ H1 fun x H2 => ∃ a kd M ds vs, x = .ref a ∧ H2 a = some (dicO a vs ds) ∧ Reps K H2 M vs ds ∧ Rep K H2 M y kd ∧ keyOk kd = true ∧ Q (.bl (neg != (dGet ds kd).isSome)) H2
theorem XS.some {K : PySem.W.Frag} {H : Hp} {M : Mset} {kd : D} {xs : Xs} {vs : List V} {ds : List D} (hk : keyOk kd = true) (x : XS xs vs ds) (r : Reps K H M vs ds) : (atKey xs (keyOf kd)).isSome = (dGet ds kd).isSome := by
  rcases x.get hk r with ⟨h1, h2⟩ | ⟨d, p, v, h1, h2, _⟩
  · rw [h1, h2]; rfl
  · rw [h1, h2]; rfl
theorem pc_inDic (hu : X.A.units + 9 < cLine) (hi : PE X i ty) (ho : PE X o td) : PC X .In i o (tInDic X.K false ty td) := by
  refine ⟨fun pins s σ H Q I h => ?_⟩
  refine thn (hi.run pins s σ H _ I h) fun iv s1 ⟨y, H1, I1, ry, q1⟩ => thn (ho.run pins s1 σ H1 _ I1 q1) fun u s2 ⟨x, H2, I2, rx, a, kd, M, ds, vs, ex, e, r, rk, hk, q2⟩ => ?_
  subst ex
  obtain rfl : u = Value.ref a := rx
  obtain ⟨xs, dd, hx, hd⟩ := dic_of I2 e r
  obtain ⟨b, _, eb, ib⟩ := key_is I2 hk rk ry
  subst eb
  refine in_keyed (knd := nestedKind X.prog X.w) (kvs := pairsH xs) (by show X.A.units + 1 + 8 < cLine; omega) ib hd ⟨xs, dd, rfl⟩ ?_
  refine ⟨.bl _, H2, I2.tok _, ?_, q2⟩
  show Value.bool _ = Value.bool _
  rw [valueAt_pairsH, Option.isSome_map, hx.some hk r]
  simp
theorem pc_notInDic (hu : X.A.units + 9 < cLine) (hi : PE X i ty) (ho : PE X o td) : PC X .NotIn i o (tInDic X.K true ty td) := by
  refine ⟨fun pins s σ H Q I h => ?_⟩
  refine thn (hi.run pins s σ H _ I h) fun iv s1 ⟨y, H1, I1, ry, q1⟩ => thn (ho.run pins s1 σ H1 _ I1 q1) fun u s2 ⟨x, H2, I2, rx, a, kd, M, ds, vs, ex, e, r, rk, hk, q2⟩ => ?_
  subst ex
  obtain rfl : u = Value.ref a := rx
  obtain ⟨xs, dd, hx, hd⟩ := dic_of I2 e r
  obtain ⟨b, _, eb, ib⟩ := key_is I2 hk rk ry
  subst eb
  refine notIn_keyed (knd := nestedKind X.prog X.w) (kvs := pairsH xs) (by show X.A.units + 1 + 8 < cLine; omega) ib hd ⟨xs, dd, rfl⟩ ?_
  refine ⟨.bl _, H2, I2.tok _, ?_, q2⟩
  show Value.bool _ = Value.bool _
  rw [valueAt_pairsH, Option.isSome_map, hx.some hk r]
  simp
def mInD (neg : Bool) (i : Nat) (mk : ME) : ME := fun ρ => match mk ρ with
  | some (pk, ρ1) => match peek ρ1 pk with
    | some kd => match ρ1[i]? with
      | some (some (.own .dic ds)) => if keyOk kd = true then some (.val (.imm (.bool (neg != (dGet ds kd).isSome))), ρ1) else none
      | _ => none
    | none => none
  | none => none
theorem tE_inD {K : PySem.W.Frag} {neg : Bool} {i : Nat} {σ : St} {H : Hp} {Q : VK} (h : tE K (mInD neg i mk) σ H Q) : tInDic K neg (tE K mk) (tVar i) σ H Q := by
  obtain ⟨ρ, M, O, π, pr, ρ', h, e, q⟩ := h
  unfold mInD at e
  split at e
  · rename_i pk ρ1 e1
    split at e
    · rename_i kd e2
      split at e
      · rename_i ds e3
        split at e
        · rename_i hk
          cases e
          refine ⟨ρ, M, O, π, pk, _, h, e1, fun y H1 M1 x1 s1 r1 => ?_⟩
          obtain ⟨a, vs, f1, f2, f3, f4, f5, _⟩ := s1.own i .dic ds e3
          exact ⟨.ref a, f1, a, kd, M1, ds, vs, rfl, f2, f5, (peek_vw s1 r1 e2).key hk, hk, q _ H1 M1 x1 s1 (.bl _)⟩
        · cases e
      · cases e
    · cases e
  · cases e
theorem de_inD {i : Nat} (hu : X.A.units + 9 < cLine) (hk : DE X k mk) (ho : PE X o (tVar i)) (hm : behindInMarks .In o = false) : DE X (.Compare k [.In] [o] pos) (mInD false i mk) :=
  PE.imp (pe_cmp (pc_inDic hu hk ho) hm) fun σ H Q h => tE_inD h
theorem de_notInD {i : Nat} (hu : X.A.units + 9 < cLine) (hk : DE X k mk) (ho : PE X o (tVar i)) (hm : behindInMarks .NotIn o = false) : DE X (.Compare k [.NotIn] [o] pos) (mInD true i mk) :=
  PE.imp (pe_cmp (pc_notInDic hu hk ho) hm) fun σ H Q h => tE_inD h
theorem dt_inD {i : Nat} (hu : X.A.units + 9 < cLine) (hk : DE X k mk) (ho : PE X o (tVar i)) (hm : behindInMarks .In o = false) : DT X (.Compare k [.In] [o] pos) (mB (mInD false i mk)) :=
  PT.imp (pt_cmp (pc_inDic hu hk ho) hm) fun σ H Q h => tE_inD (tT_B h)
theorem dt_notInD {i : Nat} (hu : X.A.units + 9 < cLine) (hk : DE X k mk) (ho : PE X o (tVar i)) (hm : behindInMarks .NotIn o = false) : DT X (.Compare k [.NotIn] [o] pos) (mB (mInD true i mk)) :=
  PT.imp (pt_cmp (pc_notInDic hu hk ho) hm) fun σ H Q h => tE_inD (tT_B h)
/-- d[k] -/
def tDIx (K : PySem.W.Frag) (td ty : TE) : TE := fun σ H Q => td σ H fun x H1 => ty σ H1 fun y H2 => ∃ a kd M ds vs d, x = .ref a ∧ H2 a = some (dicO a vs ds) ∧ Reps K H2 M vs ds ∧ Rep K H2 M y kd ∧ keyOk kd = true ∧ dGet ds kd = some d ∧ ∀ v, Rep K H2 M v d → Q v H2
theorem pe_dix (hu : X.A.units + 9 < cLine) (ho : PE X o td) (hi : PE X i ty) (hs : NoSl i) : PE X (.Subscript o i pos) (tDIx X.K td ty) := by
  refine ⟨fun pins s σ H Q I h => ?_⟩
  refine subD_of PySem.F.slot_dict_getitem.lookup hs (thn (ho.run pins s σ H _ I h) fun u s1 ⟨x, H1, I1, rx, q1⟩ => thn (hi.run pins s1 σ H1 _ I1 q1) fun iv s2 ⟨y, H2, I2, ry, a, kd, M, ds, vs, d, ex, e, r, rk, hk, hg, q2⟩ => ?_)
  subst ex
  obtain rfl : u = Value.ref a := rx
  obtain ⟨xs, dd, hx, hd⟩ := dic_of I2 e r
  obtain ⟨b, _, eb, ib⟩ := key_is I2 hk rk ry
  subst eb
  rcases hx.get hk r with ⟨h1, _⟩ | ⟨d', p, v, h1, h2, h3, h4⟩
  · rw [h1] at hg; cases hg
  · rw [h1] at hg; cases hg
    refine ⟨dd.typeIs, ?_⟩
    exact getItem_keyed (knd := nestedKind X.prog X.w) (kvs := pairsH xs) (by show X.A.units + 1 + 8 < cLine; omega) ib ⟨xs, dd, rfl⟩ (by rw [valueAt_pairsH, h2]; rfl) ⟨v, H2, I2.tok _, h3, q2 v h4⟩
def mDIx (i : Nat) (mk : ME) : ME := fun ρ => match ρ[i]? with
  | some (some (.own .dic _)) => match mk ρ with
    | some (pk, ρ1) => match peek ρ1 pk with
      | some kd => match ρ1[i]? with
        | some (some (.own .dic ds)) => if keyOk kd = true then match dGet ds kd with
          | some d => some (.val (.imm d), ρ1)
          | none => none
          else none
        | _ => none
      | none => none
    | none => none
  | _ => none
theorem de_dix {i : Nat} (hu : X.A.units + 9 < cLine) (ho : PE X o (tVar i)) (hk : DE X k mk) (hs : NoSl k) : DE X (.Subscript o k pos) (mDIx i mk) :=
  PE.imp (pe_dix hu ho hk hs) fun σ H Q ⟨ρ, M, O, π, pr, ρ', h, e, q⟩ => by
    unfold mDIx at e
    split at e
    · rename_i ds0 e0
      obtain ⟨a0, vs0, g1, g2, g3, g4, g5, _⟩ := h.own i .dic ds0 e0
      refine ⟨.ref a0, g1, ?_⟩
      split at e
      · rename_i pk ρ1 e1
        split at e
        · rename_i kd e2
          split at e
          · rename_i ds e3
            split at e
            · rename_i hk
              split at e
              · rename_i d ed
                cases e
                refine ⟨ρ, M, O, π, pk, _, h, e1, fun y H1 M1 x1 s1 r1 => ?_⟩
                obtain ⟨a, vs, f1, f2, f3, f4, f5, _⟩ := s1.own i .dic ds e3
                rw [g1] at f1; cases f1
                exact ⟨a0, kd, M1, ds, vs, d, rfl, f2, f5, (peek_vw s1 r1 e2).key hk, hk, ed, fun v rv => q _ H1 M1 x1 s1 rv⟩
              · cases e
            · cases e
          · cases e
        · cases e
      · cases e
    · cases e
/-- d[k] = v -/
def rSetDic (K : PySem.W.Frag) : TSet := fun o i v H Q => ∃ a kd d M ds vs, o = .ref a ∧ H a = some (dicO a vs ds) ∧ Reps K H M vs ds ∧ Rep K H M i kd ∧ Rep K H M v d ∧ keyOk kd = true ∧ ds.length ≤ sizeLine ∧ ∀ vs', Reps K H M vs' (dPut ds kd d) → Q (upd H a (dicO a vs' (dPut ds kd d)))
theorem set_dic (hu : X.A.units + 9 < cLine) : PSet X (rSetDic X.K) := by
  intro pins s σ H o i v ov iv u Q I ro ri rv h
  obtain ⟨a, kd, d, M, ds, vs, ex, e, r, rk, rd, hk, hz, q⟩ := h
  subst ex
  obtain rfl : ov = Value.ref a := ro
  obtain ⟨xs, dd, hx, hd⟩ := dic_of I e r
  obtain ⟨b, e3, eb, ib⟩ := key_is I hk rk ri
  subst eb e3
  obtain ⟨vs', h1, h2⟩ := XS.put hk rv rk rd hx r dd.nodup
  have hl := hx.len
  refine wpAny_setItem_heap (knd := nestedKind X.prog X.w) (hsz := by omega) (by show X.A.units + 1 + 8 < cLine; omega) ib dd fun h' dd' hs => ⟨_, ?_, q vs' h2⟩
  have he : ∃ q, h'.get? a = some q := let ⟨q, _, _, hq, _⟩ := dd'; ⟨q, hq⟩
  exact d_write I (by rw [e]; exact True.intro) hs he (dic_new dd' h1 hd)
def mDPut (i : Nat) (mk me : ME) : MS := fun ρ => match me ρ with
  | some (pr, ρ1) => match frz ρ1 pr with
    | some (d, ρ2) => match ρ2[i]? with
      | some (some (.own .dic _)) => match mk ρ2 with
        | some (pk, ρ3) => match peek ρ3 pk with
          | some kd => match ρ3[i]? with
            | some (some (.own .dic ds)) => if (keyOk kd && fits ds.length) = true then some (.next, ρ3.set i (some (.own .dic (dPut ds kd d)))) else none
            | _ => none
          | none => none
        | none => none
      | _ => none
    | none => none
  | none => none
theorem ds_dput {st : Stmt} {i : Nat} (h : ∀ te tk, PE X e te → PE X k tk → PS X st (tAsg te (gSub (tVar i) tk (rSetDic X.K)))) (he : DE X e me) (hk : DE X k mk) : DS X st (mDPut i mk me) :=
  PS.imp (h _ _ he hk) fun D σ H ⟨ρ, M, O, π, fl, ρ', h, e, q⟩ => by
    unfold mDPut at e
    split at e
    · rename_i pr ρ1 e1
      split at e
      · rename_i d ρ2 e2
        split at e
        · rename_i ds0 e0
          split at e
          · rename_i pk ρ3 e3
            split at e
            · rename_i kd e4
              split at e
              · rename_i ds e5
                split at e
                · rename_i hz
                  cases e
                  rw [Bool.and_eq_true] at hz
                  refine ⟨ρ, M, O, π, pr, ρ1, h, e1, fun v H1 M1 x1 s1 r1 => ?_⟩
                  obtain ⟨M2, x2, s2, r2⟩ := frz_ok s1 r1 e2
                  obtain ⟨a, vs, f1, f2, f3, f4, f5, f6⟩ := s2.own i .dic ds0 e0
                  refine ⟨.ref a, f1, ρ2, M2, O, π, pk, ρ3, s2, e3, fun w H3 M3 x3 s3 r3 => ?_⟩
                  obtain ⟨a', ws, g1, g2, g3, g4, g5, g6⟩ := s3.own i .dic ds e5
                  rw [f1] at g1; cases g1
                  refine ⟨a, kd, d, M3, ds, ws, rfl, g2, g5, (peek_vw s3 r3 e4).key hz.1, r2.tr x3.tr, hz.1, fits_le hz.2, fun vs' hr => ?_⟩
                  obtain ⟨s4, x4, t4⟩ := s3.writeC (b := .dic) (ws := vs') (es := dPut ds kd d) e5 f1 hr
                  exact q _ _ M3 (((x1.trans x2).trans x3).trans x4) s4
                · cases e
              · cases e
            · cases e
          · cases e
        · cases e
      · cases e
    · cases e
end
end Vi

namespace Vi
open PySem PySem.Spec PyProof.Rows L2
section
variable {X : Cx} {pos : Pos} {e k : Expr} {tk tv : TE} {me mk : ME}
/-- {k: v} -/
def tDisp1 (K : PySem.W.Frag) (tk tv : TE) : TE := fun σ H Q => ∀ p, H p = none → tk σ (upd H p (dicO p [] [])) fun y H1 => tv σ H1 fun v H2 => H2 p = some (dicO p [] []) ∧ ∃ M kd d, Rep K H2 M y kd ∧ Rep K H2 M v d ∧ keyOk kd = true ∧ Q (.ref p) (upd H2 p (dicO p [y, v] [kd, d]))
theorem pe_disp1 (hu : X.A.units + 9 < cLine) (hk : PE X k tk) (hv : PE X e tv) : PE X (.Dict [some k] [e] pos) (tDisp1 X.K tk tv) := by
  refine ⟨fun pins s σ H Q I q => ?_⟩
  have hn := I.hok.fresh (Nat.le_refl s.heap.objs.size)
  have I1 := I.laid (a := s.heap.objs.size) (o := dicO s.heap.objs.size [] []) (h' := s.heap.push { cls := .type "dict", data := .dict #[] }) (t' := s.toks) (fun _ _ q => Heap.get?_push_of_some _ q) (Nat.le_refl _) (dic_empty s.heap I.big)
  have q' := q _ hn
  rw [arm_eval_Dict, zip_pairTrees [some k] [e] X.env pos rfl rfl, dictDisplay_pairs (pairTrees [some k] [e] X.env pos) (by intro z; cases z) (by show 1 < 17; decide)]
  refine wpAny_bind (wpAny_standAt (wpAny_bind (wpAny_subDictH (knd := nestedKind X.prog X.w) (by show X.A.units + 8 < cLine; omega) (by show 1 ≤ 15; decide) ?_)))
  refine thn ((pps_cons (pos := pos) hk hv pps_nil).run pins _ σ _ (fun ps H2 => match ps with | [(y, v)] => (H2 s.heap.objs.size = some (dicO s.heap.objs.size [] []) ∧ ∃ M kd d, Rep X.K H2 M y kd ∧ Rep X.K H2 M v d ∧ keyOk kd = true ∧ Q (.ref s.heap.objs.size) (upd H2 s.heap.objs.size (dicO s.heap.objs.size [y, v] [kd, d]))) | _ => False) I1 q') fun ws s2 ⟨ps, H2, I2, rel, q2⟩ => ?_
  match ps, rel, q2 with
  | [(y, v)], .cons (b := (u, val)) ⟨ry, rv⟩ .nil, ⟨e2, M, kd, d, rk, rd, hkd, q3⟩ =>
    obtain ⟨b, e3, e4, ib⟩ := key_is I2 hkd rk ry
    have e4' : u = .ref b := e4
    subst e3 e4'
    obtain ⟨xs, dd, hx, hd⟩ := dic_of I2 e2 (M := M) .nil
    cases hx
    refine ⟨[(keyOf kd, b, val)], ⟨rfl, rfl, ib, True.intro⟩, dd, fun h' tk dd' hs => wpAny_pure ⟨.ref s.heap.objs.size, _, ?_, rfl, q3⟩⟩
    have he : ∃ q, h'.get? s.heap.objs.size = some q := let ⟨q, _, _, hq, _⟩ := dd'; ⟨q, hq⟩
    exact d_write I2 (by rw [e2]; exact True.intro) hs he (dic_new dd' (.cons hkd rv .nil) hd)
def mDOne (mk me : ME) : ME := fun ρ => match mk ρ with
  | some (pk, ρ1) => match frz ρ1 pk with
    | some (kd, ρ2) => match me ρ2 with
      | some (pr, ρ3) => match frz ρ3 pr with
        | some (d, ρ4) => if keyOk kd = true then some (.val (.own .dic [kd, d]), ρ4) else none
        | none => none
      | none => none
    | none => none
  | none => none
theorem de_done (hu : X.A.units + 9 < cLine) (hk : DE X k mk) (he : DE X e me) : DE X (.Dict [some k] [e] pos) (mDOne mk me) := PE.imp (pe_disp1 hu hk he) fun σ H Q ⟨ρ, M, O, π, pr0, ρ', h, e, q⟩ => by
  unfold mDOne at e
  split at e
  · rename_i pk ρ1 e1
    split at e
    · rename_i kd ρ2 e2
      split at e
      · rename_i pr ρ3 e3
        split at e
        · rename_i d ρ4 e4
          split at e
          · rename_i hkd
            cases e
            intro p hp
            have s0 := (h.allocOwn hp (o := dicO p [] [])).more (O' := wth O p) (fun a z => z.elim (fun z => .inl (h.sub a z)) .inr) fun i b ds a f f1 z => by
              obtain ⟨a', ws, g1, g2, g3, g4, _⟩ := h.own i b ds f
              rw [f1] at g1; cases g1
              exact z.elim g4 fun z => by rw [z, hp] at g2; cases g2
            refine ⟨ρ, _, _, π, pk, ρ1, s0, e1, fun y H1 M1 x1 s1 r1 => ?_⟩
            obtain ⟨M2, x2, s2, r2⟩ := frz_ok s1 r1 e2
            refine ⟨ρ2, M2, _, π, pr, ρ3, s2, e3, fun v H3 M3 x3 s3 r3 => ?_⟩
            obtain ⟨M4, x4, s4, r4⟩ := frz_ok s3 r3 e4
            have x := ((x1.trans x2).trans x3).trans x4
            have hH : H3 p = some (dicO p [] []) := x.keep p _ upd_same (.inl (.inr rfl))
            have hM : M4 p := x.sub p (.inr rfl)
            have rk : Rep X.K H3 M4 y kd := r2.tr (x3.trans x4).tr
            have t : ∀ {o : HO} a u, Rd H3 a u → ¬ M4 a → Rd (upd H3 p o) a u ∧ ¬ M4 a := fun {o} a u z n => by
              have ne : a ≠ p := fun w => n (w ▸ hM)
              refine ⟨?_, n⟩
              rcases z with z | ⟨o', z⟩
              · exact .inl (by rw [upd_ne ne]; exact z)
              · exact .inr ⟨o', by rw [upd_ne ne]; exact z⟩
            refine ⟨hH, M4, kd, d, rk, r4, hkd, ?_⟩
            refine q (.ref p) _ M4 ⟨fun a u f z => ?_, fun a z => x.sub a (.inl z), fun a z => ?_⟩ ((s4.writeO hM (.inr rfl)).less fun a z => .inl z) ⟨p, [y, v], rfl, upd_same, hM, fun z => h.live p (h.sub p z) hp, .cons (rk.tr t) (.cons (r4.tr t) .nil), fun i b ds f f1 => ?_⟩
            · have ne : a ≠ p := fun w => by rw [w, hp] at f; cases f
              rw [upd_ne ne]
              exact x.keep a u (by rw [upd_ne ne]; exact f) (z.imp .inl fun n w => w.elim n ne)
            · rcases x.new a z with w | w
              · rcases w with w | w
                · exact .inl w
                · exact .inr (by rw [w]; exact hp)
              · by_cases ne : a = p
                · exact .inr (by rw [ne]; exact hp)
                · rw [upd_ne ne] at w; exact .inr w
            · obtain ⟨a', ws, g1, g2, g3, g4, _⟩ := s4.own i b ds f
              rw [f1] at g1; cases g1
              exact g4 (.inr rfl)
          · cases e
        · cases e
      · cases e
    · cases e
  · cases e
end
theorem room9 {A : Around} {k : Nat} (r : Room k A) : A.units + 9 < cLine := by have := r.un; omega
end Vi

namespace Vi
open PySem PySem.Spec PyProof.Rows L2
/-! sorted(d) -/
section
variable {prog : Program} {w : World} {A : Around} {E : Value → Shared → Prop} {s : Shared} {β : Type} {vs : List Value} {bs : List β} {enc : β → PyData} {R : Value → β → Prop}
theorem items_eq {es : Array DictEntry} {acc : Array Value} (h : ItemsOf (fun i v => ∃ hi : i < es.size, v = es[i].key) acc es.size) : acc.toList = es.toList.map (·.key) := by
  refine List.ext_getElem? fun i => ?_
  rw [Array.getElem?_toList, List.getElem?_map, Array.getElem?_toList]
  by_cases hi : i < es.size
  · have ha : i < acc.size := by rw [h.1]; exact hi
    rw [Array.getElem?_eq_getElem ha, Array.getElem?_eq_getElem hi]
    obtain ⟨_, e⟩ := h.2 i acc[i] (Array.getElem?_eq_getElem ha)
    rw [e]; rfl
  · rw [Array.getElem?_eq_none (by rw [h.1]; omega), Array.getElem?_eq_none (by omega)]; rfl
theorem sorted_dic {l : Addr} {es : Array DictEntry} {ep : Nat} {Q : Value → Shared → Prop} (hh : A.in1.handled = none) (hr : s.heap.DictRaw l es ep) (lo : (l == sysModules) = false) (hv : es.toList.map (·.key) = vs) (e : W.EachIs R vs bs)
    (er : W.EachIs (fun v b => ∃ as, Reads s.heap v (enc b) as) vs bs) (hal : W.AllAlike (bs.map enc)) (hk : W.Sortable (bs.map enc)) (hL : bs.length ≤ sizeLine) (hu : ∀ b, b ∈ bs → A.units + 2 + (enc b).depth < cLine)
    (h : ∀ (h' : Heap) (tk : Nat) (out : List Value), out.length = bs.length → (∀ b o', s.heap.get? b = some o' → h'.get? b = some o') → W.EachIs R out (bs.mergeSort (W.dataLe false enc)) → Q (.ref h'.objs.size) { s with heap := sortedHeap (h'.push (seqObj "list" vs.toArray 0)) h'.objs.size vs out.toArray, toks := tk }) :
    wpAny (model prog w) A (call (.builtin "sorted") [.ref l]) Q E s := by
  have hlen := e.length
  have hes : es.size = vs.length := by rw [← hv, List.length_map, Array.length_toList]
  refine call_function_entry_kw kind_sorted plain_sorted entry_sorted (args_sorted1 _) ?_
  unfold Builtin.«sorted»
  refine wpAny_bind (m := checkCount "sorted" 1 1 _) (wpAny_pure ?_)
  refine wpAny_bind (PySem.W.kdu_collect (A := A.in1) (PySem.KdlSrc.rawDict (es := es) (ep := ep) lo) hh hr (by rw [hes]; omega) fun h' tk acc kp hacc => ?_)
  have hacc' := items_eq hacc
  rw [hv] at hacc'
  rw [hacc']
  refine wpAny_bind (wpAny_newList ?_ (by show vs.length ≤ _; omega))
  have at_ : (h'.push (seqObj "list" vs.toArray 0)).get? h'.objs.size = some (seqObj "list" vs.toArray 0) := Heap.get?_push_size _ rfl
  have kp2 : ∀ b o', s.heap.get? b = some o' → (h'.push (seqObj "list" vs.toArray 0)).get? b = some o' := fun b o' q => Heap.get?_push_of_some _ (kp b o' q)
  have ne : ∀ b o', h'.get? b = some o' → b ≠ h'.objs.size := fun b o' q => Nat.ne_of_lt (Heap.lt_size q)
  have er' : W.EachIs (fun v b => ∃ as, Reads (W.sortingHeap (h'.push (seqObj "list" vs.toArray 0)) h'.objs.size vs) v (enc b) as) vs bs :=
    er.mono fun _ _ ⟨as, r⟩ => ⟨as, PyProof.Rows.Reads.keeps (fun b o' q => W.sortingHeap_old (ne b o' (kp b o' q)) (kp2 b o' q)) r⟩
  refine wpAny_bind (wpAny_holding (wpAny_call_entry_kw slot_list_sort ⟨_, at_, rfl⟩ entry_list_sort ?body (args_list_sort _)))
  case body =>
    show wpAny (model prog w) A.in1.in1 (Builtin.«list.sort» ⟨[.ref h'.objs.size], []⟩) _ _ { s with heap := h'.push (seqObj "list" vs.toArray 0), toks := tk }
    refine wpAny_mono (W.list_sort_vals (κ := W.dataKind (W.sortingHeap (h'.push (seqObj "list" vs.toArray 0)) h'.objs.size vs) (bs.map enc)) (P := fun f s' => f = .done (.ret .none) ∧ Q (.ref h'.objs.size) s') at_ (W.SortsAt.data (s := { s with heap := W.sortingHeap (h'.push (seqObj "list" vs.toArray 0)) h'.objs.size vs, toks := tk }) (W.each_map (R := fun v d => ∃ as, Reads (W.sortingHeap (h'.push (seqObj "list" vs.toArray 0)) h'.objs.size vs) v d as) enc er') hal hk (W.bound_map hu)) (by omega) ⟨rfl, ?_⟩) (fun f s' hf => ?_) fun _ _ e => e
    · exact h h' tk _ (by rw [W.sortVals_length false rfl]; exact hlen) kp (W.sortVals_data false e er' hal)
    · obtain ⟨rfl, hq⟩ := hf
      exact ⟨_, rfl, wpAny_pure ⟨_, rfl, hq⟩⟩
end
def vKeys : List V → List V
  | k :: _ :: r => k :: vKeys r
  | _ => []
theorem XS.vals : ∀ {xs : Xs} {vs : List V} {ds : List D}, XS xs vs ds → Vals (vKeys vs) (xs.map fun x => Value.ref x.2.1)
  | _, _, _, .nil => .nil
  | _, _, _, .cons hk hv r => .cons rfl (XS.vals r)
theorem Reps.keys {K : PySem.W.Frag} {H : Hp} {M : Mset} : ∀ {xs : Xs} {vs : List V} {ds : List D}, XS xs vs ds → Reps K H M vs ds → Reps K H M (vKeys vs) (dKeys ds)
  | _, _, _, .nil, _ => .nil
  | _, _, _, .cons hk hv r, .cons q1 (.cons q2 q) => .cons q1 (Reps.keys r q)
section
variable {X : Cx}
/-- sorted(d) of an own dict -/
def rSortDic (K : PySem.W.Frag) : List V → Hp → VK → Prop := fun vs H Q => ∃ (a : Addr) (M : Mset) (ws : List V) (ds : List D), vs = [.ref a] ∧ H a = some (dicO a ws ds) ∧ Reps K H M ws ds ∧ sortOk (dKeys ds) = true ∧
  ∀ out, Reps K H M out (sortD (dKeys ds)) → ∀ p, H p = none → Q (.ref p) (upd H p (.lst out))
theorem cr_sortDic (hcalm : X.calm = true) (hu : X.A.units + 70 < cLine) : CallR X (.builtin "sorted") (rSortDic X.K) := by
  intro pins s σ H vs us Q I r h
  obtain ⟨a, M, ws, ds, rfl, e0, rs, hok, q⟩ := h
  rw [Vals.ref1 r]
  obtain ⟨xs, dd, hx, hd⟩ := dic_of I e0 rs
  obtain ⟨o, es, ep, h1, h2, h3, h4, _, h5⟩ := id dd
  have rk := Reps.keys hx rs
  have rv := hx.vals
  have hkeys : es.toList.map (·.key) = xs.map fun x => Value.ref x.2.1 := by
    rw [h4, List.map_map]; rfl
  generalize hits : (xs.map fun x => Value.ref x.2.1) = its at *
  have hlen : (vKeys ws).length = (dKeys ds).length := rk.length
  obtain ⟨as, hr⟩ := Dp.readsAll I (dKeys ds) (vKeys ws) its (rk.dp (sortOk_lay hok)) rv
  have hzl : ((vKeys ws).zip (dKeys ds)).length = (dKeys ds).length := by rw [List.length_zip, hlen, Nat.min_self]
  have e : W.EachIs (fun u (b : V × D) => RelV b.1 u) its ((vKeys ws).zip (dKeys ds)) := each_zip rv hlen fun i u x d _ _ _ r => r
  have er : W.EachIs (fun u (b : V × D) => ∃ as, Reads s.heap u (id (Prod.snd b)) as) its ((vKeys ws).zip (dKeys ds)) := each_zip rv hlen fun i u x d h1 _ h3 _ => readsAll_get hr h1 h3
  have em : ((vKeys ws).zip (dKeys ds)).map (fun b => id (Prod.snd b)) = dKeys ds := zip_snd hlen
  refine sorted_dic (enc := fun b : V × D => id b.2) (R := fun u (b : V × D) => RelV b.1 u) (I.ok.hd hcalm) ⟨o, h1, h2, h3⟩ hd hkeys e er (by rw [em]; exact sortOk_al hok) (by rw [em]; exact sortOk_so hok) (by rw [hzl]; exact sortOk_len hok) (fun b hb => ?_) fun h' tk out hol kp ho2 => ?_
  · have hm : b.2 ∈ dKeys ds := by rw [← em]; exact List.mem_map.mpr ⟨b, hb, rfl⟩
    have := sortOk_dp hok _ hm
    show X.A.units + 2 + b.2.depth < cLine
    omega
  · rw [isort_eq (le := W.dataLe false fun b : V × D => id b.2) (W.sortLe_total _ _ _)] at ho2
    have I1 : Inv X pins σ H { s with heap := h', toks := tk } := I.kept kp
    have hz : ((isort (fun a b : V × D => leD a.2 b.2) ((vKeys ws).zip (dKeys ds))).map Prod.fst).length ≤ sizeLine := by
      rw [List.length_map, (isort_perm _).length_eq, hzl]; exact sortOk_len hok
    have hpush : (h'.push (seqObj "list" its.toArray 0)).get? h'.objs.size = some (seqObj "list" its.toArray 0) := Heap.get?_push_size _ rfl
    obtain ⟨e1, hat⟩ := sortedHeap_at (out := out.toArray) hpush
    have e2 : sortD (dKeys ds) = (isort (fun a b : V × D => leD a.2 b.2) ((vKeys ws).zip (dKeys ds))).map Prod.snd := by
      rw [isort_map (le := leD) Prod.snd, zip_snd hlen]; rfl
    refine ⟨.ref h'.objs.size, _, I1.laid (t' := tk) (o := .lst ((isort (fun a b : V × D => leD a.2 b.2) ((vKeys ws).zip (dKeys ds))).map Prod.fst)) (fun b u eb => ?_) (Nat.le_refl _) ⟨hz, out, e1, each_vals ho2, hat⟩, rfl, q _ (by rw [e2]; exact reps_sort fun b hb => reps_zip rk b ((isort_perm _).mem_iff.mp hb)) _ I1.fresh⟩
    have hb : b < h'.objs.size := Heap.lt_size eb
    rw [sortedHeap_old (Nat.ne_of_lt hb) (by rw [size_push']; exact Nat.lt_succ_of_lt hb)]
    exact Heap.get?_push_of_some _ eb
/-- sorted(d), d a name's own dict -/
def mSortDic (i : Nat) : ME := fun ρ => match ρ[i]? with
  | some (some (.own .dic ds)) => if sortOk (dKeys ds) = true then some (.val (.own .loc (sortD (dKeys ds))), ρ) else none
  | _ => none
theorem de_sortDic {i : Nat} {x : Str} {a : Expr} {p pos : Pos} (hcalm : X.calm = true) (hu : X.A.units + 70 < cLine) (hg : Gl X x) (hm : X.mg x = none) (hv : bootBuiltins x = some (.builtin "sorted")) (ha : PE X a (tVar i))
    (hn : x ≠ "__name__" := by decide) (hd : (x == ("__debug__" : Str)) = false := by decide) (he : starEach (a :: []) X.env = (false, eval a X.env) :: starEach [] X.env := by rfl) (hpl : (PySem.backTo pos (starEach [] X.env)).any (·.1) = false := by rfl) : DE X (.Call (.Name x p) [a] [] pos) (mSortDic i) :=
  PE.imp (pe_callB (cr_sortDic hcalm hu) hg hm hv (pa_cons ha pa_nil he) hn hd he hpl) fun σ H Q ⟨ρ, M, O, π, pr, ρ', h, e, q⟩ => by
    unfold mSortDic at e
    split at e
    · rename_i ds e0
      split at e
      · rename_i hz
        cases e
        obtain ⟨a', vs, f1, f2, f3, f4, f5, _⟩ := h.own i .dic ds e0
        exact ⟨.ref a', f1, a', M, vs, ds, rfl, f2, f5, hz, fun out hout p hp => Post.lst (Q := Q) (fun v H' M' x2 => q v H' M' x2) h hout hp⟩
      · cases e
    · cases e
end
/-- a name that a comprehension takes for its own becomes fixed ahead, if it holds a list -/
def mFzO (i : Nat) (me : ME) : ME := fun ρ => match ρ[i]? with
  | some (some (.own .loc _)) => mFz i me ρ
  | _ => me ρ
theorem tE_fzO {K : PySem.W.Frag} {σ : St} {H : Hp} {i : Nat} {me : ME} {Q : VK} (h : tE K (mFzO i me) σ H Q) : tE K me σ H Q := by
  obtain ⟨ρ, M, O, π, pr, ρ2, hs, e, q⟩ := h
  unfold mFzO at e
  split at e
  · exact tE_fz ⟨ρ, M, O, π, pr, ρ2, hs, e, q⟩
  · exact ⟨ρ, M, O, π, pr, ρ2, hs, e, q⟩
theorem de_fzO {X : Cx} {e : Expr} {i : Nat} {me : ME} (h : DE X e me) : DE X e (mFzO i me) := PE.imp h fun _ _ _ q => tE_fzO q
end Vi

namespace K01
open PySem PySem.Spec PyProof.Rows L2 RT Vi

def topS (i : Nat) : Stmt := PySem.Challenge.pw_everychange_k01_things_that_are_tables_o.main.body.getD i (.Pass ⟨0, 0, 0, 0⟩)
theorem sc2 : FnScope ["thing"] ["thing"] (defScope (topS 2)) := ⟨rfl, rfl, rfl, by decide +kernel, rfl, by decide +kernel, by decide +kernel⟩
theorem sc3 : FnScope ["thing"] ["thing"] (defScope (topS 3)) := ⟨rfl, rfl, rfl, by decide +kernel, rfl, by decide +kernel, by decide +kernel⟩
theorem sc4 : FnScope ["thing", "many"] ["thing", "many"] (defScope (topS 4)) := ⟨rfl, rfl, rfl, by decide +kernel, rfl, by decide +kernel, by decide +kernel⟩
theorem sc5 : FnScope ["items", "at"] ["items"] (defScope (topS 5)) := ⟨rfl, rfl, rfl, by decide +kernel, rfl, by decide +kernel, by decide +kernel⟩
theorem sc8 : FnScope ["thing"] ["thing"] (defScope (topS 8)) := ⟨rfl, rfl, rfl, by decide +kernel, rfl, by decide +kernel, by decide +kernel⟩
theorem sc9 : FnScope ["thing", "many", "item"] ["thing", "many"] (defScope (topS 9)) := ⟨rfl, rfl, rfl, by decide +kernel, rfl, by decide +kernel, by decide +kernel⟩
theorem sc11 : FnScope ["thing", "many", "stages", "row"] ["thing", "many", "stages"] (defScope (topS 11)) := ⟨rfl, rfl, rfl, by decide +kernel, rfl, by decide +kernel, by decide +kernel⟩
theorem sc12 : FnScope ["thing", "stages", "row"] ["thing", "stages"] (defScope (topS 12)) := ⟨rfl, rfl, rfl, by decide +kernel, rfl, by decide +kernel, by decide +kernel⟩
theorem sc13 : FnScope ["thing", "many", "stages", "matrix"] ["thing", "many"] (defScope (topS 13)) := ⟨rfl, rfl, rfl, by decide +kernel, rfl, by decide +kernel, by decide +kernel⟩
theorem sc14 : FnScope ["thing", "many", "stages"] ["thing", "many"] (defScope (topS 14)) := ⟨rfl, rfl, rfl, by decide +kernel, rfl, by decide +kernel, by decide +kernel⟩
theorem sc15 : FnScope ["thing", "many", "stages", "tell"] ["thing", "many"] (defScope (topS 15)) := ⟨rfl, rfl, rfl, by decide +kernel, rfl, by decide +kernel, by decide +kernel⟩
theorem sc17 : FnScope ["thing", "many", "power"] ["thing", "many"] (defScope (topS 17)) := ⟨rfl, rfl, rfl, by decide +kernel, rfl, by decide +kernel, by decide +kernel⟩
theorem sc18 : FnScope ["thing", "many", "item", "powers", "x"] ["thing", "many"] (defScope (topS 18)) := ⟨rfl, rfl, rfl, by decide +kernel, rfl, by decide +kernel, by decide +kernel⟩
theorem sc19 : FnScope ["thing", "cells", "part", "poly"] ["thing"] (defScope (topS 19)) := ⟨rfl, rfl, rfl, by decide +kernel, rfl, by decide +kernel, by decide +kernel⟩
theorem sc21 : FnScope ["script", "k", "cell"] ["script", "k"] (defScope (topS 21)) := ⟨rfl, rfl, rfl, by decide +kernel, rfl, by decide +kernel, by decide +kernel⟩
theorem sc22 : FnScope ["urn", "low_so", "drawn", "once", "far", "twice"] ["urn", "low_so"] (defScope (topS 22)) := ⟨rfl, rfl, rfl, by decide +kernel, rfl, by decide +kernel, by decide +kernel⟩
theorem sc23 : FnScope ["script", "top", "cells", "k", "cell", "at_so"] ["script", "top"] (defScope (topS 23)) := ⟨rfl, rfl, rfl, by decide +kernel, rfl, by decide +kernel, by decide +kernel⟩
theorem sc24 : FnScope ["urn", "some_so"] ["urn", "some_so"] (defScope (topS 24)) := ⟨rfl, rfl, rfl, by decide +kernel, rfl, by decide +kernel, by decide +kernel⟩
theorem sc25 : FnScope ["got", "goal", "mine_so", "own"] ["got", "goal"] (defScope (topS 25)) := ⟨rfl, rfl, rfl, by decide +kernel, rfl, by decide +kernel, by decide +kernel⟩
theorem sc26 : FnScope ["matter", "own"] ["matter"] (defScope (topS 26)) := ⟨rfl, rfl, rfl, by decide +kernel, rfl, by decide +kernel, by decide +kernel⟩
theorem sc27 : FnScope ["high", "deep", "near", "far", "turn"] ["high", "deep"] (defScope (topS 27)) := ⟨rfl, rfl, rfl, by decide +kernel, rfl, by decide +kernel, by decide +kernel⟩
theorem sc28 : FnScope ["matter"] ["matter"] (defScope (topS 28)) := ⟨rfl, rfl, rfl, by decide +kernel, rfl, by decide +kernel, by decide +kernel⟩
theorem sc29 : FnScope ["matter"] ["matter"] (defScope (topS 29)) := ⟨rfl, rfl, rfl, by decide +kernel, rfl, by decide +kernel, by decide +kernel⟩
theorem sc30 : FnScope ["urn"] ["urn"] (defScope (topS 30)) := ⟨rfl, rfl, rfl, by decide +kernel, rfl, by decide +kernel, by decide +kernel⟩
theorem sc31 : FnScope ["urn", "many", "stages_in", "straight_so", "matrices_so", "part", "rows_so", "k", "row_so", "weights_so", "far"] ["urn", "many", "stages_in", "straight_so"] (defScope (topS 31)) := ⟨rfl, rfl, rfl, by decide +kernel, rfl, by decide +kernel, by decide +kernel⟩
theorem sc32 : FnScope ["urn", "cells_in", "below_so", "most", "ledger", "lap", "powers", "turn", "k"] ["urn", "cells_in", "below_so", "most"] (defScope (topS 32)) := ⟨rfl, rfl, rfl, by decide +kernel, rfl, by decide +kernel, by decide +kernel⟩
theorem sc33 : FnScope ["urn", "many", "cells_in", "ladder_so", "most", "found", "part", "k"] ["urn", "many", "cells_in", "ladder_so", "most"] (defScope (topS 33)) := ⟨rfl, rfl, rfl, by decide +kernel, rfl, by decide +kernel, by decide +kernel⟩
theorem sc34 : FnScope ["urn", "matter", "spot", "way_so"] ["urn", "matter"] (defScope (topS 34)) := ⟨rfl, rfl, rfl, by decide +kernel, rfl, by decide +kernel, by decide +kernel⟩
theorem sc35 : FnScope ["matter", "size", "x"] ["matter", "size"] (defScope (topS 35)) := ⟨rfl, rfl, rfl, by decide +kernel, rfl, by decide +kernel, by decide +kernel⟩
theorem sc36 : FnScope ["matter", "many", "size", "part", "own"] ["matter", "many"] (defScope (topS 36)) := ⟨rfl, rfl, rfl, by decide +kernel, rfl, by decide +kernel, by decide +kernel⟩
theorem sc37 : FnScope ["matter", "many", "size", "own"] ["matter", "many", "size"] (defScope (topS 37)) := ⟨rfl, rfl, rfl, by decide +kernel, rfl, by decide +kernel, by decide +kernel⟩
theorem sc38 : FnScope ["matter", "many", "flat_so", "size", "own"] ["matter", "many", "flat_so"] (defScope (topS 38)) := ⟨rfl, rfl, rfl, by decide +kernel, rfl, by decide +kernel, by decide +kernel⟩
theorem sc39 : FnScope ["matter", "cells_in", "own", "k", "left", "right"] ["matter", "cells_in"] (defScope (topS 39)) := ⟨rfl, rfl, rfl, by decide +kernel, rfl, by decide +kernel, by decide +kernel⟩
theorem sc40 : FnScope ["matter", "size", "part", "own"] ["matter"] (defScope (topS 40)) := ⟨rfl, rfl, rfl, by decide +kernel, rfl, by decide +kernel, by decide +kernel⟩
theorem sc41 : FnScope ["nil", "half", "one", "plain", "middle", "both_in", "bare", "heard", "due", "odd", "fine", "polys_so", "square", "spring_so", "own"] [] (defScope (topS 41)) := ⟨rfl, rfl, rfl, by decide +kernel, rfl, by decide +kernel, by decide +kernel⟩
theorem sc42 : FnScope ["urn", "many", "cells_in", "table_so", "other_so", "sheet_so", "host", "heard", "due", "lap", "bent", "poly_so", "far"] ["urn"] (defScope (topS 42)) := ⟨rfl, rfl, rfl, by decide +kernel, rfl, by decide +kernel, by decide +kernel⟩
theorem sc43 : FnScope ["script", "cells_so", "k"] ["script"] (defScope (topS 43)) := ⟨rfl, rfl, rfl, by decide +kernel, rfl, by decide +kernel, by decide +kernel⟩
/-- is_number -/
def fn2 (cl : Nat → Fn) : Fn := mFn 1 1 ((mRet (mAnd (un (dIsi Ty.int) (mVar 0)) (un dNot (un (dIsi Ty.bool) (mVar 0))))))
/-- is_count -/
def fn3 (cl : Nat → Fn) : Fn := mFn 1 1 ((mRet (mAnd (mCall (cl 2) (rVal (mVar 0) rNil)) (bin dGe (mVar 0) (mC (.int 0))))))
/-- is_tuple -/
def fn4 (cl : Nat → Fn) : Fn := mFn 2 2 ((mRet (mAnd (un (dIsi Ty.tuple) (mVar 0)) (bin dEq (un dLen (mVar 0)) (mVar 1)))))
/-- is_ascending -/
def fn5 (cl : Nat → Fn) : Fn := mFn 2 1 ((mRet (un dAll (mComp (mIRng1 (mCons (bin dSub (un dLen (mVar 0)) (mC (.int 1))) mNil)) (mN 1) mYes (bin dLtA (bin dIx (mVar 0) (mVar 1)) (bin dIx (mVar 0) (bin dAdd (mVar 1) (mC (.int 1))))) [1]))))
/-- is_fraction -/
def fn8 (cl : Nat → Fn) : Fn := mFn 1 1 ((mSeq (mIfS (mOrT (mNotT (mTru (mCall (cl 4) (rVal (mVar 0) (rVal (mC (.int 2)) rNil))))) (mOrT (mNotT (mTru (mCall (cl 2) (rVal (bin dIx (mVar 0) (mC (.int 0))) rNil)))) (mNotT (mTru (mCall (cl 2) (rVal (bin dIx (mVar 0) (mC (.int 1))) rNil)))))) (mRet (mC (.bool false))) mNext) (mRet (mAnd (bin dGe (bin dIx (mVar 0) (mC (.int 1))) (mC (.int 1))) (bin dEq (mA dGcd (mCons (bin dIx (mVar 0) (mC (.int 0))) (mCons (bin dIx (mVar 0) (mC (.int 1))) mNil))) (mC (.int 1)))))))
/-- is_row -/
def fn9 (cl : Nat → Fn) : Fn := mFn 3 2 ((mRet (mAnd (mCall (cl 4) (rVal (mVar 0) (rVal (mVar 1) rNil))) (un dAll (mComp (mISeq (mVar 0)) (mN 2) mYes (mCall (cl 8) (rVal (mVar 2) rNil)) [2])))))
/-- is_rows_of_parts -/
def fn11 (cl : Nat → Fn) : Fn := mFn 4 3 ((mRet (mAnd (mCall (cl 4) (rVal (mVar 0) (rVal (mVar 1) rNil))) (un dAll (mComp (mISeq (mVar 0)) (mN 3) mYes (mCall (cl 9) (rVal (mVar 3) (rVal (mVar 2) rNil))) [3])))))
/-- is_matrix -/
def fn12 (cl : Nat → Fn) : Fn := mFn 3 2 ((mRet (mAnd (mCall (cl 4) (rVal (mVar 0) (rVal (mVar 1) rNil))) (un dAll (mComp (mISeq (mVar 0)) (mN 2) mYes (mCall (cl 9) (rVal (mVar 2) (rVal (mVar 1) rNil))) [2])))))
/-- _stages_if_matrices -/
def fn13 (cl : Nat → Fn) : Fn := mFn 4 2 ((mSeq (mIfS (mOrT (mB (bin dLt (mVar 1) (mC (.int 1)))) (mOrT (mNotT (mTru (mCall (cl 4) (rVal (mVar 0) (rVal (mVar 1) rNil))))) (mNotT (mTru (un (dIsi Ty.tuple) (bin dIx (mVar 0) (mC (.int 0)))))))) (mRet (mC .none)) mNext) (mSeq (mSet 2 (un dLen (bin dIx (mVar 0) (mC (.int 0))))) (mRet (mIf (mTru (un dAll (mComp (mISeq (mVar 0)) (mN 3) mYes (mCall (cl 12) (rVal (mVar 3) (rVal (mVar 2) rNil))) [3]))) (mVar 2) (mC .none))))))
/-- is_table -/
def fn14 (cl : Nat → Fn) : Fn := mFn 3 2 ((mSeq (mIfS (mNotT (mTru (mCall (cl 4) (rVal (mVar 0) (rVal (mC (.int 2)) rNil))))) (mRet (mC (.bool false))) mNext) (mSeq (mSet 2 (mCall (cl 13) (rVal (bin dIx (mVar 0) (mC (.int 0))) (rVal (mVar 1) rNil)))) (mRet (mAnd (bin dIsNot (mVar 2) (mC .none)) (mCall (cl 11) (rVal (bin dIx (mVar 0) (mC (.int 1))) (rVal (mVar 1) (rVal (mVar 2) rNil)))))))))
/-- is_sheet -/
def fn15 (cl : Nat → Fn) : Fn := mFn 4 2 ((mSeq (mIfS (mOrT (mNotT (mTru (mCall (cl 4) (rVal (mVar 0) (rVal (mC (.int 2)) rNil))))) (mNotT (mTru (un (dIsi Ty.tuple) (bin dIx (mVar 0) (mC (.int 1))))))) (mRet (mC (.bool false))) mNext) (mSeq (mSet 2 (mCall (cl 13) (rVal (bin dIx (mVar 0) (mC (.int 0))) (rVal (mVar 1) rNil)))) (mRet (mAnd (bin dIsNot (mVar 2) (mC .none)) (un dAll (mComp (mISeq (bin dIx (mVar 0) (mC (.int 1)))) (mN 3) mYes (mCall (cl 11) (rVal (mVar 3) (rVal (mVar 1) (rVal (mVar 2) rNil)))) [3])))))))
/-- _is_term -/
def fn17 (cl : Nat → Fn) : Fn := mFn 3 2 ((mSeq (mIfS (mOrT (mNotT (mTru (mCall (cl 4) (rVal (mVar 0) (rVal (mC (.int 2)) rNil))))) (mNotT (mTru (mCall (cl 4) (rVal (bin dIx (mVar 0) (mC (.int 0))) (rVal (mVar 1) rNil)))))) (mRet (mC (.bool false))) mNext) (mRet (mAnd (un dAll (mComp (mISeq (bin dIx (mVar 0) (mC (.int 0)))) (mN 2) mYes (mCall (cl 3) (rVal (mVar 2) rNil)) [2])) (mAnd (mCall (cl 8) (rVal (bin dIx (mVar 0) (mC (.int 1))) rNil)) (bin dNe (bin dIx (mVar 0) (mC (.int 1))) (mC (.tuple ([0, 1].map .int)))))))))
/-- is_poly -/
def fn18 (cl : Nat → Fn) : Fn := mFn 5 2 ((mSeq (mIfS (mOrT (mNotT (mTru (un (dIsi Ty.tuple) (mVar 0)))) (mNotT (mTru (un dAll (mComp (mISeq (mVar 0)) (mN 2) mYes (mCall (cl 17) (rVal (mVar 2) (rVal (mVar 1) rNil))) [2]))))) (mRet (mC (.bool false))) mNext) (mRet (mCall (cl 5) (rVal (mComp (mISeq (mVar 0)) (mGseq 2 (mGcons (mN 3) (mGcons (mN 4) mGnil))) mYes (mVar 3) [3, 4]) rNil)))))
/-- is_change -/
def fn19 (cl : Nat → Fn) : Fn := mFn 4 1 ((mSeq (mIfS (mOrT (mNotT (mTru (un (dIsi Ty.tuple) (mVar 0)))) (mOrT (mNotT (mTru (mVar 0))) (mOrT (mNotT (mTru (un (dIsi Ty.tuple) (bin dIx (mVar 0) (mC (.int 0)))))) (mNotT (mTru (bin dIx (mVar 0) (mC (.int 0)))))))) (mRet (mC (.bool false))) mNext) (mSeq (mSet 1 (un dLen (bin dIx (mVar 0) (mC (.int 0))))) (mRet (un dAll (mComp (mISeq (mVar 0)) (mN 2) mYes (mAnd (mCall (cl 4) (rVal (mVar 2) (rVal (mVar 1) rNil))) (un dAll (mComp (mISeq (mVar 2)) (mN 3) mYes (mCall (cl 18) (rVal (mVar 3) (rVal (mVar 1) rNil))) [3]))) [2]))))))
/-- _law_box -/
def fn21 (cl : Nat → Fn) : Fn := mFn 3 2 ((mSeq (mSet 2 (mIf (mB (bin dLt (mVar 1) (un dLen (mVar 0)))) (bin dIx (mVar 0) (mVar 1)) (mC (.int 0)))) (mRet (mLst (mCons (bin dMul (un dAbs (mVar 2)) (un dInt (bin dGe (un dAbs (mVar 2)) (bin dPow (mC (.int 10)) (mC (.int 18)))))) (mCons (bin dAdd (bin dAdd (bin dMod (un dInt (mVar 2)) (mC (.int 2305843009213693951))) (bin dMul (mC (.int 39373)) (mVar 1))) (mC (.int 94501))) (mCons (mC (.int 0)) mNil)))))))
/-- _law_take -/
def fn22 (cl : Nat → Fn) : Fn := mFn 6 2 ((mSeq (mIfS (mB (bin dGt (bin dIx (mVar 0) (mC (.int 0))) (mC (.int 0)))) (mSeq (mSet 2 (bin dMod (un dInt (bin dIx (mVar 0) (mC (.int 0)))) (mVar 1))) (mSeq (mStore 0 (mC (.int 0)) (bin dDiv (bin dIx (mVar 0) (mC (.int 0))) (mVar 1))) (mRet (mVar 2)))) mNext) (mSeq (mStore 0 (mC (.int 2)) (bin dAdd (bin dIx (mVar 0) (mC (.int 2))) (mC (.int 1)))) (mSeq (mSet 3 (bin dMod (un dInt (bin dMul (bin dAdd (bin dIx (mVar 0) (mC (.int 1))) (bin dMul (mC (.int 48271)) (bin dIx (mVar 0) (mC (.int 2))))) (bin dAdd (mC (.int 39373)) (bin dIx (mVar 0) (mC (.int 2)))))) (mC (.int 2147483647)))) (mSeq (mSet 4 (bin dAdd (bin dMod (un dInt (mVar 3)) (mC (.int 40009))) (mC (.int 7)))) (mSeq (mSet 5 (bin dMod (un dInt (bin dMul (bin dAdd (bin dAdd (mVar 3) (bin dIx (mVar 0) (mC (.int 2)))) (bin dDiv (bin dIx (mVar 0) (mC (.int 1))) (mC (.int 1000003)))) (mVar 4))) (mC (.int 2147483629)))) (mRet (bin dMod (un dInt (bin dDiv (bin dMod (un dInt (bin dAdd (bin dMul (mVar 5) (mC (.int 48271))) (mVar 3))) (mC (.int 2147483587))) (mC (.int 64)))) (mVar 1)))))))))
/-- _law_cells -/
def fn23 (cl : Nat → Fn) : Fn := mFn 6 2 ((mSeq (mSet 2 (mOr (un dList (mSl (mVar 0) mNoPart (mPart (mVar 1)))) (mLst (mCons (mC (.int 0)) mNil)))) (mSeq (mFor (mIEnum (mCons (mSl (mVar 0) (mPart (mVar 1)) (mPart (mC (.int 63)))) mNil)) (mGtup 2 (mGcons (mN 3) (mGcons (mN 4) mGnil))) (mSeq (mSet 5 (bin dMod (un dInt (mVar 3)) (mVar 1))) (mStore 2 (mVar 5) (bin dAdd (bin dIx (mVar 2) (mVar 5)) (bin dMul (mVar 4) (bin dAdd (mVar 3) (mC (.int 2)))))))) (mRet (mVar 2)))))
/-- _law_of -/
def fn24 (cl : Nat → Fn) : Fn := mFn 2 2 ((mRet (bin dIx (mVar 1) (mCall (cl 22) (rSlot 0 (rVal (un dLen (mVar 1)) rNil))))))
/-- _law_same -/
def fn25 (cl : Nat → Fn) : Fn := mFn 4 2 ((mSeq (mIfS (mTru (un (dIsi2 Ty.list Ty.tuple) (mVar 1))) (mSeq (mIfS (mOrT (mB (bin dNe (un (dIsi Ty.list) (mVar 0)) (un (dIsi Ty.list) (mVar 1)))) (mB (bin dNe (un (dIsi Ty.tuple) (mVar 0)) (un (dIsi Ty.tuple) (mVar 1))))) (mRet (mC (.bool false))) mNext) (mRet (mAnd (bin dEq (un dLen (mVar 0)) (un dLen (mVar 1))) (un dAll (mComp (mIZip (mCons (mVar 0) (mCons (mVar 1) mNil))) (mGtup 2 (mGcons (mN 2) (mGcons (mN 3) mGnil))) mYes (mCall (cl 25) (rVal (mVar 2) (rVal (mVar 3) rNil))) [2, 3]))))) mNext) (mSeq (mIfS (mOrT (mB (bin dIs (mVar 1) (mC .none))) (mTru (un (dIsi2 Ty.bool Ty.str) (mVar 1)))) (mRet (mAnd (bin dEq (mVar 0) (mVar 1)) (mAnd (bin dEq (un (dIsi Ty.bool) (mVar 0)) (un (dIsi Ty.bool) (mVar 1))) (bin dEq (bin dIs (mVar 0) (mC .none)) (bin dIs (mVar 1) (mC .none)))))) mNext) (mRet (mAnd (un (dIsi Ty.int) (mVar 0)) (mAnd (un dNot (un (dIsi Ty.bool) (mVar 0))) (bin dEq (mVar 0) (mVar 1))))))))
/-- _law_lists -/
def fn26 (cl : Nat → Fn) : Fn := mFn 2 1 ((mRet (mIf (mTru (un (dIsi2 Ty.list Ty.tuple) (mVar 0))) (mComp (mISeq (mVar 0)) (mN 1) mYes (mCall (cl 26) (rVal (mVar 1) rNil)) [1]) (mVar 0))))
/-- _law_low -/
def fn27 (cl : Nat → Fn) : Fn := mFn 5 2 ((mSeq (mPar 2 3 (un dAbs (mVar 0)) (un dAbs (mVar 1))) (mSeq (whl (mB (bin dGt (mVar 3) (mC (.int 0)))) (mPar 2 3 (mVar 3) (bin dMod (un dInt (mVar 2)) (mVar 3))) 64) (mSeq (mSet 4 (mIf (mB (bin dLt (mVar 1) (mC (.int 0)))) (un dNeg (mC (.int 1))) (mC (.int 1)))) (mRet (mTup (mCons (bin dDiv (bin dMul (mVar 4) (mVar 0)) (mVar 2)) (mCons (bin dDiv (bin dMul (mVar 4) (mVar 1)) (mVar 2)) mNil))))))))
/-- _law_number -/
def fn28 (cl : Nat → Fn) : Fn := mFn 1 1 ((mRet (mAnd (un (dIsi Ty.int) (mVar 0)) (un dNot (un (dIsi Ty.bool) (mVar 0))))))
/-- _law_is_frac -/
def fn29 (cl : Nat → Fn) : Fn := mFn 1 1 ((mSeq (mIfS (mOrT (mNotT (mTru (un (dIsi Ty.tuple) (mVar 0)))) (mB (bin dNe (un dLen (mVar 0)) (mC (.int 2))))) (mRet (mC (.bool false))) mNext) (mSeq (mIfS (mOrT (mNotT (mTru (mCall (cl 28) (rVal (bin dIx (mVar 0) (mC (.int 0))) rNil)))) (mOrT (mNotT (mTru (mCall (cl 28) (rVal (bin dIx (mVar 0) (mC (.int 1))) rNil)))) (mB (bin dLt (bin dIx (mVar 0) (mC (.int 1))) (mC (.int 1)))))) (mRet (mC (.bool false))) mNext) (mRet (bin dEq (mCall (cl 27) (rVal (bin dIx (mVar 0) (mC (.int 0))) (rVal (bin dIx (mVar 0) (mC (.int 1))) rNil))) (mVar 0))))))
/-- _law_share -/
def fn30 (cl : Nat → Fn) : Fn := mFn 1 1 ((mRet (mCall (cl 24) (rSlot 0 (rVal (mLst (mCons (mTup (mCons (mC (.int 0)) (mCons (mC (.int 1)) mNil))) (mCons (mTup (mCons (mC (.int 0)) (mCons (mC (.int 1)) mNil))) (mCons (mTup (mCons (mC (.int 0)) (mCons (mC (.int 1)) mNil))) (mCons (mTup (mCons (mC (.int 1)) (mCons (mC (.int 1)) mNil))) (mCons (mTup (mCons (mC (.int 1)) (mCons (mC (.int 1)) mNil))) (mCons (mTup (mCons (un dNeg (mC (.int 1))) (mCons (mC (.int 1)) mNil))) (mCons (mTup (mCons (mC (.int 1)) (mCons (mC (.int 2)) mNil))) (mCons (mTup (mCons (mC (.int 1)) (mCons (mC (.int 3)) mNil))) (mCons (mTup (mCons (un dNeg (mC (.int 2))) (mCons (mC (.int 3)) mNil))) (mCons (mTup (mCons (mC (.int 2)) (mCons (mC (.int 1)) mNil))) (mCons (mTup (mCons (mC (.int 3)) (mCons (mC (.int 4)) mNil))) mNil)))))))))))) rNil)))))
/-- _law_table -/
def fn31 (cl : Nat → Fn) : Fn := mFn 11 4 ((mSeq (mSet 4 (mLst mNil)) (mSeq (mFor (mIRng1 (mCons (mVar 1) mNil)) (mN 5) (mSeq (mSet 6 (mLst mNil)) (mSeq (mFor (mIRng1 (mCons (mVar 2) mNil)) (mN 7) (mSeq (mSet 8 (mComp (mIRng1 (mCons (mVar 2) mNil)) (mN 10) mYes (mCall (cl 30) (rSlot 0 rNil)) [10])) (mDrop (mApp 6 (un dTuple (mComp (mIRng1 (mCons (mVar 2) mNil)) (mN 10) mYes (mIf (mAndT (mTru (mVar 3)) (mB (bin dGeA (mVar 10) (mVar 7)))) (mTup (mCons (mC (.int 0)) (mCons (mC (.int 1)) mNil))) (bin dIx (mVar 8) (mVar 10))) [10])))))) (mDrop (mApp 4 (un dTuple (mVar 6))))))) (mSeq (mSet 9 (mComp (mIRng1 (mCons (mVar 1) mNil)) (mN 5) mYes (un dTuple (mComp (mIRng1 (mCons (mVar 2) mNil)) (mN 10) mYes (mCall (cl 30) (rSlot 0 rNil)) [10])) [5])) (mRet (mTup (mCons (un dTuple (mVar 4)) (mCons (un dTuple (mVar 9)) mNil))))))))
/-- _law_poly_of -/
def fn32 (cl : Nat → Fn) : Fn := mFn 9 4 ((mSeq (mSet 4 mDNew) (mSeq (mFor (mIRng1 (mCons (mCall (cl 24) (rSlot 0 (rVal (mLst (mCons (mC (.int 0)) (mCons (mC (.int 1)) (mCons (mC (.int 1)) (mCons (mC (.int 2)) (mCons (mC (.int 2)) mNil)))))) rNil))) mNil)) (mN 5) (mSeq (mSet 6 (mRep (mLst (mCons (mC (.int 0)) mNil)) (mVar 1))) (mSeq (mFor (mIRng1 (mCons (mCall (cl 22) (rSlot 0 (rVal (bin dAdd (mVar 3) (mC (.int 1))) rNil))) mNil)) (mN 7) (mIfS (mB (bin dGt (mVar 2) (mC (.int 0)))) (mSeq (mSet 8 (mCall (cl 22) (rSlot 0 (rVal (mVar 2) rNil)))) (mStore 6 (mVar 8) (bin dAdd (bin dIx (mVar 6) (mVar 8)) (mC (.int 1))))) mNext)) (mDPut 4 (un dTuple (mVar 6)) (mCall (cl 24) (rSlot 0 (rVal (mLst (mCons (mTup (mCons (mC (.int 1)) (mCons (mC (.int 1)) mNil))) (mCons (mTup (mCons (mC (.int 1)) (mCons (mC (.int 1)) mNil))) (mCons (mTup (mCons (un dNeg (mC (.int 1))) (mCons (mC (.int 1)) mNil))) (mCons (mTup (mCons (mC (.int 2)) (mCons (mC (.int 1)) mNil))) (mCons (mTup (mCons (mC (.int 1)) (mCons (mC (.int 2)) mNil))) (mCons (mTup (mCons (un dNeg (mC (.int 3))) (mCons (mC (.int 1)) mNil))) mNil))))))) rNil))))))) (mRet (un dTuple (mFzO 6 (mComp (mISeq (mSortDic 4)) (mN 6) mYes (mTup (mCons (mVar 6) (mCons (mDIx 4 (mVar 6)) mNil))) [6])))))))
/-- _law_change -/
def fn33 (cl : Nat → Fn) : Fn := mFn 8 5 ((mSeq (mSet 5 (mLst mNil)) (mSeq (mFor (mIRng1 (mCons (mVar 1) mNil)) (mN 6) (mDrop (mApp 5 (un dTuple (mComp (mIRng1 (mCons (mVar 2) mNil)) (mN 7) mYes (mCall (cl 32) (rSlot 0 (rVal (mVar 2) (rVal (mIf (mTru (mVar 3)) (mVar 7) (mVar 2)) (rVal (mVar 4) rNil))))) [7]))))) (mRet (un dTuple (mVar 5))))))
/-- _law_leaf -/
def fn34 (cl : Nat → Fn) : Fn := mFn 4 2 ((mSeq (mIfS (mTru (un (dIsi Ty.tuple) (mVar 1))) (mSeq (mIfS (mB (bin dEq (un dLen (mVar 1)) (mC (.int 0)))) (mRet (mTup (mCons (mTup (mCons (mC (.int 0)) (mCons (mC (.int 1)) mNil))) mNil))) mNext) (mSeq (mPar 2 3 (mCall (cl 22) (rSlot 0 (rVal (un dLen (mVar 1)) rNil))) (mCall (cl 22) (rSlot 0 (rVal (mC (.int 16)) rNil)))) (mSeq (mIfS (mB (bin dEq (mVar 3) (mC (.int 0)))) (mRet (bin dAdd (mSl (mVar 1) mNoPart (mPart (mVar 2))) (mSl (mVar 1) (mPart (bin dAdd (mVar 2) (mC (.int 1)))) mNoPart))) mNext) (mSeq (mIfS (mB (bin dEq (mVar 3) (mC (.int 1)))) (mRet (un dList (mVar 1))) mNext) (mSeq (mIfS (mB (bin dEq (mVar 3) (mC (.int 2)))) (mRet (bin dAdd (mVar 1) (mTup (mCons (bin dIx (mVar 1) (mVar 2)) mNil)))) mNext) (mRet (bin dAdd (bin dAdd (mSl (mVar 1) mNoPart (mPart (mVar 2))) (mTup (mCons (mCall (cl 34) (rSlot 0 (rVal (bin dIx (mVar 1) (mVar 2)) rNil))) mNil))) (mSl (mVar 1) (mPart (bin dAdd (mVar 2) (mC (.int 1)))) mNoPart)))))))) mNext) (mRet (mCall (cl 24) (rSlot 0 (rVal (mLst (mCons (bin dAdd (mVar 1) (mC (.int 1))) (mCons (bin dSub (mVar 1) (mC (.int 1))) (mCons (bin dSub (mC (.int 0)) (mVar 1)) (mCons (mC (.int 0)) (mCons (mC (.int 1)) (mCons (mC (.int 2)) (mCons (mC (.bool true)) (mCons (mC .none) (mCons (mC (.str "1")) (mCons (mTup (mCons (mC (.int 1)) mNil)) mNil))))))))))) rNil))))))
/-- _law_is_band -/
def fn35 (cl : Nat → Fn) : Fn := mFn 3 2 ((mRet (mAnd (un (dIsi Ty.tuple) (mVar 0)) (mAnd (bin dEq (un dLen (mVar 0)) (mVar 1)) (un dAll (mComp (mISeq (mVar 0)) (mN 2) mYes (mCall (cl 29) (rVal (mVar 2) rNil)) [2]))))))
/-- _law_is_block -/
def fn36 (cl : Nat → Fn) : Fn := mFn 5 2 ((mSeq (mIfS (mOrT (mNotT (mTru (un (dIsi Ty.tuple) (mVar 0)))) (mOrT (mB (bin dNe (un dLen (mVar 0)) (mVar 1))) (mNotT (mTru (un (dIsi Ty.tuple) (bin dIx (mVar 0) (mC (.int 0)))))))) (mRet (mC .none)) mNext) (mSeq (mSet 2 (un dLen (bin dIx (mVar 0) (mC (.int 0))))) (mSeq (mFor (mISeq (mVar 0)) (mN 3) (mIfS (mOrT (mNotT (mTru (un (dIsi Ty.tuple) (mVar 3)))) (mOrT (mB (bin dNe (un dLen (mVar 3)) (mVar 2))) (mNotT (mTru (un dAll (mComp (mISeq (mVar 3)) (mN 4) mYes (mCall (cl 35) (rVal (mVar 4) (rVal (mVar 2) rNil))) [4])))))) (mRet (mC .none)) mNext)) (mRet (mVar 2))))))
/-- _law_is_weights -/
def fn37 (cl : Nat → Fn) : Fn := mFn 4 3 ((mRet (mAnd (un (dIsi Ty.tuple) (mVar 0)) (mAnd (bin dEq (un dLen (mVar 0)) (mVar 1)) (un dAll (mComp (mISeq (mVar 0)) (mN 3) mYes (mCall (cl 35) (rVal (mVar 3) (rVal (mVar 2) rNil))) [3]))))))
/-- _law_is_board -/
def fn38 (cl : Nat → Fn) : Fn := mFn 5 3 ((mSeq (mIfS (mOrT (mNotT (mTru (un (dIsi Ty.tuple) (mVar 0)))) (mB (bin dNe (un dLen (mVar 0)) (mC (.int 2))))) (mRet (mC (.bool false))) mNext) (mSeq (mSet 3 (mCall (cl 36) (rVal (bin dIx (mVar 0) (mC (.int 0))) (rVal (mVar 1) rNil)))) (mSeq (mIfS (mB (bin dIs (mVar 3) (mC .none))) (mRet (mC (.bool false))) mNext) (mSeq (mIfS (mTru (mVar 2)) (mRet (mCall (cl 37) (rVal (bin dIx (mVar 0) (mC (.int 1))) (rVal (mVar 1) (rVal (mVar 3) rNil))))) mNext) (mRet (mAnd (un (dIsi Ty.tuple) (bin dIx (mVar 0) (mC (.int 1)))) (un dAll (mComp (mISeq (bin dIx (mVar 0) (mC (.int 1)))) (mN 4) mYes (mCall (cl 37) (rVal (mVar 4) (rVal (mVar 1) (rVal (mVar 3) rNil)))) [4])))))))))
/-- _law_is_poly -/
def fn39 (cl : Nat → Fn) : Fn := mFn 6 2 ((mSeq (mIfS (mNotT (mTru (un (dIsi Ty.tuple) (mVar 0)))) (mRet (mC (.bool false))) mNext) (mSeq (mFor (mISeq (mVar 0)) (mN 2) (mSeq (mIfS (mOrT (mNotT (mTru (un (dIsi Ty.tuple) (mVar 2)))) (mOrT (mB (bin dNe (un dLen (mVar 2)) (mC (.int 2)))) (mOrT (mNotT (mTru (un (dIsi Ty.tuple) (bin dIx (mVar 2) (mC (.int 0)))))) (mB (bin dNe (un dLen (bin dIx (mVar 2) (mC (.int 0)))) (mVar 1)))))) (mRet (mC (.bool false))) mNext) (mIfS (mOrT (mNotT (mTru (un dAll (mComp (mISeq (bin dIx (mVar 2) (mC (.int 0)))) (mN 3) mYes (mAnd (mCall (cl 28) (rVal (mVar 3) rNil)) (bin dGe (mVar 3) (mC (.int 0)))) [3])))) (mOrT (mNotT (mTru (mCall (cl 29) (rVal (bin dIx (mVar 2) (mC (.int 1))) rNil)))) (mB (bin dEq (bin dIx (bin dIx (mVar 2) (mC (.int 1))) (mC (.int 0))) (mC (.int 0)))))) (mRet (mC (.bool false))) mNext))) (mRet (un dAll (mComp (mIZip (mCons (mVar 0) (mCons (mSl (mVar 0) (mPart (mC (.int 1))) mNoPart) mNil))) (mGtup 2 (mGcons (mN 4) (mGcons (mN 5) mGnil))) mYes (bin dLtA (bin dIx (mVar 4) (mC (.int 0))) (bin dIx (mVar 5) (mC (.int 0)))) [4, 5]))))))
/-- _law_is_change -/
def fn40 (cl : Nat → Fn) : Fn := mFn 4 1 ((mSeq (mIfS (mOrT (mNotT (mTru (un (dIsi Ty.tuple) (mVar 0)))) (mOrT (mB (bin dEq (un dLen (mVar 0)) (mC (.int 0)))) (mOrT (mNotT (mTru (un (dIsi Ty.tuple) (bin dIx (mVar 0) (mC (.int 0)))))) (mB (bin dEq (bin dIx (mVar 0) (mC (.int 0))) (mTup mNil)))))) (mRet (mC (.bool false))) mNext) (mSeq (mSet 1 (un dLen (bin dIx (mVar 0) (mC (.int 0))))) (mSeq (mFor (mISeq (mVar 0)) (mN 2) (mIfS (mOrT (mNotT (mTru (un (dIsi Ty.tuple) (mVar 2)))) (mOrT (mB (bin dNe (un dLen (mVar 2)) (mVar 1))) (mNotT (mTru (un dAll (mComp (mISeq (mVar 2)) (mN 3) mYes (mCall (cl 39) (rVal (mVar 3) (rVal (mVar 1) rNil))) [3])))))) (mRet (mC (.bool false))) mNext)) (mRet (mC (.bool true)))))))
/-- _law_by_hand_right -/
def fn41 (cl : Nat → Fn) : Fn := mFn 15 0 ((mSeq (mAsgG (mTup (mCons (mTup (mCons (mC (.int 0)) (mCons (mC (.int 1)) mNil))) (mCons (mTup (mCons (mC (.int 1)) (mCons (mC (.int 2)) mNil))) (mCons (mTup (mCons (mC (.int 1)) (mCons (mC (.int 1)) mNil))) mNil)))) (mGtup 3 (mGcons (mN 0) (mGcons (mN 1) (mGcons (mN 2) mGnil))))) (mSeq (mPar 3 4 (mTup (mCons (mTup (mCons (mTup (mCons (mTup (mCons (mVar 0) mNil)) mNil)) mNil)) (mCons (mTup (mCons (mTup (mCons (mVar 2) mNil)) mNil)) mNil))) (mTup (mCons (mTup (mCons (mTup (mCons (mTup (mCons (mVar 0) (mCons (mVar 0) mNil))) (mCons (mTup (mCons (mVar 1) (mCons (mVar 0) mNil))) mNil))) mNil)) (mCons (mTup (mCons (mTup (mCons (mVar 0) (mCons (mVar 2) mNil))) mNil)) mNil)))) (mSeq (mSet 5 (mTup (mCons (mTup (mCons (mTup (mCons (mTup (mCons (mVar 0) mNil)) mNil)) (mCons (mTup (mCons (mTup (mCons (mVar 1) mNil)) mNil)) mNil))) (mCons (mTup (mCons (mTup (mCons (mVar 2) mNil)) (mCons (mTup (mCons (mVar 2) mNil)) mNil))) mNil)))) (mSeq (mSet 6 (mTup (mCons (mTup (mCons (mTup mNil) mNil)) (mCons (mTup (mCons (mTup mNil) mNil)) mNil)))) (mSeq (mSet 7 (mLst (mCons (mComp (mISeq (mTup (mCons (mVar 3) (mCons (mVar 4) (mCons (mVar 6) (mCons (mVar 5) mNil)))))) (mN 14) mYes (mCall (cl 14) (rVal (mVar 14) (rVal (mC (.int 1)) rNil))) [14]) (mCons (mCall (cl 14) (rVal (mVar 5) (rVal (mC (.int 2)) rNil))) (mCons (mCall (cl 14) (rVal (mTup (mCons (mTup (mCons (mTup mNil) (mCons (mTup mNil) mNil))) (mCons (mTup (mCons (mTup mNil) (mCons (mTup mNil) mNil))) mNil))) (rVal (mC (.int 2)) rNil))) mNil))))) (mSeq (mSet 8 (mLst (mCons (mLst (mCons (mC (.bool true)) (mCons (mC (.bool true)) (mCons (mC (.bool true)) (mCons (mC (.bool false)) mNil))))) (mCons (mC (.bool true)) (mCons (mC (.bool true)) mNil))))) (mSeq (mSet 9 (mLst (mCons (mC .none) (mCons (mTup mNil) (mCons (mTup (mCons (mVar 3) mNil)) (mCons (mTup (mCons (bin dIx (mVar 3) (mC (.int 0))) (mCons (bin dIx (mVar 3) (mC (.int 1))) (mCons (mTup mNil) mNil)))) (mCons (mTup (mCons (bin dIx (mVar 3) (mC (.int 0))) (mCons (mTup (mCons (mTup (mCons (mVar 2) (mCons (mVar 2) mNil))) mNil)) mNil))) (mCons (mTup (mCons (bin dIx (mVar 3) (mC (.int 0))) (mCons (mTup mNil) mNil))) (mCons (mTup (mCons (mTup mNil) (mCons (mTup mNil) mNil))) (mCons (mTup (mCons (mTup (mCons (mTup (mCons (mTup (mCons (mTup (mCons (mC (.int 0)) (mCons (mC (.int 2)) mNil))) mNil)) mNil)) mNil)) (mCons (mTup (mCons (mTup (mCons (mVar 2) mNil)) mNil)) mNil))) mNil)))))))))) (mSeq (mSet 9 (bin dAdd (mVar 9) (mLst (mCons (mTup (mCons (mTup (mCons (mTup (mCons (mTup (mCons (mVar 0) (mCons (mVar 0) mNil))) mNil)) mNil)) (mCons (mTup (mCons (mTup (mCons (mVar 2) mNil)) mNil)) mNil))) (mCons (mTup (mCons (mTup (mCons (mTup (mCons (mTup (mCons (mVar 0) mNil)) (mCons (mTup (mCons (mVar 0) mNil)) mNil))) mNil)) (mCons (mTup (mCons (mTup (mCons (mVar 2) (mCons (mVar 2) mNil))) mNil)) mNil))) (mCons (mLst (mCons (bin dIx (mVar 3) (mC (.int 0))) (mCons (bin dIx (mVar 3) (mC (.int 1))) mNil))) (mCons (mTup (mCons (mTup (mCons (mTup (mCons (mTup (mCons (mC (.bool true)) (mCons (mC (.int 1)) mNil))) mNil)) mNil)) (mCons (mTup (mCons (mTup (mCons (mVar 2) mNil)) mNil)) mNil))) mNil))))))) (mSeq (mSet 9 (bin dAdd (mVar 9) (mLst (mCons (mTup (mCons (mTup (mCons (mTup (mCons (mTup (mCons (mVar 0) mNil)) mNil)) mNil)) (mCons (mTup (mCons (mVar 2) mNil)) mNil))) (mCons (mTup (mCons (mTup (mCons (mTup (mCons (mTup (mCons (mVar 0) mNil)) mNil)) mNil)) (mCons (mTup (mCons (mTup (mCons (mC (.int 1)) mNil)) mNil)) mNil))) (mCons (mC (.str "table")) (mCons (mC (.int 0)) mNil))))))) (mSeq (mSet 7 (bin dAdd (mVar 7) (mLst (mCons (mComp (mISeq (mVar 9)) (mN 14) mYes (mCall (cl 14) (rVal (mVar 14) (rVal (mC (.int 1)) rNil))) [14]) (mCons (mComp (mISeq (mCall (cl 26) (rVal (mLst (mCons (mVar 3) (mCons (mVar 4) mNil))) rNil))) (mN 14) mYes (mCall (cl 14) (rVal (mVar 14) (rVal (mC (.int 1)) rNil))) [14]) mNil))))) (mSeq (mSet 8 (bin dAdd (mVar 8) (mLst (mCons (mRep (mLst (mCons (mC (.bool false)) mNil)) (un dLen (mVar 9))) (mCons (mLst (mCons (mC (.bool false)) (mCons (mC (.bool false)) mNil))) mNil))))) (mSeq (mSet 10 (mLst (mCons (mTup (mCons (bin dIx (mVar 3) (mC (.int 0))) (mCons (mTup mNil) mNil))) (mCons (mTup (mCons (bin dIx (mVar 3) (mC (.int 0))) (mCons (mTup (mCons (bin dIx (mVar 3) (mC (.int 1))) mNil)) mNil))) (mCons (mTup (mCons (bin dIx (mVar 4) (mC (.int 0))) (mCons (mTup (mCons (bin dIx (mVar 4) (mC (.int 1))) (mCons (bin dIx (mVar 4) (mC (.int 1))) mNil))) mNil))) (mCons (mTup (mCons (mTup (mCons (mTup mNil) mNil)) (mCons (mTup mNil) mNil))) (mCons (mTup (mCons (mTup (mCons (mTup mNil) mNil)) (mCons (mTup (mCons (mTup (mCons (mTup mNil) mNil)) mNil)) mNil))) mNil))))))) (mSeq (mSet 7 (bin dAdd (mVar 7) (mLst (mCons (mComp (mISeq (mVar 10)) (mN 14) mYes (mCall (cl 15) (rVal (mVar 14) (rVal (mC (.int 1)) rNil))) [14]) (mCons (mComp (mISeq (mTup (mCons (mVar 3) (mCons (mVar 4) (mCons (mVar 5) (mCons (mTup (mCons (bin dIx (mVar 3) (mC (.int 0))) (mCons (mTup (mCons (bin dIx (mVar 4) (mC (.int 1))) mNil)) mNil))) mNil)))))) (mN 14) mYes (mCall (cl 15) (rVal (mVar 14) (rVal (mC (.int 1)) rNil))) [14]) mNil))))) (mSeq (mSet 8 (bin dAdd (mVar 8) (mLst (mCons (mRep (mLst (mCons (mC (.bool true)) mNil)) (mC (.int 5))) (mCons (mRep (mLst (mCons (mC (.bool false)) mNil)) (mC (.int 4))) mNil))))) (mSeq (mSet 7 (bin dAdd (mVar 7) (mLst (mCons (mCall (cl 15) (rVal (mTup (mCons (bin dIx (mVar 5) (mC (.int 0))) (mCons (mTup (mCons (bin dIx (mVar 5) (mC (.int 1))) mNil)) mNil))) (rVal (mC (.int 2)) rNil))) (mCons (mCall (cl 15) (rPerm 0 2 [1, 0] rNil (rVal (mC (.int 2)) (rVal (mVar 5) rNil)))) (mCons (mCall (cl 14) (rPerm 0 2 [1, 0] rNil (rVal (mC (.int 2)) (rVal (mVar 5) rNil)))) mNil)))))) (mSeq (mSet 8 (bin dAdd (mVar 8) (mLst (mCons (mC (.bool true)) (mCons (mC (.bool false)) (mCons (mC (.bool true)) mNil)))))) (mSeq (mSet 11 (mLst (mCons (mTup mNil) (mCons (mTup (mCons (mTup (mCons (mTup (mCons (mC (.int 0)) mNil)) (mCons (mVar 2) mNil))) mNil)) (mCons (mTup (mCons (mTup (mCons (mTup (mCons (mC (.int 0)) mNil)) (mCons (mVar 1) mNil))) (mCons (mTup (mCons (mTup (mCons (mC (.int 2)) mNil)) (mCons (mTup (mCons (un dNeg (mC (.int 3))) (mCons (mC (.int 1)) mNil))) mNil))) mNil))) mNil))))) (mSeq (mDrop (mApp 7 (bin dAdd (mComp (mISeq (mVar 11)) (mN 14) mYes (mCall (cl 18) (rVal (mVar 14) (rVal (mC (.int 1)) rNil))) [14]) (mLst (mCons (mCall (cl 18) (rVal (mTup mNil) (rVal (mC (.int 0)) rNil))) (mCons (mCall (cl 18) (rVal (mTup (mCons (mTup (mCons (mTup mNil) (mCons (mVar 2) mNil))) mNil)) (rVal (mC (.int 0)) rNil))) (mCons (mCall (cl 18) (rVal (mTup (mCons (mTup (mCons (mTup (mCons (mC (.int 0)) (mCons (mC (.int 1)) mNil))) (mCons (mVar 2) mNil))) (mCons (mTup (mCons (mTup (mCons (mC (.int 1)) (mCons (mC (.int 0)) mNil))) (mCons (mVar 1) mNil))) mNil))) (rVal (mC (.int 2)) rNil))) mNil))))))) (mSeq (mDrop (mApp 8 (mRep (mLst (mCons (mC (.bool true)) mNil)) (mC (.int 6))))) (mSeq (mSet 9 (mLst (mCons (mTup (mCons (mTup (mCons (mTup (mCons (mC (.int 0)) mNil)) (mCons (mVar 0) mNil))) mNil)) (mCons (mTup (mCons (mTup (mCons (mTup (mCons (un dNeg (mC (.int 1))) mNil)) (mCons (mVar 2) mNil))) mNil)) (mCons (mTup (mCons (mTup (mCons (mTup (mCons (mC (.int 2)) mNil)) (mCons (mVar 2) mNil))) (mCons (mTup (mCons (mTup (mCons (mC (.int 0)) mNil)) (mCons (mVar 2) mNil))) mNil))) (mCons (mTup (mCons (mTup (mCons (mTup (mCons (mC (.int 1)) mNil)) (mCons (mVar 2) mNil))) (mCons (mTup (mCons (mTup (mCons (mC (.int 1)) mNil)) (mCons (mVar 1) mNil))) mNil))) (mCons (mTup (mCons (mTup (mCons (mTup (mCons (mC (.bool true)) mNil)) (mCons (mVar 2) mNil))) mNil)) (mCons (mTup (mCons (mTup (mCons (mTup (mCons (mC (.int 0)) (mCons (mC (.int 0)) mNil))) (mCons (mVar 2) mNil))) mNil)) mNil)))))))) (mSeq (mSet 9 (bin dAdd (mVar 9) (mLst (mCons (mTup (mCons (mTup (mCons (mC (.int 0)) (mCons (mVar 2) mNil))) mNil)) (mCons (mLst (mCons (mTup (mCons (mTup (mCons (mC (.int 0)) mNil)) (mCons (mVar 2) mNil))) mNil)) (mCons (mTup (mCons (mTup (mCons (mTup (mCons (mC (.int 0)) mNil)) (mCons (mTup (mCons (mC (.int 2)) (mCons (mC (.int 4)) mNil))) mNil))) mNil)) (mCons (mTup (mCons (mTup (mCons (mTup (mCons (mC (.int 0)) mNil)) (mCons (mVar 2) (mCons (mVar 2) mNil)))) mNil)) (mCons (mC .none) (mCons (mTup (mCons (mTup mNil) mNil)) (mCons (mTup (mCons (mTup (mCons (mTup (mCons (mC (.int 0)) mNil)) (mCons (mC (.int 1)) mNil))) mNil)) mNil)))))))))) (mSeq (mSet 7 (bin dAdd (mVar 7) (mLst (mCons (mComp (mISeq (mVar 9)) (mN 14) mYes (mCall (cl 18) (rVal (mVar 14) (rVal (mC (.int 1)) rNil))) [14]) (mCons (mCall (cl 18) (rPerm 0 2 [1, 0] rNil (rVal (mC (.int 1)) (rVal (mTup (mCons (mTup (mCons (mTup (mCons (mC (.int 1)) mNil)) (mCons (mVar 2) mNil))) mNil)) rNil)))) mNil))))) (mSeq (mSet 8 (bin dAdd (mVar 8) (mLst (mCons (mRep (mLst (mCons (mC (.bool false)) mNil)) (un dLen (mVar 9))) (mCons (mC (.bool true)) mNil))))) (mSeq (mSet 12 (mTup (mCons (mTup (mCons (mTup (mCons (mTup (mCons (mTup (mCons (mC (.int 2)) mNil)) (mCons (mVar 2) mNil))) mNil)) mNil)) mNil))) (mSeq (mSet 13 (mTup (mCons (mTup (mCons (mTup (mCons (mTup (mCons (mTup (mCons (mC (.int 0)) (mCons (mC (.int 1)) mNil))) (mCons (mVar 2) mNil))) mNil)) (mCons (mTup mNil) mNil))) (mCons (mTup (mCons (mTup mNil) (mCons (mTup (mCons (mTup (mCons (mTup (mCons (mC (.int 1)) (mCons (mC (.int 0)) mNil))) (mCons (mVar 2) mNil))) mNil)) mNil))) mNil)))) (mSeq (mDrop (mApp 7 (mComp (mISeq (mTup (mCons (mVar 12) (mCons (mVar 13) (mCons (mTup (mCons (mTup (mCons (mTup mNil) mNil)) mNil)) (mCons (mTup (mCons (mTup (mCons (mTup mNil) (mCons (mTup mNil) mNil))) (mCons (mTup (mCons (mTup mNil) (mCons (mTup mNil) mNil))) mNil))) mNil)))))) (mN 14) mYes (mCall (cl 19) (rVal (mVar 14) rNil)) [14]))) (mSeq (mDrop (mApp 8 (mRep (mLst (mCons (mC (.bool true)) mNil)) (mC (.int 4))))) (mSeq (mSet 9 (mLst (mCons (mTup mNil) (mCons (mTup (mCons (mTup mNil) mNil)) (mCons (mTup (mCons (mVar 12) mNil)) (mCons (mTup (mCons (mTup (mCons (bin dIx (bin dIx (mVar 12) (mC (.int 0))) (mC (.int 0))) (mCons (mTup mNil) mNil))) mNil)) (mCons (mTup (mCons (mTup (mCons (mTup mNil) mNil)) (mCons (mTup (mCons (mTup mNil) (mCons (mTup mNil) mNil))) mNil))) (mCons (mLst (mCons (bin dIx (mVar 12) (mC (.int 0))) mNil)) (mCons (mTup (mCons (mTup (mCons (mTup (mCons (mTup (mCons (mTup (mCons (mC (.int 0)) (mCons (mC (.int 0)) mNil))) (mCons (mVar 2) mNil))) mNil)) mNil)) mNil)) (mCons (mC .none) (mCons (mC (.int 1)) (mCons (mTup (mCons (mTup (mCons (mC .none) mNil)) mNil)) mNil)))))))))))) (mSeq (mSet 7 (bin dAdd (mVar 7) (mLst (mCons (mComp (mISeq (mVar 9)) (mN 14) mYes (mCall (cl 19) (rVal (mVar 14) rNil)) [14]) (mCons (mCall (cl 19) (rPerm 0 1 [0] rNil (rVal (mVar 12) rNil))) mNil))))) (mRet (mCall (cl 25) (rVal (mVar 7) (rVal (bin dAdd (mVar 8) (mLst (mCons (mRep (mLst (mCons (mC (.bool false)) mNil)) (un dLen (mVar 9))) (mCons (mC (.bool true)) mNil)))) rNil))))))))))))))))))))))))))))))))))
/-- _law_right -/
def fn42 (cl : Nat → Fn) : Fn := mFn 13 1 ((mSeq (mPar 1 2 (bin dAdd (mC (.int 1)) (mCall (cl 22) (rSlot 0 (rVal (mC (.int 3)) rNil)))) (bin dAdd (mC (.int 1)) (mCall (cl 22) (rSlot 0 (rVal (mC (.int 2)) rNil))))) (mSeq (mSet 3 (mCall (cl 31) (rSlot 0 (rVal (mVar 1) (rVal (mCall (cl 22) (rSlot 0 (rVal (mC (.int 4)) rNil))) (rVal (mC (.bool false)) rNil)))))) (mSeq (mSet 4 (mCall (cl 31) (rSlot 0 (rVal (mVar 1) (rVal (un dLen (bin dIx (bin dIx (mVar 3) (mC (.int 0))) (mC (.int 0)))) (rVal (mC (.bool false)) rNil)))))) (mSeq (mSet 5 (mTup (mCons (bin dIx (mVar 3) (mC (.int 0))) (mCons (mSl (mTup (mCons (bin dIx (mVar 3) (mC (.int 1))) (mCons (bin dIx (mVar 4) (mC (.int 1))) mNil))) mNoPart (mPart (mCall (cl 22) (rSlot 0 (rVal (mC (.int 3)) rNil))))) mNil)))) (mSeq (mSet 6 (mCall (cl 33) (rSlot 0 (rVal (mVar 1) (rVal (mVar 2) (rVal (mC (.bool false)) (rVal (mC (.int 3)) rNil))))))) (mSeq (mPar 7 8 (mLst (mCons (mCall (cl 14) (rVal (mVar 3) (rVal (mVar 1) rNil))) (mCons (mCall (cl 15) (rVal (mVar 5) (rVal (mVar 1) rNil))) (mCons (mCall (cl 19) (rVal (mVar 6) rNil)) mNil)))) (mLst (mCons (mC (.bool true)) (mCons (mC (.bool true)) (mCons (mC (.bool true)) mNil))))) (mSeq (mFor (mIRng1 (mCons (mC (.int 3)) mNil)) (mN 9) (mSeq (mSet 10 (mLst (mCons (mCall (cl 34) (rSlot 0 (rVal (mVar 3) rNil))) (mCons (mCall (cl 34) (rSlot 0 (rVal (mVar 5) rNil))) (mCons (mCall (cl 34) (rSlot 0 (rVal (mVar 6) rNil))) mNil))))) (mSeq (mSet 7 (bin dAdd (mVar 7) (mLst (mCons (mCall (cl 14) (rVal (bin dIx (mVar 10) (mC (.int 0))) (rVal (mVar 1) rNil))) (mCons (mCall (cl 15) (rVal (bin dIx (mVar 10) (mC (.int 1))) (rVal (mVar 1) rNil))) (mCons (mCall (cl 19) (rVal (bin dIx (mVar 10) (mC (.int 2))) rNil)) mNil)))))) (mSeq (mSet 8 (bin dAdd (mVar 8) (mLst (mCons (mCall (cl 38) (rVal (bin dIx (mVar 10) (mC (.int 0))) (rVal (mVar 1) (rVal (mC (.bool true)) rNil)))) (mCons (mCall (cl 38) (rVal (bin dIx (mVar 10) (mC (.int 1))) (rVal (mVar 1) (rVal (mC (.bool false)) rNil)))) (mCons (mCall (cl 40) (rVal (bin dIx (mVar 10) (mC (.int 2))) rNil)) mNil)))))) (mSeq (mSet 11 (mCall (cl 32) (rSlot 0 (rVal (mVar 2) (rVal (mVar 2) (rVal (mC (.int 3)) rNil)))))) (mSeq (mSet 12 (mCall (cl 34) (rSlot 0 (rVal (mVar 11) rNil)))) (mSeq (mSet 7 (bin dAdd (mVar 7) (mLst (mCons (mCall (cl 18) (rVal (mVar 11) (rVal (mVar 2) rNil))) (mCons (mCall (cl 18) (rVal (mVar 12) (rVal (mVar 2) rNil))) mNil))))) (mSet 8 (bin dAdd (mVar 8) (mLst (mCons (mC (.bool true)) (mCons (mCall (cl 39) (rVal (mVar 12) (rVal (mVar 2) rNil))) mNil)))))))))))) (mSeq (mSet 7 (bin dAdd (mVar 7) (mLst (mCons (mCall (cl 14) (rVal (mVar 3) (rVal (bin dAdd (mVar 1) (mC (.int 1))) rNil))) (mCons (mCall (cl 15) (rVal (mVar 5) (rVal (bin dAdd (mVar 1) (mC (.int 1))) rNil))) (mCons (mCall (cl 15) (rVal (mVar 3) (rVal (mVar 1) rNil))) (mCons (mCall (cl 14) (rVal (mVar 5) (rVal (mVar 1) rNil))) mNil))))))) (mSeq (mSet 8 (bin dAdd (mVar 8) (mLst (mCons (mC (.bool false)) (mCons (mC (.bool false)) (mCons (mCall (cl 38) (rVal (mVar 3) (rVal (mVar 1) (rVal (mC (.bool false)) rNil)))) (mCons (mCall (cl 38) (rVal (mVar 5) (rVal (mVar 1) (rVal (mC (.bool true)) rNil)))) mNil))))))) (mRet (mCall (cl 25) (rVal (mVar 7) (rVal (mVar 8) rNil))))))))))))))
/-- law -/
def fn43 (cl : Nat → Fn) : Fn := mFn 3 1 ((mSeq (mIfS (mNotT (mTru (mCall (cl 41) rNil))) (mRet (mC (.bool false))) mNext) (mSeq (mSet 1 (mCall (cl 23) (rVal (mVar 0) (rVal (mC (.int 2)) rNil)))) (mRet (un dAll (mComp (mIRng1 (mCons (un dLen (mVar 1)) mNil)) (mN 2) mYes (mCallO (cl 42) (mCall (cl 21) (rVal (mVar 1) (rVal (mVar 2) rNil)))) [2]))))))
def run : Nat → Nat → Fn
  | 0, _ => fun _ => none
  | k + 1, i => match i with
    | 2 => fn2 (run k)
    | 3 => fn3 (run k)
    | 4 => fn4 (run k)
    | 5 => fn5 (run k)
    | 8 => fn8 (run k)
    | 9 => fn9 (run k)
    | 11 => fn11 (run k)
    | 12 => fn12 (run k)
    | 13 => fn13 (run k)
    | 14 => fn14 (run k)
    | 15 => fn15 (run k)
    | 17 => fn17 (run k)
    | 18 => fn18 (run k)
    | 19 => fn19 (run k)
    | 21 => fn21 (run k)
    | 22 => fn22 (run k)
    | 23 => fn23 (run k)
    | 24 => fn24 (run k)
    | 25 => fn25 (run k)
    | 26 => fn26 (run k)
    | 27 => fn27 (run k)
    | 28 => fn28 (run k)
    | 29 => fn29 (run k)
    | 30 => fn30 (run k)
    | 31 => fn31 (run k)
    | 32 => fn32 (run k)
    | 33 => fn33 (run k)
    | 34 => fn34 (run k)
    | 35 => fn35 (run k)
    | 36 => fn36 (run k)
    | 37 => fn37 (run k)
    | 38 => fn38 (run k)
    | 39 => fn39 (run k)
    | 40 => fn40 (run k)
    | 41 => fn41 (run k)
    | 42 => fn42 (run k)
    | 43 => fn43 (run k)
    | _ => fun _ => none
theorem rs2 (k : Nat) : run (k + 1) 2 = fn2 (run k) := rfl
theorem rs3 (k : Nat) : run (k + 1) 3 = fn3 (run k) := rfl
theorem rs4 (k : Nat) : run (k + 1) 4 = fn4 (run k) := rfl
theorem rs5 (k : Nat) : run (k + 1) 5 = fn5 (run k) := rfl
theorem rs8 (k : Nat) : run (k + 1) 8 = fn8 (run k) := rfl
theorem rs9 (k : Nat) : run (k + 1) 9 = fn9 (run k) := rfl
theorem rs11 (k : Nat) : run (k + 1) 11 = fn11 (run k) := rfl
theorem rs12 (k : Nat) : run (k + 1) 12 = fn12 (run k) := rfl
theorem rs13 (k : Nat) : run (k + 1) 13 = fn13 (run k) := rfl
theorem rs14 (k : Nat) : run (k + 1) 14 = fn14 (run k) := rfl
theorem rs15 (k : Nat) : run (k + 1) 15 = fn15 (run k) := rfl
theorem rs17 (k : Nat) : run (k + 1) 17 = fn17 (run k) := rfl
theorem rs18 (k : Nat) : run (k + 1) 18 = fn18 (run k) := rfl
theorem rs19 (k : Nat) : run (k + 1) 19 = fn19 (run k) := rfl
theorem rs21 (k : Nat) : run (k + 1) 21 = fn21 (run k) := rfl
theorem rs22 (k : Nat) : run (k + 1) 22 = fn22 (run k) := rfl
theorem rs23 (k : Nat) : run (k + 1) 23 = fn23 (run k) := rfl
theorem rs24 (k : Nat) : run (k + 1) 24 = fn24 (run k) := rfl
theorem rs25 (k : Nat) : run (k + 1) 25 = fn25 (run k) := rfl
theorem rs26 (k : Nat) : run (k + 1) 26 = fn26 (run k) := rfl
theorem rs27 (k : Nat) : run (k + 1) 27 = fn27 (run k) := rfl
theorem rs28 (k : Nat) : run (k + 1) 28 = fn28 (run k) := rfl
theorem rs29 (k : Nat) : run (k + 1) 29 = fn29 (run k) := rfl
theorem rs30 (k : Nat) : run (k + 1) 30 = fn30 (run k) := rfl
theorem rs31 (k : Nat) : run (k + 1) 31 = fn31 (run k) := rfl
theorem rs32 (k : Nat) : run (k + 1) 32 = fn32 (run k) := rfl
theorem rs33 (k : Nat) : run (k + 1) 33 = fn33 (run k) := rfl
theorem rs34 (k : Nat) : run (k + 1) 34 = fn34 (run k) := rfl
theorem rs35 (k : Nat) : run (k + 1) 35 = fn35 (run k) := rfl
theorem rs36 (k : Nat) : run (k + 1) 36 = fn36 (run k) := rfl
theorem rs37 (k : Nat) : run (k + 1) 37 = fn37 (run k) := rfl
theorem rs38 (k : Nat) : run (k + 1) 38 = fn38 (run k) := rfl
theorem rs39 (k : Nat) : run (k + 1) 39 = fn39 (run k) := rfl
theorem rs40 (k : Nat) : run (k + 1) 40 = fn40 (run k) := rfl
theorem rs41 (k : Nat) : run (k + 1) 41 = fn41 (run k) := rfl
theorem rs42 (k : Nat) : run (k + 1) 42 = fn42 (run k) := rfl
theorem rs43 (k : Nat) : run (k + 1) 43 = fn43 (run k) := rfl
/-- what the top has written -/
structure Top (K : PySem.W.Frag) (mg : Str → Option Value) (fa : Nat → Addr) (fd : Nat → FuncData) : Prop where
  F2 : Fun K "is_number" "is_number" (topS 2) (fa 2) (fd 2)
  g2 : mg "is_number" = some (.ref (fa 2))
  b2 : Binds K (fd 2) ["thing"] []
  F3 : Fun K "is_count" "is_count" (topS 3) (fa 3) (fd 3)
  g3 : mg "is_count" = some (.ref (fa 3))
  b3 : Binds K (fd 3) ["thing"] []
  F4 : Fun K "is_tuple" "is_tuple" (topS 4) (fa 4) (fd 4)
  g4 : mg "is_tuple" = some (.ref (fa 4))
  b4 : Binds K (fd 4) ["thing", "many"] []
  F5 : Fun K "is_ascending" "is_ascending" (topS 5) (fa 5) (fd 5)
  g5 : mg "is_ascending" = some (.ref (fa 5))
  b5 : Binds K (fd 5) ["items"] []
  F8 : Fun K "is_fraction" "is_fraction" (topS 8) (fa 8) (fd 8)
  g8 : mg "is_fraction" = some (.ref (fa 8))
  b8 : Binds K (fd 8) ["thing"] []
  F9 : Fun K "is_row" "is_row" (topS 9) (fa 9) (fd 9)
  g9 : mg "is_row" = some (.ref (fa 9))
  b9 : Binds K (fd 9) ["thing", "many"] []
  F11 : Fun K "is_rows_of_parts" "is_rows_of_parts" (topS 11) (fa 11) (fd 11)
  g11 : mg "is_rows_of_parts" = some (.ref (fa 11))
  b11 : Binds K (fd 11) ["thing", "many", "stages"] []
  F12 : Fun K "is_matrix" "is_matrix" (topS 12) (fa 12) (fd 12)
  g12 : mg "is_matrix" = some (.ref (fa 12))
  b12 : Binds K (fd 12) ["thing", "stages"] []
  F13 : Fun K "_stages_if_matrices" "_stages_if_matrices" (topS 13) (fa 13) (fd 13)
  g13 : mg "_stages_if_matrices" = some (.ref (fa 13))
  b13 : Binds K (fd 13) ["thing", "many"] []
  F14 : Fun K "is_table" "is_table" (topS 14) (fa 14) (fd 14)
  g14 : mg "is_table" = some (.ref (fa 14))
  b14 : Binds K (fd 14) ["thing", "many"] []
  F15 : Fun K "is_sheet" "is_sheet" (topS 15) (fa 15) (fd 15)
  g15 : mg "is_sheet" = some (.ref (fa 15))
  b15 : Binds K (fd 15) ["thing", "many"] []
  F17 : Fun K "_is_term" "_is_term" (topS 17) (fa 17) (fd 17)
  g17 : mg "_is_term" = some (.ref (fa 17))
  b17 : Binds K (fd 17) ["thing", "many"] []
  F18 : Fun K "is_poly" "is_poly" (topS 18) (fa 18) (fd 18)
  g18 : mg "is_poly" = some (.ref (fa 18))
  b18 : Binds K (fd 18) ["thing", "many"] []
  F19 : Fun K "is_change" "is_change" (topS 19) (fa 19) (fd 19)
  g19 : mg "is_change" = some (.ref (fa 19))
  b19 : Binds K (fd 19) ["thing"] []
  F21 : Fun K "_law_box" "_law_box" (topS 21) (fa 21) (fd 21)
  g21 : mg "_law_box" = some (.ref (fa 21))
  b21 : Binds K (fd 21) ["script", "k"] []
  F22 : Fun K "_law_take" "_law_take" (topS 22) (fa 22) (fd 22)
  g22 : mg "_law_take" = some (.ref (fa 22))
  b22 : Binds K (fd 22) ["urn", "low_so"] []
  F23 : Fun K "_law_cells" "_law_cells" (topS 23) (fa 23) (fd 23)
  g23 : mg "_law_cells" = some (.ref (fa 23))
  b23 : Binds K (fd 23) ["script", "top"] []
  F24 : Fun K "_law_of" "_law_of" (topS 24) (fa 24) (fd 24)
  g24 : mg "_law_of" = some (.ref (fa 24))
  b24 : Binds K (fd 24) ["urn", "some_so"] []
  F25 : Fun K "_law_same" "_law_same" (topS 25) (fa 25) (fd 25)
  g25 : mg "_law_same" = some (.ref (fa 25))
  b25 : Binds K (fd 25) ["got", "goal"] []
  F26 : Fun K "_law_lists" "_law_lists" (topS 26) (fa 26) (fd 26)
  g26 : mg "_law_lists" = some (.ref (fa 26))
  b26 : Binds K (fd 26) ["matter"] []
  F27 : Fun K "_law_low" "_law_low" (topS 27) (fa 27) (fd 27)
  g27 : mg "_law_low" = some (.ref (fa 27))
  b27 : Binds K (fd 27) ["high", "deep"] []
  F28 : Fun K "_law_number" "_law_number" (topS 28) (fa 28) (fd 28)
  g28 : mg "_law_number" = some (.ref (fa 28))
  b28 : Binds K (fd 28) ["matter"] []
  F29 : Fun K "_law_is_frac" "_law_is_frac" (topS 29) (fa 29) (fd 29)
  g29 : mg "_law_is_frac" = some (.ref (fa 29))
  b29 : Binds K (fd 29) ["matter"] []
  F30 : Fun K "_law_share" "_law_share" (topS 30) (fa 30) (fd 30)
  g30 : mg "_law_share" = some (.ref (fa 30))
  b30 : Binds K (fd 30) ["urn"] []
  F31 : Fun K "_law_table" "_law_table" (topS 31) (fa 31) (fd 31)
  g31 : mg "_law_table" = some (.ref (fa 31))
  b31 : Binds K (fd 31) ["urn", "many", "stages_in", "straight_so"] []
  F32 : Fun K "_law_poly_of" "_law_poly_of" (topS 32) (fa 32) (fd 32)
  g32 : mg "_law_poly_of" = some (.ref (fa 32))
  b32 : Binds K (fd 32) ["urn", "cells_in", "below_so", "most"] []
  F33 : Fun K "_law_change" "_law_change" (topS 33) (fa 33) (fd 33)
  g33 : mg "_law_change" = some (.ref (fa 33))
  b33 : Binds K (fd 33) ["urn", "many", "cells_in", "ladder_so", "most"] []
  F34 : Fun K "_law_leaf" "_law_leaf" (topS 34) (fa 34) (fd 34)
  g34 : mg "_law_leaf" = some (.ref (fa 34))
  b34 : Binds K (fd 34) ["urn", "matter"] []
  F35 : Fun K "_law_is_band" "_law_is_band" (topS 35) (fa 35) (fd 35)
  g35 : mg "_law_is_band" = some (.ref (fa 35))
  b35 : Binds K (fd 35) ["matter", "size"] []
  F36 : Fun K "_law_is_block" "_law_is_block" (topS 36) (fa 36) (fd 36)
  g36 : mg "_law_is_block" = some (.ref (fa 36))
  b36 : Binds K (fd 36) ["matter", "many"] []
  F37 : Fun K "_law_is_weights" "_law_is_weights" (topS 37) (fa 37) (fd 37)
  g37 : mg "_law_is_weights" = some (.ref (fa 37))
  b37 : Binds K (fd 37) ["matter", "many", "size"] []
  F38 : Fun K "_law_is_board" "_law_is_board" (topS 38) (fa 38) (fd 38)
  g38 : mg "_law_is_board" = some (.ref (fa 38))
  b38 : Binds K (fd 38) ["matter", "many", "flat_so"] []
  F39 : Fun K "_law_is_poly" "_law_is_poly" (topS 39) (fa 39) (fd 39)
  g39 : mg "_law_is_poly" = some (.ref (fa 39))
  b39 : Binds K (fd 39) ["matter", "cells_in"] []
  F40 : Fun K "_law_is_change" "_law_is_change" (topS 40) (fa 40) (fd 40)
  g40 : mg "_law_is_change" = some (.ref (fa 40))
  b40 : Binds K (fd 40) ["matter"] []
  F41 : Fun K "_law_by_hand_right" "_law_by_hand_right" (topS 41) (fa 41) (fd 41)
  g41 : mg "_law_by_hand_right" = some (.ref (fa 41))
  b41 : Binds K (fd 41) [] []
  F42 : Fun K "_law_right" "_law_right" (topS 42) (fa 42) (fd 42)
  g42 : mg "_law_right" = some (.ref (fa 42))
  b42 : Binds K (fd 42) ["urn"] []
  F43 : Fun K "law" "law" (topS 43) (fa 43) (fd 43)
  g43 : mg "law" = some (.ref (fa 43))
  b43 : Binds K (fd 43) ["script"] []
  k19_0_thing : KBinds K (fd 19) ["thing"] ["thing"] (perm 0 1 [0]) (perm 0 1 [0])
  k18_0_many_thing : KBinds K (fd 18) ["thing", "many"] ["many", "thing"] (perm 0 2 [1, 0]) (perm 0 2 [1, 0])
  k14_0_many_thing : KBinds K (fd 14) ["thing", "many"] ["many", "thing"] (perm 0 2 [1, 0]) (perm 0 2 [1, 0])
  k15_0_many_thing : KBinds K (fd 15) ["thing", "many"] ["many", "thing"] (perm 0 2 [1, 0]) (perm 0 2 [1, 0])
  m_ZERO : ConstT K mg "ZERO" [0, 1]
  f_gcd : mg "gcd" = some (.builtin "math.gcd")
  z_abs : mg "abs" = none
  z_all : mg "all" = none
  z_bool : mg "bool" = none
  z_enumerate : mg "enumerate" = none
  z_int : mg "int" = none
  z_isinstance : mg "isinstance" = none
  z_len : mg "len" = none
  z_list : mg "list" = none
  z_range : mg "range" = none
  z_sorted : mg "sorted" = none
  z_str : mg "str" = none
  z_tuple : mg "tuple" = none
  z_zip : mg "zip" = none
structure Gs (P : Program) (w : World) (K : PySem.W.Frag) (mg : Str → Option Value) (base : Heap) (fa : Nat → Addr) (fd : Nat → FuncData) (k : Nat) (cl : Nat → Fn) : Prop where
  c2 : FnOk P w K mg base CX0 k (fa 2) (fd 2) ["thing"] (spD K 1 (cl 2))
  c3 : FnOk P w K mg base CX0 k (fa 3) (fd 3) ["thing"] (spD K 1 (cl 3))
  c4 : FnOk P w K mg base CX0 k (fa 4) (fd 4) ["thing", "many"] (spD K 2 (cl 4))
  c5 : FnOk P w K mg base CX0 k (fa 5) (fd 5) ["items"] (spD K 1 (cl 5))
  c8 : FnOk P w K mg base CX0 k (fa 8) (fd 8) ["thing"] (spD K 1 (cl 8))
  c9 : FnOk P w K mg base CX0 k (fa 9) (fd 9) ["thing", "many"] (spD K 2 (cl 9))
  c11 : FnOk P w K mg base CX0 k (fa 11) (fd 11) ["thing", "many", "stages"] (spD K 3 (cl 11))
  c12 : FnOk P w K mg base CX0 k (fa 12) (fd 12) ["thing", "stages"] (spD K 2 (cl 12))
  c13 : FnOk P w K mg base CX0 k (fa 13) (fd 13) ["thing", "many"] (spD K 2 (cl 13))
  c14 : FnOk P w K mg base CX0 k (fa 14) (fd 14) ["thing", "many"] (spD K 2 (cl 14))
  c15 : FnOk P w K mg base CX0 k (fa 15) (fd 15) ["thing", "many"] (spD K 2 (cl 15))
  c17 : FnOk P w K mg base CX0 k (fa 17) (fd 17) ["thing", "many"] (spD K 2 (cl 17))
  c18 : FnOk P w K mg base CX0 k (fa 18) (fd 18) ["thing", "many"] (spD K 2 (cl 18))
  c19 : FnOk P w K mg base CX0 k (fa 19) (fd 19) ["thing"] (spD K 1 (cl 19))
  c21 : FnOk P w K mg base CX0 k (fa 21) (fd 21) ["script", "k"] (spD K 2 (cl 21))
  c22 : FnOk P w K mg base CX0 k (fa 22) (fd 22) ["urn", "low_so"] (spD K 2 (cl 22))
  c23 : FnOk P w K mg base CX0 k (fa 23) (fd 23) ["script", "top"] (spD K 2 (cl 23))
  c24 : FnOk P w K mg base CX0 k (fa 24) (fd 24) ["urn", "some_so"] (spD K 2 (cl 24))
  c25 : FnOk P w K mg base CX0 k (fa 25) (fd 25) ["got", "goal"] (spD K 2 (cl 25))
  c26 : FnOk P w K mg base CX0 k (fa 26) (fd 26) ["matter"] (spD K 1 (cl 26))
  c27 : FnOk P w K mg base CX0 k (fa 27) (fd 27) ["high", "deep"] (spD K 2 (cl 27))
  c28 : FnOk P w K mg base CX0 k (fa 28) (fd 28) ["matter"] (spD K 1 (cl 28))
  c29 : FnOk P w K mg base CX0 k (fa 29) (fd 29) ["matter"] (spD K 1 (cl 29))
  c30 : FnOk P w K mg base CX0 k (fa 30) (fd 30) ["urn"] (spD K 1 (cl 30))
  c31 : FnOk P w K mg base CX0 k (fa 31) (fd 31) ["urn", "many", "stages_in", "straight_so"] (spD K 4 (cl 31))
  c32 : FnOk P w K mg base CX0 k (fa 32) (fd 32) ["urn", "cells_in", "below_so", "most"] (spD K 4 (cl 32))
  c33 : FnOk P w K mg base CX0 k (fa 33) (fd 33) ["urn", "many", "cells_in", "ladder_so", "most"] (spD K 5 (cl 33))
  c34 : FnOk P w K mg base CX0 k (fa 34) (fd 34) ["urn", "matter"] (spD K 2 (cl 34))
  c35 : FnOk P w K mg base CX0 k (fa 35) (fd 35) ["matter", "size"] (spD K 2 (cl 35))
  c36 : FnOk P w K mg base CX0 k (fa 36) (fd 36) ["matter", "many"] (spD K 2 (cl 36))
  c37 : FnOk P w K mg base CX0 k (fa 37) (fd 37) ["matter", "many", "size"] (spD K 3 (cl 37))
  c38 : FnOk P w K mg base CX0 k (fa 38) (fd 38) ["matter", "many", "flat_so"] (spD K 3 (cl 38))
  c39 : FnOk P w K mg base CX0 k (fa 39) (fd 39) ["matter", "cells_in"] (spD K 2 (cl 39))
  c40 : FnOk P w K mg base CX0 k (fa 40) (fd 40) ["matter"] (spD K 1 (cl 40))
  c41 : FnOk P w K mg base CX0 k (fa 41) (fd 41) [] (spD K 0 (cl 41))
  c42 : FnOk P w K mg base CX0 k (fa 42) (fd 42) ["urn"] (spD K 1 (cl 42))
  c43 : FnOk P w K mg base CX0 k (fa 43) (fd 43) ["script"] (spD K 1 (cl 43))
section
variable {P : Program} {w : World} {K : PySem.W.Frag} {mg : Str → Option Value} {base : Heap} {fa : Nat → Addr} {fd : Nat → FuncData} {k : Nat} {cl : Nat → Fn}
theorem ok2 (T : Top K mg fa fd) (G : Gs P w K mg base fa fd k cl) : FnOk P w K mg base CX0 (k + 1) (fa 2) (fd 2) ["thing"] (spD K 1 (fn2 cl)) :=
  fn_ok T.F2 sc2 fun cdv A outer s H E hr => (dss_one (ds_ret (de_and (de_isi (t := Ty.int) (by rfl) T.z_isinstance boot_isinstance (de_var (pv 0)) (pe_bltn (by rfl) T.z_int boot_int rfl)) (de_one (de_not (de_isi (t := Ty.bool) (by rfl) T.z_isinstance boot_isinstance (de_var (pv 0)) (pe_bltn (by rfl) T.z_bool boot_bool rfl)))))))
theorem ok3 (T : Top K mg fa fd) (G : Gs P w K mg base fa fd k cl) : FnOk P w K mg base CX0 (k + 1) (fa 3) (fd 3) ["thing"] (spD K 1 (fn3 cl)) :=
  fn_ok T.F3 sc3 fun cdv A outer s H E hr => (dss_one (ds_ret (de_and (de_call G.c2 hr (by rfl) T.g2 T.F2.kp T.b2 (dr_val (de_var (pv 0)) dr_nil) (rl_val (rl_nil rfl))) (de_one (de_cmp op_ge os_cmpI (de_var (pv 0)) de_int (nomark _))))))
theorem ok4 (T : Top K mg fa fd) (G : Gs P w K mg base fa fd k cl) : FnOk P w K mg base CX0 (k + 1) (fa 4) (fd 4) ["thing", "many"] (spD K 2 (fn4 cl)) :=
  fn_ok T.F4 sc4 fun cdv A outer s H E hr => (dss_one (ds_ret (de_and (de_isi (t := Ty.tuple) (by rfl) T.z_isinstance boot_isinstance (de_var (pv 0)) (pe_bltn (by rfl) T.z_tuple boot_tuple rfl)) (de_one (de_cmp (op_eqD (room64 hr)) os_eq (de_call1 call_len_seq us_len (by rfl) T.z_len boot_len (de_var (pv 0))) (de_var (pv 1)) (nomark _))))))
theorem ok5 (T : Top K mg fa fd) (G : Gs P w K mg base fa fd k cl) : FnOk P w K mg base CX0 (k + 1) (fa 5) (fd 5) ["items"] (spD K 1 (fn5 cl)) :=
  fn_ok T.F5 sc5 fun cdv A outer s H E hr => (dss_one (ds_ret (de_call1 (cr_all rfl) us_all (by rfl) T.z_all boot_all (de_lc rfl sc5.nd (di_rng1 (by rfl) T.z_range (da_cons (de_op op_sub os_sub (de_call1 call_len_seq us_len (by rfl) T.z_len boot_len (de_var (pv 0))) de_int) da_nil)) (own := [("at", 1)]) (blkOk_by (by kernel_rfl)) (fun _ _ _ _ _ => (dg_name (pg_name sc5.nd rfl (by first | exact Or.inl rfl | exact Or.inr rfl)))) (fun _ _ _ _ _ => dts_nil) (fun _ _ _ _ _ => (de_cmp (op_ltA (room64 hr)) os_cmpD (de_ix ix_A os_ix (de_var (pv 0)) (de_var (pv 1)) (fun _ _ => rfl)) (de_ix ix_A os_ix (de_var (pv 0)) (de_op op_addA os_add (de_var (pv 1)) de_int) (fun _ _ => rfl)) (nomark _))) (by decide)))))
theorem ok8 (T : Top K mg fa fd) (G : Gs P w K mg base fa fd k cl) : FnOk P w K mg base CX0 (k + 1) (fa 8) (fd 8) ["thing"] (spD K 1 (fn8 cl)) :=
  fn_ok T.F8 sc8 fun cdv A outer s H E hr => (dss_cons (ds_if (dt_w (dw_or (dt_not (dt_tru (de_call G.c4 hr (by rfl) T.g4 T.F4.kp T.b4 (dr_val (de_var (pv 0)) (dr_val de_int dr_nil)) (rl_val (rl_val (rl_nil rfl)))))) (dw_or (dt_not (dt_tru (de_call G.c2 hr (by rfl) T.g2 T.F2.kp T.b2 (dr_val (de_ix ix_A os_ix (de_var (pv 0)) de_int (fun _ _ => rfl)) dr_nil) (rl_val (rl_nil rfl))))) (dw_or1 (dt_not (dt_tru (de_call G.c2 hr (by rfl) T.g2 T.F2.kp T.b2 (dr_val (de_ix ix_A os_ix (de_var (pv 0)) de_int (fun _ _ => rfl)) dr_nil) (rl_val (rl_nil rfl))))))))) (dss_one (ds_ret de_bl)) dss_nil)
    (dss_one (ds_ret (de_and (de_cmp op_ge os_cmpI (de_ix ix_A os_ix (de_var (pv 0)) de_int (fun _ _ => rfl)) de_int (nomark _)) (de_one (de_cmp (op_eqD (room64 hr)) os_eq (de_callF cr_gcd as_gcd (by rfl) T.f_gcd (da_cons (de_ix ix_A os_ix (de_var (pv 0)) de_int (fun _ _ => rfl)) (da_cons (de_ix ix_A os_ix (de_var (pv 0)) de_int (fun _ _ => rfl)) da_nil))) de_int (nomark _)))))))
theorem ok9 (T : Top K mg fa fd) (G : Gs P w K mg base fa fd k cl) : FnOk P w K mg base CX0 (k + 1) (fa 9) (fd 9) ["thing", "many"] (spD K 2 (fn9 cl)) :=
  fn_ok T.F9 sc9 fun cdv A outer s H E hr => (dss_one (ds_ret (de_and (de_call G.c4 hr (by rfl) T.g4 T.F4.kp T.b4 (dr_val (de_var (pv 0)) (dr_val (de_var (pv 1)) dr_nil)) (rl_val (rl_val (rl_nil rfl)))) (de_one (de_call1 (cr_all rfl) us_all (by rfl) T.z_all boot_all (de_lc rfl sc9.nd (di_seq (de_var (pv 0))) (own := [("item", 2)]) (blkOk_by (by kernel_rfl)) (fun _ _ _ _ _ => (dg_name (pg_name sc9.nd rfl (by first | exact Or.inl rfl | exact Or.inr rfl)))) (fun _ _ _ _ _ => dts_nil) (fun _ _ _ _ _ => (de_call G.c8 hr (by rfl) T.g8 T.F8.kp T.b8 (dr_val (de_var (pv 2)) dr_nil) (rl_val (rl_nil rfl)))) (by decide)))))))
theorem ok11 (T : Top K mg fa fd) (G : Gs P w K mg base fa fd k cl) : FnOk P w K mg base CX0 (k + 1) (fa 11) (fd 11) ["thing", "many", "stages"] (spD K 3 (fn11 cl)) :=
  fn_ok T.F11 sc11 fun cdv A outer s H E hr => (dss_one (ds_ret (de_and (de_call G.c4 hr (by rfl) T.g4 T.F4.kp T.b4 (dr_val (de_var (pv 0)) (dr_val (de_var (pv 1)) dr_nil)) (rl_val (rl_val (rl_nil rfl)))) (de_one (de_call1 (cr_all rfl) us_all (by rfl) T.z_all boot_all (de_lc rfl sc11.nd (di_seq (de_var (pv 0))) (own := [("row", 3)]) (blkOk_by (by kernel_rfl)) (fun _ _ _ _ _ => (dg_name (pg_name sc11.nd rfl (by first | exact Or.inl rfl | exact Or.inr rfl)))) (fun _ _ _ _ _ => dts_nil) (fun _ _ _ _ _ => (de_call G.c9 hr (by rfl) T.g9 T.F9.kp T.b9 (dr_val (de_var (pv 3)) (dr_val (de_var (pv 2)) dr_nil)) (rl_val (rl_val (rl_nil rfl))))) (by decide)))))))
theorem ok12 (T : Top K mg fa fd) (G : Gs P w K mg base fa fd k cl) : FnOk P w K mg base CX0 (k + 1) (fa 12) (fd 12) ["thing", "stages"] (spD K 2 (fn12 cl)) :=
  fn_ok T.F12 sc12 fun cdv A outer s H E hr => (dss_one (ds_ret (de_and (de_call G.c4 hr (by rfl) T.g4 T.F4.kp T.b4 (dr_val (de_var (pv 0)) (dr_val (de_var (pv 1)) dr_nil)) (rl_val (rl_val (rl_nil rfl)))) (de_one (de_call1 (cr_all rfl) us_all (by rfl) T.z_all boot_all (de_lc rfl sc12.nd (di_seq (de_var (pv 0))) (own := [("row", 2)]) (blkOk_by (by kernel_rfl)) (fun _ _ _ _ _ => (dg_name (pg_name sc12.nd rfl (by first | exact Or.inl rfl | exact Or.inr rfl)))) (fun _ _ _ _ _ => dts_nil) (fun _ _ _ _ _ => (de_call G.c9 hr (by rfl) T.g9 T.F9.kp T.b9 (dr_val (de_var (pv 2)) (dr_val (de_var (pv 1)) dr_nil)) (rl_val (rl_val (rl_nil rfl))))) (by decide)))))))
theorem ok13 (T : Top K mg fa fd) (G : Gs P w K mg base fa fd k cl) : FnOk P w K mg base CX0 (k + 1) (fa 13) (fd 13) ["thing", "many"] (spD K 2 (fn13 cl)) :=
  fn_ok T.F13 sc13 fun cdv A outer s H E hr => (dss_cons (ds_if (dt_w (dw_or (dt_cmp op_lt os_cmpI (de_var (pv 1)) de_int (nomark _)) (dw_or (dt_not (dt_tru (de_call G.c4 hr (by rfl) T.g4 T.F4.kp T.b4 (dr_val (de_var (pv 0)) (dr_val (de_var (pv 1)) dr_nil)) (rl_val (rl_val (rl_nil rfl)))))) (dw_or1 (dt_not (dt_tru (de_isi (t := Ty.tuple) (by rfl) T.z_isinstance boot_isinstance (de_ix ix_A os_ix (de_var (pv 0)) de_int (fun _ _ => rfl)) (pe_bltn (by rfl) T.z_tuple boot_tuple rfl)))))))) (dss_one (ds_ret de_non)) dss_nil)
    (dss_cons (ds_set (fun te h => ps_set sc13.nd rfl (by first | exact Or.inl rfl | exact Or.inr rfl) h) (de_call1 call_len_seq us_len (by rfl) T.z_len boot_len (de_ix ix_A os_ix (de_var (pv 0)) de_int (fun _ _ => rfl))))
    (dss_one (ds_ret (de_if (dt_tru (de_call1 (cr_all rfl) us_all (by rfl) T.z_all boot_all (de_lc rfl sc13.nd (di_seq (de_var (pv 0))) (own := [("matrix", 3)]) (blkOk_by (by kernel_rfl)) (fun _ _ _ _ _ => (dg_name (pg_name sc13.nd rfl (by first | exact Or.inl rfl | exact Or.inr rfl)))) (fun _ _ _ _ _ => dts_nil) (fun _ _ _ _ _ => (de_call G.c12 hr (by rfl) T.g12 T.F12.kp T.b12 (dr_val (de_var (pv 3)) (dr_val (de_var (pv 2)) dr_nil)) (rl_val (rl_val (rl_nil rfl))))) (by decide)))) (de_var (pv 2)) de_non)))))
theorem ok14 (T : Top K mg fa fd) (G : Gs P w K mg base fa fd k cl) : FnOk P w K mg base CX0 (k + 1) (fa 14) (fd 14) ["thing", "many"] (spD K 2 (fn14 cl)) :=
  fn_ok T.F14 sc14 fun cdv A outer s H E hr => (dss_cons (ds_if (dt_not (dt_tru (de_call G.c4 hr (by rfl) T.g4 T.F4.kp T.b4 (dr_val (de_var (pv 0)) (dr_val de_int dr_nil)) (rl_val (rl_val (rl_nil rfl)))))) (dss_one (ds_ret de_bl)) dss_nil)
    (dss_cons (ds_set (fun te h => ps_set sc14.nd rfl (by first | exact Or.inl rfl | exact Or.inr rfl) h) (de_call G.c13 hr (by rfl) T.g13 T.F13.kp T.b13 (dr_val (de_ix ix_A os_ix (de_var (pv 0)) de_int (fun _ _ => rfl)) (dr_val (de_var (pv 1)) dr_nil)) (rl_val (rl_val (rl_nil rfl)))))
    (dss_one (ds_ret (de_and (de_cmp op_notN os_isnot (de_var (pv 2)) de_non (nomark _)) (de_one (de_call G.c11 hr (by rfl) T.g11 T.F11.kp T.b11 (dr_val (de_ix ix_A os_ix (de_var (pv 0)) de_int (fun _ _ => rfl)) (dr_val (de_var (pv 1)) (dr_val (de_var (pv 2)) dr_nil))) (rl_val (rl_val (rl_val (rl_nil rfl)))))))))))
theorem ok15 (T : Top K mg fa fd) (G : Gs P w K mg base fa fd k cl) : FnOk P w K mg base CX0 (k + 1) (fa 15) (fd 15) ["thing", "many"] (spD K 2 (fn15 cl)) :=
  fn_ok T.F15 sc15 fun cdv A outer s H E hr => (dss_cons (ds_if (dt_w (dw_or (dt_not (dt_tru (de_call G.c4 hr (by rfl) T.g4 T.F4.kp T.b4 (dr_val (de_var (pv 0)) (dr_val de_int dr_nil)) (rl_val (rl_val (rl_nil rfl)))))) (dw_or1 (dt_not (dt_tru (de_isi (t := Ty.tuple) (by rfl) T.z_isinstance boot_isinstance (de_ix ix_A os_ix (de_var (pv 0)) de_int (fun _ _ => rfl)) (pe_bltn (by rfl) T.z_tuple boot_tuple rfl))))))) (dss_one (ds_ret de_bl)) dss_nil)
    (dss_cons (ds_set (fun te h => ps_set sc15.nd rfl (by first | exact Or.inl rfl | exact Or.inr rfl) h) (de_call G.c13 hr (by rfl) T.g13 T.F13.kp T.b13 (dr_val (de_ix ix_A os_ix (de_var (pv 0)) de_int (fun _ _ => rfl)) (dr_val (de_var (pv 1)) dr_nil)) (rl_val (rl_val (rl_nil rfl)))))
    (dss_one (ds_ret (de_and (de_cmp op_notN os_isnot (de_var (pv 2)) de_non (nomark _)) (de_one (de_call1 (cr_all rfl) us_all (by rfl) T.z_all boot_all (de_lc rfl sc15.nd (di_seq (de_ix ix_A os_ix (de_var (pv 0)) de_int (fun _ _ => rfl))) (own := [("tell", 3)]) (blkOk_by (by kernel_rfl)) (fun _ _ _ _ _ => (dg_name (pg_name sc15.nd rfl (by first | exact Or.inl rfl | exact Or.inr rfl)))) (fun _ _ _ _ _ => dts_nil) (fun _ _ _ _ _ => (de_call G.c11 hr (by rfl) T.g11 T.F11.kp T.b11 (dr_val (de_var (pv 3)) (dr_val (de_var (pv 1)) (dr_val (de_var (pv 2)) dr_nil))) (rl_val (rl_val (rl_val (rl_nil rfl)))))) (by decide)))))))))
theorem ok17 (T : Top K mg fa fd) (G : Gs P w K mg base fa fd k cl) : FnOk P w K mg base CX0 (k + 1) (fa 17) (fd 17) ["thing", "many"] (spD K 2 (fn17 cl)) :=
  fn_ok T.F17 sc17 fun cdv A outer s H E hr => (dss_cons (ds_if (dt_w (dw_or (dt_not (dt_tru (de_call G.c4 hr (by rfl) T.g4 T.F4.kp T.b4 (dr_val (de_var (pv 0)) (dr_val de_int dr_nil)) (rl_val (rl_val (rl_nil rfl)))))) (dw_or1 (dt_not (dt_tru (de_call G.c4 hr (by rfl) T.g4 T.F4.kp T.b4 (dr_val (de_ix ix_A os_ix (de_var (pv 0)) de_int (fun _ _ => rfl)) (dr_val (de_var (pv 1)) dr_nil)) (rl_val (rl_val (rl_nil rfl))))))))) (dss_one (ds_ret de_bl)) dss_nil)
    (dss_one (ds_ret (de_and (de_call1 (cr_all rfl) us_all (by rfl) T.z_all boot_all (de_lc rfl sc17.nd (di_seq (de_ix ix_A os_ix (de_var (pv 0)) de_int (fun _ _ => rfl))) (own := [("power", 2)]) (blkOk_by (by kernel_rfl)) (fun _ _ _ _ _ => (dg_name (pg_name sc17.nd rfl (by first | exact Or.inl rfl | exact Or.inr rfl)))) (fun _ _ _ _ _ => dts_nil) (fun _ _ _ _ _ => (de_call G.c3 hr (by rfl) T.g3 T.F3.kp T.b3 (dr_val (de_var (pv 2)) dr_nil) (rl_val (rl_nil rfl)))) (by decide))) (de_and (de_call G.c8 hr (by rfl) T.g8 T.F8.kp T.b8 (dr_val (de_ix ix_A os_ix (de_var (pv 0)) de_int (fun _ _ => rfl)) dr_nil) (rl_val (rl_nil rfl))) (de_one (de_cmp (op_neD (room64 hr)) os_ne (de_ix ix_A os_ix (de_var (pv 0)) de_int (fun _ _ => rfl)) (de_const (by rfl) T.m_ZERO) (nomark _))))))))
theorem ok18 (T : Top K mg fa fd) (G : Gs P w K mg base fa fd k cl) : FnOk P w K mg base CX0 (k + 1) (fa 18) (fd 18) ["thing", "many"] (spD K 2 (fn18 cl)) :=
  fn_ok T.F18 sc18 fun cdv A outer s H E hr => (dss_cons (ds_if (dt_w (dw_or (dt_not (dt_tru (de_isi (t := Ty.tuple) (by rfl) T.z_isinstance boot_isinstance (de_var (pv 0)) (pe_bltn (by rfl) T.z_tuple boot_tuple rfl)))) (dw_or1 (dt_not (dt_tru (de_call1 (cr_all rfl) us_all (by rfl) T.z_all boot_all (de_lc rfl sc18.nd (di_seq (de_var (pv 0))) (own := [("item", 2)]) (blkOk_by (by kernel_rfl)) (fun _ _ _ _ _ => (dg_name (pg_name sc18.nd rfl (by first | exact Or.inl rfl | exact Or.inr rfl)))) (fun _ _ _ _ _ => dts_nil) (fun _ _ _ _ _ => (de_call G.c17 hr (by rfl) T.g17 T.F17.kp T.b17 (dr_val (de_var (pv 2)) (dr_val (de_var (pv 1)) dr_nil)) (rl_val (rl_val (rl_nil rfl))))) (by decide)))))))) (dss_one (ds_ret de_bl)) dss_nil)
    (dss_one (ds_ret (de_call G.c5 hr (by rfl) T.g5 T.F5.kp T.b5 (dr_val (de_lc rfl sc18.nd (di_seq (de_var (pv 0))) (own := [("powers", 3), ("x", 4)]) (blkOk_by (by kernel_rfl)) (fun _ _ _ _ _ => (dg_seq rfl (dgs_cons (dg_name (pg_name sc18.nd rfl (by first | exact Or.inl rfl | exact Or.inr rfl))) (dgs_cons (dg_name (pg_name sc18.nd rfl (by first | exact Or.inl rfl | exact Or.inr rfl))) dgs_nil)))) (fun _ _ _ _ _ => dts_nil) (fun _ _ _ _ _ => (de_var (pv 3))) (by decide)) dr_nil) (rl_val (rl_nil rfl))))))
theorem ok19 (T : Top K mg fa fd) (G : Gs P w K mg base fa fd k cl) : FnOk P w K mg base CX0 (k + 1) (fa 19) (fd 19) ["thing"] (spD K 1 (fn19 cl)) :=
  fn_ok T.F19 sc19 fun cdv A outer s H E hr => (dss_cons (ds_if (dt_w (dw_or (dt_not (dt_tru (de_isi (t := Ty.tuple) (by rfl) T.z_isinstance boot_isinstance (de_var (pv 0)) (pe_bltn (by rfl) T.z_tuple boot_tuple rfl)))) (dw_or (dt_not (dt_tru (de_var (pv 0)))) (dw_or (dt_not (dt_tru (de_isi (t := Ty.tuple) (by rfl) T.z_isinstance boot_isinstance (de_ix ix_A os_ix (de_var (pv 0)) de_int (fun _ _ => rfl)) (pe_bltn (by rfl) T.z_tuple boot_tuple rfl)))) (dw_or1 (dt_not (dt_tru (de_ix ix_A os_ix (de_var (pv 0)) de_int (fun _ _ => rfl))))))))) (dss_one (ds_ret de_bl)) dss_nil)
    (dss_cons (ds_set (fun te h => ps_set sc19.nd rfl (by first | exact Or.inl rfl | exact Or.inr rfl) h) (de_call1 call_len_seq us_len (by rfl) T.z_len boot_len (de_ix ix_A os_ix (de_var (pv 0)) de_int (fun _ _ => rfl))))
    (dss_one (ds_ret (de_call1 (cr_all rfl) us_all (by rfl) T.z_all boot_all (de_lc rfl sc19.nd (di_seq (de_var (pv 0))) (own := [("part", 2)]) (blkOk_by (by kernel_rfl)) (fun _ _ _ _ _ => (dg_name (pg_name sc19.nd rfl (by first | exact Or.inl rfl | exact Or.inr rfl)))) (fun _ _ _ _ _ => dts_nil) (fun _ _ _ _ _ => (de_and (de_call G.c4 hr (by rfl) T.g4 T.F4.kp T.b4 (dr_val (de_var (pv 2)) (dr_val (de_var (pv 1)) dr_nil)) (rl_val (rl_val (rl_nil rfl)))) (de_one (de_call1 (cr_all rfl) us_all (by rfl) T.z_all boot_all (de_lc rfl sc19.nd (di_seq (de_var (pv 2))) (own := [("poly", 3)]) (blkOk_by (by kernel_rfl)) (fun _ _ _ _ _ => (dg_name (pg_name sc19.nd rfl (by first | exact Or.inl rfl | exact Or.inr rfl)))) (fun _ _ _ _ _ => dts_nil) (fun _ _ _ _ _ => (de_call G.c18 hr (by rfl) T.g18 T.F18.kp T.b18 (dr_val (de_var (pv 3)) (dr_val (de_var (pv 1)) dr_nil)) (rl_val (rl_val (rl_nil rfl))))) (by decide)))))) (by decide)))))))
theorem ok21 (T : Top K mg fa fd) (G : Gs P w K mg base fa fd k cl) : FnOk P w K mg base CX0 (k + 1) (fa 21) (fd 21) ["script", "k"] (spD K 2 (fn21 cl)) :=
  fn_ok T.F21 sc21 fun cdv A outer s H E hr => (dss_cons (ds_set (fun te h => ps_set sc21.nd rfl (by first | exact Or.inl rfl | exact Or.inr rfl) h) (de_if (dt_cmp op_lt os_cmpI (de_var (pv 1)) (de_call1 call_len_seq us_len (by rfl) T.z_len boot_len (de_var (pv 0))) (nomark _)) (de_ix ix_A os_ix (de_var (pv 0)) (de_var (pv 1)) (fun _ _ => rfl)) de_int))
    (dss_one (ds_ret (de_lst (da_cons (de_op op_mulA os_mul (de_call1 call_abs us_abs (by rfl) T.z_abs boot_abs (de_var (pv 2))) (de_callT1 call_int1 us_int (by rfl) T.z_int boot_int (de_cmp op_ge os_cmpI (de_call1 call_abs us_abs (by rfl) T.z_abs boot_abs (de_var (pv 2))) (de_op op_pow os_pow de_int de_int) (nomark _)))) (da_cons (de_op op_addA os_add (de_op op_addA os_add (de_op op_mod os_mod (de_callT1 call_int1 us_int (by rfl) T.z_int boot_int (de_var (pv 2))) de_int) (de_op op_mulA os_mul de_int (de_var (pv 1)))) de_int) (da_cons de_int da_nil)))))))
theorem ok22 (T : Top K mg fa fd) (G : Gs P w K mg base fa fd k cl) : FnOk P w K mg base CX0 (k + 1) (fa 22) (fd 22) ["urn", "low_so"] (spD K 2 (fn22 cl)) :=
  fn_ok T.F22 sc22 fun cdv A outer s H E hr => (dss_cons (ds_if (dt_cmp op_gt os_cmpI (de_ix ix_A os_ix (de_var (pv 0)) de_int (fun _ _ => rfl)) de_int (nomark _)) (dss_cons (ds_set (fun te h => ps_set sc22.nd rfl (by first | exact Or.inl rfl | exact Or.inr rfl) h) (de_op op_mod os_mod (de_callT1 call_int1 us_int (by rfl) T.z_int boot_int (de_ix ix_A os_ix (de_var (pv 0)) de_int (fun _ _ => rfl))) (de_var (pv 1))))
    (dss_cons (ds_store (fun te tk h1 h2 => ps_asg h1 (pg_sub (pv 0) h2 set_list)) (de_op op_fdivW os_div (de_ix ix_A os_ix (de_var (pv 0)) de_int (fun _ _ => rfl)) (de_var (pv 1))) de_int)
    (dss_one (ds_ret (de_var (pv 2)))))) dss_nil)
    (dss_cons (ds_store (fun te tk h1 h2 => ps_asg h1 (pg_sub (pv 0) h2 set_list)) (de_op op_addA os_add (de_ix ix_A os_ix (de_var (pv 0)) de_int (fun _ _ => rfl)) de_int) de_int)
    (dss_cons (ds_set (fun te h => ps_set sc22.nd rfl (by first | exact Or.inl rfl | exact Or.inr rfl) h) (de_op op_mod os_mod (de_callT1 call_int1 us_int (by rfl) T.z_int boot_int (de_op op_mulA os_mul (de_op op_addA os_add (de_ix ix_A os_ix (de_var (pv 0)) de_int (fun _ _ => rfl)) (de_op op_mulA os_mul de_int (de_ix ix_A os_ix (de_var (pv 0)) de_int (fun _ _ => rfl)))) (de_op op_addA os_add de_int (de_ix ix_A os_ix (de_var (pv 0)) de_int (fun _ _ => rfl))))) de_int))
    (dss_cons (ds_set (fun te h => ps_set sc22.nd rfl (by first | exact Or.inl rfl | exact Or.inr rfl) h) (de_op op_addA os_add (de_op op_mod os_mod (de_callT1 call_int1 us_int (by rfl) T.z_int boot_int (de_var (pv 3))) de_int) de_int))
    (dss_cons (ds_set (fun te h => ps_set sc22.nd rfl (by first | exact Or.inl rfl | exact Or.inr rfl) h) (de_op op_mod os_mod (de_callT1 call_int1 us_int (by rfl) T.z_int boot_int (de_op op_mulA os_mul (de_op op_addA os_add (de_op op_addA os_add (de_var (pv 3)) (de_ix ix_A os_ix (de_var (pv 0)) de_int (fun _ _ => rfl))) (de_op op_fdivW os_div (de_ix ix_A os_ix (de_var (pv 0)) de_int (fun _ _ => rfl)) de_int)) (de_var (pv 4)))) de_int))
    (dss_one (ds_ret (de_op op_mod os_mod (de_callT1 call_int1 us_int (by rfl) T.z_int boot_int (de_op op_fdivW os_div (de_op op_mod os_mod (de_callT1 call_int1 us_int (by rfl) T.z_int boot_int (de_op op_addA os_add (de_op op_mulA os_mul (de_var (pv 5)) de_int) (de_var (pv 3)))) de_int) de_int)) (de_var (pv 1))))))))))
theorem ok23 (T : Top K mg fa fd) (G : Gs P w K mg base fa fd k cl) : FnOk P w K mg base CX0 (k + 1) (fa 23) (fd 23) ["script", "top"] (spD K 2 (fn23 cl)) :=
  fn_ok T.F23 sc23 fun cdv A outer s H E hr => (dss_cons (ds_set (fun te h => ps_set sc23.nd rfl (by first | exact Or.inl rfl | exact Or.inr rfl) h) (de_or (de_callT1 call_list_of us_list (by rfl) T.z_list boot_list (de_sl (de_var (pv 0)) do_none (do_some (de_var (pv 1))))) (de_one (de_lst (da_cons de_int da_nil)))))
    (dss_cons (ds_for PassesOwn.never rfl (di_enum (by rfl) T.z_enumerate (da_cons (de_sl (de_var (pv 0)) (do_some (de_var (pv 1))) (do_some de_int)) da_nil)) (dg_tup rfl (dgs_cons (dg_name (pg_name sc23.nd rfl (by first | exact Or.inl rfl | exact Or.inr rfl))) (dgs_cons (dg_name (pg_name sc23.nd rfl (by first | exact Or.inl rfl | exact Or.inr rfl))) dgs_nil))) (dss_cons (ds_set (fun te h => ps_set sc23.nd rfl (by first | exact Or.inl rfl | exact Or.inr rfl) h) (de_op op_mod os_mod (de_callT1 call_int1 us_int (by rfl) T.z_int boot_int (de_var (pv 3))) (de_var (pv 1))))
    (dss_one (ds_store (fun te tk h1 h2 => ps_asg h1 (pg_sub (pv 2) h2 set_list)) (de_op op_addA os_add (de_ix ix_A os_ix (de_var (pv 2)) (de_var (pv 5)) (fun _ _ => rfl)) (de_op op_mulA os_mul (de_var (pv 4)) (de_op op_addA os_add (de_var (pv 3)) de_int))) (de_var (pv 5))))))
    (dss_one (ds_ret (de_var (pv 2))))))
theorem ok24 (T : Top K mg fa fd) (G : Gs P w K mg base fa fd k cl) : FnOk P w K mg base CX0 (k + 1) (fa 24) (fd 24) ["urn", "some_so"] (spD K 2 (fn24 cl)) :=
  fn_ok T.F24 sc24 fun cdv A outer s H E hr => (dss_one (ds_ret (de_ix ix_A os_ix (de_var (pv 1)) (de_call G.c22 hr (by rfl) T.g22 T.F22.kp T.b22 (dr_slot (pv 0) (dr_val (de_call1 call_len_seq us_len (by rfl) T.z_len boot_len (de_var (pv 1))) dr_nil)) (rl_slot (rl_val (rl_nil rfl)))) (fun _ _ => rfl))))
theorem ok25 (T : Top K mg fa fd) (G : Gs P w K mg base fa fd k cl) : FnOk P w K mg base CX0 (k + 1) (fa 25) (fd 25) ["got", "goal"] (spD K 2 (fn25 cl)) :=
  fn_ok T.F25 sc25 fun cdv A outer s H E hr => (dss_cons (ds_if (dt_tru (de_isi2 (t := Ty.list) (u := Ty.tuple) (by rfl) T.z_isinstance boot_isinstance (de_var (pv 1)) (pe_bltn (by rfl) T.z_list boot_list rfl) (pe_bltn (by rfl) T.z_tuple boot_tuple rfl))) (dss_cons (ds_if (dt_w (dw_or (dt_cmp (op_neD (room64 hr)) os_ne (de_isi (t := Ty.list) (by rfl) T.z_isinstance boot_isinstance (de_var (pv 0)) (pe_bltn (by rfl) T.z_list boot_list rfl)) (de_isi (t := Ty.list) (by rfl) T.z_isinstance boot_isinstance (de_var (pv 1)) (pe_bltn (by rfl) T.z_list boot_list rfl)) (nomark _)) (dw_or1 (dt_cmp (op_neD (room64 hr)) os_ne (de_isi (t := Ty.tuple) (by rfl) T.z_isinstance boot_isinstance (de_var (pv 0)) (pe_bltn (by rfl) T.z_tuple boot_tuple rfl)) (de_isi (t := Ty.tuple) (by rfl) T.z_isinstance boot_isinstance (de_var (pv 1)) (pe_bltn (by rfl) T.z_tuple boot_tuple rfl)) (nomark _))))) (dss_one (ds_ret de_bl)) dss_nil)
    (dss_one (ds_ret (de_and (de_cmp (op_eqD (room64 hr)) os_eq (de_call1 call_len_seq us_len (by rfl) T.z_len boot_len (de_var (pv 0))) (de_call1 call_len_seq us_len (by rfl) T.z_len boot_len (de_var (pv 1))) (nomark _)) (de_one (de_call1 (cr_all rfl) us_all (by rfl) T.z_all boot_all (de_lc rfl sc25.nd (di_zip (by rfl) T.z_zip (da_cons (de_var (pv 0)) (da_cons (de_var (pv 1)) da_nil))) (own := [("mine_so", 2), ("own", 3)]) (blkOk_by (by kernel_rfl)) (fun _ _ _ _ _ => (dg_tup rfl (dgs_cons (dg_name (pg_name sc25.nd rfl (by first | exact Or.inl rfl | exact Or.inr rfl))) (dgs_cons (dg_name (pg_name sc25.nd rfl (by first | exact Or.inl rfl | exact Or.inr rfl))) dgs_nil)))) (fun _ _ _ _ _ => dts_nil) (fun _ _ _ _ _ => (de_call G.c25 hr (by rfl) T.g25 T.F25.kp T.b25 (dr_val (de_var (pv 2)) (dr_val (de_var (pv 3)) dr_nil)) (rl_val (rl_val (rl_nil rfl))))) (by decide)))))))) dss_nil)
    (dss_cons (ds_if (dt_w (dw_or (dt_cmp op_isN os_is (de_var (pv 1)) de_non (nomark _)) (dw_or1 (dt_tru (de_isi2 (t := Ty.bool) (u := Ty.str) (by rfl) T.z_isinstance boot_isinstance (de_var (pv 1)) (pe_bltn (by rfl) T.z_bool boot_bool rfl) (pe_bltn (by rfl) T.z_str boot_str rfl)))))) (dss_one (ds_ret (de_and (de_cmp (op_eqD (room64 hr)) os_eq (de_var (pv 0)) (de_var (pv 1)) (nomark _)) (de_and (de_cmp (op_eqD (room64 hr)) os_eq (de_isi (t := Ty.bool) (by rfl) T.z_isinstance boot_isinstance (de_var (pv 0)) (pe_bltn (by rfl) T.z_bool boot_bool rfl)) (de_isi (t := Ty.bool) (by rfl) T.z_isinstance boot_isinstance (de_var (pv 1)) (pe_bltn (by rfl) T.z_bool boot_bool rfl)) (nomark _)) (de_one (de_cmp (op_eqD (room64 hr)) os_eq (de_cmp op_isN os_is (de_var (pv 0)) de_non (nomark _)) (de_cmp op_isN os_is (de_var (pv 1)) de_non (nomark _)) (nomark _))))))) dss_nil)
    (dss_one (ds_ret (de_and (de_isi (t := Ty.int) (by rfl) T.z_isinstance boot_isinstance (de_var (pv 0)) (pe_bltn (by rfl) T.z_int boot_int rfl)) (de_and (de_not (de_isi (t := Ty.bool) (by rfl) T.z_isinstance boot_isinstance (de_var (pv 0)) (pe_bltn (by rfl) T.z_bool boot_bool rfl))) (de_one (de_cmp (op_eqD (room64 hr)) os_eq (de_var (pv 0)) (de_var (pv 1)) (nomark _)))))))))
theorem ok26 (T : Top K mg fa fd) (G : Gs P w K mg base fa fd k cl) : FnOk P w K mg base CX0 (k + 1) (fa 26) (fd 26) ["matter"] (spD K 1 (fn26 cl)) :=
  fn_ok T.F26 sc26 fun cdv A outer s H E hr => (dss_one (ds_ret (de_if (dt_tru (de_isi2 (t := Ty.list) (u := Ty.tuple) (by rfl) T.z_isinstance boot_isinstance (de_var (pv 0)) (pe_bltn (by rfl) T.z_list boot_list rfl) (pe_bltn (by rfl) T.z_tuple boot_tuple rfl))) (de_lc rfl sc26.nd (di_seq (de_var (pv 0))) (own := [("own", 1)]) (blkOk_by (by kernel_rfl)) (fun _ _ _ _ _ => (dg_name (pg_name sc26.nd rfl (by first | exact Or.inl rfl | exact Or.inr rfl)))) (fun _ _ _ _ _ => dts_nil) (fun _ _ _ _ _ => (de_call G.c26 hr (by rfl) T.g26 T.F26.kp T.b26 (dr_val (de_var (pv 1)) dr_nil) (rl_val (rl_nil rfl)))) (by decide)) (de_var (pv 0)))))
theorem ok27 (T : Top K mg fa fd) (G : Gs P w K mg base fa fd k cl) : FnOk P w K mg base CX0 (k + 1) (fa 27) (fd 27) ["high", "deep"] (spD K 2 (fn27 cl)) :=
  fn_ok T.F27 sc27 fun cdv A outer s H E hr => (dss_cons (ds_par (fun ta h => ps_par rfl sc27.nd rfl rfl (by decide) rfl rfl h (by rfl)) (de_call1 call_abs us_abs (by rfl) T.z_abs boot_abs (de_var (pv 0))) (de_call1 call_abs us_abs (by rfl) T.z_abs boot_abs (de_var (pv 1))))
    (dss_cons (ds_while (n := 64) PassesOwn.never (dt_cmp op_gt os_cmpI (de_var (pv 3)) de_int (nomark _)) (dss_one (ds_par (fun ta h => ps_par rfl sc27.nd rfl rfl (by decide) rfl rfl h (by rfl)) (de_var (pv 3)) (de_op op_mod os_mod (de_callT1 call_int1 us_int (by rfl) T.z_int boot_int (de_var (pv 2))) (de_var (pv 3))))))
    (dss_cons (ds_set (fun te h => ps_set sc27.nd rfl (by first | exact Or.inl rfl | exact Or.inr rfl) h) (de_if (dt_cmp op_lt os_cmpI (de_var (pv 1)) de_int (nomark _)) (de_un un_neg us_neg de_int) de_int))
    (dss_one (ds_ret (de_tup (da_cons (de_op op_fdivW os_div (de_op op_mulA os_mul (de_var (pv 4)) (de_var (pv 0))) (de_var (pv 2))) (da_cons (de_op op_fdivW os_div (de_op op_mulA os_mul (de_var (pv 4)) (de_var (pv 1))) (de_var (pv 2))) da_nil))))))))
theorem ok28 (T : Top K mg fa fd) (G : Gs P w K mg base fa fd k cl) : FnOk P w K mg base CX0 (k + 1) (fa 28) (fd 28) ["matter"] (spD K 1 (fn28 cl)) :=
  fn_ok T.F28 sc28 fun cdv A outer s H E hr => (dss_one (ds_ret (de_and (de_isi (t := Ty.int) (by rfl) T.z_isinstance boot_isinstance (de_var (pv 0)) (pe_bltn (by rfl) T.z_int boot_int rfl)) (de_one (de_not (de_isi (t := Ty.bool) (by rfl) T.z_isinstance boot_isinstance (de_var (pv 0)) (pe_bltn (by rfl) T.z_bool boot_bool rfl)))))))
theorem ok29 (T : Top K mg fa fd) (G : Gs P w K mg base fa fd k cl) : FnOk P w K mg base CX0 (k + 1) (fa 29) (fd 29) ["matter"] (spD K 1 (fn29 cl)) :=
  fn_ok T.F29 sc29 fun cdv A outer s H E hr => (dss_cons (ds_if (dt_w (dw_or (dt_not (dt_tru (de_isi (t := Ty.tuple) (by rfl) T.z_isinstance boot_isinstance (de_var (pv 0)) (pe_bltn (by rfl) T.z_tuple boot_tuple rfl)))) (dw_or1 (dt_cmp (op_neD (room64 hr)) os_ne (de_call1 call_len_seq us_len (by rfl) T.z_len boot_len (de_var (pv 0))) de_int (nomark _))))) (dss_one (ds_ret de_bl)) dss_nil)
    (dss_cons (ds_if (dt_w (dw_or (dt_not (dt_tru (de_call G.c28 hr (by rfl) T.g28 T.F28.kp T.b28 (dr_val (de_ix ix_A os_ix (de_var (pv 0)) de_int (fun _ _ => rfl)) dr_nil) (rl_val (rl_nil rfl))))) (dw_or (dt_not (dt_tru (de_call G.c28 hr (by rfl) T.g28 T.F28.kp T.b28 (dr_val (de_ix ix_A os_ix (de_var (pv 0)) de_int (fun _ _ => rfl)) dr_nil) (rl_val (rl_nil rfl))))) (dw_or1 (dt_cmp op_lt os_cmpI (de_ix ix_A os_ix (de_var (pv 0)) de_int (fun _ _ => rfl)) de_int (nomark _)))))) (dss_one (ds_ret de_bl)) dss_nil)
    (dss_one (ds_ret (de_cmp (op_eqD (room64 hr)) os_eq (de_call G.c27 hr (by rfl) T.g27 T.F27.kp T.b27 (dr_val (de_ix ix_A os_ix (de_var (pv 0)) de_int (fun _ _ => rfl)) (dr_val (de_ix ix_A os_ix (de_var (pv 0)) de_int (fun _ _ => rfl)) dr_nil)) (rl_val (rl_val (rl_nil rfl)))) (de_var (pv 0)) (nomark _))))))
theorem ok30 (T : Top K mg fa fd) (G : Gs P w K mg base fa fd k cl) : FnOk P w K mg base CX0 (k + 1) (fa 30) (fd 30) ["urn"] (spD K 1 (fn30 cl)) :=
  fn_ok T.F30 sc30 fun cdv A outer s H E hr => (dss_one (ds_ret (de_call G.c24 hr (by rfl) T.g24 T.F24.kp T.b24 (dr_slot (pv 0) (dr_val (de_lst (da_cons (de_tup (da_cons de_int (da_cons de_int da_nil))) (da_cons (de_tup (da_cons de_int (da_cons de_int da_nil))) (da_cons (de_tup (da_cons de_int (da_cons de_int da_nil))) (da_cons (de_tup (da_cons de_int (da_cons de_int da_nil))) (da_cons (de_tup (da_cons de_int (da_cons de_int da_nil))) (da_cons (de_tup (da_cons (de_un un_neg us_neg de_int) (da_cons de_int da_nil))) (da_cons (de_tup (da_cons de_int (da_cons de_int da_nil))) (da_cons (de_tup (da_cons de_int (da_cons de_int da_nil))) (da_cons (de_tup (da_cons (de_un un_neg us_neg de_int) (da_cons de_int da_nil))) (da_cons (de_tup (da_cons de_int (da_cons de_int da_nil))) (da_cons (de_tup (da_cons de_int (da_cons de_int da_nil))) da_nil)))))))))))) dr_nil)) (rl_slot (rl_val (rl_nil rfl))))))
theorem ok31 (T : Top K mg fa fd) (G : Gs P w K mg base fa fd k cl) : FnOk P w K mg base CX0 (k + 1) (fa 31) (fd 31) ["urn", "many", "stages_in", "straight_so"] (spD K 4 (fn31 cl)) :=
  fn_ok T.F31 sc31 fun cdv A outer s H E hr => (dss_cons (ds_set (fun te h => ps_set sc31.nd rfl (by first | exact Or.inl rfl | exact Or.inr rfl) h) (de_lst da_nil))
    (dss_cons (ds_for PassesOwn.never rfl (di_rng1 (by rfl) T.z_range (da_cons (de_var (pv 1)) da_nil)) (dg_name (pg_name sc31.nd rfl (by first | exact Or.inl rfl | exact Or.inr rfl))) (dss_cons (ds_set (fun te h => ps_set sc31.nd rfl (by first | exact Or.inl rfl | exact Or.inr rfl) h) (de_lst da_nil))
    (dss_cons (ds_for PassesOwn.never rfl (di_rng1 (by rfl) T.z_range (da_cons (de_var (pv 2)) da_nil)) (dg_name (pg_name sc31.nd rfl (by first | exact Or.inl rfl | exact Or.inr rfl))) (dss_cons (ds_set (fun te h => ps_set sc31.nd rfl (by first | exact Or.inl rfl | exact Or.inr rfl) h) (de_lc rfl sc31.nd (di_rng1 (by rfl) T.z_range (da_cons (de_var (pv 2)) da_nil)) (own := [("far", 10)]) (blkOk_by (by kernel_rfl)) (fun _ _ _ _ _ => (dg_name (pg_name sc31.nd rfl (by first | exact Or.inl rfl | exact Or.inr rfl)))) (fun _ _ _ _ _ => dts_nil) (fun _ _ _ _ _ => (de_call G.c30 hr (by rfl) T.g30 T.F30.kp T.b30 (dr_slot (pv 0) dr_nil) (rl_slot (rl_nil rfl)))) (by decide)))
    (dss_one (ds_expr (de_app (fun t h => pe_bm PySem.F.plainAttrs_list PySem.F.slot_list_append PySem.F.type_list_append mt_append (pv 6) h) (de_callT1 call_tuple_of us_tuple (by rfl) T.z_tuple boot_tuple (de_lc rfl sc31.nd (di_rng1 (by rfl) T.z_range (da_cons (de_var (pv 2)) da_nil)) (own := [("far", 10)]) (blkOk_by (by kernel_rfl)) (fun _ _ _ _ _ => (dg_name (pg_name sc31.nd rfl (by first | exact Or.inl rfl | exact Or.inr rfl)))) (fun _ _ _ _ _ => dts_nil) (fun _ _ _ _ _ => (de_if (dt_w (dw_and (dt_tru (de_var (pv 3))) (dw_and1 (dt_cmp (op_geA (room64 hr)) os_cmpD (de_var (pv 10)) (de_var (pv 7)) (nomark _))))) (de_tup (da_cons de_int (da_cons de_int da_nil))) (de_ix ix_A os_ix (de_var (pv 8)) (de_var (pv 10)) (fun _ _ => rfl)))) (by decide))))))))
    (dss_one (ds_expr (de_app (fun t h => pe_bm PySem.F.plainAttrs_list PySem.F.slot_list_append PySem.F.type_list_append mt_append (pv 4) h) (de_callT1 call_tuple_of us_tuple (by rfl) T.z_tuple boot_tuple (de_var (pv 6)))))))))
    (dss_cons (ds_setLc rfl sc31.nd rfl rfl (sw_true rfl rfl rfl (by decide +kernel)) (di_rng1 (by rfl) T.z_range (da_cons (de_var (pv 1)) da_nil)) (own := [("part", 5)]) (blkOk_by (by kernel_rfl)) (fun _ _ _ _ _ => (dg_name (pg_name sc31.nd rfl (by first | exact Or.inl rfl | exact Or.inr rfl)))) (fun _ _ _ _ _ => dts_nil) (fun _ _ _ _ _ => (de_callT1 call_tuple_of us_tuple (by rfl) T.z_tuple boot_tuple (de_lc rfl sc31.nd (di_rng1 (by rfl) T.z_range (da_cons (de_var (pv 2)) da_nil)) (own := [("far", 10)]) (blkOk_by (by kernel_rfl)) (fun _ _ _ _ _ => (dg_name (pg_name sc31.nd rfl (by first | exact Or.inl rfl | exact Or.inr rfl)))) (fun _ _ _ _ _ => dts_nil) (fun _ _ _ _ _ => (de_call G.c30 hr (by rfl) T.g30 T.F30.kp T.b30 (dr_slot (pv 0) dr_nil) (rl_slot (rl_nil rfl)))) (by decide)))) (by decide))
    (dss_one (ds_ret (de_tup (da_cons (de_callT1 call_tuple_of us_tuple (by rfl) T.z_tuple boot_tuple (de_var (pv 4))) (da_cons (de_callT1 call_tuple_of us_tuple (by rfl) T.z_tuple boot_tuple (de_var (pv 9))) da_nil))))))))
theorem ok32 (T : Top K mg fa fd) (G : Gs P w K mg base fa fd k cl) : FnOk P w K mg base CX0 (k + 1) (fa 32) (fd 32) ["urn", "cells_in", "below_so", "most"] (spD K 4 (fn32 cl)) :=
  fn_ok T.F32 sc32 fun cdv A outer s H E hr => (dss_cons (ds_set (fun te h => ps_set sc32.nd rfl (by first | exact Or.inl rfl | exact Or.inr rfl) h) de_dnew)
    (dss_cons (ds_for PassesOwn.never rfl (di_rng1 (by rfl) T.z_range (da_cons (de_call G.c24 hr (by rfl) T.g24 T.F24.kp T.b24 (dr_slot (pv 0) (dr_val (de_lst (da_cons de_int (da_cons de_int (da_cons de_int (da_cons de_int (da_cons de_int da_nil)))))) dr_nil)) (rl_slot (rl_val (rl_nil rfl)))) da_nil)) (dg_name (pg_name sc32.nd rfl (by first | exact Or.inl rfl | exact Or.inr rfl))) (dss_cons (ds_set (fun te h => ps_set sc32.nd rfl (by first | exact Or.inl rfl | exact Or.inr rfl) h) (de_rep (de_lst (da_cons de_int da_nil)) (de_var (pv 1))))
    (dss_cons (ds_for PassesOwn.never rfl (di_rng1 (by rfl) T.z_range (da_cons (de_call G.c22 hr (by rfl) T.g22 T.F22.kp T.b22 (dr_slot (pv 0) (dr_val (de_op op_addA os_add (de_var (pv 3)) de_int) dr_nil)) (rl_slot (rl_val (rl_nil rfl)))) da_nil)) (dg_name (pg_name sc32.nd rfl (by first | exact Or.inl rfl | exact Or.inr rfl))) (dss_one (ds_if (dt_cmp op_gt os_cmpI (de_var (pv 2)) de_int (nomark _)) (dss_cons (ds_set (fun te h => ps_set sc32.nd rfl (by first | exact Or.inl rfl | exact Or.inr rfl) h) (de_call G.c22 hr (by rfl) T.g22 T.F22.kp T.b22 (dr_slot (pv 0) (dr_val (de_var (pv 2)) dr_nil)) (rl_slot (rl_val (rl_nil rfl)))))
    (dss_one (ds_store (fun te tk h1 h2 => ps_asg h1 (pg_sub (pv 6) h2 set_list)) (de_op op_addA os_add (de_ix ix_A os_ix (de_var (pv 6)) (de_var (pv 8)) (fun _ _ => rfl)) de_int) (de_var (pv 8))))) dss_nil)))
    (dss_one (ds_dput (fun te tk h1 h2 => ps_asg h1 (pg_sub (pv 4) h2 (set_dic (room9 hr)))) (de_call G.c24 hr (by rfl) T.g24 T.F24.kp T.b24 (dr_slot (pv 0) (dr_val (de_lst (da_cons (de_tup (da_cons de_int (da_cons de_int da_nil))) (da_cons (de_tup (da_cons de_int (da_cons de_int da_nil))) (da_cons (de_tup (da_cons (de_un un_neg us_neg de_int) (da_cons de_int da_nil))) (da_cons (de_tup (da_cons de_int (da_cons de_int da_nil))) (da_cons (de_tup (da_cons de_int (da_cons de_int da_nil))) (da_cons (de_tup (da_cons (de_un un_neg us_neg de_int) (da_cons de_int da_nil))) da_nil))))))) dr_nil)) (rl_slot (rl_val (rl_nil rfl)))) (de_callT1 call_tuple_of us_tuple (by rfl) T.z_tuple boot_tuple (de_var (pv 6))))))))
    (dss_one (ds_ret (de_callT1 call_tuple_of us_tuple (by rfl) T.z_tuple boot_tuple (de_fzO (i := 6) (de_lc rfl sc32.nd (di_seq (de_sortDic rfl (room70 hr) (by rfl) T.z_sorted boot_sorted (pv 4))) (own := [("powers", 6)]) (blkOk_by (by kernel_rfl)) (fun _ _ _ _ _ => (dg_name (pg_name sc32.nd rfl (by first | exact Or.inl rfl | exact Or.inr rfl)))) (fun _ _ _ _ _ => dts_nil) (fun _ _ _ _ _ => (de_tup (da_cons (de_var (pv 6)) (da_cons (de_dix (room9 hr) (pv 4) (de_var (pv 6)) (fun _ _ => rfl)) da_nil)))) (by decide))))))))
theorem ok33 (T : Top K mg fa fd) (G : Gs P w K mg base fa fd k cl) : FnOk P w K mg base CX0 (k + 1) (fa 33) (fd 33) ["urn", "many", "cells_in", "ladder_so", "most"] (spD K 5 (fn33 cl)) :=
  fn_ok T.F33 sc33 fun cdv A outer s H E hr => (dss_cons (ds_set (fun te h => ps_set sc33.nd rfl (by first | exact Or.inl rfl | exact Or.inr rfl) h) (de_lst da_nil))
    (dss_cons (ds_for PassesOwn.never rfl (di_rng1 (by rfl) T.z_range (da_cons (de_var (pv 1)) da_nil)) (dg_name (pg_name sc33.nd rfl (by first | exact Or.inl rfl | exact Or.inr rfl))) (dss_one (ds_expr (de_app (fun t h => pe_bm PySem.F.plainAttrs_list PySem.F.slot_list_append PySem.F.type_list_append mt_append (pv 5) h) (de_callT1 call_tuple_of us_tuple (by rfl) T.z_tuple boot_tuple (de_lc rfl sc33.nd (di_rng1 (by rfl) T.z_range (da_cons (de_var (pv 2)) da_nil)) (own := [("k", 7)]) (blkOk_by (by kernel_rfl)) (fun _ _ _ _ _ => (dg_name (pg_name sc33.nd rfl (by first | exact Or.inl rfl | exact Or.inr rfl)))) (fun _ _ _ _ _ => dts_nil) (fun _ _ _ _ _ => (de_call G.c32 hr (by rfl) T.g32 T.F32.kp T.b32 (dr_slot (pv 0) (dr_val (de_var (pv 2)) (dr_val (de_if (dt_tru (de_var (pv 3))) (de_var (pv 7)) (de_var (pv 2))) (dr_val (de_var (pv 4)) dr_nil)))) (rl_slot (rl_val (rl_val (rl_val (rl_nil rfl))))))) (by decide)))))))
    (dss_one (ds_ret (de_callT1 call_tuple_of us_tuple (by rfl) T.z_tuple boot_tuple (de_var (pv 5)))))))
theorem ok34 (T : Top K mg fa fd) (G : Gs P w K mg base fa fd k cl) : FnOk P w K mg base CX0 (k + 1) (fa 34) (fd 34) ["urn", "matter"] (spD K 2 (fn34 cl)) :=
  fn_ok T.F34 sc34 fun cdv A outer s H E hr => (dss_cons (ds_if (dt_tru (de_isi (t := Ty.tuple) (by rfl) T.z_isinstance boot_isinstance (de_var (pv 1)) (pe_bltn (by rfl) T.z_tuple boot_tuple rfl))) (dss_cons (ds_if (dt_cmp (op_eqD (room64 hr)) os_eq (de_call1 call_len_seq us_len (by rfl) T.z_len boot_len (de_var (pv 1))) de_int (nomark _)) (dss_one (ds_ret (de_tup (da_cons (de_tup (da_cons de_int (da_cons de_int da_nil))) da_nil)))) dss_nil)
    (dss_cons (ds_par (fun ta h => ps_par rfl sc34.nd rfl rfl (by decide) rfl rfl h (by rfl)) (de_call G.c22 hr (by rfl) T.g22 T.F22.kp T.b22 (dr_slot (pv 0) (dr_val (de_call1 call_len_seq us_len (by rfl) T.z_len boot_len (de_var (pv 1))) dr_nil)) (rl_slot (rl_val (rl_nil rfl)))) (de_call G.c22 hr (by rfl) T.g22 T.F22.kp T.b22 (dr_slot (pv 0) (dr_val de_int dr_nil)) (rl_slot (rl_val (rl_nil rfl)))))
    (dss_cons (ds_if (dt_cmp (op_eqD (room64 hr)) os_eq (de_var (pv 3)) de_int (nomark _)) (dss_one (ds_ret (de_op op_addA os_add (de_sl (de_var (pv 1)) do_none (do_some (de_var (pv 2)))) (de_sl (de_var (pv 1)) (do_some (de_op op_addA os_add (de_var (pv 2)) de_int)) do_none)))) dss_nil)
    (dss_cons (ds_if (dt_cmp (op_eqD (room64 hr)) os_eq (de_var (pv 3)) de_int (nomark _)) (dss_one (ds_ret (de_callT1 call_list_of us_list (by rfl) T.z_list boot_list (de_var (pv 1))))) dss_nil)
    (dss_cons (ds_if (dt_cmp (op_eqD (room64 hr)) os_eq (de_var (pv 3)) de_int (nomark _)) (dss_one (ds_ret (de_op op_addA os_add (de_var (pv 1)) (de_tup (da_cons (de_ix ix_A os_ix (de_var (pv 1)) (de_var (pv 2)) (fun _ _ => rfl)) da_nil))))) dss_nil)
    (dss_one (ds_ret (de_op op_addA os_add (de_op op_addA os_add (de_sl (de_var (pv 1)) do_none (do_some (de_var (pv 2)))) (de_tup (da_cons (de_call G.c34 hr (by rfl) T.g34 T.F34.kp T.b34 (dr_slot (pv 0) (dr_val (de_ix ix_A os_ix (de_var (pv 1)) (de_var (pv 2)) (fun _ _ => rfl)) dr_nil)) (rl_slot (rl_val (rl_nil rfl)))) da_nil))) (de_sl (de_var (pv 1)) (do_some (de_op op_addA os_add (de_var (pv 2)) de_int)) do_none))))))))) dss_nil)
    (dss_one (ds_ret (de_call G.c24 hr (by rfl) T.g24 T.F24.kp T.b24 (dr_slot (pv 0) (dr_val (de_lst (da_cons (de_op op_addA os_add (de_var (pv 1)) de_int) (da_cons (de_op op_sub os_sub (de_var (pv 1)) de_int) (da_cons (de_op op_sub os_sub de_int (de_var (pv 1))) (da_cons de_int (da_cons de_int (da_cons de_int (da_cons de_bl (da_cons de_non (da_cons de_str (da_cons (de_tup (da_cons de_int da_nil)) da_nil))))))))))) dr_nil)) (rl_slot (rl_val (rl_nil rfl)))))))
theorem ok35 (T : Top K mg fa fd) (G : Gs P w K mg base fa fd k cl) : FnOk P w K mg base CX0 (k + 1) (fa 35) (fd 35) ["matter", "size"] (spD K 2 (fn35 cl)) :=
  fn_ok T.F35 sc35 fun cdv A outer s H E hr => (dss_one (ds_ret (de_and (de_isi (t := Ty.tuple) (by rfl) T.z_isinstance boot_isinstance (de_var (pv 0)) (pe_bltn (by rfl) T.z_tuple boot_tuple rfl)) (de_and (de_cmp (op_eqD (room64 hr)) os_eq (de_call1 call_len_seq us_len (by rfl) T.z_len boot_len (de_var (pv 0))) (de_var (pv 1)) (nomark _)) (de_one (de_call1 (cr_all rfl) us_all (by rfl) T.z_all boot_all (de_lc rfl sc35.nd (di_seq (de_var (pv 0))) (own := [("x", 2)]) (blkOk_by (by kernel_rfl)) (fun _ _ _ _ _ => (dg_name (pg_name sc35.nd rfl (by first | exact Or.inl rfl | exact Or.inr rfl)))) (fun _ _ _ _ _ => dts_nil) (fun _ _ _ _ _ => (de_call G.c29 hr (by rfl) T.g29 T.F29.kp T.b29 (dr_val (de_var (pv 2)) dr_nil) (rl_val (rl_nil rfl)))) (by decide))))))))
theorem ok36 (T : Top K mg fa fd) (G : Gs P w K mg base fa fd k cl) : FnOk P w K mg base CX0 (k + 1) (fa 36) (fd 36) ["matter", "many"] (spD K 2 (fn36 cl)) :=
  fn_ok T.F36 sc36 fun cdv A outer s H E hr => (dss_cons (ds_if (dt_w (dw_or (dt_not (dt_tru (de_isi (t := Ty.tuple) (by rfl) T.z_isinstance boot_isinstance (de_var (pv 0)) (pe_bltn (by rfl) T.z_tuple boot_tuple rfl)))) (dw_or (dt_cmp (op_neD (room64 hr)) os_ne (de_call1 call_len_seq us_len (by rfl) T.z_len boot_len (de_var (pv 0))) (de_var (pv 1)) (nomark _)) (dw_or1 (dt_not (dt_tru (de_isi (t := Ty.tuple) (by rfl) T.z_isinstance boot_isinstance (de_ix ix_A os_ix (de_var (pv 0)) de_int (fun _ _ => rfl)) (pe_bltn (by rfl) T.z_tuple boot_tuple rfl)))))))) (dss_one (ds_ret de_non)) dss_nil)
    (dss_cons (ds_set (fun te h => ps_set sc36.nd rfl (by first | exact Or.inl rfl | exact Or.inr rfl) h) (de_call1 call_len_seq us_len (by rfl) T.z_len boot_len (de_ix ix_A os_ix (de_var (pv 0)) de_int (fun _ _ => rfl))))
    (dss_cons (ds_for PassesOwn.never rfl (di_seq (de_var (pv 0))) (dg_name (pg_name sc36.nd rfl (by first | exact Or.inl rfl | exact Or.inr rfl))) (dss_one (ds_if (dt_w (dw_or (dt_not (dt_tru (de_isi (t := Ty.tuple) (by rfl) T.z_isinstance boot_isinstance (de_var (pv 3)) (pe_bltn (by rfl) T.z_tuple boot_tuple rfl)))) (dw_or (dt_cmp (op_neD (room64 hr)) os_ne (de_call1 call_len_seq us_len (by rfl) T.z_len boot_len (de_var (pv 3))) (de_var (pv 2)) (nomark _)) (dw_or1 (dt_not (dt_tru (de_call1 (cr_all rfl) us_all (by rfl) T.z_all boot_all (de_lc rfl sc36.nd (di_seq (de_var (pv 3))) (own := [("own", 4)]) (blkOk_by (by kernel_rfl)) (fun _ _ _ _ _ => (dg_name (pg_name sc36.nd rfl (by first | exact Or.inl rfl | exact Or.inr rfl)))) (fun _ _ _ _ _ => dts_nil) (fun _ _ _ _ _ => (de_call G.c35 hr (by rfl) T.g35 T.F35.kp T.b35 (dr_val (de_var (pv 4)) (dr_val (de_var (pv 2)) dr_nil)) (rl_val (rl_val (rl_nil rfl))))) (by decide))))))))) (dss_one (ds_ret de_non)) dss_nil)))
    (dss_one (ds_ret (de_var (pv 2)))))))
theorem ok37 (T : Top K mg fa fd) (G : Gs P w K mg base fa fd k cl) : FnOk P w K mg base CX0 (k + 1) (fa 37) (fd 37) ["matter", "many", "size"] (spD K 3 (fn37 cl)) :=
  fn_ok T.F37 sc37 fun cdv A outer s H E hr => (dss_one (ds_ret (de_and (de_isi (t := Ty.tuple) (by rfl) T.z_isinstance boot_isinstance (de_var (pv 0)) (pe_bltn (by rfl) T.z_tuple boot_tuple rfl)) (de_and (de_cmp (op_eqD (room64 hr)) os_eq (de_call1 call_len_seq us_len (by rfl) T.z_len boot_len (de_var (pv 0))) (de_var (pv 1)) (nomark _)) (de_one (de_call1 (cr_all rfl) us_all (by rfl) T.z_all boot_all (de_lc rfl sc37.nd (di_seq (de_var (pv 0))) (own := [("own", 3)]) (blkOk_by (by kernel_rfl)) (fun _ _ _ _ _ => (dg_name (pg_name sc37.nd rfl (by first | exact Or.inl rfl | exact Or.inr rfl)))) (fun _ _ _ _ _ => dts_nil) (fun _ _ _ _ _ => (de_call G.c35 hr (by rfl) T.g35 T.F35.kp T.b35 (dr_val (de_var (pv 3)) (dr_val (de_var (pv 2)) dr_nil)) (rl_val (rl_val (rl_nil rfl))))) (by decide))))))))
theorem ok38 (T : Top K mg fa fd) (G : Gs P w K mg base fa fd k cl) : FnOk P w K mg base CX0 (k + 1) (fa 38) (fd 38) ["matter", "many", "flat_so"] (spD K 3 (fn38 cl)) :=
  fn_ok T.F38 sc38 fun cdv A outer s H E hr => (dss_cons (ds_if (dt_w (dw_or (dt_not (dt_tru (de_isi (t := Ty.tuple) (by rfl) T.z_isinstance boot_isinstance (de_var (pv 0)) (pe_bltn (by rfl) T.z_tuple boot_tuple rfl)))) (dw_or1 (dt_cmp (op_neD (room64 hr)) os_ne (de_call1 call_len_seq us_len (by rfl) T.z_len boot_len (de_var (pv 0))) de_int (nomark _))))) (dss_one (ds_ret de_bl)) dss_nil)
    (dss_cons (ds_set (fun te h => ps_set sc38.nd rfl (by first | exact Or.inl rfl | exact Or.inr rfl) h) (de_call G.c36 hr (by rfl) T.g36 T.F36.kp T.b36 (dr_val (de_ix ix_A os_ix (de_var (pv 0)) de_int (fun _ _ => rfl)) (dr_val (de_var (pv 1)) dr_nil)) (rl_val (rl_val (rl_nil rfl)))))
    (dss_cons (ds_if (dt_cmp op_isN os_is (de_var (pv 3)) de_non (nomark _)) (dss_one (ds_ret de_bl)) dss_nil)
    (dss_cons (ds_if (dt_tru (de_var (pv 2))) (dss_one (ds_ret (de_call G.c37 hr (by rfl) T.g37 T.F37.kp T.b37 (dr_val (de_ix ix_A os_ix (de_var (pv 0)) de_int (fun _ _ => rfl)) (dr_val (de_var (pv 1)) (dr_val (de_var (pv 3)) dr_nil))) (rl_val (rl_val (rl_val (rl_nil rfl))))))) dss_nil)
    (dss_one (ds_ret (de_and (de_isi (t := Ty.tuple) (by rfl) T.z_isinstance boot_isinstance (de_ix ix_A os_ix (de_var (pv 0)) de_int (fun _ _ => rfl)) (pe_bltn (by rfl) T.z_tuple boot_tuple rfl)) (de_one (de_call1 (cr_all rfl) us_all (by rfl) T.z_all boot_all (de_lc rfl sc38.nd (di_seq (de_ix ix_A os_ix (de_var (pv 0)) de_int (fun _ _ => rfl))) (own := [("own", 4)]) (blkOk_by (by kernel_rfl)) (fun _ _ _ _ _ => (dg_name (pg_name sc38.nd rfl (by first | exact Or.inl rfl | exact Or.inr rfl)))) (fun _ _ _ _ _ => dts_nil) (fun _ _ _ _ _ => (de_call G.c37 hr (by rfl) T.g37 T.F37.kp T.b37 (dr_val (de_var (pv 4)) (dr_val (de_var (pv 1)) (dr_val (de_var (pv 3)) dr_nil))) (rl_val (rl_val (rl_val (rl_nil rfl)))))) (by decide)))))))))))
theorem ok39 (T : Top K mg fa fd) (G : Gs P w K mg base fa fd k cl) : FnOk P w K mg base CX0 (k + 1) (fa 39) (fd 39) ["matter", "cells_in"] (spD K 2 (fn39 cl)) :=
  fn_ok T.F39 sc39 fun cdv A outer s H E hr => (dss_cons (ds_if (dt_not (dt_tru (de_isi (t := Ty.tuple) (by rfl) T.z_isinstance boot_isinstance (de_var (pv 0)) (pe_bltn (by rfl) T.z_tuple boot_tuple rfl)))) (dss_one (ds_ret de_bl)) dss_nil)
    (dss_cons (ds_for PassesOwn.never rfl (di_seq (de_var (pv 0))) (dg_name (pg_name sc39.nd rfl (by first | exact Or.inl rfl | exact Or.inr rfl))) (dss_cons (ds_if (dt_w (dw_or (dt_not (dt_tru (de_isi (t := Ty.tuple) (by rfl) T.z_isinstance boot_isinstance (de_var (pv 2)) (pe_bltn (by rfl) T.z_tuple boot_tuple rfl)))) (dw_or (dt_cmp (op_neD (room64 hr)) os_ne (de_call1 call_len_seq us_len (by rfl) T.z_len boot_len (de_var (pv 2))) de_int (nomark _)) (dw_or (dt_not (dt_tru (de_isi (t := Ty.tuple) (by rfl) T.z_isinstance boot_isinstance (de_ix ix_A os_ix (de_var (pv 2)) de_int (fun _ _ => rfl)) (pe_bltn (by rfl) T.z_tuple boot_tuple rfl)))) (dw_or1 (dt_cmp (op_neD (room64 hr)) os_ne (de_call1 call_len_seq us_len (by rfl) T.z_len boot_len (de_ix ix_A os_ix (de_var (pv 2)) de_int (fun _ _ => rfl))) (de_var (pv 1)) (nomark _))))))) (dss_one (ds_ret de_bl)) dss_nil)
    (dss_one (ds_if (dt_w (dw_or (dt_not (dt_tru (de_call1 (cr_all rfl) us_all (by rfl) T.z_all boot_all (de_lc rfl sc39.nd (di_seq (de_ix ix_A os_ix (de_var (pv 2)) de_int (fun _ _ => rfl))) (own := [("k", 3)]) (blkOk_by (by kernel_rfl)) (fun _ _ _ _ _ => (dg_name (pg_name sc39.nd rfl (by first | exact Or.inl rfl | exact Or.inr rfl)))) (fun _ _ _ _ _ => dts_nil) (fun _ _ _ _ _ => (de_and (de_call G.c28 hr (by rfl) T.g28 T.F28.kp T.b28 (dr_val (de_var (pv 3)) dr_nil) (rl_val (rl_nil rfl))) (de_one (de_cmp op_ge os_cmpI (de_var (pv 3)) de_int (nomark _))))) (by decide))))) (dw_or (dt_not (dt_tru (de_call G.c29 hr (by rfl) T.g29 T.F29.kp T.b29 (dr_val (de_ix ix_A os_ix (de_var (pv 2)) de_int (fun _ _ => rfl)) dr_nil) (rl_val (rl_nil rfl))))) (dw_or1 (dt_cmp (op_eqD (room64 hr)) os_eq (de_ix ix_A os_ix (de_ix ix_A os_ix (de_var (pv 2)) de_int (fun _ _ => rfl)) de_int (fun _ _ => rfl)) de_int (nomark _)))))) (dss_one (ds_ret de_bl)) dss_nil))))
    (dss_one (ds_ret (de_call1 (cr_all rfl) us_all (by rfl) T.z_all boot_all (de_lc rfl sc39.nd (di_zip (by rfl) T.z_zip (da_cons (de_var (pv 0)) (da_cons (de_sl (de_var (pv 0)) (do_some de_int) do_none) da_nil))) (own := [("left", 4), ("right", 5)]) (blkOk_by (by kernel_rfl)) (fun _ _ _ _ _ => (dg_tup rfl (dgs_cons (dg_name (pg_name sc39.nd rfl (by first | exact Or.inl rfl | exact Or.inr rfl))) (dgs_cons (dg_name (pg_name sc39.nd rfl (by first | exact Or.inl rfl | exact Or.inr rfl))) dgs_nil)))) (fun _ _ _ _ _ => dts_nil) (fun _ _ _ _ _ => (de_cmp (op_ltA (room64 hr)) os_cmpD (de_ix ix_A os_ix (de_var (pv 4)) de_int (fun _ _ => rfl)) (de_ix ix_A os_ix (de_var (pv 5)) de_int (fun _ _ => rfl)) (nomark _))) (by decide)))))))
theorem ok40 (T : Top K mg fa fd) (G : Gs P w K mg base fa fd k cl) : FnOk P w K mg base CX0 (k + 1) (fa 40) (fd 40) ["matter"] (spD K 1 (fn40 cl)) :=
  fn_ok T.F40 sc40 fun cdv A outer s H E hr => (dss_cons (ds_if (dt_w (dw_or (dt_not (dt_tru (de_isi (t := Ty.tuple) (by rfl) T.z_isinstance boot_isinstance (de_var (pv 0)) (pe_bltn (by rfl) T.z_tuple boot_tuple rfl)))) (dw_or (dt_cmp (op_eqD (room64 hr)) os_eq (de_call1 call_len_seq us_len (by rfl) T.z_len boot_len (de_var (pv 0))) de_int (nomark _)) (dw_or (dt_not (dt_tru (de_isi (t := Ty.tuple) (by rfl) T.z_isinstance boot_isinstance (de_ix ix_A os_ix (de_var (pv 0)) de_int (fun _ _ => rfl)) (pe_bltn (by rfl) T.z_tuple boot_tuple rfl)))) (dw_or1 (dt_cmp (op_eqD (room64 hr)) os_eq (de_ix ix_A os_ix (de_var (pv 0)) de_int (fun _ _ => rfl)) (de_tup da_nil) (nomark _))))))) (dss_one (ds_ret de_bl)) dss_nil)
    (dss_cons (ds_set (fun te h => ps_set sc40.nd rfl (by first | exact Or.inl rfl | exact Or.inr rfl) h) (de_call1 call_len_seq us_len (by rfl) T.z_len boot_len (de_ix ix_A os_ix (de_var (pv 0)) de_int (fun _ _ => rfl))))
    (dss_cons (ds_for PassesOwn.never rfl (di_seq (de_var (pv 0))) (dg_name (pg_name sc40.nd rfl (by first | exact Or.inl rfl | exact Or.inr rfl))) (dss_one (ds_if (dt_w (dw_or (dt_not (dt_tru (de_isi (t := Ty.tuple) (by rfl) T.z_isinstance boot_isinstance (de_var (pv 2)) (pe_bltn (by rfl) T.z_tuple boot_tuple rfl)))) (dw_or (dt_cmp (op_neD (room64 hr)) os_ne (de_call1 call_len_seq us_len (by rfl) T.z_len boot_len (de_var (pv 2))) (de_var (pv 1)) (nomark _)) (dw_or1 (dt_not (dt_tru (de_call1 (cr_all rfl) us_all (by rfl) T.z_all boot_all (de_lc rfl sc40.nd (di_seq (de_var (pv 2))) (own := [("own", 3)]) (blkOk_by (by kernel_rfl)) (fun _ _ _ _ _ => (dg_name (pg_name sc40.nd rfl (by first | exact Or.inl rfl | exact Or.inr rfl)))) (fun _ _ _ _ _ => dts_nil) (fun _ _ _ _ _ => (de_call G.c39 hr (by rfl) T.g39 T.F39.kp T.b39 (dr_val (de_var (pv 3)) (dr_val (de_var (pv 1)) dr_nil)) (rl_val (rl_val (rl_nil rfl))))) (by decide))))))))) (dss_one (ds_ret de_bl)) dss_nil)))
    (dss_one (ds_ret de_bl)))))
theorem ok41 (T : Top K mg fa fd) (G : Gs P w K mg base fa fd k cl) : FnOk P w K mg base CX0 (k + 1) (fa 41) (fd 41) [] (spD K 0 (fn41 cl)) :=
  fn_ok T.F41 sc41 fun cdv A outer s H E hr => (dss_cons (ds_asgG (fun te g h1 h2 => ps_asg h1 h2) (de_tup (da_cons (de_tup (da_cons de_int (da_cons de_int da_nil))) (da_cons (de_tup (da_cons de_int (da_cons de_int da_nil))) (da_cons (de_tup (da_cons de_int (da_cons de_int da_nil))) da_nil)))) (dg_tup rfl (dgs_cons (dg_name (pg_name sc41.nd rfl (by first | exact Or.inl rfl | exact Or.inr rfl))) (dgs_cons (dg_name (pg_name sc41.nd rfl (by first | exact Or.inl rfl | exact Or.inr rfl))) (dgs_cons (dg_name (pg_name sc41.nd rfl (by first | exact Or.inl rfl | exact Or.inr rfl))) dgs_nil)))))
    (dss_cons (ds_par (fun ta h => ps_par rfl sc41.nd rfl rfl (by decide) rfl rfl h (by rfl)) (de_tup (da_cons (de_tup (da_cons (de_tup (da_cons (de_tup (da_cons (de_var (pv 0)) da_nil)) da_nil)) da_nil)) (da_cons (de_tup (da_cons (de_tup (da_cons (de_var (pv 2)) da_nil)) da_nil)) da_nil))) (de_tup (da_cons (de_tup (da_cons (de_tup (da_cons (de_tup (da_cons (de_var (pv 0)) (da_cons (de_var (pv 0)) da_nil))) (da_cons (de_tup (da_cons (de_var (pv 1)) (da_cons (de_var (pv 0)) da_nil))) da_nil))) da_nil)) (da_cons (de_tup (da_cons (de_tup (da_cons (de_var (pv 0)) (da_cons (de_var (pv 2)) da_nil))) da_nil)) da_nil))))
    (dss_cons (ds_set (fun te h => ps_set sc41.nd rfl (by first | exact Or.inl rfl | exact Or.inr rfl) h) (de_tup (da_cons (de_tup (da_cons (de_tup (da_cons (de_tup (da_cons (de_var (pv 0)) da_nil)) da_nil)) (da_cons (de_tup (da_cons (de_tup (da_cons (de_var (pv 1)) da_nil)) da_nil)) da_nil))) (da_cons (de_tup (da_cons (de_tup (da_cons (de_var (pv 2)) da_nil)) (da_cons (de_tup (da_cons (de_var (pv 2)) da_nil)) da_nil))) da_nil))))
    (dss_cons (ds_set (fun te h => ps_set sc41.nd rfl (by first | exact Or.inl rfl | exact Or.inr rfl) h) (de_tup (da_cons (de_tup (da_cons (de_tup da_nil) da_nil)) (da_cons (de_tup (da_cons (de_tup da_nil) da_nil)) da_nil))))
    (dss_cons (ds_set (fun te h => ps_set sc41.nd rfl (by first | exact Or.inl rfl | exact Or.inr rfl) h) (de_lst (da_cons (de_lc rfl sc41.nd (di_seq (de_tup (da_cons (de_var (pv 3)) (da_cons (de_var (pv 4)) (da_cons (de_var (pv 6)) (da_cons (de_var (pv 5)) da_nil)))))) (own := [("own", 14)]) (blkOk_by (by kernel_rfl)) (fun _ _ _ _ _ => (dg_name (pg_name sc41.nd rfl (by first | exact Or.inl rfl | exact Or.inr rfl)))) (fun _ _ _ _ _ => dts_nil) (fun _ _ _ _ _ => (de_call G.c14 hr (by rfl) T.g14 T.F14.kp T.b14 (dr_val (de_var (pv 14)) (dr_val de_int dr_nil)) (rl_val (rl_val (rl_nil rfl))))) (by decide)) (da_cons (de_call G.c14 hr (by rfl) T.g14 T.F14.kp T.b14 (dr_val (de_var (pv 5)) (dr_val de_int dr_nil)) (rl_val (rl_val (rl_nil rfl)))) (da_cons (de_call G.c14 hr (by rfl) T.g14 T.F14.kp T.b14 (dr_val (de_tup (da_cons (de_tup (da_cons (de_tup da_nil) (da_cons (de_tup da_nil) da_nil))) (da_cons (de_tup (da_cons (de_tup da_nil) (da_cons (de_tup da_nil) da_nil))) da_nil))) (dr_val de_int dr_nil)) (rl_val (rl_val (rl_nil rfl)))) da_nil)))))
    (dss_cons (ds_set (fun te h => ps_set sc41.nd rfl (by first | exact Or.inl rfl | exact Or.inr rfl) h) (de_lst (da_cons (de_lst (da_cons de_bl (da_cons de_bl (da_cons de_bl (da_cons de_bl da_nil))))) (da_cons de_bl (da_cons de_bl da_nil)))))
    (dss_cons (ds_set (fun te h => ps_set sc41.nd rfl (by first | exact Or.inl rfl | exact Or.inr rfl) h) (de_lst (da_cons de_non (da_cons (de_tup da_nil) (da_cons (de_tup (da_cons (de_var (pv 3)) da_nil)) (da_cons (de_tup (da_cons (de_ix ix_A os_ix (de_var (pv 3)) de_int (fun _ _ => rfl)) (da_cons (de_ix ix_A os_ix (de_var (pv 3)) de_int (fun _ _ => rfl)) (da_cons (de_tup da_nil) da_nil)))) (da_cons (de_tup (da_cons (de_ix ix_A os_ix (de_var (pv 3)) de_int (fun _ _ => rfl)) (da_cons (de_tup (da_cons (de_tup (da_cons (de_var (pv 2)) (da_cons (de_var (pv 2)) da_nil))) da_nil)) da_nil))) (da_cons (de_tup (da_cons (de_ix ix_A os_ix (de_var (pv 3)) de_int (fun _ _ => rfl)) (da_cons (de_tup da_nil) da_nil))) (da_cons (de_tup (da_cons (de_tup da_nil) (da_cons (de_tup da_nil) da_nil))) (da_cons (de_tup (da_cons (de_tup (da_cons (de_tup (da_cons (de_tup (da_cons (de_tup (da_cons de_int (da_cons de_int da_nil))) da_nil)) da_nil)) da_nil)) (da_cons (de_tup (da_cons (de_tup (da_cons (de_var (pv 2)) da_nil)) da_nil)) da_nil))) da_nil))))))))))
    (dss_cons (ds_set (fun te h => ps_set sc41.nd rfl (by first | exact Or.inl rfl | exact Or.inr rfl) h) (de_op op_addA os_add (de_var (pv 9)) (de_lst (da_cons (de_tup (da_cons (de_tup (da_cons (de_tup (da_cons (de_tup (da_cons (de_var (pv 0)) (da_cons (de_var (pv 0)) da_nil))) da_nil)) da_nil)) (da_cons (de_tup (da_cons (de_tup (da_cons (de_var (pv 2)) da_nil)) da_nil)) da_nil))) (da_cons (de_tup (da_cons (de_tup (da_cons (de_tup (da_cons (de_tup (da_cons (de_var (pv 0)) da_nil)) (da_cons (de_tup (da_cons (de_var (pv 0)) da_nil)) da_nil))) da_nil)) (da_cons (de_tup (da_cons (de_tup (da_cons (de_var (pv 2)) (da_cons (de_var (pv 2)) da_nil))) da_nil)) da_nil))) (da_cons (de_lst (da_cons (de_ix ix_A os_ix (de_var (pv 3)) de_int (fun _ _ => rfl)) (da_cons (de_ix ix_A os_ix (de_var (pv 3)) de_int (fun _ _ => rfl)) da_nil))) (da_cons (de_tup (da_cons (de_tup (da_cons (de_tup (da_cons (de_tup (da_cons de_bl (da_cons de_int da_nil))) da_nil)) da_nil)) (da_cons (de_tup (da_cons (de_tup (da_cons (de_var (pv 2)) da_nil)) da_nil)) da_nil))) da_nil)))))))
    (dss_cons (ds_set (fun te h => ps_set sc41.nd rfl (by first | exact Or.inl rfl | exact Or.inr rfl) h) (de_op op_addA os_add (de_var (pv 9)) (de_lst (da_cons (de_tup (da_cons (de_tup (da_cons (de_tup (da_cons (de_tup (da_cons (de_var (pv 0)) da_nil)) da_nil)) da_nil)) (da_cons (de_tup (da_cons (de_var (pv 2)) da_nil)) da_nil))) (da_cons (de_tup (da_cons (de_tup (da_cons (de_tup (da_cons (de_tup (da_cons (de_var (pv 0)) da_nil)) da_nil)) da_nil)) (da_cons (de_tup (da_cons (de_tup (da_cons de_int da_nil)) da_nil)) da_nil))) (da_cons de_str (da_cons de_int da_nil)))))))
    (dss_cons (ds_set (fun te h => ps_set sc41.nd rfl (by first | exact Or.inl rfl | exact Or.inr rfl) h) (de_op op_addA os_add (de_var (pv 7)) (de_lst (da_cons (de_lc rfl sc41.nd (di_seq (de_var (pv 9))) (own := [("own", 14)]) (blkOk_by (by kernel_rfl)) (fun _ _ _ _ _ => (dg_name (pg_name sc41.nd rfl (by first | exact Or.inl rfl | exact Or.inr rfl)))) (fun _ _ _ _ _ => dts_nil) (fun _ _ _ _ _ => (de_call G.c14 hr (by rfl) T.g14 T.F14.kp T.b14 (dr_val (de_var (pv 14)) (dr_val de_int dr_nil)) (rl_val (rl_val (rl_nil rfl))))) (by decide)) (da_cons (de_lc rfl sc41.nd (di_seq (de_call G.c26 hr (by rfl) T.g26 T.F26.kp T.b26 (dr_val (de_lst (da_cons (de_var (pv 3)) (da_cons (de_var (pv 4)) da_nil))) dr_nil) (rl_val (rl_nil rfl)))) (own := [("own", 14)]) (blkOk_by (by kernel_rfl)) (fun _ _ _ _ _ => (dg_name (pg_name sc41.nd rfl (by first | exact Or.inl rfl | exact Or.inr rfl)))) (fun _ _ _ _ _ => dts_nil) (fun _ _ _ _ _ => (de_call G.c14 hr (by rfl) T.g14 T.F14.kp T.b14 (dr_val (de_var (pv 14)) (dr_val de_int dr_nil)) (rl_val (rl_val (rl_nil rfl))))) (by decide)) da_nil)))))
    (dss_cons (ds_set (fun te h => ps_set sc41.nd rfl (by first | exact Or.inl rfl | exact Or.inr rfl) h) (de_op op_addA os_add (de_var (pv 8)) (de_lst (da_cons (de_rep (de_lst (da_cons de_bl da_nil)) (de_call1 call_len_seq us_len (by rfl) T.z_len boot_len (de_var (pv 9)))) (da_cons (de_lst (da_cons de_bl (da_cons de_bl da_nil))) da_nil)))))
    (dss_cons (ds_set (fun te h => ps_set sc41.nd rfl (by first | exact Or.inl rfl | exact Or.inr rfl) h) (de_lst (da_cons (de_tup (da_cons (de_ix ix_A os_ix (de_var (pv 3)) de_int (fun _ _ => rfl)) (da_cons (de_tup da_nil) da_nil))) (da_cons (de_tup (da_cons (de_ix ix_A os_ix (de_var (pv 3)) de_int (fun _ _ => rfl)) (da_cons (de_tup (da_cons (de_ix ix_A os_ix (de_var (pv 3)) de_int (fun _ _ => rfl)) da_nil)) da_nil))) (da_cons (de_tup (da_cons (de_ix ix_A os_ix (de_var (pv 4)) de_int (fun _ _ => rfl)) (da_cons (de_tup (da_cons (de_ix ix_A os_ix (de_var (pv 4)) de_int (fun _ _ => rfl)) (da_cons (de_ix ix_A os_ix (de_var (pv 4)) de_int (fun _ _ => rfl)) da_nil))) da_nil))) (da_cons (de_tup (da_cons (de_tup (da_cons (de_tup da_nil) da_nil)) (da_cons (de_tup da_nil) da_nil))) (da_cons (de_tup (da_cons (de_tup (da_cons (de_tup da_nil) da_nil)) (da_cons (de_tup (da_cons (de_tup (da_cons (de_tup da_nil) da_nil)) da_nil)) da_nil))) da_nil)))))))
    (dss_cons (ds_set (fun te h => ps_set sc41.nd rfl (by first | exact Or.inl rfl | exact Or.inr rfl) h) (de_op op_addA os_add (de_var (pv 7)) (de_lst (da_cons (de_lc rfl sc41.nd (di_seq (de_var (pv 10))) (own := [("own", 14)]) (blkOk_by (by kernel_rfl)) (fun _ _ _ _ _ => (dg_name (pg_name sc41.nd rfl (by first | exact Or.inl rfl | exact Or.inr rfl)))) (fun _ _ _ _ _ => dts_nil) (fun _ _ _ _ _ => (de_call G.c15 hr (by rfl) T.g15 T.F15.kp T.b15 (dr_val (de_var (pv 14)) (dr_val de_int dr_nil)) (rl_val (rl_val (rl_nil rfl))))) (by decide)) (da_cons (de_lc rfl sc41.nd (di_seq (de_tup (da_cons (de_var (pv 3)) (da_cons (de_var (pv 4)) (da_cons (de_var (pv 5)) (da_cons (de_tup (da_cons (de_ix ix_A os_ix (de_var (pv 3)) de_int (fun _ _ => rfl)) (da_cons (de_tup (da_cons (de_ix ix_A os_ix (de_var (pv 4)) de_int (fun _ _ => rfl)) da_nil)) da_nil))) da_nil)))))) (own := [("own", 14)]) (blkOk_by (by kernel_rfl)) (fun _ _ _ _ _ => (dg_name (pg_name sc41.nd rfl (by first | exact Or.inl rfl | exact Or.inr rfl)))) (fun _ _ _ _ _ => dts_nil) (fun _ _ _ _ _ => (de_call G.c15 hr (by rfl) T.g15 T.F15.kp T.b15 (dr_val (de_var (pv 14)) (dr_val de_int dr_nil)) (rl_val (rl_val (rl_nil rfl))))) (by decide)) da_nil)))))
    (dss_cons (ds_set (fun te h => ps_set sc41.nd rfl (by first | exact Or.inl rfl | exact Or.inr rfl) h) (de_op op_addA os_add (de_var (pv 8)) (de_lst (da_cons (de_rep (de_lst (da_cons de_bl da_nil)) de_int) (da_cons (de_rep (de_lst (da_cons de_bl da_nil)) de_int) da_nil)))))
    (dss_cons (ds_set (fun te h => ps_set sc41.nd rfl (by first | exact Or.inl rfl | exact Or.inr rfl) h) (de_op op_addA os_add (de_var (pv 7)) (de_lst (da_cons (de_call G.c15 hr (by rfl) T.g15 T.F15.kp T.b15 (dr_val (de_tup (da_cons (de_ix ix_A os_ix (de_var (pv 5)) de_int (fun _ _ => rfl)) (da_cons (de_tup (da_cons (de_ix ix_A os_ix (de_var (pv 5)) de_int (fun _ _ => rfl)) da_nil)) da_nil))) (dr_val de_int dr_nil)) (rl_val (rl_val (rl_nil rfl)))) (da_cons (de_callK0 G.c15 hr (by rfl) T.g15 T.F15.kp T.k15_0_many_thing (dk_val de_int (dk_val (de_var (pv 5)) dk_nil)) (rl_perm (rl_nil rfl) (rl_val (rl_val (rl_nil rfl))) rfl)) (da_cons (de_callK0 G.c14 hr (by rfl) T.g14 T.F14.kp T.k14_0_many_thing (dk_val de_int (dk_val (de_var (pv 5)) dk_nil)) (rl_perm (rl_nil rfl) (rl_val (rl_val (rl_nil rfl))) rfl)) da_nil))))))
    (dss_cons (ds_set (fun te h => ps_set sc41.nd rfl (by first | exact Or.inl rfl | exact Or.inr rfl) h) (de_op op_addA os_add (de_var (pv 8)) (de_lst (da_cons de_bl (da_cons de_bl (da_cons de_bl da_nil))))))
    (dss_cons (ds_set (fun te h => ps_set sc41.nd rfl (by first | exact Or.inl rfl | exact Or.inr rfl) h) (de_lst (da_cons (de_tup da_nil) (da_cons (de_tup (da_cons (de_tup (da_cons (de_tup (da_cons de_int da_nil)) (da_cons (de_var (pv 2)) da_nil))) da_nil)) (da_cons (de_tup (da_cons (de_tup (da_cons (de_tup (da_cons de_int da_nil)) (da_cons (de_var (pv 1)) da_nil))) (da_cons (de_tup (da_cons (de_tup (da_cons de_int da_nil)) (da_cons (de_tup (da_cons (de_un un_neg us_neg de_int) (da_cons de_int da_nil))) da_nil))) da_nil))) da_nil)))))
    (dss_cons (ds_expr (de_app (fun t h => pe_bm PySem.F.plainAttrs_list PySem.F.slot_list_append PySem.F.type_list_append mt_append (pv 7) h) (de_op op_addA os_add (de_lc rfl sc41.nd (di_seq (de_var (pv 11))) (own := [("own", 14)]) (blkOk_by (by kernel_rfl)) (fun _ _ _ _ _ => (dg_name (pg_name sc41.nd rfl (by first | exact Or.inl rfl | exact Or.inr rfl)))) (fun _ _ _ _ _ => dts_nil) (fun _ _ _ _ _ => (de_call G.c18 hr (by rfl) T.g18 T.F18.kp T.b18 (dr_val (de_var (pv 14)) (dr_val de_int dr_nil)) (rl_val (rl_val (rl_nil rfl))))) (by decide)) (de_lst (da_cons (de_call G.c18 hr (by rfl) T.g18 T.F18.kp T.b18 (dr_val (de_tup da_nil) (dr_val de_int dr_nil)) (rl_val (rl_val (rl_nil rfl)))) (da_cons (de_call G.c18 hr (by rfl) T.g18 T.F18.kp T.b18 (dr_val (de_tup (da_cons (de_tup (da_cons (de_tup da_nil) (da_cons (de_var (pv 2)) da_nil))) da_nil)) (dr_val de_int dr_nil)) (rl_val (rl_val (rl_nil rfl)))) (da_cons (de_call G.c18 hr (by rfl) T.g18 T.F18.kp T.b18 (dr_val (de_tup (da_cons (de_tup (da_cons (de_tup (da_cons de_int (da_cons de_int da_nil))) (da_cons (de_var (pv 2)) da_nil))) (da_cons (de_tup (da_cons (de_tup (da_cons de_int (da_cons de_int da_nil))) (da_cons (de_var (pv 1)) da_nil))) da_nil))) (dr_val de_int dr_nil)) (rl_val (rl_val (rl_nil rfl)))) da_nil)))))))
    (dss_cons (ds_expr (de_app (fun t h => pe_bm PySem.F.plainAttrs_list PySem.F.slot_list_append PySem.F.type_list_append mt_append (pv 8) h) (de_rep (de_lst (da_cons de_bl da_nil)) de_int)))
    (dss_cons (ds_set (fun te h => ps_set sc41.nd rfl (by first | exact Or.inl rfl | exact Or.inr rfl) h) (de_lst (da_cons (de_tup (da_cons (de_tup (da_cons (de_tup (da_cons de_int da_nil)) (da_cons (de_var (pv 0)) da_nil))) da_nil)) (da_cons (de_tup (da_cons (de_tup (da_cons (de_tup (da_cons (de_un un_neg us_neg de_int) da_nil)) (da_cons (de_var (pv 2)) da_nil))) da_nil)) (da_cons (de_tup (da_cons (de_tup (da_cons (de_tup (da_cons de_int da_nil)) (da_cons (de_var (pv 2)) da_nil))) (da_cons (de_tup (da_cons (de_tup (da_cons de_int da_nil)) (da_cons (de_var (pv 2)) da_nil))) da_nil))) (da_cons (de_tup (da_cons (de_tup (da_cons (de_tup (da_cons de_int da_nil)) (da_cons (de_var (pv 2)) da_nil))) (da_cons (de_tup (da_cons (de_tup (da_cons de_int da_nil)) (da_cons (de_var (pv 1)) da_nil))) da_nil))) (da_cons (de_tup (da_cons (de_tup (da_cons (de_tup (da_cons de_bl da_nil)) (da_cons (de_var (pv 2)) da_nil))) da_nil)) (da_cons (de_tup (da_cons (de_tup (da_cons (de_tup (da_cons de_int (da_cons de_int da_nil))) (da_cons (de_var (pv 2)) da_nil))) da_nil)) da_nil))))))))
    (dss_cons (ds_set (fun te h => ps_set sc41.nd rfl (by first | exact Or.inl rfl | exact Or.inr rfl) h) (de_op op_addA os_add (de_var (pv 9)) (de_lst (da_cons (de_tup (da_cons (de_tup (da_cons de_int (da_cons (de_var (pv 2)) da_nil))) da_nil)) (da_cons (de_lst (da_cons (de_tup (da_cons (de_tup (da_cons de_int da_nil)) (da_cons (de_var (pv 2)) da_nil))) da_nil)) (da_cons (de_tup (da_cons (de_tup (da_cons (de_tup (da_cons de_int da_nil)) (da_cons (de_tup (da_cons de_int (da_cons de_int da_nil))) da_nil))) da_nil)) (da_cons (de_tup (da_cons (de_tup (da_cons (de_tup (da_cons de_int da_nil)) (da_cons (de_var (pv 2)) (da_cons (de_var (pv 2)) da_nil)))) da_nil)) (da_cons de_non (da_cons (de_tup (da_cons (de_tup da_nil) da_nil)) (da_cons (de_tup (da_cons (de_tup (da_cons (de_tup (da_cons de_int da_nil)) (da_cons de_int da_nil))) da_nil)) da_nil))))))))))
    (dss_cons (ds_set (fun te h => ps_set sc41.nd rfl (by first | exact Or.inl rfl | exact Or.inr rfl) h) (de_op op_addA os_add (de_var (pv 7)) (de_lst (da_cons (de_lc rfl sc41.nd (di_seq (de_var (pv 9))) (own := [("own", 14)]) (blkOk_by (by kernel_rfl)) (fun _ _ _ _ _ => (dg_name (pg_name sc41.nd rfl (by first | exact Or.inl rfl | exact Or.inr rfl)))) (fun _ _ _ _ _ => dts_nil) (fun _ _ _ _ _ => (de_call G.c18 hr (by rfl) T.g18 T.F18.kp T.b18 (dr_val (de_var (pv 14)) (dr_val de_int dr_nil)) (rl_val (rl_val (rl_nil rfl))))) (by decide)) (da_cons (de_callK0 G.c18 hr (by rfl) T.g18 T.F18.kp T.k18_0_many_thing (dk_val de_int (dk_val (de_tup (da_cons (de_tup (da_cons (de_tup (da_cons de_int da_nil)) (da_cons (de_var (pv 2)) da_nil))) da_nil)) dk_nil)) (rl_perm (rl_nil rfl) (rl_val (rl_val (rl_nil rfl))) rfl)) da_nil)))))
    (dss_cons (ds_set (fun te h => ps_set sc41.nd rfl (by first | exact Or.inl rfl | exact Or.inr rfl) h) (de_op op_addA os_add (de_var (pv 8)) (de_lst (da_cons (de_rep (de_lst (da_cons de_bl da_nil)) (de_call1 call_len_seq us_len (by rfl) T.z_len boot_len (de_var (pv 9)))) (da_cons de_bl da_nil)))))
    (dss_cons (ds_set (fun te h => ps_set sc41.nd rfl (by first | exact Or.inl rfl | exact Or.inr rfl) h) (de_tup (da_cons (de_tup (da_cons (de_tup (da_cons (de_tup (da_cons (de_tup (da_cons de_int da_nil)) (da_cons (de_var (pv 2)) da_nil))) da_nil)) da_nil)) da_nil)))
    (dss_cons (ds_set (fun te h => ps_set sc41.nd rfl (by first | exact Or.inl rfl | exact Or.inr rfl) h) (de_tup (da_cons (de_tup (da_cons (de_tup (da_cons (de_tup (da_cons (de_tup (da_cons de_int (da_cons de_int da_nil))) (da_cons (de_var (pv 2)) da_nil))) da_nil)) (da_cons (de_tup da_nil) da_nil))) (da_cons (de_tup (da_cons (de_tup da_nil) (da_cons (de_tup (da_cons (de_tup (da_cons (de_tup (da_cons de_int (da_cons de_int da_nil))) (da_cons (de_var (pv 2)) da_nil))) da_nil)) da_nil))) da_nil))))
    (dss_cons (ds_expr (de_app (fun t h => pe_bm PySem.F.plainAttrs_list PySem.F.slot_list_append PySem.F.type_list_append mt_append (pv 7) h) (de_lc rfl sc41.nd (di_seq (de_tup (da_cons (de_var (pv 12)) (da_cons (de_var (pv 13)) (da_cons (de_tup (da_cons (de_tup (da_cons (de_tup da_nil) da_nil)) da_nil)) (da_cons (de_tup (da_cons (de_tup (da_cons (de_tup da_nil) (da_cons (de_tup da_nil) da_nil))) (da_cons (de_tup (da_cons (de_tup da_nil) (da_cons (de_tup da_nil) da_nil))) da_nil))) da_nil)))))) (own := [("own", 14)]) (blkOk_by (by kernel_rfl)) (fun _ _ _ _ _ => (dg_name (pg_name sc41.nd rfl (by first | exact Or.inl rfl | exact Or.inr rfl)))) (fun _ _ _ _ _ => dts_nil) (fun _ _ _ _ _ => (de_call G.c19 hr (by rfl) T.g19 T.F19.kp T.b19 (dr_val (de_var (pv 14)) dr_nil) (rl_val (rl_nil rfl)))) (by decide))))
    (dss_cons (ds_expr (de_app (fun t h => pe_bm PySem.F.plainAttrs_list PySem.F.slot_list_append PySem.F.type_list_append mt_append (pv 8) h) (de_rep (de_lst (da_cons de_bl da_nil)) de_int)))
    (dss_cons (ds_set (fun te h => ps_set sc41.nd rfl (by first | exact Or.inl rfl | exact Or.inr rfl) h) (de_lst (da_cons (de_tup da_nil) (da_cons (de_tup (da_cons (de_tup da_nil) da_nil)) (da_cons (de_tup (da_cons (de_var (pv 12)) da_nil)) (da_cons (de_tup (da_cons (de_tup (da_cons (de_ix ix_A os_ix (de_ix ix_A os_ix (de_var (pv 12)) de_int (fun _ _ => rfl)) de_int (fun _ _ => rfl)) (da_cons (de_tup da_nil) da_nil))) da_nil)) (da_cons (de_tup (da_cons (de_tup (da_cons (de_tup da_nil) da_nil)) (da_cons (de_tup (da_cons (de_tup da_nil) (da_cons (de_tup da_nil) da_nil))) da_nil))) (da_cons (de_lst (da_cons (de_ix ix_A os_ix (de_var (pv 12)) de_int (fun _ _ => rfl)) da_nil)) (da_cons (de_tup (da_cons (de_tup (da_cons (de_tup (da_cons (de_tup (da_cons (de_tup (da_cons de_int (da_cons de_int da_nil))) (da_cons (de_var (pv 2)) da_nil))) da_nil)) da_nil)) da_nil)) (da_cons de_non (da_cons de_int (da_cons (de_tup (da_cons (de_tup (da_cons de_non da_nil)) da_nil)) da_nil))))))))))))
    (dss_cons (ds_set (fun te h => ps_set sc41.nd rfl (by first | exact Or.inl rfl | exact Or.inr rfl) h) (de_op op_addA os_add (de_var (pv 7)) (de_lst (da_cons (de_lc rfl sc41.nd (di_seq (de_var (pv 9))) (own := [("own", 14)]) (blkOk_by (by kernel_rfl)) (fun _ _ _ _ _ => (dg_name (pg_name sc41.nd rfl (by first | exact Or.inl rfl | exact Or.inr rfl)))) (fun _ _ _ _ _ => dts_nil) (fun _ _ _ _ _ => (de_call G.c19 hr (by rfl) T.g19 T.F19.kp T.b19 (dr_val (de_var (pv 14)) dr_nil) (rl_val (rl_nil rfl)))) (by decide)) (da_cons (de_callK0 G.c19 hr (by rfl) T.g19 T.F19.kp T.k19_0_thing (dk_val (de_var (pv 12)) dk_nil) (rl_perm (rl_nil rfl) (rl_val (rl_nil rfl)) rfl)) da_nil)))))
    (dss_one (ds_ret (de_call G.c25 hr (by rfl) T.g25 T.F25.kp T.b25 (dr_val (de_var (pv 7)) (dr_val (de_op op_addA os_add (de_var (pv 8)) (de_lst (da_cons (de_rep (de_lst (da_cons de_bl da_nil)) (de_call1 call_len_seq us_len (by rfl) T.z_len boot_len (de_var (pv 9)))) (da_cons de_bl da_nil)))) dr_nil)) (rl_val (rl_val (rl_nil rfl)))))))))))))))))))))))))))))))))))
theorem ok42 (T : Top K mg fa fd) (G : Gs P w K mg base fa fd k cl) : FnOk P w K mg base CX0 (k + 1) (fa 42) (fd 42) ["urn"] (spD K 1 (fn42 cl)) :=
  fn_ok T.F42 sc42 fun cdv A outer s H E hr => (dss_cons (ds_par (fun ta h => ps_par rfl sc42.nd rfl rfl (by decide) rfl rfl h (by rfl)) (de_op op_addA os_add de_int (de_call G.c22 hr (by rfl) T.g22 T.F22.kp T.b22 (dr_slot (pv 0) (dr_val de_int dr_nil)) (rl_slot (rl_val (rl_nil rfl))))) (de_op op_addA os_add de_int (de_call G.c22 hr (by rfl) T.g22 T.F22.kp T.b22 (dr_slot (pv 0) (dr_val de_int dr_nil)) (rl_slot (rl_val (rl_nil rfl))))))
    (dss_cons (ds_set (fun te h => ps_set sc42.nd rfl (by first | exact Or.inl rfl | exact Or.inr rfl) h) (de_call G.c31 hr (by rfl) T.g31 T.F31.kp T.b31 (dr_slot (pv 0) (dr_val (de_var (pv 1)) (dr_val (de_call G.c22 hr (by rfl) T.g22 T.F22.kp T.b22 (dr_slot (pv 0) (dr_val de_int dr_nil)) (rl_slot (rl_val (rl_nil rfl)))) (dr_val de_bl dr_nil)))) (rl_slot (rl_val (rl_val (rl_val (rl_nil rfl)))))))
    (dss_cons (ds_set (fun te h => ps_set sc42.nd rfl (by first | exact Or.inl rfl | exact Or.inr rfl) h) (de_call G.c31 hr (by rfl) T.g31 T.F31.kp T.b31 (dr_slot (pv 0) (dr_val (de_var (pv 1)) (dr_val (de_call1 call_len_seq us_len (by rfl) T.z_len boot_len (de_ix ix_A os_ix (de_ix ix_A os_ix (de_var (pv 3)) de_int (fun _ _ => rfl)) de_int (fun _ _ => rfl))) (dr_val de_bl dr_nil)))) (rl_slot (rl_val (rl_val (rl_val (rl_nil rfl)))))))
    (dss_cons (ds_set (fun te h => ps_set sc42.nd rfl (by first | exact Or.inl rfl | exact Or.inr rfl) h) (de_tup (da_cons (de_ix ix_A os_ix (de_var (pv 3)) de_int (fun _ _ => rfl)) (da_cons (de_sl (de_tup (da_cons (de_ix ix_A os_ix (de_var (pv 3)) de_int (fun _ _ => rfl)) (da_cons (de_ix ix_A os_ix (de_var (pv 4)) de_int (fun _ _ => rfl)) da_nil))) do_none (do_some (de_call G.c22 hr (by rfl) T.g22 T.F22.kp T.b22 (dr_slot (pv 0) (dr_val de_int dr_nil)) (rl_slot (rl_val (rl_nil rfl)))))) da_nil))))
    (dss_cons (ds_set (fun te h => ps_set sc42.nd rfl (by first | exact Or.inl rfl | exact Or.inr rfl) h) (de_call G.c33 hr (by rfl) T.g33 T.F33.kp T.b33 (dr_slot (pv 0) (dr_val (de_var (pv 1)) (dr_val (de_var (pv 2)) (dr_val de_bl (dr_val de_int dr_nil))))) (rl_slot (rl_val (rl_val (rl_val (rl_val (rl_nil rfl))))))))
    (dss_cons (ds_par (fun ta h => ps_par rfl sc42.nd rfl rfl (by decide) rfl rfl h (by rfl)) (de_lst (da_cons (de_call G.c14 hr (by rfl) T.g14 T.F14.kp T.b14 (dr_val (de_var (pv 3)) (dr_val (de_var (pv 1)) dr_nil)) (rl_val (rl_val (rl_nil rfl)))) (da_cons (de_call G.c15 hr (by rfl) T.g15 T.F15.kp T.b15 (dr_val (de_var (pv 5)) (dr_val (de_var (pv 1)) dr_nil)) (rl_val (rl_val (rl_nil rfl)))) (da_cons (de_call G.c19 hr (by rfl) T.g19 T.F19.kp T.b19 (dr_val (de_var (pv 6)) dr_nil) (rl_val (rl_nil rfl))) da_nil)))) (de_lst (da_cons de_bl (da_cons de_bl (da_cons de_bl da_nil)))))
    (dss_cons (ds_for PassesOwn.never rfl (di_rng1 (by rfl) T.z_range (da_cons de_int da_nil)) (dg_name (pg_name sc42.nd rfl (by first | exact Or.inl rfl | exact Or.inr rfl))) (dss_cons (ds_set (fun te h => ps_set sc42.nd rfl (by first | exact Or.inl rfl | exact Or.inr rfl) h) (de_lst (da_cons (de_call G.c34 hr (by rfl) T.g34 T.F34.kp T.b34 (dr_slot (pv 0) (dr_val (de_var (pv 3)) dr_nil)) (rl_slot (rl_val (rl_nil rfl)))) (da_cons (de_call G.c34 hr (by rfl) T.g34 T.F34.kp T.b34 (dr_slot (pv 0) (dr_val (de_var (pv 5)) dr_nil)) (rl_slot (rl_val (rl_nil rfl)))) (da_cons (de_call G.c34 hr (by rfl) T.g34 T.F34.kp T.b34 (dr_slot (pv 0) (dr_val (de_var (pv 6)) dr_nil)) (rl_slot (rl_val (rl_nil rfl)))) da_nil)))))
    (dss_cons (ds_set (fun te h => ps_set sc42.nd rfl (by first | exact Or.inl rfl | exact Or.inr rfl) h) (de_op op_addA os_add (de_var (pv 7)) (de_lst (da_cons (de_call G.c14 hr (by rfl) T.g14 T.F14.kp T.b14 (dr_val (de_ix ix_A os_ix (de_var (pv 10)) de_int (fun _ _ => rfl)) (dr_val (de_var (pv 1)) dr_nil)) (rl_val (rl_val (rl_nil rfl)))) (da_cons (de_call G.c15 hr (by rfl) T.g15 T.F15.kp T.b15 (dr_val (de_ix ix_A os_ix (de_var (pv 10)) de_int (fun _ _ => rfl)) (dr_val (de_var (pv 1)) dr_nil)) (rl_val (rl_val (rl_nil rfl)))) (da_cons (de_call G.c19 hr (by rfl) T.g19 T.F19.kp T.b19 (dr_val (de_ix ix_A os_ix (de_var (pv 10)) de_int (fun _ _ => rfl)) dr_nil) (rl_val (rl_nil rfl))) da_nil))))))
    (dss_cons (ds_set (fun te h => ps_set sc42.nd rfl (by first | exact Or.inl rfl | exact Or.inr rfl) h) (de_op op_addA os_add (de_var (pv 8)) (de_lst (da_cons (de_call G.c38 hr (by rfl) T.g38 T.F38.kp T.b38 (dr_val (de_ix ix_A os_ix (de_var (pv 10)) de_int (fun _ _ => rfl)) (dr_val (de_var (pv 1)) (dr_val de_bl dr_nil))) (rl_val (rl_val (rl_val (rl_nil rfl))))) (da_cons (de_call G.c38 hr (by rfl) T.g38 T.F38.kp T.b38 (dr_val (de_ix ix_A os_ix (de_var (pv 10)) de_int (fun _ _ => rfl)) (dr_val (de_var (pv 1)) (dr_val de_bl dr_nil))) (rl_val (rl_val (rl_val (rl_nil rfl))))) (da_cons (de_call G.c40 hr (by rfl) T.g40 T.F40.kp T.b40 (dr_val (de_ix ix_A os_ix (de_var (pv 10)) de_int (fun _ _ => rfl)) dr_nil) (rl_val (rl_nil rfl))) da_nil))))))
    (dss_cons (ds_set (fun te h => ps_set sc42.nd rfl (by first | exact Or.inl rfl | exact Or.inr rfl) h) (de_call G.c32 hr (by rfl) T.g32 T.F32.kp T.b32 (dr_slot (pv 0) (dr_val (de_var (pv 2)) (dr_val (de_var (pv 2)) (dr_val de_int dr_nil)))) (rl_slot (rl_val (rl_val (rl_val (rl_nil rfl)))))))
    (dss_cons (ds_set (fun te h => ps_set sc42.nd rfl (by first | exact Or.inl rfl | exact Or.inr rfl) h) (de_call G.c34 hr (by rfl) T.g34 T.F34.kp T.b34 (dr_slot (pv 0) (dr_val (de_var (pv 11)) dr_nil)) (rl_slot (rl_val (rl_nil rfl)))))
    (dss_cons (ds_set (fun te h => ps_set sc42.nd rfl (by first | exact Or.inl rfl | exact Or.inr rfl) h) (de_op op_addA os_add (de_var (pv 7)) (de_lst (da_cons (de_call G.c18 hr (by rfl) T.g18 T.F18.kp T.b18 (dr_val (de_var (pv 11)) (dr_val (de_var (pv 2)) dr_nil)) (rl_val (rl_val (rl_nil rfl)))) (da_cons (de_call G.c18 hr (by rfl) T.g18 T.F18.kp T.b18 (dr_val (de_var (pv 12)) (dr_val (de_var (pv 2)) dr_nil)) (rl_val (rl_val (rl_nil rfl)))) da_nil)))))
    (dss_one (ds_set (fun te h => ps_set sc42.nd rfl (by first | exact Or.inl rfl | exact Or.inr rfl) h) (de_op op_addA os_add (de_var (pv 8)) (de_lst (da_cons de_bl (da_cons (de_call G.c39 hr (by rfl) T.g39 T.F39.kp T.b39 (dr_val (de_var (pv 12)) (dr_val (de_var (pv 2)) dr_nil)) (rl_val (rl_val (rl_nil rfl)))) da_nil)))))))))))))
    (dss_cons (ds_set (fun te h => ps_set sc42.nd rfl (by first | exact Or.inl rfl | exact Or.inr rfl) h) (de_op op_addA os_add (de_var (pv 7)) (de_lst (da_cons (de_call G.c14 hr (by rfl) T.g14 T.F14.kp T.b14 (dr_val (de_var (pv 3)) (dr_val (de_op op_addA os_add (de_var (pv 1)) de_int) dr_nil)) (rl_val (rl_val (rl_nil rfl)))) (da_cons (de_call G.c15 hr (by rfl) T.g15 T.F15.kp T.b15 (dr_val (de_var (pv 5)) (dr_val (de_op op_addA os_add (de_var (pv 1)) de_int) dr_nil)) (rl_val (rl_val (rl_nil rfl)))) (da_cons (de_call G.c15 hr (by rfl) T.g15 T.F15.kp T.b15 (dr_val (de_var (pv 3)) (dr_val (de_var (pv 1)) dr_nil)) (rl_val (rl_val (rl_nil rfl)))) (da_cons (de_call G.c14 hr (by rfl) T.g14 T.F14.kp T.b14 (dr_val (de_var (pv 5)) (dr_val (de_var (pv 1)) dr_nil)) (rl_val (rl_val (rl_nil rfl)))) da_nil)))))))
    (dss_cons (ds_set (fun te h => ps_set sc42.nd rfl (by first | exact Or.inl rfl | exact Or.inr rfl) h) (de_op op_addA os_add (de_var (pv 8)) (de_lst (da_cons de_bl (da_cons de_bl (da_cons (de_call G.c38 hr (by rfl) T.g38 T.F38.kp T.b38 (dr_val (de_var (pv 3)) (dr_val (de_var (pv 1)) (dr_val de_bl dr_nil))) (rl_val (rl_val (rl_val (rl_nil rfl))))) (da_cons (de_call G.c38 hr (by rfl) T.g38 T.F38.kp T.b38 (dr_val (de_var (pv 5)) (dr_val (de_var (pv 1)) (dr_val de_bl dr_nil))) (rl_val (rl_val (rl_val (rl_nil rfl))))) da_nil)))))))
    (dss_one (ds_ret (de_call G.c25 hr (by rfl) T.g25 T.F25.kp T.b25 (dr_val (de_var (pv 7)) (dr_val (de_var (pv 8)) dr_nil)) (rl_val (rl_val (rl_nil rfl)))))))))))))))
theorem ok43 (T : Top K mg fa fd) (G : Gs P w K mg base fa fd k cl) : FnOk P w K mg base CX0 (k + 1) (fa 43) (fd 43) ["script"] (spD K 1 (fn43 cl)) :=
  fn_ok T.F43 sc43 fun cdv A outer s H E hr => (dss_cons (ds_if (dt_not (dt_tru (de_call0 G.c41 hr (by rfl) T.g41 T.F41.kp T.b41))) (dss_one (ds_ret de_bl)) dss_nil)
    (dss_cons (ds_set (fun te h => ps_set sc43.nd rfl (by first | exact Or.inl rfl | exact Or.inr rfl) h) (de_call G.c23 hr (by rfl) T.g23 T.F23.kp T.b23 (dr_val (de_var (pv 0)) (dr_val de_int dr_nil)) (rl_val (rl_val (rl_nil rfl)))))
    (dss_one (ds_ret (de_call1 (cr_all rfl) us_all (by rfl) T.z_all boot_all (de_lc rfl sc43.nd (di_rng1 (by rfl) T.z_range (da_cons (de_call1 call_len_seq us_len (by rfl) T.z_len boot_len (de_var (pv 1))) da_nil)) (own := [("k", 2)]) (blkOk_by (by kernel_rfl)) (fun _ _ _ _ _ => (dg_name (pg_name sc43.nd rfl (by first | exact Or.inl rfl | exact Or.inr rfl)))) (fun _ _ _ _ _ => dts_nil) (fun _ _ _ _ _ => (de_callO G.c42 hr (by rfl) T.g42 T.F42.kp T.b42 (de_call G.c21 hr (by rfl) T.g21 T.F21.kp T.b21 (dr_val (de_var (pv 1)) (dr_val (de_var (pv 2)) dr_nil)) (rl_val (rl_val (rl_nil rfl)))) rfl)) (by decide)))))))
theorem all_ok (T : Top K mg fa fd) : ∀ k : Nat, Gs P w K mg base fa fd k (run k)
  | 0 => ⟨fn_zero, fn_zero, fn_zero, fn_zero, fn_zero, fn_zero, fn_zero, fn_zero, fn_zero, fn_zero, fn_zero, fn_zero, fn_zero, fn_zero, fn_zero, fn_zero, fn_zero, fn_zero, fn_zero, fn_zero, fn_zero, fn_zero, fn_zero, fn_zero, fn_zero, fn_zero, fn_zero, fn_zero, fn_zero, fn_zero, fn_zero, fn_zero, fn_zero, fn_zero, fn_zero, fn_zero, fn_zero⟩
  | k + 1 => ⟨ok2 T (all_ok T k), ok3 T (all_ok T k), ok4 T (all_ok T k), ok5 T (all_ok T k), ok8 T (all_ok T k), ok9 T (all_ok T k), ok11 T (all_ok T k), ok12 T (all_ok T k), ok13 T (all_ok T k), ok14 T (all_ok T k), ok15 T (all_ok T k), ok17 T (all_ok T k), ok18 T (all_ok T k), ok19 T (all_ok T k), ok21 T (all_ok T k), ok22 T (all_ok T k), ok23 T (all_ok T k), ok24 T (all_ok T k), ok25 T (all_ok T k), ok26 T (all_ok T k), ok27 T (all_ok T k), ok28 T (all_ok T k), ok29 T (all_ok T k), ok30 T (all_ok T k), ok31 T (all_ok T k), ok32 T (all_ok T k), ok33 T (all_ok T k), ok34 T (all_ok T k), ok35 T (all_ok T k), ok36 T (all_ok T k), ok37 T (all_ok T k), ok38 T (all_ok T k), ok39 T (all_ok T k), ok40 T (all_ok T k), ok41 T (all_ok T k), ok42 T (all_ok T k), ok43 T (all_ok T k)⟩
end
/-! ### what the top has written -/
theorem all_mk {l : PySem.W.OpenLaw} {w : World} {K : PySem.W.Frag} {h : Heap} {mg : Str → Option Value} {fl f2 f3 f4 f5 f8 f9 f11 f12 f13 f14 f15 f17 f18 f19 f21 f22 f23 f24 f25 f26 f27 f28 f29 f30 f31 f32 f33 f34 f35 f36 f37 f38 f39 f40 f41 f42 f43 : Addr} (X : K.In h) (G : h.Ns mainGlobals mg) (hfa : mg "law" = some (.ref fl))
    {od2 an2 od3 an3 od4 an4 od5 an5 od8 an8 od9 an9 od11 an11 od12 an12 od13 an13 od14 an14 od15 an15 od17 an17 od18 an18 od19 an19 od21 an21 od22 an22 od23 an23 od24 an24 od25 an25 od26 an26 od27 an27 od28 an28 od29 an29 od30 an30 od31 an31 od32 an32 od33 an33 od34 an34 od35 an35 od36 an36 od37 an37 od38 an38 od39 an39 od40 an40 od41 an41 od42 an42 od43 an43 : Option Addr} {sl2 sl3 sl4 sl5 sl8 sl9 sl11 sl12 sl13 sl14 sl15 sl17 sl18 sl19 sl21 sl22 sl23 sl24 sl25 sl26 sl27 sl28 sl29 sl30 sl31 sl32 sl33 sl34 sl35 sl36 sl37 sl38 sl39 sl40 sl41 sl42 sl43 : Array (Option Value)} {oc2 kV2 dc2 pm2 cd2 ct2 oc3 kV3 dc3 pm3 cd3 ct3 oc4 kV4 dc4 pm4 cd4 ct4 oc5 kV5 dc5 pm5 cd5 ct5 oc8 kV8 dc8 pm8 cd8 ct8 oc9 kV9 dc9 pm9 cd9 ct9 oc11 kV11 dc11 pm11 cd11 ct11 oc12 kV12 dc12 pm12 cd12 ct12 oc13 kV13 dc13 pm13 cd13 ct13 oc14 kV14 dc14 pm14 cd14 ct14 oc15 kV15 dc15 pm15 cd15 ct15 oc17 kV17 dc17 pm17 cd17 ct17 oc18 kV18 dc18 pm18 cd18 ct18 oc19 kV19 dc19 pm19 cd19 ct19 oc21 kV21 dc21 pm21 cd21 ct21 oc22 kV22 dc22 pm22 cd22 ct22 oc23 kV23 dc23 pm23 cd23 ct23 oc24 kV24 dc24 pm24 cd24 ct24 oc25 kV25 dc25 pm25 cd25 ct25 oc26 kV26 dc26 pm26 cd26 ct26 oc27 kV27 dc27 pm27 cd27 ct27 oc28 kV28 dc28 pm28 cd28 ct28 oc29 kV29 dc29 pm29 cd29 ct29 oc30 kV30 dc30 pm30 cd30 ct30 oc31 kV31 dc31 pm31 cd31 ct31 oc32 kV32 dc32 pm32 cd32 ct32 oc33 kV33 dc33 pm33 cd33 ct33 oc34 kV34 dc34 pm34 cd34 ct34 oc35 kV35 dc35 pm35 cd35 ct35 oc36 kV36 dc36 pm36 cd36 ct36 oc37 kV37 dc37 pm37 cd37 ct37 oc38 kV38 dc38 pm38 cd38 ct38 oc39 kV39 dc39 pm39 cd39 ct39 oc40 kV40 dc40 pm40 cd40 ct40 oc41 kV41 dc41 pm41 cd41 ct41 oc42 kV42 dc42 pm42 cd42 ct42 oc43 kV43 dc43 pm43 cd43 ct43 : Value}
    (a2 : PySem.W.nsIn K mainGlobals "is_number" = some (some (.ref f2))) (l2 : K.lookup f2 = some ⟨oc2, od2, .func (PySem.W.fnOf "is_number" "is_number" (defArgs (topS 2)) (defBody (topS 2)) (defScope (topS 2)) .none kV2 dc2 pm2 an2 cd2 ct2), sl2⟩) (c2 : PySem.W.codeIn K cd2 "is_number" = true) (k2 : PySem.W.keepIn K (.ref f2) = true)
    (a3 : PySem.W.nsIn K mainGlobals "is_count" = some (some (.ref f3))) (l3 : K.lookup f3 = some ⟨oc3, od3, .func (PySem.W.fnOf "is_count" "is_count" (defArgs (topS 3)) (defBody (topS 3)) (defScope (topS 3)) .none kV3 dc3 pm3 an3 cd3 ct3), sl3⟩) (c3 : PySem.W.codeIn K cd3 "is_count" = true) (k3 : PySem.W.keepIn K (.ref f3) = true)
    (a4 : PySem.W.nsIn K mainGlobals "is_tuple" = some (some (.ref f4))) (l4 : K.lookup f4 = some ⟨oc4, od4, .func (PySem.W.fnOf "is_tuple" "is_tuple" (defArgs (topS 4)) (defBody (topS 4)) (defScope (topS 4)) .none kV4 dc4 pm4 an4 cd4 ct4), sl4⟩) (c4 : PySem.W.codeIn K cd4 "is_tuple" = true) (k4 : PySem.W.keepIn K (.ref f4) = true)
    (a5 : PySem.W.nsIn K mainGlobals "is_ascending" = some (some (.ref f5))) (l5 : K.lookup f5 = some ⟨oc5, od5, .func (PySem.W.fnOf "is_ascending" "is_ascending" (defArgs (topS 5)) (defBody (topS 5)) (defScope (topS 5)) .none kV5 dc5 pm5 an5 cd5 ct5), sl5⟩) (c5 : PySem.W.codeIn K cd5 "is_ascending" = true) (k5 : PySem.W.keepIn K (.ref f5) = true)
    (a8 : PySem.W.nsIn K mainGlobals "is_fraction" = some (some (.ref f8))) (l8 : K.lookup f8 = some ⟨oc8, od8, .func (PySem.W.fnOf "is_fraction" "is_fraction" (defArgs (topS 8)) (defBody (topS 8)) (defScope (topS 8)) .none kV8 dc8 pm8 an8 cd8 ct8), sl8⟩) (c8 : PySem.W.codeIn K cd8 "is_fraction" = true) (k8 : PySem.W.keepIn K (.ref f8) = true)
    (a9 : PySem.W.nsIn K mainGlobals "is_row" = some (some (.ref f9))) (l9 : K.lookup f9 = some ⟨oc9, od9, .func (PySem.W.fnOf "is_row" "is_row" (defArgs (topS 9)) (defBody (topS 9)) (defScope (topS 9)) .none kV9 dc9 pm9 an9 cd9 ct9), sl9⟩) (c9 : PySem.W.codeIn K cd9 "is_row" = true) (k9 : PySem.W.keepIn K (.ref f9) = true)
    (a11 : PySem.W.nsIn K mainGlobals "is_rows_of_parts" = some (some (.ref f11))) (l11 : K.lookup f11 = some ⟨oc11, od11, .func (PySem.W.fnOf "is_rows_of_parts" "is_rows_of_parts" (defArgs (topS 11)) (defBody (topS 11)) (defScope (topS 11)) .none kV11 dc11 pm11 an11 cd11 ct11), sl11⟩) (c11 : PySem.W.codeIn K cd11 "is_rows_of_parts" = true) (k11 : PySem.W.keepIn K (.ref f11) = true)
    (a12 : PySem.W.nsIn K mainGlobals "is_matrix" = some (some (.ref f12))) (l12 : K.lookup f12 = some ⟨oc12, od12, .func (PySem.W.fnOf "is_matrix" "is_matrix" (defArgs (topS 12)) (defBody (topS 12)) (defScope (topS 12)) .none kV12 dc12 pm12 an12 cd12 ct12), sl12⟩) (c12 : PySem.W.codeIn K cd12 "is_matrix" = true) (k12 : PySem.W.keepIn K (.ref f12) = true)
    (a13 : PySem.W.nsIn K mainGlobals "_stages_if_matrices" = some (some (.ref f13))) (l13 : K.lookup f13 = some ⟨oc13, od13, .func (PySem.W.fnOf "_stages_if_matrices" "_stages_if_matrices" (defArgs (topS 13)) (defBody (topS 13)) (defScope (topS 13)) .none kV13 dc13 pm13 an13 cd13 ct13), sl13⟩) (c13 : PySem.W.codeIn K cd13 "_stages_if_matrices" = true) (k13 : PySem.W.keepIn K (.ref f13) = true)
    (a14 : PySem.W.nsIn K mainGlobals "is_table" = some (some (.ref f14))) (l14 : K.lookup f14 = some ⟨oc14, od14, .func (PySem.W.fnOf "is_table" "is_table" (defArgs (topS 14)) (defBody (topS 14)) (defScope (topS 14)) .none kV14 dc14 pm14 an14 cd14 ct14), sl14⟩) (c14 : PySem.W.codeIn K cd14 "is_table" = true) (k14 : PySem.W.keepIn K (.ref f14) = true)
    (a15 : PySem.W.nsIn K mainGlobals "is_sheet" = some (some (.ref f15))) (l15 : K.lookup f15 = some ⟨oc15, od15, .func (PySem.W.fnOf "is_sheet" "is_sheet" (defArgs (topS 15)) (defBody (topS 15)) (defScope (topS 15)) .none kV15 dc15 pm15 an15 cd15 ct15), sl15⟩) (c15 : PySem.W.codeIn K cd15 "is_sheet" = true) (k15 : PySem.W.keepIn K (.ref f15) = true)
    (a17 : PySem.W.nsIn K mainGlobals "_is_term" = some (some (.ref f17))) (l17 : K.lookup f17 = some ⟨oc17, od17, .func (PySem.W.fnOf "_is_term" "_is_term" (defArgs (topS 17)) (defBody (topS 17)) (defScope (topS 17)) .none kV17 dc17 pm17 an17 cd17 ct17), sl17⟩) (c17 : PySem.W.codeIn K cd17 "_is_term" = true) (k17 : PySem.W.keepIn K (.ref f17) = true)
    (a18 : PySem.W.nsIn K mainGlobals "is_poly" = some (some (.ref f18))) (l18 : K.lookup f18 = some ⟨oc18, od18, .func (PySem.W.fnOf "is_poly" "is_poly" (defArgs (topS 18)) (defBody (topS 18)) (defScope (topS 18)) .none kV18 dc18 pm18 an18 cd18 ct18), sl18⟩) (c18 : PySem.W.codeIn K cd18 "is_poly" = true) (k18 : PySem.W.keepIn K (.ref f18) = true)
    (a19 : PySem.W.nsIn K mainGlobals "is_change" = some (some (.ref f19))) (l19 : K.lookup f19 = some ⟨oc19, od19, .func (PySem.W.fnOf "is_change" "is_change" (defArgs (topS 19)) (defBody (topS 19)) (defScope (topS 19)) .none kV19 dc19 pm19 an19 cd19 ct19), sl19⟩) (c19 : PySem.W.codeIn K cd19 "is_change" = true) (k19 : PySem.W.keepIn K (.ref f19) = true)
    (a21 : PySem.W.nsIn K mainGlobals "_law_box" = some (some (.ref f21))) (l21 : K.lookup f21 = some ⟨oc21, od21, .func (PySem.W.fnOf "_law_box" "_law_box" (defArgs (topS 21)) (defBody (topS 21)) (defScope (topS 21)) .none kV21 dc21 pm21 an21 cd21 ct21), sl21⟩) (c21 : PySem.W.codeIn K cd21 "_law_box" = true) (k21 : PySem.W.keepIn K (.ref f21) = true)
    (a22 : PySem.W.nsIn K mainGlobals "_law_take" = some (some (.ref f22))) (l22 : K.lookup f22 = some ⟨oc22, od22, .func (PySem.W.fnOf "_law_take" "_law_take" (defArgs (topS 22)) (defBody (topS 22)) (defScope (topS 22)) .none kV22 dc22 pm22 an22 cd22 ct22), sl22⟩) (c22 : PySem.W.codeIn K cd22 "_law_take" = true) (k22 : PySem.W.keepIn K (.ref f22) = true)
    (a23 : PySem.W.nsIn K mainGlobals "_law_cells" = some (some (.ref f23))) (l23 : K.lookup f23 = some ⟨oc23, od23, .func (PySem.W.fnOf "_law_cells" "_law_cells" (defArgs (topS 23)) (defBody (topS 23)) (defScope (topS 23)) .none kV23 dc23 pm23 an23 cd23 ct23), sl23⟩) (c23 : PySem.W.codeIn K cd23 "_law_cells" = true) (k23 : PySem.W.keepIn K (.ref f23) = true)
    (a24 : PySem.W.nsIn K mainGlobals "_law_of" = some (some (.ref f24))) (l24 : K.lookup f24 = some ⟨oc24, od24, .func (PySem.W.fnOf "_law_of" "_law_of" (defArgs (topS 24)) (defBody (topS 24)) (defScope (topS 24)) .none kV24 dc24 pm24 an24 cd24 ct24), sl24⟩) (c24 : PySem.W.codeIn K cd24 "_law_of" = true) (k24 : PySem.W.keepIn K (.ref f24) = true)
    (a25 : PySem.W.nsIn K mainGlobals "_law_same" = some (some (.ref f25))) (l25 : K.lookup f25 = some ⟨oc25, od25, .func (PySem.W.fnOf "_law_same" "_law_same" (defArgs (topS 25)) (defBody (topS 25)) (defScope (topS 25)) .none kV25 dc25 pm25 an25 cd25 ct25), sl25⟩) (c25 : PySem.W.codeIn K cd25 "_law_same" = true) (k25 : PySem.W.keepIn K (.ref f25) = true)
    (a26 : PySem.W.nsIn K mainGlobals "_law_lists" = some (some (.ref f26))) (l26 : K.lookup f26 = some ⟨oc26, od26, .func (PySem.W.fnOf "_law_lists" "_law_lists" (defArgs (topS 26)) (defBody (topS 26)) (defScope (topS 26)) .none kV26 dc26 pm26 an26 cd26 ct26), sl26⟩) (c26 : PySem.W.codeIn K cd26 "_law_lists" = true) (k26 : PySem.W.keepIn K (.ref f26) = true)
    (a27 : PySem.W.nsIn K mainGlobals "_law_low" = some (some (.ref f27))) (l27 : K.lookup f27 = some ⟨oc27, od27, .func (PySem.W.fnOf "_law_low" "_law_low" (defArgs (topS 27)) (defBody (topS 27)) (defScope (topS 27)) .none kV27 dc27 pm27 an27 cd27 ct27), sl27⟩) (c27 : PySem.W.codeIn K cd27 "_law_low" = true) (k27 : PySem.W.keepIn K (.ref f27) = true)
    (a28 : PySem.W.nsIn K mainGlobals "_law_number" = some (some (.ref f28))) (l28 : K.lookup f28 = some ⟨oc28, od28, .func (PySem.W.fnOf "_law_number" "_law_number" (defArgs (topS 28)) (defBody (topS 28)) (defScope (topS 28)) .none kV28 dc28 pm28 an28 cd28 ct28), sl28⟩) (c28 : PySem.W.codeIn K cd28 "_law_number" = true) (k28 : PySem.W.keepIn K (.ref f28) = true)
    (a29 : PySem.W.nsIn K mainGlobals "_law_is_frac" = some (some (.ref f29))) (l29 : K.lookup f29 = some ⟨oc29, od29, .func (PySem.W.fnOf "_law_is_frac" "_law_is_frac" (defArgs (topS 29)) (defBody (topS 29)) (defScope (topS 29)) .none kV29 dc29 pm29 an29 cd29 ct29), sl29⟩) (c29 : PySem.W.codeIn K cd29 "_law_is_frac" = true) (k29 : PySem.W.keepIn K (.ref f29) = true)
    (a30 : PySem.W.nsIn K mainGlobals "_law_share" = some (some (.ref f30))) (l30 : K.lookup f30 = some ⟨oc30, od30, .func (PySem.W.fnOf "_law_share" "_law_share" (defArgs (topS 30)) (defBody (topS 30)) (defScope (topS 30)) .none kV30 dc30 pm30 an30 cd30 ct30), sl30⟩) (c30 : PySem.W.codeIn K cd30 "_law_share" = true) (k30 : PySem.W.keepIn K (.ref f30) = true)
    (a31 : PySem.W.nsIn K mainGlobals "_law_table" = some (some (.ref f31))) (l31 : K.lookup f31 = some ⟨oc31, od31, .func (PySem.W.fnOf "_law_table" "_law_table" (defArgs (topS 31)) (defBody (topS 31)) (defScope (topS 31)) .none kV31 dc31 pm31 an31 cd31 ct31), sl31⟩) (c31 : PySem.W.codeIn K cd31 "_law_table" = true) (k31 : PySem.W.keepIn K (.ref f31) = true)
    (a32 : PySem.W.nsIn K mainGlobals "_law_poly_of" = some (some (.ref f32))) (l32 : K.lookup f32 = some ⟨oc32, od32, .func (PySem.W.fnOf "_law_poly_of" "_law_poly_of" (defArgs (topS 32)) (defBody (topS 32)) (defScope (topS 32)) .none kV32 dc32 pm32 an32 cd32 ct32), sl32⟩) (c32 : PySem.W.codeIn K cd32 "_law_poly_of" = true) (k32 : PySem.W.keepIn K (.ref f32) = true)
    (a33 : PySem.W.nsIn K mainGlobals "_law_change" = some (some (.ref f33))) (l33 : K.lookup f33 = some ⟨oc33, od33, .func (PySem.W.fnOf "_law_change" "_law_change" (defArgs (topS 33)) (defBody (topS 33)) (defScope (topS 33)) .none kV33 dc33 pm33 an33 cd33 ct33), sl33⟩) (c33 : PySem.W.codeIn K cd33 "_law_change" = true) (k33 : PySem.W.keepIn K (.ref f33) = true)
    (a34 : PySem.W.nsIn K mainGlobals "_law_leaf" = some (some (.ref f34))) (l34 : K.lookup f34 = some ⟨oc34, od34, .func (PySem.W.fnOf "_law_leaf" "_law_leaf" (defArgs (topS 34)) (defBody (topS 34)) (defScope (topS 34)) .none kV34 dc34 pm34 an34 cd34 ct34), sl34⟩) (c34 : PySem.W.codeIn K cd34 "_law_leaf" = true) (k34 : PySem.W.keepIn K (.ref f34) = true)
    (a35 : PySem.W.nsIn K mainGlobals "_law_is_band" = some (some (.ref f35))) (l35 : K.lookup f35 = some ⟨oc35, od35, .func (PySem.W.fnOf "_law_is_band" "_law_is_band" (defArgs (topS 35)) (defBody (topS 35)) (defScope (topS 35)) .none kV35 dc35 pm35 an35 cd35 ct35), sl35⟩) (c35 : PySem.W.codeIn K cd35 "_law_is_band" = true) (k35 : PySem.W.keepIn K (.ref f35) = true)
    (a36 : PySem.W.nsIn K mainGlobals "_law_is_block" = some (some (.ref f36))) (l36 : K.lookup f36 = some ⟨oc36, od36, .func (PySem.W.fnOf "_law_is_block" "_law_is_block" (defArgs (topS 36)) (defBody (topS 36)) (defScope (topS 36)) .none kV36 dc36 pm36 an36 cd36 ct36), sl36⟩) (c36 : PySem.W.codeIn K cd36 "_law_is_block" = true) (k36 : PySem.W.keepIn K (.ref f36) = true)
    (a37 : PySem.W.nsIn K mainGlobals "_law_is_weights" = some (some (.ref f37))) (l37 : K.lookup f37 = some ⟨oc37, od37, .func (PySem.W.fnOf "_law_is_weights" "_law_is_weights" (defArgs (topS 37)) (defBody (topS 37)) (defScope (topS 37)) .none kV37 dc37 pm37 an37 cd37 ct37), sl37⟩) (c37 : PySem.W.codeIn K cd37 "_law_is_weights" = true) (k37 : PySem.W.keepIn K (.ref f37) = true)
    (a38 : PySem.W.nsIn K mainGlobals "_law_is_board" = some (some (.ref f38))) (l38 : K.lookup f38 = some ⟨oc38, od38, .func (PySem.W.fnOf "_law_is_board" "_law_is_board" (defArgs (topS 38)) (defBody (topS 38)) (defScope (topS 38)) .none kV38 dc38 pm38 an38 cd38 ct38), sl38⟩) (c38 : PySem.W.codeIn K cd38 "_law_is_board" = true) (k38 : PySem.W.keepIn K (.ref f38) = true)
    (a39 : PySem.W.nsIn K mainGlobals "_law_is_poly" = some (some (.ref f39))) (l39 : K.lookup f39 = some ⟨oc39, od39, .func (PySem.W.fnOf "_law_is_poly" "_law_is_poly" (defArgs (topS 39)) (defBody (topS 39)) (defScope (topS 39)) .none kV39 dc39 pm39 an39 cd39 ct39), sl39⟩) (c39 : PySem.W.codeIn K cd39 "_law_is_poly" = true) (k39 : PySem.W.keepIn K (.ref f39) = true)
    (a40 : PySem.W.nsIn K mainGlobals "_law_is_change" = some (some (.ref f40))) (l40 : K.lookup f40 = some ⟨oc40, od40, .func (PySem.W.fnOf "_law_is_change" "_law_is_change" (defArgs (topS 40)) (defBody (topS 40)) (defScope (topS 40)) .none kV40 dc40 pm40 an40 cd40 ct40), sl40⟩) (c40 : PySem.W.codeIn K cd40 "_law_is_change" = true) (k40 : PySem.W.keepIn K (.ref f40) = true)
    (a41 : PySem.W.nsIn K mainGlobals "_law_by_hand_right" = some (some (.ref f41))) (l41 : K.lookup f41 = some ⟨oc41, od41, .func (PySem.W.fnOf "_law_by_hand_right" "_law_by_hand_right" (defArgs (topS 41)) (defBody (topS 41)) (defScope (topS 41)) .none kV41 dc41 pm41 an41 cd41 ct41), sl41⟩) (c41 : PySem.W.codeIn K cd41 "_law_by_hand_right" = true) (k41 : PySem.W.keepIn K (.ref f41) = true)
    (a42 : PySem.W.nsIn K mainGlobals "_law_right" = some (some (.ref f42))) (l42 : K.lookup f42 = some ⟨oc42, od42, .func (PySem.W.fnOf "_law_right" "_law_right" (defArgs (topS 42)) (defBody (topS 42)) (defScope (topS 42)) .none kV42 dc42 pm42 an42 cd42 ct42), sl42⟩) (c42 : PySem.W.codeIn K cd42 "_law_right" = true) (k42 : PySem.W.keepIn K (.ref f42) = true)
    (a43 : PySem.W.nsIn K mainGlobals "law" = some (some (.ref f43))) (l43 : K.lookup f43 = some ⟨oc43, od43, .func (PySem.W.fnOf "law" "law" (defArgs (topS 43)) (defBody (topS 43)) (defScope (topS 43)) .none kV43 dc43 pm43 an43 cd43 ct43), sl43⟩) (c43 : PySem.W.codeIn K cd43 "law" = true) (k43 : PySem.W.keepIn K (.ref f43) = true)
    {moZERO : Addr} {odZERO : Option Addr} {nnZERO : Nat} {slZERO : Array (Option Value)} {tZERO0 tZERO1 : Tok}
    (m_ZERO : PySem.W.nsIn K mainGlobals "ZERO" = some (some (.ref moZERO))) (k_ZERO : K.lookup moZERO = some ⟨.type "tuple", odZERO, .seq #[.int (0) tZERO0, .int (1) tZERO1] nnZERO, slZERO⟩)
    (f_gcd : PySem.W.nsIn K mainGlobals "gcd" = some (some (.builtin "math.gcd")))
    (z_abs : PySem.W.nsIn K mainGlobals "abs" = some none) (z_all : PySem.W.nsIn K mainGlobals "all" = some none) (z_bool : PySem.W.nsIn K mainGlobals "bool" = some none) (z_enumerate : PySem.W.nsIn K mainGlobals "enumerate" = some none) (z_int : PySem.W.nsIn K mainGlobals "int" = some none) (z_isinstance : PySem.W.nsIn K mainGlobals "isinstance" = some none) (z_len : PySem.W.nsIn K mainGlobals "len" = some none) (z_list : PySem.W.nsIn K mainGlobals "list" = some none) (z_range : PySem.W.nsIn K mainGlobals "range" = some none) (z_sorted : PySem.W.nsIn K mainGlobals "sorted" = some none) (z_str : PySem.W.nsIn K mainGlobals "str" = some none) (z_tuple : PySem.W.nsIn K mainGlobals "tuple" = some none) (z_zip : PySem.W.nsIn K mainGlobals "zip" = some none) :
    ∃ fd : FuncData, (∀ (s : Shared) (v : Value), BindsTo s fd ⟨[v], []⟩ [("script", v)]) ∧ ∀ base : Heap, K.In base → base.Ns mainGlobals mg → FnOk l.prog w K mg base CX0 60 fl fd ["script"] (spD K 1 (run 60 43)) := by
  have e : fl = f43 := by
    have e := hfa.symm.trans (PySem.W.mg_of X G a43)
    injection e with e
    injection e with e
  rw [e]
  let fa : Nat → Addr := fun i => match i with | 2 => f2 | 3 => f3 | 4 => f4 | 5 => f5 | 8 => f8 | 9 => f9 | 11 => f11 | 12 => f12 | 13 => f13 | 14 => f14 | 15 => f15 | 17 => f17 | 18 => f18 | 19 => f19 | 21 => f21 | 22 => f22 | 23 => f23 | 24 => f24 | 25 => f25 | 26 => f26 | 27 => f27 | 28 => f28 | 29 => f29 | 30 => f30 | 31 => f31 | 32 => f32 | 33 => f33 | 34 => f34 | 35 => f35 | 36 => f36 | 37 => f37 | 38 => f38 | 39 => f39 | 40 => f40 | 41 => f41 | 42 => f42 | 43 => f43 | _ => f43
  let fd : Nat → FuncData := fun i => match i with | 2 => PySem.W.fnOf "is_number" "is_number" (defArgs (topS 2)) (defBody (topS 2)) (defScope (topS 2)) .none kV2 dc2 pm2 an2 cd2 ct2 | 3 => PySem.W.fnOf "is_count" "is_count" (defArgs (topS 3)) (defBody (topS 3)) (defScope (topS 3)) .none kV3 dc3 pm3 an3 cd3 ct3 | 4 => PySem.W.fnOf "is_tuple" "is_tuple" (defArgs (topS 4)) (defBody (topS 4)) (defScope (topS 4)) .none kV4 dc4 pm4 an4 cd4 ct4 | 5 => PySem.W.fnOf "is_ascending" "is_ascending" (defArgs (topS 5)) (defBody (topS 5)) (defScope (topS 5)) .none kV5 dc5 pm5 an5 cd5 ct5 | 8 => PySem.W.fnOf "is_fraction" "is_fraction" (defArgs (topS 8)) (defBody (topS 8)) (defScope (topS 8)) .none kV8 dc8 pm8 an8 cd8 ct8 | 9 => PySem.W.fnOf "is_row" "is_row" (defArgs (topS 9)) (defBody (topS 9)) (defScope (topS 9)) .none kV9 dc9 pm9 an9 cd9 ct9 | 11 => PySem.W.fnOf "is_rows_of_parts" "is_rows_of_parts" (defArgs (topS 11)) (defBody (topS 11)) (defScope (topS 11)) .none kV11 dc11 pm11 an11 cd11 ct11 | 12 => PySem.W.fnOf "is_matrix" "is_matrix" (defArgs (topS 12)) (defBody (topS 12)) (defScope (topS 12)) .none kV12 dc12 pm12 an12 cd12 ct12 | 13 => PySem.W.fnOf "_stages_if_matrices" "_stages_if_matrices" (defArgs (topS 13)) (defBody (topS 13)) (defScope (topS 13)) .none kV13 dc13 pm13 an13 cd13 ct13 | 14 => PySem.W.fnOf "is_table" "is_table" (defArgs (topS 14)) (defBody (topS 14)) (defScope (topS 14)) .none kV14 dc14 pm14 an14 cd14 ct14 | 15 => PySem.W.fnOf "is_sheet" "is_sheet" (defArgs (topS 15)) (defBody (topS 15)) (defScope (topS 15)) .none kV15 dc15 pm15 an15 cd15 ct15 | 17 => PySem.W.fnOf "_is_term" "_is_term" (defArgs (topS 17)) (defBody (topS 17)) (defScope (topS 17)) .none kV17 dc17 pm17 an17 cd17 ct17 | 18 => PySem.W.fnOf "is_poly" "is_poly" (defArgs (topS 18)) (defBody (topS 18)) (defScope (topS 18)) .none kV18 dc18 pm18 an18 cd18 ct18 | 19 => PySem.W.fnOf "is_change" "is_change" (defArgs (topS 19)) (defBody (topS 19)) (defScope (topS 19)) .none kV19 dc19 pm19 an19 cd19 ct19 | 21 => PySem.W.fnOf "_law_box" "_law_box" (defArgs (topS 21)) (defBody (topS 21)) (defScope (topS 21)) .none kV21 dc21 pm21 an21 cd21 ct21 | 22 => PySem.W.fnOf "_law_take" "_law_take" (defArgs (topS 22)) (defBody (topS 22)) (defScope (topS 22)) .none kV22 dc22 pm22 an22 cd22 ct22 | 23 => PySem.W.fnOf "_law_cells" "_law_cells" (defArgs (topS 23)) (defBody (topS 23)) (defScope (topS 23)) .none kV23 dc23 pm23 an23 cd23 ct23 | 24 => PySem.W.fnOf "_law_of" "_law_of" (defArgs (topS 24)) (defBody (topS 24)) (defScope (topS 24)) .none kV24 dc24 pm24 an24 cd24 ct24 | 25 => PySem.W.fnOf "_law_same" "_law_same" (defArgs (topS 25)) (defBody (topS 25)) (defScope (topS 25)) .none kV25 dc25 pm25 an25 cd25 ct25 | 26 => PySem.W.fnOf "_law_lists" "_law_lists" (defArgs (topS 26)) (defBody (topS 26)) (defScope (topS 26)) .none kV26 dc26 pm26 an26 cd26 ct26 | 27 => PySem.W.fnOf "_law_low" "_law_low" (defArgs (topS 27)) (defBody (topS 27)) (defScope (topS 27)) .none kV27 dc27 pm27 an27 cd27 ct27 | 28 => PySem.W.fnOf "_law_number" "_law_number" (defArgs (topS 28)) (defBody (topS 28)) (defScope (topS 28)) .none kV28 dc28 pm28 an28 cd28 ct28 | 29 => PySem.W.fnOf "_law_is_frac" "_law_is_frac" (defArgs (topS 29)) (defBody (topS 29)) (defScope (topS 29)) .none kV29 dc29 pm29 an29 cd29 ct29 | 30 => PySem.W.fnOf "_law_share" "_law_share" (defArgs (topS 30)) (defBody (topS 30)) (defScope (topS 30)) .none kV30 dc30 pm30 an30 cd30 ct30 | 31 => PySem.W.fnOf "_law_table" "_law_table" (defArgs (topS 31)) (defBody (topS 31)) (defScope (topS 31)) .none kV31 dc31 pm31 an31 cd31 ct31 | 32 => PySem.W.fnOf "_law_poly_of" "_law_poly_of" (defArgs (topS 32)) (defBody (topS 32)) (defScope (topS 32)) .none kV32 dc32 pm32 an32 cd32 ct32 | 33 => PySem.W.fnOf "_law_change" "_law_change" (defArgs (topS 33)) (defBody (topS 33)) (defScope (topS 33)) .none kV33 dc33 pm33 an33 cd33 ct33 | 34 => PySem.W.fnOf "_law_leaf" "_law_leaf" (defArgs (topS 34)) (defBody (topS 34)) (defScope (topS 34)) .none kV34 dc34 pm34 an34 cd34 ct34 | 35 => PySem.W.fnOf "_law_is_band" "_law_is_band" (defArgs (topS 35)) (defBody (topS 35)) (defScope (topS 35)) .none kV35 dc35 pm35 an35 cd35 ct35 | 36 => PySem.W.fnOf "_law_is_block" "_law_is_block" (defArgs (topS 36)) (defBody (topS 36)) (defScope (topS 36)) .none kV36 dc36 pm36 an36 cd36 ct36 | 37 => PySem.W.fnOf "_law_is_weights" "_law_is_weights" (defArgs (topS 37)) (defBody (topS 37)) (defScope (topS 37)) .none kV37 dc37 pm37 an37 cd37 ct37 | 38 => PySem.W.fnOf "_law_is_board" "_law_is_board" (defArgs (topS 38)) (defBody (topS 38)) (defScope (topS 38)) .none kV38 dc38 pm38 an38 cd38 ct38 | 39 => PySem.W.fnOf "_law_is_poly" "_law_is_poly" (defArgs (topS 39)) (defBody (topS 39)) (defScope (topS 39)) .none kV39 dc39 pm39 an39 cd39 ct39 | 40 => PySem.W.fnOf "_law_is_change" "_law_is_change" (defArgs (topS 40)) (defBody (topS 40)) (defScope (topS 40)) .none kV40 dc40 pm40 an40 cd40 ct40 | 41 => PySem.W.fnOf "_law_by_hand_right" "_law_by_hand_right" (defArgs (topS 41)) (defBody (topS 41)) (defScope (topS 41)) .none kV41 dc41 pm41 an41 cd41 ct41 | 42 => PySem.W.fnOf "_law_right" "_law_right" (defArgs (topS 42)) (defBody (topS 42)) (defScope (topS 42)) .none kV42 dc42 pm42 an42 cd42 ct42 | 43 => PySem.W.fnOf "law" "law" (defArgs (topS 43)) (defBody (topS 43)) (defScope (topS 43)) .none kV43 dc43 pm43 an43 cd43 ct43 | _ => PySem.W.fnOf "law" "law" (defArgs (topS 43)) (defBody (topS 43)) (defScope (topS 43)) .none kV43 dc43 pm43 an43 cd43 ct43
  have F2 : Fun K "is_number" "is_number" (topS 2) (fa 2) (fd 2) := fun_mk (st := topS 2) l2 c2 k2
  have F3 : Fun K "is_count" "is_count" (topS 3) (fa 3) (fd 3) := fun_mk (st := topS 3) l3 c3 k3
  have F4 : Fun K "is_tuple" "is_tuple" (topS 4) (fa 4) (fd 4) := fun_mk (st := topS 4) l4 c4 k4
  have F5 : Fun K "is_ascending" "is_ascending" (topS 5) (fa 5) (fd 5) := fun_mk (st := topS 5) l5 c5 k5
  have F8 : Fun K "is_fraction" "is_fraction" (topS 8) (fa 8) (fd 8) := fun_mk (st := topS 8) l8 c8 k8
  have F9 : Fun K "is_row" "is_row" (topS 9) (fa 9) (fd 9) := fun_mk (st := topS 9) l9 c9 k9
  have F11 : Fun K "is_rows_of_parts" "is_rows_of_parts" (topS 11) (fa 11) (fd 11) := fun_mk (st := topS 11) l11 c11 k11
  have F12 : Fun K "is_matrix" "is_matrix" (topS 12) (fa 12) (fd 12) := fun_mk (st := topS 12) l12 c12 k12
  have F13 : Fun K "_stages_if_matrices" "_stages_if_matrices" (topS 13) (fa 13) (fd 13) := fun_mk (st := topS 13) l13 c13 k13
  have F14 : Fun K "is_table" "is_table" (topS 14) (fa 14) (fd 14) := fun_mk (st := topS 14) l14 c14 k14
  have F15 : Fun K "is_sheet" "is_sheet" (topS 15) (fa 15) (fd 15) := fun_mk (st := topS 15) l15 c15 k15
  have F17 : Fun K "_is_term" "_is_term" (topS 17) (fa 17) (fd 17) := fun_mk (st := topS 17) l17 c17 k17
  have F18 : Fun K "is_poly" "is_poly" (topS 18) (fa 18) (fd 18) := fun_mk (st := topS 18) l18 c18 k18
  have F19 : Fun K "is_change" "is_change" (topS 19) (fa 19) (fd 19) := fun_mk (st := topS 19) l19 c19 k19
  have F21 : Fun K "_law_box" "_law_box" (topS 21) (fa 21) (fd 21) := fun_mk (st := topS 21) l21 c21 k21
  have F22 : Fun K "_law_take" "_law_take" (topS 22) (fa 22) (fd 22) := fun_mk (st := topS 22) l22 c22 k22
  have F23 : Fun K "_law_cells" "_law_cells" (topS 23) (fa 23) (fd 23) := fun_mk (st := topS 23) l23 c23 k23
  have F24 : Fun K "_law_of" "_law_of" (topS 24) (fa 24) (fd 24) := fun_mk (st := topS 24) l24 c24 k24
  have F25 : Fun K "_law_same" "_law_same" (topS 25) (fa 25) (fd 25) := fun_mk (st := topS 25) l25 c25 k25
  have F26 : Fun K "_law_lists" "_law_lists" (topS 26) (fa 26) (fd 26) := fun_mk (st := topS 26) l26 c26 k26
  have F27 : Fun K "_law_low" "_law_low" (topS 27) (fa 27) (fd 27) := fun_mk (st := topS 27) l27 c27 k27
  have F28 : Fun K "_law_number" "_law_number" (topS 28) (fa 28) (fd 28) := fun_mk (st := topS 28) l28 c28 k28
  have F29 : Fun K "_law_is_frac" "_law_is_frac" (topS 29) (fa 29) (fd 29) := fun_mk (st := topS 29) l29 c29 k29
  have F30 : Fun K "_law_share" "_law_share" (topS 30) (fa 30) (fd 30) := fun_mk (st := topS 30) l30 c30 k30
  have F31 : Fun K "_law_table" "_law_table" (topS 31) (fa 31) (fd 31) := fun_mk (st := topS 31) l31 c31 k31
  have F32 : Fun K "_law_poly_of" "_law_poly_of" (topS 32) (fa 32) (fd 32) := fun_mk (st := topS 32) l32 c32 k32
  have F33 : Fun K "_law_change" "_law_change" (topS 33) (fa 33) (fd 33) := fun_mk (st := topS 33) l33 c33 k33
  have F34 : Fun K "_law_leaf" "_law_leaf" (topS 34) (fa 34) (fd 34) := fun_mk (st := topS 34) l34 c34 k34
  have F35 : Fun K "_law_is_band" "_law_is_band" (topS 35) (fa 35) (fd 35) := fun_mk (st := topS 35) l35 c35 k35
  have F36 : Fun K "_law_is_block" "_law_is_block" (topS 36) (fa 36) (fd 36) := fun_mk (st := topS 36) l36 c36 k36
  have F37 : Fun K "_law_is_weights" "_law_is_weights" (topS 37) (fa 37) (fd 37) := fun_mk (st := topS 37) l37 c37 k37
  have F38 : Fun K "_law_is_board" "_law_is_board" (topS 38) (fa 38) (fd 38) := fun_mk (st := topS 38) l38 c38 k38
  have F39 : Fun K "_law_is_poly" "_law_is_poly" (topS 39) (fa 39) (fd 39) := fun_mk (st := topS 39) l39 c39 k39
  have F40 : Fun K "_law_is_change" "_law_is_change" (topS 40) (fa 40) (fd 40) := fun_mk (st := topS 40) l40 c40 k40
  have F41 : Fun K "_law_by_hand_right" "_law_by_hand_right" (topS 41) (fa 41) (fd 41) := fun_mk (st := topS 41) l41 c41 k41
  have F42 : Fun K "_law_right" "_law_right" (topS 42) (fa 42) (fd 42) := fun_mk (st := topS 42) l42 c42 k42
  have F43 : Fun K "law" "law" (topS 43) (fa 43) (fd 43) := fun_mk (st := topS 43) l43 c43 k43
  have T : Top K mg fa fd := ⟨F2,
    PySem.W.mg_of X G a2,
    (F2.binds (ps := ["thing"]) fun _ _ _ _ _ _ us hl => match us, hl with | [_], _ => rfl),
    F3,
    PySem.W.mg_of X G a3,
    (F3.binds (ps := ["thing"]) fun _ _ _ _ _ _ us hl => match us, hl with | [_], _ => rfl),
    F4,
    PySem.W.mg_of X G a4,
    (F4.binds (ps := ["thing", "many"]) fun _ _ _ _ _ _ us hl => match us, hl with | [_, _], _ => rfl),
    F5,
    PySem.W.mg_of X G a5,
    (F5.binds (ps := ["items"]) fun _ _ _ _ _ _ us hl => match us, hl with | [_], _ => rfl),
    F8,
    PySem.W.mg_of X G a8,
    (F8.binds (ps := ["thing"]) fun _ _ _ _ _ _ us hl => match us, hl with | [_], _ => rfl),
    F9,
    PySem.W.mg_of X G a9,
    (F9.binds (ps := ["thing", "many"]) fun _ _ _ _ _ _ us hl => match us, hl with | [_, _], _ => rfl),
    F11,
    PySem.W.mg_of X G a11,
    (F11.binds (ps := ["thing", "many", "stages"]) fun _ _ _ _ _ _ us hl => match us, hl with | [_, _, _], _ => rfl),
    F12,
    PySem.W.mg_of X G a12,
    (F12.binds (ps := ["thing", "stages"]) fun _ _ _ _ _ _ us hl => match us, hl with | [_, _], _ => rfl),
    F13,
    PySem.W.mg_of X G a13,
    (F13.binds (ps := ["thing", "many"]) fun _ _ _ _ _ _ us hl => match us, hl with | [_, _], _ => rfl),
    F14,
    PySem.W.mg_of X G a14,
    (F14.binds (ps := ["thing", "many"]) fun _ _ _ _ _ _ us hl => match us, hl with | [_, _], _ => rfl),
    F15,
    PySem.W.mg_of X G a15,
    (F15.binds (ps := ["thing", "many"]) fun _ _ _ _ _ _ us hl => match us, hl with | [_, _], _ => rfl),
    F17,
    PySem.W.mg_of X G a17,
    (F17.binds (ps := ["thing", "many"]) fun _ _ _ _ _ _ us hl => match us, hl with | [_, _], _ => rfl),
    F18,
    PySem.W.mg_of X G a18,
    (F18.binds (ps := ["thing", "many"]) fun _ _ _ _ _ _ us hl => match us, hl with | [_, _], _ => rfl),
    F19,
    PySem.W.mg_of X G a19,
    (F19.binds (ps := ["thing"]) fun _ _ _ _ _ _ us hl => match us, hl with | [_], _ => rfl),
    F21,
    PySem.W.mg_of X G a21,
    (F21.binds (ps := ["script", "k"]) fun _ _ _ _ _ _ us hl => match us, hl with | [_, _], _ => rfl),
    F22,
    PySem.W.mg_of X G a22,
    (F22.binds (ps := ["urn", "low_so"]) fun _ _ _ _ _ _ us hl => match us, hl with | [_, _], _ => rfl),
    F23,
    PySem.W.mg_of X G a23,
    (F23.binds (ps := ["script", "top"]) fun _ _ _ _ _ _ us hl => match us, hl with | [_, _], _ => rfl),
    F24,
    PySem.W.mg_of X G a24,
    (F24.binds (ps := ["urn", "some_so"]) fun _ _ _ _ _ _ us hl => match us, hl with | [_, _], _ => rfl),
    F25,
    PySem.W.mg_of X G a25,
    (F25.binds (ps := ["got", "goal"]) fun _ _ _ _ _ _ us hl => match us, hl with | [_, _], _ => rfl),
    F26,
    PySem.W.mg_of X G a26,
    (F26.binds (ps := ["matter"]) fun _ _ _ _ _ _ us hl => match us, hl with | [_], _ => rfl),
    F27,
    PySem.W.mg_of X G a27,
    (F27.binds (ps := ["high", "deep"]) fun _ _ _ _ _ _ us hl => match us, hl with | [_, _], _ => rfl),
    F28,
    PySem.W.mg_of X G a28,
    (F28.binds (ps := ["matter"]) fun _ _ _ _ _ _ us hl => match us, hl with | [_], _ => rfl),
    F29,
    PySem.W.mg_of X G a29,
    (F29.binds (ps := ["matter"]) fun _ _ _ _ _ _ us hl => match us, hl with | [_], _ => rfl),
    F30,
    PySem.W.mg_of X G a30,
    (F30.binds (ps := ["urn"]) fun _ _ _ _ _ _ us hl => match us, hl with | [_], _ => rfl),
    F31,
    PySem.W.mg_of X G a31,
    (F31.binds (ps := ["urn", "many", "stages_in", "straight_so"]) fun _ _ _ _ _ _ us hl => match us, hl with | [_, _, _, _], _ => rfl),
    F32,
    PySem.W.mg_of X G a32,
    (F32.binds (ps := ["urn", "cells_in", "below_so", "most"]) fun _ _ _ _ _ _ us hl => match us, hl with | [_, _, _, _], _ => rfl),
    F33,
    PySem.W.mg_of X G a33,
    (F33.binds (ps := ["urn", "many", "cells_in", "ladder_so", "most"]) fun _ _ _ _ _ _ us hl => match us, hl with | [_, _, _, _, _], _ => rfl),
    F34,
    PySem.W.mg_of X G a34,
    (F34.binds (ps := ["urn", "matter"]) fun _ _ _ _ _ _ us hl => match us, hl with | [_, _], _ => rfl),
    F35,
    PySem.W.mg_of X G a35,
    (F35.binds (ps := ["matter", "size"]) fun _ _ _ _ _ _ us hl => match us, hl with | [_, _], _ => rfl),
    F36,
    PySem.W.mg_of X G a36,
    (F36.binds (ps := ["matter", "many"]) fun _ _ _ _ _ _ us hl => match us, hl with | [_, _], _ => rfl),
    F37,
    PySem.W.mg_of X G a37,
    (F37.binds (ps := ["matter", "many", "size"]) fun _ _ _ _ _ _ us hl => match us, hl with | [_, _, _], _ => rfl),
    F38,
    PySem.W.mg_of X G a38,
    (F38.binds (ps := ["matter", "many", "flat_so"]) fun _ _ _ _ _ _ us hl => match us, hl with | [_, _, _], _ => rfl),
    F39,
    PySem.W.mg_of X G a39,
    (F39.binds (ps := ["matter", "cells_in"]) fun _ _ _ _ _ _ us hl => match us, hl with | [_, _], _ => rfl),
    F40,
    PySem.W.mg_of X G a40,
    (F40.binds (ps := ["matter"]) fun _ _ _ _ _ _ us hl => match us, hl with | [_], _ => rfl),
    F41,
    PySem.W.mg_of X G a41,
    (F41.binds (ps := []) fun _ _ _ _ _ _ us hl => match us, hl with | [], _ => rfl),
    F42,
    PySem.W.mg_of X G a42,
    (F42.binds (ps := ["urn"]) fun _ _ _ _ _ _ us hl => match us, hl with | [_], _ => rfl),
    F43,
    PySem.W.mg_of X G a43,
    (F43.binds (ps := ["script"]) fun _ _ _ _ _ _ us hl => match us, hl with | [_], _ => rfl),
    (F19.kbinds (n1 := 0) (n2 := 1) (is := [0]) (by decide) fun _ _ _ _ _ _ us ws h1 h2 => match us, h1, ws, h2 with | [], _, [_], _ => rfl),
    (F18.kbinds (n1 := 0) (n2 := 2) (is := [1, 0]) (by decide) fun _ _ _ _ _ _ us ws h1 h2 => match us, h1, ws, h2 with | [], _, [_, _], _ => rfl),
    (F14.kbinds (n1 := 0) (n2 := 2) (is := [1, 0]) (by decide) fun _ _ _ _ _ _ us ws h1 h2 => match us, h1, ws, h2 with | [], _, [_, _], _ => rfl),
    (F15.kbinds (n1 := 0) (n2 := 2) (is := [1, 0]) (by decide) fun _ _ _ _ _ _ us ws h1 h2 => match us, h1, ws, h2 with | [], _, [_, _], _ => rfl),
    ⟨_, _, _, _, PySem.W.mg_of X G m_ZERO, k_ZERO, rfl, rfl, (by show 2 ≤ PySem.sizeLine; decide), (.cons ⟨_, rfl⟩ (.cons ⟨_, rfl⟩ .nil))⟩,
    PySem.W.mg_of X G f_gcd,
    PySem.W.mg_none_of X G z_abs,
    PySem.W.mg_none_of X G z_all,
    PySem.W.mg_none_of X G z_bool,
    PySem.W.mg_none_of X G z_enumerate,
    PySem.W.mg_none_of X G z_int,
    PySem.W.mg_none_of X G z_isinstance,
    PySem.W.mg_none_of X G z_len,
    PySem.W.mg_none_of X G z_list,
    PySem.W.mg_none_of X G z_range,
    PySem.W.mg_none_of X G z_sorted,
    PySem.W.mg_none_of X G z_str,
    PySem.W.mg_none_of X G z_tuple,
    PySem.W.mg_none_of X G z_zip⟩
  exact ⟨fd 43, fun s v => .of_eq rfl, fun base _ _ => (all_ok T 60).c43⟩
end K01

namespace K01
open PySem Vi PyProof.Rows
abbrev ii (i : Int) : Option Sv := some (.imm (.int i))

theorem div_ok {j : Int} (h : 0 < j) (h2 : j < 2 ^ 250) : divOk j = true := decide_eq_true ⟨h, by
  have : j.natAbs.log2 < 250 := (Nat.log2_lt (by omega)).mpr (by omega)
  omega⟩
theorem mul_ok {i j : Int} (h1 : i.natAbs < 2 ^ 250) (h2 : j.natAbs < 2 ^ 250) : mulOk i j = true := by
  unfold mulOk
  rw [Bool.or_eq_true]
  refine .inr (decide_eq_true ?_)
  have a : i.natAbs.log2 < 250 := by
    by_cases h : i.natAbs = 0
    · rw [h]; decide
    · exact (Nat.log2_lt h).mpr h1
  have b : j.natAbs.log2 < 250 := by
    by_cases h : j.natAbs = 0
    · rw [h]; decide
    · exact (Nat.log2_lt h).mpr h2
  omega
theorem okD_int (i : Int) : okD (.int i) = true := rfl
theorem eqv_int (i j : Int) : PyData.eqv (.int i) (.int j) = (i == j) := by rw [PyData.eqv]
theorem eq_int (i j : Int) : dEq (.int i) (.int j) = some (.imm (.bool (i == j))) := by
  unfold dEq
  rw [okD_int, okD_int, eqv_int]; rfl
/-- the lowest terms -/

theorem c_cons_ret {mg : MG} {m : MS} {d : D} {ds : List D} {ρ ρ1 ρ2 : Fm} {r : Sv} (h1 : mg d ρ = some ρ1) (h2 : m ρ1 = some (.ret r, ρ2)) : loop mg m (d :: ds) ρ = some (.ret r, ρ2) := by
  rw [loop, h1]
  simp only [h2]
theorem c_seqR {m n : MS} {ρ ρ1 : Fm} {r : Sv} (h : m ρ = some (.ret r, ρ1)) : mSeq m n ρ = some (.ret r, ρ1) := by unfold mSeq; rw [h]
/-! rows: pairs (part, k), k for k / 36 -/

theorem c_skip {ρ : Fm} : mNext ρ = some (.next, ρ) := rfl
def EV (me : ME) (ρ : Fm) (d : D) : Prop := ∃ pr, me ρ = some (pr, ρ) ∧ frz ρ pr = some (d, ρ) ∧ peek ρ pr = some d
theorem ev_val {me : ME} {ρ : Fm} {d : D} (h : me ρ = some (.val (.imm d), ρ)) : EV me ρ d := ⟨_, h, rfl, rfl⟩
theorem ev_own {me : ME} {ρ : Fm} {ds : List D} {b : Kd} (h : me ρ = some (.val (.own b ds), ρ)) (hb : b.isL = true := by rfl) : EV me ρ (.list ds) := by
  cases b <;> first | exact absurd hb (by decide) | exact ⟨_, h, rfl, rfl⟩
theorem ev_var {ρ : Fm} {i : Nat} {d : D} (h : ρ[i]? = some (some (.imm d))) : EV (mVar i) ρ d := by
  refine ⟨.slot i, ?_, ?_, ?_⟩
  · unfold mVar; rw [h]
  · unfold frz; simp only [h]
  · unfold peek; simp only [h]; rfl
theorem ev_c {ρ : Fm} {d : D} : EV (mC d) ρ d := ev_val rfl
theorem v_call1 {me : ME} {ρ : Fm} {d : D} {r : Sv} {f : Fn} (h : EV me ρ d) (e : f [.imm d] = some (r, [none])) : mCall f (rVal me rNil) ρ = some (.val r, ρ) := by
  obtain ⟨pr, h1, h2, _⟩ := h
  exact c_call (c_rval h1 h2 rfl) rfl rfl e rfl
theorem v_call2 {me mf : ME} {ρ : Fm} {d e : D} {r : Sv} {f : Fn} (h : EV me ρ d) (k : EV mf ρ e) (q : f [.imm d, .imm e] = some (r, [none, none])) : mCall f (rVal me (rVal mf rNil)) ρ = some (.val r, ρ) := by
  obtain ⟨pr, h1, h2, _⟩ := h
  obtain ⟨ps, k1, k2, _⟩ := k
  exact c_call (c_rval h1 h2 (c_rval k1 k2 rfl)) rfl rfl q rfl
theorem v_call3 {me mf mg : ME} {ρ : Fm} {d e g : D} {r : Sv} {f : Fn} (h : EV me ρ d) (k : EV mf ρ e) (l : EV mg ρ g) (q : f [.imm d, .imm e, .imm g] = some (r, [none, none, none])) : mCall f (rVal me (rVal mf (rVal mg rNil))) ρ = some (.val r, ρ) := by
  obtain ⟨pr, h1, h2, _⟩ := h
  obtain ⟨ps, k1, k2, _⟩ := k
  obtain ⟨pt, l1, l2, _⟩ := l
  exact c_call (c_rval h1 h2 (c_rval k1 k2 (c_rval l1 l2 rfl))) rfl rfl q rfl
theorem e_call1 {me : ME} {ρ : Fm} {d r : D} {f : Fn} (h : EV me ρ d) (e : f [.imm d] = some (.imm r, [none])) : EV (mCall f (rVal me rNil)) ρ r := ev_val (v_call1 h e)
theorem e_call2 {me mf : ME} {ρ : Fm} {d e r : D} {f : Fn} (h : EV me ρ d) (k : EV mf ρ e) (q : f [.imm d, .imm e] = some (.imm r, [none, none])) : EV (mCall f (rVal me (rVal mf rNil))) ρ r := ev_val (v_call2 h k q)
theorem e_call3 {me mf mg : ME} {ρ : Fm} {d e g r : D} {f : Fn} (h : EV me ρ d) (k : EV mf ρ e) (l : EV mg ρ g) (q : f [.imm d, .imm e, .imm g] = some (.imm r, [none, none, none])) : EV (mCall f (rVal me (rVal mf (rVal mg rNil)))) ρ r := ev_val (v_call3 h k l q)
def EA (ma : MA) (ρ : Fm) (ds : List D) : Prop := ma ρ = some (ds, ρ)
theorem ea_nil {ρ : Fm} : EA mNil ρ [] := rfl
theorem ea_cons {me : ME} {ma : MA} {ρ : Fm} {d : D} {ds : List D} (h : EV me ρ d) (k : EA ma ρ ds) : EA (mCons me ma) ρ (d :: ds) := by
  obtain ⟨pr, h1, h2, _⟩ := h
  exact c_acons h1 h2 k
theorem v_lst {ma : MA} {ρ : Fm} {ds : List D} (h : EA ma ρ ds) (hl : ds.length ≤ 10000) : mLst ma ρ = some (.val (.own .loc ds), ρ) := c_lst h (c_fits hl)
theorem e_tup {ma : MA} {ρ : Fm} {ds : List D} (h : EA ma ρ ds) (hl : ds.length ≤ 10000) : EV (mTup ma) ρ (.tuple ds) := ev_val (c_tup h (c_fits hl))
theorem e_bin {f : D → D → Option Sv} {ma mb : ME} {ρ : Fm} {d e r : D} (h : EV ma ρ d) (k : EV mb ρ e) (q : f d e = some (.imm r)) : EV (bin f ma mb) ρ r := by
  obtain ⟨pr, h1, _, h3⟩ := h
  obtain ⟨ps, k1, _, k3⟩ := k
  exact ev_val (c_bin h1 k1 h3 k3 q)
theorem e_un {f : D → Option Sv} {ma : ME} {ρ : Fm} {d r : D} (h : EV ma ρ d) (q : f d = some (.imm r)) : EV (un f ma) ρ r := by
  obtain ⟨pr, h1, _, h3⟩ := h
  exact ev_val (c_un h1 h3 q)
/-- an own list grows -/
theorem s_grow {i : Nat} {me : ME} {ρ : Fm} {b b2 : Kd} {ds es : List D} (h0 : ρ[i]? = some (some (.own b ds))) (h : me ρ = some (.val (.own b2 es), ρ)) (hl : ds.length + es.length ≤ 10000) (hb : b.isL = true := by rfl) (hb2 : b2.isL = true := by rfl) : mSet i (bin dAdd (mVar i) me) ρ = some (.next, ρ.set i (some (.own .loc (ds ++ es)))) := by
  cases b <;> cases b2 <;> first | exact absurd hb (by decide) | exact absurd hb2 (by decide) | (
    have hv : mVar i ρ = some (.slot i, ρ) := by unfold mVar; rw [h0]
    have hp : peek ρ (.slot i) = some (.list ds) := by unfold peek; simp only [h0]; rfl
    exact c_set (c_bin hv h hp rfl (c_addL hl)) rfl)
theorem e_grow {i : Nat} {me : ME} {ρ : Fm} {b b2 : Kd} {ds es : List D} (h0 : ρ[i]? = some (some (.own b ds))) (h : me ρ = some (.val (.own b2 es), ρ)) (hl : ds.length + es.length ≤ 10000) (hb : b.isL = true := by rfl) (hb2 : b2.isL = true := by rfl) : bin dAdd (mVar i) me ρ = some (.val (.own .loc (ds ++ es)), ρ) := by
  cases b <;> cases b2 <;> first | exact absurd hb (by decide) | exact absurd hb2 (by decide) | (
    have hv : mVar i ρ = some (.slot i, ρ) := by unfold mVar; rw [h0]
    have hp : peek ρ (.slot i) = some (.list ds) := by unfold peek; simp only [h0]; rfl
    exact c_bin hv h hp rfl (c_addL hl))
theorem v_rep {ma : MA} {ρ : Fm} {d : D} {k : Nat} (h : EA ma ρ [d]) (hk : k ≤ 1000) : mRep (mLst ma) (mC (.int (k : Int))) ρ = some (.val (.own .loc (List.replicate k d)), ρ) := by
  have h1 := v_lst h (by simp)
  have hd : decide (-(2 ^ 63) ≤ (k : Int) ∧ (k : Int) < 2 ^ 63 ∧ ([d] : List D).length * ((k : Int)).toNat ≤ sizeLine) = true := decide_eq_true ⟨by omega, by omega, by rw [Int.toNat_natCast]; simp [sizeLine]; omega⟩
  have hf : ∀ n : Nat, (List.replicate n [d]).flatten = List.replicate n d := fun n => by
    induction n with
    | zero => rfl
    | succ n ih => rw [List.replicate_succ, List.flatten_cons, ih]; rfl
  unfold mRep
  rw [h1]
  show (if decide (-(2 ^ 63) ≤ (k : Int) ∧ (k : Int) < 2 ^ 63 ∧ ([d] : List D).length * ((k : Int)).toNat ≤ sizeLine) = true then some (PR.val (Sv.own .loc (List.replicate ((k : Int)).toNat [d]).flatten), ρ) else none) = _
  rw [if_pos hd, Int.toNat_natCast, hf]

theorem c_orTT {a b : MT} {ρ ρ1 : Fm} (h : a ρ = some (true, ρ1)) : mOrT a b ρ = some (true, ρ1) := by unfold mOrT; rw [h]
theorem c_orTF {a b : MT} {ρ ρ1 : Fm} {x : Option (Bool × Fm)} (h : a ρ = some (false, ρ1)) (h2 : b ρ1 = x) : mOrT a b ρ = x := by unfold mOrT; rw [h]; exact h2
theorem t_call {me : ME} {ρ : Fm} {b : Bool} (h : me ρ = some (.val (.imm (.bool b)), ρ)) : mNotT (mTru me) ρ = some (!b, ρ) := c_not (c_tru h rfl (by cases b <;> rfl))
theorem t_tru {me : ME} {ρ : Fm} {b : Bool} (h : me ρ = some (.val (.imm (.bool b)), ρ)) : mTru me ρ = some (b, ρ) := c_tru h rfl (by cases b <;> rfl)

theorem mif_T {t : MT} {a b : ME} {ρ ρ1 : Fm} {x : Option (PR × Fm)} (h : t ρ = some (true, ρ1)) (h2 : a ρ1 = x) : mIf t a b ρ = x := by unfold mIf; rw [h]; exact h2
theorem mif_F {t : MT} {a b : ME} {ρ ρ1 : Fm} {x : Option (PR × Fm)} (h : t ρ = some (false, ρ1)) (h2 : b ρ1 = x) : mIf t a b ρ = x := by unfold mIf; rw [h]; exact h2

theorem c_cmap {α : Type} {mg : MG} {me : ME} {vs : List Nat} {ρ : Fm} (f g : α → D) : ∀ (l : List α), (∀ a ∈ l, ∃ ρ1 pr ρ3 ρ4, mg (f a) ρ = some ρ1 ∧ me ρ1 = some (pr, ρ3) ∧ frz ρ3 pr = some (g a, ρ4) ∧ wipeA ρ4 vs = ρ) → cloop mg mYes me vs (l.map f) ρ = some (l.map g, ρ)
  | [], _ => rfl
  | a :: l, h => by
    obtain ⟨ρ1, pr, ρ3, ρ4, h1, h2, h3, h4⟩ := h a (List.mem_cons_self ..)
    have ih := c_cmap f g l fun b hb => h b (List.mem_cons_of_mem _ hb)
    exact c_ccons (ρ2 := ρ1) h1 rfl h2 h3 (by rw [h4]; exact ih)

theorem v_bin {f : D → D → Option Sv} {ma mb : ME} {ρ : Fm} {d e : D} {r : Sv} (h : EV ma ρ d) (k : EV mb ρ e) (q : f d e = some r) : bin f ma mb ρ = some (.val r, ρ) := by
  obtain ⟨pr, h1, _, h3⟩ := h
  obtain ⟨ps, k1, _, k3⟩ := k
  exact c_bin h1 k1 h3 k3 q


theorem bools_of {α : Type} (g : α → Bool) : ∀ l : List α, boolsOf (l.map fun d => .bool (g d)) = some (l.map g)
  | [] => rfl
  | d :: l => by rw [List.map_cons, boolsOf, bools_of g l]; rfl
theorem all_of {α : Type} (g : α → Bool) (l : List α) : dAll (.list (l.map fun d => .bool (g d))) = some (.imm (.bool (l.all g))) := by
  show (boolsOf (l.map fun d => .bool (g d))).map _ = _
  rw [bools_of]
  simp [List.all_map, Function.comp_def]

theorem cut_to (L : List D) (k : Nat) (h : k ≤ L.length) : Vi.cutD L none (some (k : Int)) = L.take k := by
  unfold Vi.cutD
  rw [HT.sIx_none, HT.sIx_nat, Nat.min_eq_left h]
  simp

theorem c_andTT {a b : MT} {ρ ρ1 : Fm} {x : Option (Bool × Fm)} (h : a ρ = some (true, ρ1)) (h2 : b ρ1 = x) : mAndT a b ρ = x := by unfold mAndT; rw [h]; exact h2
theorem c_andTF {a b : MT} {ρ ρ1 : Fm} (h : a ρ = some (false, ρ1)) : mAndT a b ρ = some (false, ρ1) := by unfold mAndT; rw [h]
theorem fits_of {n : Nat} (h : n ≤ 10000) : fits n = true := decide_eq_true (by unfold sizeLine; omega)
abbrev bx (a b c : Int) : List D := [.int a, .int b, .int c]
theorem mul_small {i j : Int} (h : -(2 ^ 64) < j ∧ j < 2 ^ 64) : mulOk i j = true := by
  unfold mulOk; rw [Bool.or_eq_true, Bool.or_eq_true]; exact .inl (.inr (decide_eq_true h))
theorem mul_small' {i j : Int} (h : -(2 ^ 64) < i ∧ i < 2 ^ 64) : mulOk i j = true := by
  unfold mulOk; rw [Bool.or_eq_true, Bool.or_eq_true]; exact .inl (.inl (decide_eq_true h))
theorem div_small {j : Int} (h : 0 < j) (h2 : j < 1000000000) : divOk j = true := decide_eq_true ⟨h, by
  have : j.natAbs.log2 < 64 := (Nat.log2_lt (by omega)).mpr (by omega)
  omega⟩
theorem at0 (a b c : Int) : L2.atI (bx a b c) 0 = some (.int a) := rfl
theorem at1 (a b c : Int) : L2.atI (bx a b c) 1 = some (.int b) := rfl
theorem at2 (a b c : Int) : L2.atI (bx a b c) 2 = some (.int c) := rfl
theorem take_ok {K : Nat} {a b c n : Int} (hn : 0 < n) (hn2 : n < 1000000) (hc : 0 ≤ c) (hc2 : c < 1000000) :
    ∃ v a' c' : Int, run (K + 1) 22 [.own .par (bx a b c), .imm (.int n)] = some (.imm (.int v), [some (bx a' b c'), none]) ∧ 0 ≤ v ∧ v < n ∧ 0 ≤ c' ∧ c' ≤ c + 1 := by
  have i0 : L2.ixN 3 0 = some 0 := rfl
  have i2 : L2.ixN 3 2 = some 2 := rfl
  by_cases ha : 0 < a
  · refine ⟨a % n, a / n, c, ?_, Int.emod_nonneg _ (by omega), Int.emod_lt_of_pos _ hn, hc, by omega⟩
    have hd := div_small hn (by omega)
    show fn22 (run K) _ = _
    simp [fits_of, mFn, mSeq, mSet, put, take, frz, peek, mVar, mC, bin, un, mIfS, mNotT, mTru, mRet, mNext, mLst, mNil, mCons, mTup, mFor, mISeq, mN, mDrop, mApp, mCall, rVal, rNil, argsOf, slotsOf, nodupB, Vi.backTo, give, outsOf, Sv.toD, itemsOf, dTru, dIsi2, dIsi, tyN, isT, dTuple, dList, mGtup, mGcons, mGnil, mYes, mComp, mComp2, wipeA, restA, vsOk, dSort, dAdd, dIx, dLen, mIf, mB, dCmpI, dNeg, mAndT, mIEnum, mStore, rSlot, dInt, dMod, dMul, dDiv, dAbs, dPow, mSl, mPart, mNoPart, dCut, mOr, fn22, at0, ha, hn, hd, i0]
  · have key : ∃ z : Int, run (K + 1) 22 [.own .par (bx a b c), .imm (.int n)] = some (.imm (.int (z % n)), [some (bx a b (c + 1)), none]) := by
      let once : Int := ((b + 48271 * (c + 1)) * (39373 + (c + 1))) % 2147483647
      let far : Int := once % 40009 + 7
      let again : Int := ((once + (c + 1) + b / 1000003) * far) % 2147483629
      refine ⟨((again * 48271 + once) % 2147483587) / 64, ?_⟩
      show fn22 (run K) _ = _
      have m1 : mulOk 48271 (c + 1) = true := mul_small' (by decide)
      have m2 : ∀ z : Int, mulOk z (39373 + (c + 1)) = true := fun z => mul_small (by omega)
      have m3 : ∀ z w : Int, mulOk z (w % 40009 + 7) = true := fun z w => mul_small (by have := Int.emod_nonneg w (show (40009 : Int) ≠ 0 by omega); have := Int.emod_lt_of_pos w (show (0 : Int) < 40009 by omega); omega)
      have m4 : ∀ z : Int, mulOk z 48271 = true := fun z => mul_small (by decide)
      have d1 : divOk 1000003 = true := rfl
      have d2 : divOk 64 = true := rfl
      simp [fits_of, mFn, mSeq, mSet, put, take, frz, peek, mVar, mC, bin, un, mIfS, mNotT, mTru, mRet, mNext, mLst, mNil, mCons, mTup, mFor, mISeq, mN, mDrop, mApp, mCall, rVal, rNil, argsOf, slotsOf, nodupB, Vi.backTo, give, outsOf, Sv.toD, itemsOf, dTru, dIsi2, dIsi, tyN, isT, dTuple, dList, mGtup, mGcons, mGnil, mYes, mComp, mComp2, wipeA, restA, vsOk, dSort, dAdd, dIx, dLen, mIf, mB, dCmpI, dNeg, mAndT, mIEnum, mStore, rSlot, dInt, dMod, dMul, dDiv, dAbs, dPow, mSl, mPart, mNoPart, dCut, mOr, fn22, at0, at1, at2, ha, hn, i2, m1, m2, m3, m4, d1, d2, once, far, again]
    obtain ⟨z, e⟩ := key
    exact ⟨z % n, a, c + 1, e, Int.emod_nonneg _ (by omega), Int.emod_lt_of_pos _ hn, by omega, by omega⟩
def TakeP (f : Fn) (b : Int) : Prop := ∀ a c n : Int, 0 < n → n < 1000000 → 0 ≤ c → c < 1000000 → ∃ v a' c' : Int, f [.own .par (bx a b c), .imm (.int n)] = some (.imm (.int v), [some (bx a' b c'), none]) ∧ 0 ≤ v ∧ v < n ∧ 0 ≤ c' ∧ c' ≤ c + 1
theorem take_P (K : Nat) (b : Int) : TakeP (run (K + 1) 22) b := fun a c n h1 h2 h3 h4 => take_ok h1 h2 h3 h4


theorem cut_off (L : List D) (k : Nat) (h : k ≤ L.length) : Vi.cutD L (some (k : Int)) none = L.drop k := by
  unfold Vi.cutD
  rw [HT.sIx_nat, HT.sIx_none, Nat.min_eq_left h, List.take_of_length_le (by simp [fits_of, mFn, mSeq, mSet, put, take, frz, peek, mVar, mC, bin, un, mIfS, mNotT, mTru, mRet, mNext, mLst, mNil, mCons, mTup, mFor, mISeq, mN, mDrop, mApp, mCall, rVal, rNil, argsOf, slotsOf, nodupB, Vi.backTo, give, outsOf, Sv.toD, itemsOf, dTru, dIsi2, dIsi, tyN, isT, dTuple, dList, mGtup, mGcons, mGnil, mYes, mComp, mComp2, wipeA, restA, vsOk, dSort, dAdd, dIx, dLen, mIf, mB, dCmpI, dNeg, mAndT, mIEnum, mStore, rSlot, dInt, dMod, dMul, dDiv, dAbs, dPow, mSl, mPart, mNoPart, dCut, mOr])]



theorem c_store {i : Nat} {mk me : ME} {ρ ρ1 ρ2 ρ3 : Fm} {pr pk : PR} {d : D} {b b1 : Kd} {ds ds1 : List D} {k : Int} {j : Nat} (h1 : me ρ = some (pr, ρ1)) (h2 : frz ρ1 pr = some (d, ρ2)) (h3 : ρ2[i]? = some (some (.own b1 ds1))) (h4 : mk ρ2 = some (pk, ρ3)) (h5 : peek ρ3 pk = some (.int k)) (h6 : ρ3[i]? = some (some (.own b ds))) (h7 : L2.ixN ds.length k = some j) (hb : b.isL = true := by rfl) (hb1 : b1.isL = true := by rfl) : mStore i mk me ρ = some (.next, ρ3.set i (some (.own b (ds.set j d)))) := by
  unfold mStore
  cases b <;> cases b1 <;> first | exact absurd hb (by decide) | exact absurd hb1 (by decide) | (rw [h1]; simp only [h2, h3, h4, h5, h6, h7])

theorem c_rslot {i : Nat} {mr : MR} {ρ ρ1 : Fm} {b : Kd} {ds : List D} {as : List AR} (h : ρ[i]? = some (some (.own b ds))) (h2 : mr ρ = some (as, ρ1)) : rSlot i mr ρ = some (.s i :: as, ρ1) := by
  unfold rSlot
  rw [h]
  simp only [h2]




theorem at_tup {L : List D} {k : Nat} {d : D} (h : L[k]? = some d) : dIx (.tuple L) (.int (k : Int)) = some (.imm d) := by
  show (L2.atI L (k : Int)).map Sv.imm = _
  rw [L2.atI_nat h]; rfl


theorem abs_int (a : Int) : dAbs (.int a) = some (.imm (.int (a.natAbs : Int))) := by
  show some (Sv.imm (.int (if a < 0 then -a else a))) = _
  congr 3
  split <;> omega

end K01

namespace K01
open PySem Vi PyProof.Rows
/-! values that are bools, tests -/
abbrev dd (d : D) : Option Sv := some (.imm d)
def EB (me : ME) (ρ : Fm) (b : Bool) : Prop := me ρ = some (.val (.imm (.bool b)), ρ)
def TB (mt : MT) (ρ : Fm) (b : Bool) : Prop := mt ρ = some (b, ρ)
theorem tb_tru {me : ME} {ρ : Fm} {b : Bool} (h : EB me ρ b) : TB (mTru me) ρ b := t_tru h
theorem tb_b {me : ME} {ρ : Fm} {b : Bool} (h : EB me ρ b) : TB (mB me) ρ b := c_b h
theorem tb_not {mt : MT} {ρ : Fm} {b : Bool} (h : TB mt ρ b) : TB (mNotT mt) ρ (!b) := c_not h
theorem tb_or {a b : MT} {ρ : Fm} {x y : Bool} (h : TB a ρ x) (k : x = false → TB b ρ y) : TB (mOrT a b) ρ (x || y) := by
  cases x with
  | true => exact c_orTT h
  | false => exact c_orTF h (k rfl)
theorem eb_and {a b : ME} {ρ : Fm} {x y : Bool} (h : EB a ρ x) (k : x = true → EB b ρ y) : EB (mAnd a b) ρ (x && y) := c_andB h k
theorem eb_not {a : ME} {ρ : Fm} {x : Bool} (h : EB a ρ x) : EB (un dNot a) ρ (!x) := c_un h rfl (by cases x <;> rfl)
theorem eb_ev {me : ME} {ρ : Fm} {b : Bool} (h : EB me ρ b) : EV me ρ (.bool b) := ev_val h
theorem s_if {mt : MT} {m n : MS} {ρ : Fm} {b : Bool} {x : Option (Vi.Fl × Fm)} (h : TB mt ρ b) (h1 : b = true → m ρ = x) (h2 : b = false → n ρ = x) : mIfS mt m n ρ = x := by
  cases b with
  | true => exact c_ifT h (h1 rfl)
  | false => exact c_ifF h (h2 rfl)
/-! data that come -/
def Bd : Nat → D → Bool
  | _, .none => true
  | _, .bool _ => true
  | _, .str s => PyData.strOk s
  | _, .int i => decide (i.natAbs ≤ 1000)
  | n + 1, .tuple xs => decide (xs.length ≤ 1000) && xs.all (Bd n)
  | n + 1, .list xs => decide (xs.length ≤ 1000) && xs.all (Bd n)
  | _, _ => false
def items : D → List D
  | .tuple xs => xs
  | .list xs => xs
  | _ => []
theorem bd_up : ∀ (n : Nat) {d : D}, Bd n d = true → Bd (n + 1) d = true
  | 0, d, h => by cases d <;> first | exact h | cases h
  | n + 1, d, h => by
    cases d with
    | none => rfl
    | bool b => rfl
    | str b => exact h
    | int b => exact h
    | tuple xs =>
      have h' : (decide (xs.length ≤ 1000) && xs.all (Bd n)) = true := h
      rw [Bool.and_eq_true, List.all_eq_true] at h'
      show (decide (xs.length ≤ 1000) && xs.all (Bd (n + 1))) = true
      rw [h'.1, Bool.true_and, List.all_eq_true]
      exact fun x hx => bd_up n (h'.2 x hx)
    | list xs =>
      have h' : (decide (xs.length ≤ 1000) && xs.all (Bd n)) = true := h
      rw [Bool.and_eq_true, List.all_eq_true] at h'
      show (decide (xs.length ≤ 1000) && xs.all (Bd (n + 1))) = true
      rw [h'.1, Bool.true_and, List.all_eq_true]
      exact fun x hx => bd_up n (h'.2 x hx)
    | dict x => cases h
theorem bd_le {n m : Nat} {d : D} (h : Bd n d = true) (k : n ≤ m) : Bd m d = true := by
  obtain ⟨j, rfl⟩ := Nat.le.dest k
  induction j with
  | zero => exact h
  | succ j ih => exact bd_up (n + j) (ih (by omega))
/-- what may be handed in -/
def In (d : D) : Prop := Bd 40 d = true
theorem bd_mem {n : Nat} {d x : D} (h : Bd n d = true) (hx : x ∈ items d) : ∃ m, n = m + 1 ∧ Bd m x = true := by
  cases d with
  | tuple xs =>
    cases n with
    | zero => cases h
    | succ n =>
      have h' : (decide (xs.length ≤ 1000) && xs.all (Bd n)) = true := h
      rw [Bool.and_eq_true, List.all_eq_true] at h'
      exact ⟨n, rfl, h'.2 x hx⟩
  | list xs =>
    cases n with
    | zero => cases h
    | succ n =>
      have h' : (decide (xs.length ≤ 1000) && xs.all (Bd n)) = true := h
      rw [Bool.and_eq_true, List.all_eq_true] at h'
      exact ⟨n, rfl, h'.2 x hx⟩
  | _ => cases hx
theorem in_mem {d x : D} (h : In d) (hx : x ∈ items d) : In x := by
  obtain ⟨m, hm, k⟩ := bd_mem h hx
  exact bd_le k (by omega)
theorem bd_len {n : Nat} {d : D} (h : Bd n d = true) : (items d).length ≤ 1000 := by
  cases d with
  | tuple xs =>
    cases n with
    | zero => cases h
    | succ n =>
      have h' : (decide (xs.length ≤ 1000) && xs.all (Bd n)) = true := h
      rw [Bool.and_eq_true] at h'
      exact of_decide_eq_true h'.1
  | list xs =>
    cases n with
    | zero => cases h
    | succ n =>
      have h' : (decide (xs.length ≤ 1000) && xs.all (Bd n)) = true := h
      rw [Bool.and_eq_true] at h'
      exact of_decide_eq_true h'.1
  | _ => exact Nat.zero_le _
theorem lay_of : ∀ {xs : List D}, (∀ x ∈ xs, PyData.canLay0 x = true) → PyData.canLayAll0 xs = true
  | [], _ => by rw [PyData.canLayAll0]
  | x :: xs, h => by rw [PyData.canLayAll0, h x (List.mem_cons_self ..), lay_of fun y hy => h y (List.mem_cons_of_mem _ hy)]; rfl
theorem dep_of {n : Nat} : ∀ {xs : List D}, (∀ x ∈ xs, PyData.depth x ≤ n) → PyData.depthAll xs ≤ n
  | [], _ => by rw [PyData.depthAll]; exact Nat.zero_le _
  | x :: xs, h => by
    rw [PyData.depthAll]
    exact Nat.max_le.mpr ⟨h x (List.mem_cons_self ..), dep_of fun y hy => h y (List.mem_cons_of_mem _ hy)⟩
theorem bd_ok : ∀ (n : Nat) {d : D}, Bd n d = true → PyData.canLay0 d = true ∧ PyData.depth d ≤ n
  | n, .none, _ => ⟨by rw [PyData.canLay0], by rw [PyData.depth]; exact Nat.zero_le _⟩
  | n, .bool _, _ => ⟨by rw [PyData.canLay0], by rw [PyData.depth]; exact Nat.zero_le _⟩
  | n, .int _, _ => ⟨by rw [PyData.canLay0], by rw [PyData.depth]; exact Nat.zero_le _⟩
  | n, .str s, h => ⟨by
    rw [PyData.canLay0]
    cases n <;> exact h, by rw [PyData.depth]; exact Nat.zero_le _⟩
  | n + 1, .tuple xs, h => by
    have h' : (decide (xs.length ≤ 1000) && xs.all (Bd n)) = true := h
    rw [Bool.and_eq_true, List.all_eq_true] at h'
    rw [PyData.canLay0, PyData.depth]
    have k := dep_of (xs := xs) (n := n) fun x hx => (bd_ok n (h'.2 x hx)).2
    exact ⟨lay_of fun x hx => (bd_ok n (h'.2 x hx)).1, by omega⟩
  | n + 1, .list xs, h => by
    have h' : (decide (xs.length ≤ 1000) && xs.all (Bd n)) = true := h
    rw [Bool.and_eq_true, List.all_eq_true] at h'
    rw [PyData.canLay0, PyData.depth]
    have k := dep_of (xs := xs) (n := n) fun x hx => (bd_ok n (h'.2 x hx)).2
    exact ⟨lay_of fun x hx => (bd_ok n (h'.2 x hx)).1, by omega⟩
  | 0, .tuple _, h => by cases h
  | 0, .list _, h => by cases h
  | n, .dict _, h => by cases n <;> cases h
theorem in_ok {d : D} (h : In d) : okD d = true := by
  obtain ⟨h1, h2⟩ := bd_ok 40 h
  show (PyData.canLay0 d && decide (PyData.depth d ≤ 64)) = true
  rw [h1, decide_eq_true (by omega)]; rfl
/-! is_number, is_count, is_tuple -/
def sNum : D → Bool
  | .int _ => true
  | _ => false
def sCount : D → Bool
  | .int i => decide (0 ≤ i)
  | _ => false
def isTup : D → Bool
  | .tuple _ => true
  | _ => false
def sTup (d : D) (n : Nat) : Bool := isTup d && decide ((items d).length = n)
def B1 (f : Fn) (d : D) (b : Bool) : Prop := f [.imm d] = some (.imm (.bool b), [none])
def B2 (f : Fn) (d e : D) (b : Bool) : Prop := f [.imm d, .imm e] = some (.imm (.bool b), [none, none])
def B3 (f : Fn) (d e g : D) (b : Bool) : Prop := f [.imm d, .imm e, .imm g] = some (.imm (.bool b), [none, none, none])
abbrev nt (n : Nat) : D := .int (n : Int)
theorem eb_isi {me : ME} {ρ : Fm} {d : D} (h : EV me ρ d) (hd : In d) : EB (un (dIsi Ty.tuple) me) ρ (isTup d) := by
  obtain ⟨pr, h1, _, h3⟩ := h
  exact c_un h1 h3 (by cases d <;> first | rfl | cases hd)
theorem eq_len (a b : Nat) : dEq (.int (a : Int)) (.int (b : Int)) = some (.imm (.bool (decide (a = b)))) := by
  rw [eq_int]
  by_cases h : a = b
  · subst h; simp
  · rw [decide_eq_false h, show ((a : Int) == (b : Int)) = false from beq_eq_false_iff_ne.mpr (by omega)]
theorem len_tup {d : D} (h : isTup d = true) : dLen d = some (.imm (.int ((items d).length : Int))) := by cases d <;> first | rfl | cases h
theorem tup_of {d : D} (h : isTup d = true) : d = .tuple (items d) := by cases d <;> first | rfl | cases h
theorem ev_len {me : ME} {ρ : Fm} {d : D} (h : EV me ρ d) (k : isTup d = true) : EV (un dLen me) ρ (nt (items d).length) := e_un h (len_tup k)
section
variable {cl : Nat → Fn}
theorem num_ok {d : D} (hd : In d) : B1 (fn2 cl) d (sNum d) := by
  unfold B1
  cases d <;> first | rfl | cases hd
theorem num_ok2 {d : D} (hd : In d) : B1 (fn28 cl) d (sNum d) := num_ok (cl := cl) hd
theorem tup_ok {d : D} {n : Nat} (hd : In d) : B2 (fn4 cl) d (nt n) (sTup d n) := by
  have h : EB (mAnd (un (dIsi Ty.tuple) (mVar 0)) (bin dEq (un dLen (mVar 0)) (mVar 1))) [dd d, dd (nt n)] (sTup d n) :=
    eb_and (eb_isi (ev_var (i := 0) rfl) hd) fun k => v_bin (ev_len (me := mVar 0) (ev_var rfl) k) (ev_var (i := 1) (ρ := [dd d, dd (nt n)]) rfl) (eq_len _ _)
  exact c_fn (ρ0 := [dd d, dd (nt n)]) rfl rfl (c_ret h rfl) rfl
def NumP (f : Fn) : Prop := ∀ d, In d → B1 f d (sNum d)
def TupP (f : Fn) : Prop := ∀ (d : D) (n : Nat), In d → B2 f d (nt n) (sTup d n)
theorem count_ok (N : NumP (cl 2)) {d : D} (hd : In d) : B1 (fn3 cl) d (sCount d) := by
  have h : EB (mAnd (mCall (cl 2) (rVal (mVar 0) rNil)) (bin dGe (mVar 0) (mC (.int 0)))) [dd d] (sNum d && sCount d) :=
    eb_and (v_call1 (ev_var rfl) (N d hd)) fun k => by
      cases d with
      | int i => exact c_bin rfl rfl rfl rfl rfl
      | _ => cases k
  have e : (sNum d && sCount d) = sCount d := by cases d <;> rfl
  rw [e] at h
  exact c_fn (ρ0 := [dd d]) rfl rfl (c_ret h rfl) rfl
/-! all of -/
theorem eb_all {src body : ME} {i : Nat} {ρ : Fm} {xs : List D} {g : D → Bool} {ρ' : D → Fm} (hs : mISeq src ρ = some (xs, ρ)) (hl : xs.length ≤ 10000) (hb : ∀ x ∈ xs, EB body (ρ' x) (g x)) (h2 : ∀ x, mN i x ρ = some (ρ' x)) (h0 : vsOk ρ [i] = true) (h1 : wipeA ρ [i] = ρ) (h3 : ∀ x, wipeA (ρ' x) [i] = ρ) (h4 : restA ρ ρ [i] = ρ) :
    EB (un dAll (mComp (mISeq src) (mN i) mYes body [i])) ρ (xs.all g) := by
  have hc : cloop (mN i) mYes body [i] (xs.map id) ρ = some (xs.map fun x => .bool (g x), ρ) := c_cmap id (fun x => .bool (g x)) xs fun x hx => ⟨ρ' x, _, ρ' x, ρ' x, h2 x, hb x hx, rfl, h3 x⟩
  rw [List.map_id] at hc
  exact c_un (c_comp hs h0 (by rw [h1]; exact hc) (c_fits (by rw [List.length_map]; exact hl)) h4) rfl (all_of g xs)
theorem sq_var {ρ : Fm} {i : Nat} {d : D} (h : ρ[i]? = some (dd d)) (k : isTup d = true) : mISeq (mVar i) ρ = some (items d, ρ) := by
  obtain ⟨pr, h1, h2, _⟩ := ev_var h
  unfold mISeq
  rw [h1]
  simp only [h2]
  cases d <;> first | rfl | cases k
theorem sq_ev {ρ : Fm} {me : ME} {d : D} (h : EV me ρ d) (k : isTup d = true) : mISeq me ρ = some (items d, ρ) := by
  obtain ⟨pr, h1, h2, _⟩ := h
  unfold mISeq
  rw [h1]
  simp only [h2]
  cases d <;> first | rfl | cases k
theorem in_len {d : D} (h : In d) : (items d).length ≤ 10000 := Nat.le_trans (bd_len h) (by decide)
/-! an item -/
def ix (d : D) (k : Nat) : D := ((items d)[k]?).getD .none
theorem ix_in {d : D} (h : In d) (k : Nat) : In (ix d k) := by
  unfold ix
  cases e : (items d)[k]? with
  | none => exact (rfl : Bd 40 .none = true)
  | some x => exact in_mem h (List.mem_of_getElem? e)
theorem ev_ix {me : ME} {ρ : Fm} {d : D} {k : Nat} (h : EV me ρ d) (ht : isTup d = true) (hk : k < (items d).length) : EV (bin dIx me (mC (nt k))) ρ (ix d k) := by
  refine e_bin h ev_c ?_
  rw [tup_of ht]
  have e : (items d)[k]? = some (ix d k) := by unfold ix; rw [List.getElem?_eq_getElem hk]; rfl
  exact at_tup e
theorem tup2 {d : D} {n : Nat} (h : sTup d n = true) : isTup d = true ∧ (items d).length = n := by
  unfold sTup at h
  rw [Bool.and_eq_true] at h
  exact ⟨h.1, of_decide_eq_true h.2⟩
end
end K01

namespace K01
open PySem Vi PyProof.Rows
/-! fractions -/
def iv : D → Int
  | .int i => i
  | _ => 0
theorem num_of {d : D} (h : sNum d = true) : d = .int (iv d) := by cases d <;> first | rfl | cases h
theorem fn_guard {mt : MT} {me : ME} {ρ : Fm} {g b : Bool} (t : TB mt ρ g) (h : g = false → EB me ρ b) : (mSeq (mIfS mt (mRet (mC (.bool false))) mNext) (mRet me)) ρ = some (.ret (.imm (.bool (!g && b))), ρ) := by
  cases g with
  | true => exact c_seqR (c_ifT t (c_ret rfl rfl))
  | false => exact c_seq (c_ifF t c_skip) (c_ret (h rfl) rfl)
theorem fn_guard2 {mt : MT} {m : MS} {ρ : Fm} {g b : Bool} (t : TB mt ρ g) (h : g = false → m ρ = some (.ret (.imm (.bool b)), ρ)) : (mSeq (mIfS mt (mRet (mC (.bool false))) mNext) m) ρ = some (.ret (.imm (.bool (!g && b))), ρ) := by
  cases g with
  | true => exact c_seqR (c_ifT t (c_ret rfl rfl))
  | false => exact c_seq (c_ifF t c_skip) (h rfl)
def sFrac (d : D) : Bool := sTup d 2 && (sNum (ix d 0) && (sNum (ix d 1) && (decide (1 ≤ iv (ix d 1)) && (Nat.gcd (iv (ix d 0)).natAbs (iv (ix d 1)).natAbs == 1))))
theorem ge_b {ρ : Fm} {ma mb : ME} {x y : Int} (h1 : EV ma ρ (.int x)) (h2 : EV mb ρ (.int y)) : EB (bin dGe ma mb) ρ (decide (y ≤ x)) := v_bin h1 h2 rfl
theorem ne_nat (a b : Nat) : dNe (.int (a : Int)) (.int (b : Int)) = some (.imm (.bool (!decide (a = b)))) := by
  have h := eq_len a b
  unfold dEq at h
  unfold dNe
  have h1 : (okD (.int (a : Int)) && okD (.int (b : Int))) = true := rfl
  rw [if_pos h1] at h ⊢
  injection h with h
  injection h with h
  injection h with h
  rw [h]
section
variable {cl : Nat → Fn}
def FracP (f : Fn) : Prop := ∀ d, In d → B1 f d (sFrac d)
theorem frac_ok (T : TupP (cl 4)) (N : NumP (cl 2)) : FracP (fn8 cl) := fun d hd => by
  have v0 : EV (mVar 0) [dd d] d := ev_var rfl
  have vx : ∀ (k : Nat), k < 2 → sTup d 2 = true → EV (bin dIx (mVar 0) (mC (nt k))) [dd d] (ix d k) := fun k hk h => ev_ix v0 (tup2 h).1 (by rw [(tup2 h).2]; exact hk)
  have t : TB (mOrT (mNotT (mTru (mCall (cl 4) (rVal (mVar 0) (rVal (mC (.int 2)) rNil))))) (mOrT (mNotT (mTru (mCall (cl 2) (rVal (bin dIx (mVar 0) (mC (.int 0))) rNil)))) (mNotT (mTru (mCall (cl 2) (rVal (bin dIx (mVar 0) (mC (.int 1))) rNil)))))) [dd d] (!sTup d 2 || (!sNum (ix d 0) || !sNum (ix d 1))) :=
    tb_or (tb_not (tb_tru (v_call2 v0 (ev_c (d := nt 2)) (T d 2 hd)))) fun k => by
      have k' : sTup d 2 = true := by cases h : sTup d 2 with | true => rfl | false => rw [h] at k; cases k
      exact tb_or (tb_not (tb_tru (v_call1 (vx 0 (by decide) k') (N _ (ix_in hd 0))))) fun _ => tb_not (tb_tru (v_call1 (vx 1 (by decide) k') (N _ (ix_in hd 1))))
  have e := fn_guard (me := (mAnd (bin dGe (bin dIx (mVar 0) (mC (.int 1))) (mC (.int 1))) (bin dEq (mA dGcd (mCons (bin dIx (mVar 0) (mC (.int 0))) (mCons (bin dIx (mVar 0) (mC (.int 1))) mNil))) (mC (.int 1))))) (b := decide (1 ≤ iv (ix d 1)) && (Nat.gcd (iv (ix d 0)).natAbs (iv (ix d 1)).natAbs == 1)) t fun k => by
    rw [Bool.or_eq_false_iff, Bool.or_eq_false_iff] at k
    have k1 : sTup d 2 = true := by simpa using k.1
    have k2 : sNum (ix d 0) = true := by simpa using k.2.1
    have k3 : sNum (ix d 1) = true := by simpa using k.2.2
    have w0 := vx 0 (by decide) k1
    have w1 := vx 1 (by decide) k1
    rw [num_of k2] at w0
    rw [num_of k3] at w1
    refine eb_and (ge_b w1 (ev_c (d := .int 1))) fun _ => ?_
    obtain ⟨pr, g1, g2, g3⟩ : EV (mA dGcd (mCons (bin dIx (mVar 0) (mC (.int 0))) (mCons (bin dIx (mVar 0) (mC (.int 1))) mNil))) [dd d] (nt (Nat.gcd (iv (ix d 0)).natAbs (iv (ix d 1)).natAbs)) := by
      refine ev_val ?_
      unfold mA
      rw [show mCons (bin dIx (mVar 0) (mC (.int 0))) (mCons (bin dIx (mVar 0) (mC (.int 1))) mNil) [dd d] = some ([.int (iv (ix d 0)), .int (iv (ix d 1))], [dd d]) from ea_cons w0 (ea_cons w1 ea_nil)]
      rfl
    exact c_bin g1 rfl g3 rfl (eq_len _ 1)
  have hs : (!(!sTup d 2 || (!sNum (ix d 0) || !sNum (ix d 1))) && (decide (1 ≤ iv (ix d 1)) && (Nat.gcd (iv (ix d 0)).natAbs (iv (ix d 1)).natAbs == 1))) = sFrac d := by
    unfold sFrac
    cases sTup d 2 <;> cases sNum (ix d 0) <;> cases sNum (ix d 1) <;> rfl
  rw [hs] at e
  exact c_fn (ρ0 := [dd d]) rfl rfl e rfl
theorem ok_two (a b : Int) : okD (.tuple [.int a, .int b]) = true := by
  show (PyData.canLay0 (.tuple [.int a, .int b]) && decide (PyData.depth (.tuple [.int a, .int b]) ≤ 64)) = true
  simp [PyData.canLay0, PyData.canLayAll0, PyData.depth, PyData.depthAll]
/-! low terms, by the law -/
def eB : MS := mPar 2 3 (mVar 3) (bin dMod (un dInt (mVar 2)) (mVar 3))
def eT : MT := mB (bin dGt (mVar 3) (mC (.int 0)))
theorem e_stop {x0 x1 x2 x4 : Option Sv} : eT [x0, x1, x2, ii ((0 : Nat) : Int), x4] = some (false, [x0, x1, x2, ii ((0 : Nat) : Int), x4]) := rfl
theorem e_go {x0 x1 x2 x4 : Option Sv} {f : Nat} (h : 0 < f) : eT [x0, x1, x2, ii (f : Int), x4] = some (true, [x0, x1, x2, ii (f : Int), x4]) := by
  have : eT [x0, x1, x2, ii (f : Int), x4] = some (decide ((0 : Int) < (f : Int)), [x0, x1, x2, ii (f : Int), x4]) := rfl
  rw [this, decide_eq_true (by omega)]
theorem e_step {x0 x1 x4 : Option Sv} {n f : Nat} (h : 0 < f) : eB [x0, x1, ii (n : Int), ii (f : Int), x4] = some (.next, [x0, x1, ii (f : Int), ii ((n % f : Nat) : Int), x4]) := by
  have hm : dMod (.int (n : Int)) (.int (f : Int)) = some (.imm (.int ((n % f : Nat) : Int))) := by
    show (if decide ((0 : Int) < (f : Int)) = true then some (Sv.imm (.int ((n : Int) % (f : Int)))) else none) = _
    rw [if_pos (decide_eq_true (by omega))]; rfl
  have hb : bin dMod (un dInt (mVar 2)) (mVar 3) [x0, x1, ii (n : Int), ii (f : Int), x4] = some (.val (.imm (.int ((n % f : Nat) : Int))), [x0, x1, ii (n : Int), ii (f : Int), x4]) := c_bin (c_un rfl rfl rfl) rfl rfl rfl hm
  exact c_par (show mVar 3 [x0, x1, ii (n : Int), ii (f : Int), x4] = some (.slot 3, _) from rfl) rfl hb rfl rfl
theorem euclid {x0 x1 x4 : Option Sv} : ∀ (k n f m : Nat), f < 2 ^ k → whl eT eB (2 * k + 1 + m) [x0, x1, ii (n : Int), ii (f : Int), x4] = some (.next, [x0, x1, ii ((Nat.gcd n f : Nat) : Int), ii ((0 : Nat) : Int), x4])
  | 0, n, f, m, h => by
    have : f = 0 := by omega
    subst this
    rw [Nat.gcd_zero_right, show 2 * 0 + 1 + m = m + 1 by omega]
    exact c_whF e_stop
  | k + 1, n, f, m, h => by
    by_cases hf : f = 0
    · subst hf
      rw [Nat.gcd_zero_right, show 2 * (k + 1) + 1 + m = (2 * (k + 1) + m) + 1 by omega]
      exact c_whF e_stop
    · have hf0 : 0 < f := Nat.pos_of_ne_zero hf
      have hr : n % f < f := Nat.mod_lt _ hf0
      rw [show 2 * (k + 1) + 1 + m = (2 * k + 1 + m) + 1 + 1 by omega]
      refine c_whT (e_go hf0) (e_step hf0) ?_
      by_cases hz : n % f = 0
      · rw [hz]
        have hg : Nat.gcd n f = f := Nat.gcd_eq_right (Nat.dvd_of_mod_eq_zero hz)
        rw [hg]
        exact c_whF e_stop
      · have hz0 : 0 < n % f := Nat.pos_of_ne_zero hz
        refine c_whT (e_go hz0) (e_step hz0) ?_
        have hlt : f % (n % f) < 2 ^ k := by
          have h1 : f % (n % f) < n % f := Nat.mod_lt _ hz0
          have h2 : f % (n % f) + (n % f) ≤ f := by
            have h3 := Nat.div_add_mod f (n % f)
            have h4 : 1 ≤ f / (n % f) := Nat.div_pos (Nat.le_of_lt hr) hz0
            have h5 : n % f ≤ (n % f) * (f / (n % f)) := Nat.le_mul_of_pos_right _ h4
            omega
          rw [Nat.pow_succ] at h
          omega
        have e := euclid k (n % f) (f % (n % f)) m hlt (x0 := x0) (x1 := x1) (x4 := x4)
        have hg : Nat.gcd (n % f) (f % (n % f)) = Nat.gcd n f := by
          rw [Nat.gcd_comm (n % f), ← Nat.gcd_rec, Nat.gcd_comm, Nat.gcd_comm n f, Nat.gcd_rec f n, Nat.gcd_comm]
        rw [hg] at e
        exact e
theorem low_fn (cl : Nat → Fn) : fn27 cl = mFn 5 2 (mSeq (mPar 2 3 (un dAbs (mVar 0)) (un dAbs (mVar 1))) (mSeq (whl eT eB 64) (mSeq (mSet 4 (mIf (mB (bin dLt (mVar 1) (mC (.int 0)))) (un dNeg (mC (.int 1))) (mC (.int 1)))) (mRet (mTup (mCons (bin dDiv (bin dMul (mVar 4) (mVar 0)) (mVar 2)) (mCons (bin dDiv (bin dMul (mVar 4) (mVar 1)) (mVar 2)) mNil))))))) := rfl
def LowP (f : Fn) : Prop := ∀ (a b : Int), 1 ≤ b → b ≤ 1000 → f [.imm (.int a), .imm (.int b)] = some (.imm (.tuple [.int (a / (Nat.gcd a.natAbs b.natAbs : Nat)), .int (b / (Nat.gcd a.natAbs b.natAbs : Nat))]), [none, none])
theorem low_ok : LowP (fn27 cl) := fun a b h1 h2 => by
  obtain ⟨n, rfl⟩ : ∃ n : Nat, b = n := ⟨b.toNat, by omega⟩
  rw [low_fn, Int.natAbs_natCast]
  have s1 : mPar 2 3 (un dAbs (mVar 0)) (un dAbs (mVar 1)) [ii a, ii (n : Int), none, none, none] = some (.next, [ii a, ii (n : Int), ii (a.natAbs : Int), ii (n : Int), none]) :=
    by
    have hb1 : un dAbs (mVar 0) [ii a, ii (n : Int), none, none, none] = some (.val (.imm (.int (a.natAbs : Int))), [ii a, ii (n : Int), none, none, none]) := c_un rfl rfl (abs_int a)
    have hb2 : un dAbs (mVar 1) [ii a, ii (n : Int), none, none, none] = some (.val (.imm (.int (n : Int))), [ii a, ii (n : Int), none, none, none]) := c_un rfl rfl (by show dAbs (.int (n : Int)) = _; rw [abs_int, Int.natAbs_natCast])
    exact c_par hb1 rfl hb2 rfl rfl
  have s2 := euclid (x0 := ii a) (x1 := ii (n : Int)) (x4 := none) 10 a.natAbs n 43 (by omega)
  have hg0 : 0 < Nat.gcd a.natAbs n := Nat.gcd_pos_of_pos_right _ (by omega)
  have hg1 : Nat.gcd a.natAbs n ≤ n := Nat.gcd_le_right _ (by omega)
  generalize Nat.gcd a.natAbs n = g at *
  have tl : mB (bin dLt (mVar 1) (mC (.int 0))) [ii a, ii (n : Int), ii (g : Int), ii ((0 : Nat) : Int), none] = some (decide ((n : Int) < 0), [ii a, ii (n : Int), ii (g : Int), ii ((0 : Nat) : Int), none]) := c_b (c_bin rfl rfl rfl rfl rfl)
  rw [decide_eq_false (by omega)] at tl
  have s3 : mSet 4 (mIf (mB (bin dLt (mVar 1) (mC (.int 0)))) (un dNeg (mC (.int 1))) (mC (.int 1))) [ii a, ii (n : Int), ii (g : Int), ii ((0 : Nat) : Int), none] = some (.next, [ii a, ii (n : Int), ii (g : Int), ii ((0 : Nat) : Int), ii 1]) := c_set (mif_F tl rfl) rfl
  have hd : divOk (g : Int) = true := div_small (by omega) (by omega)
  have dv : ∀ x : Int, dDiv (.int (1 * x)) (.int (g : Int)) = some (.imm (.int (x / (g : Int)))) := fun x => by
    show (if divOk (g : Int) = true then some (Sv.imm (.int (1 * x / (g : Int)))) else none) = _
    rw [if_pos hd, Int.one_mul]
  have ml : ∀ x : Int, dMul (.int 1) (.int x) = some (.imm (.int (1 * x))) := fun x => by
    show (if mulOk 1 x = true then some (Sv.imm (.int (1 * x))) else none) = _
    rw [if_pos (mul_small' (by decide))]
  exact c_fn (ρ0 := [ii a, ii (n : Int), none, none, none]) rfl rfl (c_seq s1 (c_seq s2 (c_seq s3 (c_ret (c_tup (c_acons (c_bin (c_bin rfl rfl rfl rfl (ml a)) rfl rfl rfl (dv a)) rfl (c_acons (c_bin (c_bin rfl rfl rfl rfl (ml (n : Int))) rfl rfl rfl (dv (n : Int))) rfl c_anil)) rfl) rfl)))) rfl
theorem gcd_one {a b : Int} (hb : 1 ≤ b) : (a / (Nat.gcd a.natAbs b.natAbs : Nat) == a && (b / (Nat.gcd a.natAbs b.natAbs : Nat) == b && true)) = (Nat.gcd a.natAbs b.natAbs == 1) := by
  by_cases h : Nat.gcd a.natAbs b.natAbs = 1
  · rw [h]; simp
  · rw [show (Nat.gcd a.natAbs b.natAbs == 1) = false from beq_eq_false_iff_ne.mpr h]
    have hg0 : 0 < Nat.gcd a.natAbs b.natAbs := Nat.gcd_pos_of_pos_right _ (by omega)
    generalize Nat.gcd a.natAbs b.natAbs = g at *
    have : b / (g : Int) < b := by
      have h2 : (1 : Int) < g := by omega
      exact Int.ediv_lt_self_of_pos_of_ne_one (by omega) (by omega)
    rw [show (b / (g : Int) == b) = false from beq_eq_false_iff_ne.mpr (by omega)]
    simp
theorem lfrac_ok (N : NumP (cl 28)) (L : LowP (cl 27)) : FracP (fn29 cl) := fun d hd => by
  have v0 : EV (mVar 0) [dd d] d := ev_var rfl
  have vx : ∀ (k : Nat), k < 2 → sTup d 2 = true → EV (bin dIx (mVar 0) (mC (nt k))) [dd d] (ix d k) := fun k hk h => ev_ix v0 (tup2 h).1 (by rw [(tup2 h).2]; exact hk)
  have t1 : TB (mOrT (mNotT (mTru (un (dIsi Ty.tuple) (mVar 0)))) (mB (bin dNe (un dLen (mVar 0)) (mC (.int 2))))) [dd d] (!isTup d || !decide ((items d).length = 2)) :=
    tb_or (tb_not (tb_tru (eb_isi v0 hd))) fun k => tb_b (v_bin (ev_len v0 (by simpa using k)) (ev_c (d := nt 2)) (ne_nat _ _))
  have e1 : (!isTup d || !decide ((items d).length = 2)) = !sTup d 2 := by unfold sTup; cases isTup d <;> simp
  rw [e1] at t1
  have e := fn_guard2 (m := (mSeq (mIfS (mOrT (mNotT (mTru (mCall (cl 28) (rVal (bin dIx (mVar 0) (mC (.int 0))) rNil)))) (mOrT (mNotT (mTru (mCall (cl 28) (rVal (bin dIx (mVar 0) (mC (.int 1))) rNil)))) (mB (bin dLt (bin dIx (mVar 0) (mC (.int 1))) (mC (.int 1)))))) (mRet (mC (.bool false))) mNext) (mRet (bin dEq (mCall (cl 27) (rVal (bin dIx (mVar 0) (mC (.int 0))) (rVal (bin dIx (mVar 0) (mC (.int 1))) rNil))) (mVar 0))))) (b := !(!sNum (ix d 0) || (!sNum (ix d 1) || decide (iv (ix d 1) < 1))) && (Nat.gcd (iv (ix d 0)).natAbs (iv (ix d 1)).natAbs == 1)) t1 fun k => by
    have k1 : sTup d 2 = true := by simpa using k
    have w0 := vx 0 (by decide) k1
    have w1 := vx 1 (by decide) k1
    refine fn_guard (tb_or (tb_not (tb_tru (v_call1 w0 (N _ (ix_in hd 0))))) fun k2 => tb_or (tb_not (tb_tru (v_call1 w1 (N _ (ix_in hd 1))))) fun k3 => ?_) fun k2 => ?_
    · have k3' : sNum (ix d 1) = true := by simpa using k3
      rw [num_of k3'] at w1
      exact tb_b (v_bin w1 (ev_c (d := .int 1)) rfl)
    · rw [Bool.or_eq_false_iff, Bool.or_eq_false_iff] at k2
      have k3 : sNum (ix d 0) = true := by simpa using k2.1
      have k4 : sNum (ix d 1) = true := by simpa using k2.2.1
      have k5 : 1 ≤ iv (ix d 1) := by have := of_decide_eq_false k2.2.2; omega
      have hin := ix_in hd 1
      have e0 := num_of k3
      have e1 := num_of k4
      rw [e1] at hin
      have hle : (iv (ix d 1)).natAbs ≤ 1000 := of_decide_eq_true hin
      have hd2 : d = .tuple [.int (iv (ix d 0)), .int (iv (ix d 1))] := by
        have hl := (tup2 k1).2
        have ht := tup_of (tup2 k1).1
        unfold ix at e0 e1 ⊢
        generalize items d = xs at *
        match xs, hl with
        | [x, y], _ =>
          have e0' : x = .int (iv x) := e0
          have e1' : y = .int (iv y) := e1
          rw [ht]
          show PyData.tuple [x, y] = .tuple [.int (iv x), .int (iv y)]
          rw [← e0', ← e1']
      rw [e0] at w0
      rw [e1] at w1
      refine v_bin (e_call2 w0 w1 (L _ _ k5 (by omega))) v0 ?_
      have hdk := in_ok hd
      generalize iv (ix d 0) = x0 at *
      generalize iv (ix d 1) = x1 at *
      subst hd2
      unfold dEq
      rw [hdk, show okD (.tuple [.int (x0 / (Nat.gcd x0.natAbs x1.natAbs : Nat)), .int (x1 / (Nat.gcd x0.natAbs x1.natAbs : Nat))]) = true from ok_two _ _]
      rw [PyData.eqv, PyData.eqvAll, PyData.eqvAll, PyData.eqvAll, eqv_int, eqv_int, gcd_one k5]
      rfl
  have hs : (!(!sTup d 2) && (!(!sNum (ix d 0) || (!sNum (ix d 1) || decide (iv (ix d 1) < 1))) && (Nat.gcd (iv (ix d 0)).natAbs (iv (ix d 1)).natAbs == 1))) = sFrac d := by
    unfold sFrac
    rw [show decide (iv (ix d 1) < 1) = !decide (1 ≤ iv (ix d 1)) by by_cases h : 1 ≤ iv (ix d 1) <;> simp [h] <;> omega]
    cases sTup d 2 <;> cases sNum (ix d 0) <;> cases sNum (ix d 1) <;> simp
  rw [hs] at e
  exact c_fn (ρ0 := [dd d]) rfl rfl e rfl
end
end K01

namespace K01
open PySem Vi PyProof.Rows
/-! rows, tables, sheets -/
def sRow (d : D) (n : Nat) : Bool := sTup d n && (items d).all sFrac
def sParts (d : D) (m n : Nat) : Bool := sTup d m && (items d).all fun x => sRow x n
def sMat (d : D) (n : Nat) : Bool := sTup d n && (items d).all fun x => sRow x n
def stg (d : D) (m : Nat) : Option Nat := if (decide (m < 1) || (!sTup d m || !isTup (ix d 0))) = true then none else if ((items d).all fun x => sMat x (items (ix d 0)).length) = true then some (items (ix d 0)).length else none
def oD : Option Nat → D
  | none => .none
  | some n => nt n
def sTable (d : D) (m : Nat) : Bool := sTup d 2 && (match stg (ix d 0) m with
  | some n => sParts (ix d 1) m n
  | none => false)
def sSheet (d : D) (m : Nat) : Bool := sTup d 2 && (isTup (ix d 1) && (match stg (ix d 0) m with
  | some n => (items (ix d 1)).all fun x => sParts x m n
  | none => false))
def RowP (f : Fn) : Prop := ∀ (d : D) (n : Nat), In d → B2 f d (nt n) (sRow d n)
def MatP (f : Fn) : Prop := ∀ (d : D) (n : Nat), In d → B2 f d (nt n) (sMat d n)
def PartsP (f : Fn) : Prop := ∀ (d : D) (m n : Nat), In d → B3 f d (nt m) (nt n) (sParts d m n)
def StgP (f : Fn) : Prop := ∀ (d : D) (m : Nat), In d → 1 ≤ m → f [.imm d, .imm (nt m)] = some (.imm (oD (stg d m)), [none, none])
def TableP (f : Fn) : Prop := ∀ (d : D) (m : Nat), In d → 1 ≤ m → B2 f d (nt m) (sTable d m)
def SheetP (f : Fn) : Prop := ∀ (d : D) (m : Nat), In d → 1 ≤ m → B2 f d (nt m) (sSheet d m)
theorem vv_len {me : ME} {ρ : Fm} {d : D} (h : EV me ρ d) (k : isTup d = true) : un dLen me ρ = some (.val (.imm (nt (items d).length)), ρ) := by
  obtain ⟨pr, g1, _, g3⟩ := h
  exact c_un g1 g3 (len_tup k)
section
variable {cl : Nat → Fn}
theorem row_ok (T : TupP (cl 4)) (F : FracP (cl 8)) : RowP (fn9 cl) := fun d n hd => by
  have h : EB (mAnd (mCall (cl 4) (rVal (mVar 0) (rVal (mVar 1) rNil))) (un dAll (mComp (mISeq (mVar 0)) (mN 2) mYes (mCall (cl 8) (rVal (mVar 2) rNil)) [2]))) [dd d, dd (nt n), none] (sRow d n) :=
    eb_and (v_call2 (ev_var rfl) (ev_var rfl) (T d n hd)) fun k => eb_all (ρ' := fun x => [dd d, dd (nt n), dd x]) (sq_var rfl (tup2 k).1) (in_len hd) (fun x hx => v_call1 (ev_var rfl) (F x (in_mem hd hx))) (fun _ => rfl) rfl rfl (fun _ => rfl) rfl
  exact c_fn (ρ0 := [dd d, dd (nt n), none]) rfl rfl (c_ret h rfl) rfl
theorem parts_ok (T : TupP (cl 4)) (R : RowP (cl 9)) : PartsP (fn11 cl) := fun d m n hd => by
  have h : EB (mAnd (mCall (cl 4) (rVal (mVar 0) (rVal (mVar 1) rNil))) (un dAll (mComp (mISeq (mVar 0)) (mN 3) mYes (mCall (cl 9) (rVal (mVar 3) (rVal (mVar 2) rNil))) [3]))) [dd d, dd (nt m), dd (nt n), none] (sParts d m n) :=
    eb_and (v_call2 (ev_var rfl) (ev_var rfl) (T d m hd)) fun k => eb_all (ρ' := fun x => [dd d, dd (nt m), dd (nt n), dd x]) (sq_var rfl (tup2 k).1) (in_len hd) (fun x hx => v_call2 (ev_var rfl) (ev_var rfl) (R x n (in_mem hd hx))) (fun _ => rfl) rfl rfl (fun _ => rfl) rfl
  exact c_fn (ρ0 := [dd d, dd (nt m), dd (nt n), none]) rfl rfl (c_ret h rfl) rfl
theorem mat_ok (T : TupP (cl 4)) (R : RowP (cl 9)) : MatP (fn12 cl) := fun d n hd => by
  have h : EB (mAnd (mCall (cl 4) (rVal (mVar 0) (rVal (mVar 1) rNil))) (un dAll (mComp (mISeq (mVar 0)) (mN 2) mYes (mCall (cl 9) (rVal (mVar 2) (rVal (mVar 1) rNil))) [2]))) [dd d, dd (nt n), none] (sMat d n) :=
    eb_and (v_call2 (ev_var rfl) (ev_var rfl) (T d n hd)) fun k => eb_all (ρ' := fun x => [dd d, dd (nt n), dd x]) (sq_var rfl (tup2 k).1) (in_len hd) (fun x hx => v_call2 (ev_var rfl) (ev_var rfl) (R x n (in_mem hd hx))) (fun _ => rfl) rfl rfl (fun _ => rfl) rfl
  exact c_fn (ρ0 := [dd d, dd (nt n), none]) rfl rfl (c_ret h rfl) rfl
theorem lt_b {ρ : Fm} {ma mb : ME} {x y : Int} (h1 : EV ma ρ (.int x)) (h2 : EV mb ρ (.int y)) : EB (bin dLt ma mb) ρ (decide (x < y)) := v_bin h1 h2 rfl
theorem stg_ok (T : TupP (cl 4)) (Mt : MatP (cl 12)) : StgP (fn13 cl) := fun d m hd hm => by
  have v0 : EV (mVar 0) [dd d, dd (nt m), none, none] d := ev_var rfl
  have vx : sTup d m = true → EV (bin dIx (mVar 0) (mC (.int 0))) [dd d, dd (nt m), none, none] (ix d 0) := fun h => ev_ix (k := 0) v0 (tup2 h).1 (by rw [(tup2 h).2]; exact hm)
  have t : TB (mOrT (mB (bin dLt (mVar 1) (mC (.int 1)))) (mOrT (mNotT (mTru (mCall (cl 4) (rVal (mVar 0) (rVal (mVar 1) rNil))))) (mNotT (mTru (un (dIsi Ty.tuple) (bin dIx (mVar 0) (mC (.int 0)))))))) [dd d, dd (nt m), none, none] (decide ((m : Int) < 1) || (!sTup d m || !isTup (ix d 0))) :=
    tb_or (tb_b (lt_b (ev_var rfl) (ev_c (d := .int 1)))) fun _ => tb_or (tb_not (tb_tru (v_call2 v0 (ev_var rfl) (T d m hd)))) fun k => tb_not (tb_tru (eb_isi (vx (by simpa using k)) (ix_in hd 0)))
  rw [show decide ((m : Int) < 1) = decide (m < 1) by by_cases h : m < 1 <;> simp [h] <;> omega] at t
  unfold stg
  by_cases hg : (decide (m < 1) || (!sTup d m || !isTup (ix d 0))) = true
  · rw [if_pos hg]
    rw [hg] at t
    exact c_fn (ρ0 := [dd d, dd (nt m), none, none]) rfl rfl (c_seqR (c_ifT t (c_ret rfl rfl))) rfl
  · rw [if_neg hg]
    have hg' : (decide (m < 1) || (!sTup d m || !isTup (ix d 0))) = false := by simpa using hg
    rw [hg'] at t
    rw [Bool.or_eq_false_iff, Bool.or_eq_false_iff] at hg'
    have k1 : sTup d m = true := by simpa using hg'.2.1
    have k2 : isTup (ix d 0) = true := by simpa using hg'.2.2
    have hn : (items (ix d 0)).length = (items (ix d 0)).length := rfl
    generalize hN : (items (ix d 0)).length = n at *
    have s2 : mSet 2 (un dLen (bin dIx (mVar 0) (mC (.int 0)))) [dd d, dd (nt m), none, none] = some (.next, [dd d, dd (nt m), dd (nt n), none]) := by
      have := vv_len (vx k1) k2
      rw [hN] at this
      exact c_set this rfl
    have ha : TB (mTru (un dAll (mComp (mISeq (mVar 0)) (mN 3) mYes (mCall (cl 12) (rVal (mVar 3) (rVal (mVar 2) rNil))) [3]))) [dd d, dd (nt m), dd (nt n), none] ((items d).all fun x => sMat x n) :=
      tb_tru (eb_all (ρ' := fun x => [dd d, dd (nt m), dd (nt n), dd x]) (sq_var rfl (tup2 k1).1) (in_len hd) (fun x hx => v_call2 (ev_var rfl) (ev_var rfl) (Mt x n (in_mem hd hx))) (fun _ => rfl) rfl rfl (fun _ => rfl) rfl)
    by_cases hA : ((items d).all fun x => sMat x n) = true
    · rw [if_pos hA]
      rw [hA] at ha
      exact c_fn (ρ0 := [dd d, dd (nt m), none, none]) rfl rfl (c_seq (c_ifF t c_skip) (c_seq s2 (c_ret (mif_T (x := some (.slot 2, _)) ha rfl) rfl))) rfl
    · rw [if_neg hA]
      have hA' : ((items d).all fun x => sMat x n) = false := by simpa using hA
      rw [hA'] at ha
      exact c_fn (ρ0 := [dd d, dd (nt m), none, none]) rfl rfl (c_seq (c_ifF t c_skip) (c_seq s2 (c_ret (mif_F (x := some (.val (.imm .none), _)) ha rfl) rfl))) rfl
theorem isnot_b {ρ : Fm} {me : ME} {o : Option Nat} (h : EV me ρ (oD o)) : EB (bin dIsNot me (mC .none)) ρ o.isSome := by
  refine v_bin h ev_c ?_
  cases o <;> rfl
theorem table_ok (T : TupP (cl 4)) (S : StgP (cl 13)) (P : PartsP (cl 11)) : TableP (fn14 cl) := fun d m hd hm => by
  have v0 : ∀ s2, EV (mVar 0) [dd d, dd (nt m), s2] d := fun _ => ev_var rfl
  have vx : ∀ (k : Nat) s2, k < 2 → sTup d 2 = true → EV (bin dIx (mVar 0) (mC (nt k))) [dd d, dd (nt m), s2] (ix d k) := fun k s2 hk h => ev_ix (v0 s2) (tup2 h).1 (by rw [(tup2 h).2]; exact hk)
  have t : TB (mNotT (mTru (mCall (cl 4) (rVal (mVar 0) (rVal (mC (.int 2)) rNil))))) [dd d, dd (nt m), none] (!sTup d 2) := tb_not (tb_tru (v_call2 (v0 none) (ev_c (d := nt 2)) (T d 2 hd)))
  unfold B2 sTable
  cases hg : sTup d 2 with
  | false =>
    rw [hg] at t
    exact c_fn (ρ0 := [dd d, dd (nt m), none]) rfl rfl (c_seqR (c_ifT t (c_ret rfl rfl))) rfl
  | true =>
    rw [hg] at t
    have s2 : mSet 2 (mCall (cl 13) (rVal (bin dIx (mVar 0) (mC (.int 0))) (rVal (mVar 1) rNil))) [dd d, dd (nt m), none] = some (.next, [dd d, dd (nt m), dd (oD (stg (ix d 0) m))]) := c_set (v_call2 (vx 0 none (by decide) hg) (ev_var rfl) (S (ix d 0) m (ix_in hd 0) hm)) rfl
    have e : EB (mAnd (bin dIsNot (mVar 2) (mC .none)) (mCall (cl 11) (rVal (bin dIx (mVar 0) (mC (.int 1))) (rVal (mVar 1) (rVal (mVar 2) rNil))))) [dd d, dd (nt m), dd (oD (stg (ix d 0) m))] ((stg (ix d 0) m).isSome && (match stg (ix d 0) m with
      | some n => sParts (ix d 1) m n
      | none => false)) := eb_and (isnot_b (ev_var rfl)) fun k => by
        cases h : stg (ix d 0) m with
        | none => rw [h] at k; cases k
        | some n => exact v_call3 (vx 1 _ (by decide) hg) (ev_var rfl) (ev_var rfl) (P (ix d 1) m n (ix_in hd 1))
    have e2 : ((stg (ix d 0) m).isSome && (match stg (ix d 0) m with
      | some n => sParts (ix d 1) m n
      | none => false)) = (true && (match stg (ix d 0) m with
      | some n => sParts (ix d 1) m n
      | none => false)) := by cases stg (ix d 0) m <;> rfl
    rw [e2] at e
    exact c_fn (ρ0 := [dd d, dd (nt m), none]) rfl rfl (c_seq (c_ifF t c_skip) (c_seq s2 (c_ret e rfl))) rfl
theorem sheet_ok (T : TupP (cl 4)) (S : StgP (cl 13)) (P : PartsP (cl 11)) : SheetP (fn15 cl) := fun d m hd hm => by
  have v0 : ∀ s2, EV (mVar 0) [dd d, dd (nt m), s2, none] d := fun _ => ev_var rfl
  have vx : ∀ (k : Nat) s2, k < 2 → sTup d 2 = true → EV (bin dIx (mVar 0) (mC (nt k))) [dd d, dd (nt m), s2, none] (ix d k) := fun k s2 hk h => ev_ix (v0 s2) (tup2 h).1 (by rw [(tup2 h).2]; exact hk)
  have t : TB (mOrT (mNotT (mTru (mCall (cl 4) (rVal (mVar 0) (rVal (mC (.int 2)) rNil))))) (mNotT (mTru (un (dIsi Ty.tuple) (bin dIx (mVar 0) (mC (.int 1))))))) [dd d, dd (nt m), none, none] (!sTup d 2 || !isTup (ix d 1)) :=
    tb_or (tb_not (tb_tru (v_call2 (v0 none) (ev_c (d := nt 2)) (T d 2 hd)))) fun k => tb_not (tb_tru (eb_isi (vx 1 none (by decide) (by simpa using k)) (ix_in hd 1)))
  unfold B2 sSheet
  cases hg : sTup d 2 with
  | false =>
    rw [hg] at t
    exact c_fn (ρ0 := [dd d, dd (nt m), none, none]) rfl rfl (c_seqR (c_ifT t (c_ret rfl rfl))) rfl
  | true =>
    rw [hg] at t
    cases hg2 : isTup (ix d 1) with
    | false =>
      rw [hg2] at t
      exact c_fn (ρ0 := [dd d, dd (nt m), none, none]) rfl rfl (c_seqR (c_ifT t (c_ret rfl rfl))) rfl
    | true =>
      rw [hg2] at t
      have s2 : mSet 2 (mCall (cl 13) (rVal (bin dIx (mVar 0) (mC (.int 0))) (rVal (mVar 1) rNil))) [dd d, dd (nt m), none, none] = some (.next, [dd d, dd (nt m), dd (oD (stg (ix d 0) m)), none]) := c_set (v_call2 (vx 0 none (by decide) hg) (ev_var rfl) (S (ix d 0) m (ix_in hd 0) hm)) rfl
      have e : EB (mAnd (bin dIsNot (mVar 2) (mC .none)) (un dAll (mComp (mISeq (bin dIx (mVar 0) (mC (.int 1)))) (mN 3) mYes (mCall (cl 11) (rVal (mVar 3) (rVal (mVar 1) (rVal (mVar 2) rNil)))) [3]))) [dd d, dd (nt m), dd (oD (stg (ix d 0) m)), none] ((stg (ix d 0) m).isSome && (match stg (ix d 0) m with
        | some n => (items (ix d 1)).all fun x => sParts x m n
        | none => false)) := eb_and (isnot_b (ev_var rfl)) fun k => by
          cases h : stg (ix d 0) m with
          | none => rw [h] at k; cases k
          | some n => exact eb_all (ρ' := fun x => [dd d, dd (nt m), dd (nt n), dd x]) (sq_ev (vx 1 _ (by decide) hg) hg2) (in_len (ix_in hd 1)) (fun x hx => v_call3 (ev_var rfl) (ev_var rfl) (ev_var rfl) (P x m n (in_mem (ix_in hd 1) hx))) (fun _ => rfl) rfl rfl (fun _ => rfl) rfl
      have e2 : ((stg (ix d 0) m).isSome && (match stg (ix d 0) m with
        | some n => (items (ix d 1)).all fun x => sParts x m n
        | none => false)) = (true && (true && (match stg (ix d 0) m with
        | some n => (items (ix d 1)).all fun x => sParts x m n
        | none => false))) := by cases stg (ix d 0) m <;> rfl
      rw [e2] at e
      exact c_fn (ρ0 := [dd d, dd (nt m), none, none]) rfl rfl (c_seq (c_ifF t c_skip) (c_seq s2 (c_ret e rfl))) rfl
/-! the same by the law -/
theorem band_ok (F : FracP (cl 29)) : RowP (fn35 cl) := fun d n hd => by
  have h : EB (mAnd (un (dIsi Ty.tuple) (mVar 0)) (mAnd (bin dEq (un dLen (mVar 0)) (mVar 1)) (un dAll (mComp (mISeq (mVar 0)) (mN 2) mYes (mCall (cl 29) (rVal (mVar 2) rNil)) [2])))) [dd d, dd (nt n), none] (isTup d && (decide ((items d).length = n) && (items d).all sFrac)) :=
    eb_and (eb_isi (ev_var rfl) hd) fun k => eb_and (v_bin (ev_len (me := mVar 0) (ev_var rfl) k) (ev_var (i := 1) rfl) (eq_len _ _)) fun _ => eb_all (ρ' := fun x => [dd d, dd (nt n), dd x]) (sq_var rfl k) (in_len hd) (fun x hx => v_call1 (ev_var rfl) (F x (in_mem hd hx))) (fun _ => rfl) rfl rfl (fun _ => rfl) rfl
  have e : (isTup d && (decide ((items d).length = n) && (items d).all sFrac)) = sRow d n := by unfold sRow sTup; rw [Bool.and_assoc]
  rw [e] at h
  exact c_fn (ρ0 := [dd d, dd (nt n), none]) rfl rfl (c_ret h rfl) rfl
theorem weights_ok (R : RowP (cl 35)) : PartsP (fn37 cl) := fun d m n hd => by
  have h : EB (mAnd (un (dIsi Ty.tuple) (mVar 0)) (mAnd (bin dEq (un dLen (mVar 0)) (mVar 1)) (un dAll (mComp (mISeq (mVar 0)) (mN 3) mYes (mCall (cl 35) (rVal (mVar 3) (rVal (mVar 2) rNil))) [3])))) [dd d, dd (nt m), dd (nt n), none] (isTup d && (decide ((items d).length = m) && (items d).all fun x => sRow x n)) :=
    eb_and (eb_isi (ev_var rfl) hd) fun k => eb_and (v_bin (ev_len (me := mVar 0) (ev_var rfl) k) (ev_var (i := 1) rfl) (eq_len _ _)) fun _ => eb_all (ρ' := fun x => [dd d, dd (nt m), dd (nt n), dd x]) (sq_var rfl k) (in_len hd) (fun x hx => v_call2 (ev_var rfl) (ev_var rfl) (R x n (in_mem hd hx))) (fun _ => rfl) rfl rfl (fun _ => rfl) rfl
  have e : (isTup d && (decide ((items d).length = m) && (items d).all fun x => sRow x n)) = sParts d m n := by unfold sParts sTup; rw [Bool.and_assoc]
  rw [e] at h
  exact c_fn (ρ0 := [dd d, dd (nt m), dd (nt n), none]) rfl rfl (c_ret h rfl) rfl
def bkB (cl : Nat → Fn) : MS := (mIfS (mOrT (mNotT (mTru (un (dIsi Ty.tuple) (mVar 3)))) (mOrT (mB (bin dNe (un dLen (mVar 3)) (mVar 2))) (mNotT (mTru (un dAll (mComp (mISeq (mVar 3)) (mN 4) mYes (mCall (cl 35) (rVal (mVar 4) (rVal (mVar 2) rNil))) [4])))))) (mRet (mC .none)) mNext)
theorem bk_step (R : RowP (cl 35)) {d x : D} {m n : Nat} (hx : In x) : TB (mOrT (mNotT (mTru (un (dIsi Ty.tuple) (mVar 3)))) (mOrT (mB (bin dNe (un dLen (mVar 3)) (mVar 2))) (mNotT (mTru (un dAll (mComp (mISeq (mVar 3)) (mN 4) mYes (mCall (cl 35) (rVal (mVar 4) (rVal (mVar 2) rNil))) [4])))))) [dd d, dd (nt m), dd (nt n), dd x, none] (!sMat x n) := by
  have t : TB (mOrT (mNotT (mTru (un (dIsi Ty.tuple) (mVar 3)))) (mOrT (mB (bin dNe (un dLen (mVar 3)) (mVar 2))) (mNotT (mTru (un dAll (mComp (mISeq (mVar 3)) (mN 4) mYes (mCall (cl 35) (rVal (mVar 4) (rVal (mVar 2) rNil))) [4])))))) [dd d, dd (nt m), dd (nt n), dd x, none] (!isTup x || (!decide ((items x).length = n) || !((items x).all fun y => sRow y n))) :=
    tb_or (tb_not (tb_tru (eb_isi (ev_var rfl) hx))) fun k => tb_or (tb_b (v_bin (ev_len (me := mVar 3) (ev_var rfl) (by simpa using k)) (ev_var (i := 2) rfl) (ne_nat _ _))) fun _ => tb_not (tb_tru (eb_all (ρ' := fun y => [dd d, dd (nt m), dd (nt n), dd x, dd y]) (sq_var rfl (by simpa using k)) (in_len hx) (fun y hy => v_call2 (ev_var rfl) (ev_var rfl) (R y n (in_mem hx hy))) (fun _ => rfl) rfl rfl (fun _ => rfl) rfl))
  have e : (!isTup x || (!decide ((items x).length = n) || !((items x).all fun y => sRow y n))) = !sMat x n := by
    unfold sMat sTup
    cases isTup x <;> cases decide ((items x).length = n) <;> cases ((items x).all fun y => sRow y n) <;> rfl
  rw [e] at t
  exact t
theorem bk_loop (R : RowP (cl 35)) {d : D} {m n : Nat} : ∀ (xs : List D) (s3 : Option Sv), (∀ x ∈ xs, In x) → (∃ y3, (xs.all fun x => sMat x n) = true ∧ loop (mN 3) (bkB cl) xs [dd d, dd (nt m), dd (nt n), s3, none] = some (.next, [dd d, dd (nt m), dd (nt n), y3, none])) ∨ ∃ y3, (xs.all fun x => sMat x n) = false ∧ loop (mN 3) (bkB cl) xs [dd d, dd (nt m), dd (nt n), s3, none] = some (.ret (.imm .none), [dd d, dd (nt m), dd (nt n), y3, none])
  | [], s3, _ => .inl ⟨s3, rfl, rfl⟩
  | x :: xs, s3, h => by
    have t := bk_step (d := d) (m := m) (n := n) R (h x (List.mem_cons_self ..))
    rw [List.all_cons]
    cases hx : sMat x n with
    | false =>
      rw [hx] at t
      exact .inr ⟨dd x, rfl, c_cons_ret rfl (c_ifT t (c_ret rfl rfl))⟩
    | true =>
      rw [hx] at t
      rcases bk_loop R xs (dd x) (fun y hy => h y (List.mem_cons_of_mem _ hy)) with ⟨y3, e1, e2⟩ | ⟨y3, e1, e2⟩
      · exact .inl ⟨y3, by rw [e1]; rfl, c_cons rfl (c_ifF t c_skip) e2⟩
      · exact .inr ⟨y3, by rw [e1]; rfl, c_cons rfl (c_ifF t c_skip) e2⟩
theorem block_ok (R : RowP (cl 35)) : StgP (fn36 cl) := fun d m hd hm => by
  have v0 : EV (mVar 0) [dd d, dd (nt m), none, none, none] d := ev_var rfl
  have vx : sTup d m = true → EV (bin dIx (mVar 0) (mC (.int 0))) [dd d, dd (nt m), none, none, none] (ix d 0) := fun h => ev_ix (k := 0) v0 (tup2 h).1 (by rw [(tup2 h).2]; exact hm)
  have t : TB (mOrT (mNotT (mTru (un (dIsi Ty.tuple) (mVar 0)))) (mOrT (mB (bin dNe (un dLen (mVar 0)) (mVar 1))) (mNotT (mTru (un (dIsi Ty.tuple) (bin dIx (mVar 0) (mC (.int 0)))))))) [dd d, dd (nt m), none, none, none] (!isTup d || (!decide ((items d).length = m) || !isTup (ix d 0))) :=
    tb_or (tb_not (tb_tru (eb_isi v0 hd))) fun k => tb_or (tb_b (v_bin (ev_len v0 (by simpa using k)) (ev_var (i := 1) rfl) (ne_nat _ _))) fun k2 => tb_not (tb_tru (eb_isi (vx (by unfold sTup; simp at k k2; rw [k, decide_eq_true k2]; rfl)) (ix_in hd 0)))
  have e : (!isTup d || (!decide ((items d).length = m) || !isTup (ix d 0))) = (decide (m < 1) || (!sTup d m || !isTup (ix d 0))) := by
    rw [show decide (m < 1) = false from decide_eq_false (by omega)]
    unfold sTup
    cases isTup d <;> cases decide ((items d).length = m) <;> cases isTup (ix d 0) <;> rfl
  rw [e] at t
  unfold stg
  by_cases hg : (decide (m < 1) || (!sTup d m || !isTup (ix d 0))) = true
  · rw [if_pos hg]
    rw [hg] at t
    exact c_fn (ρ0 := [dd d, dd (nt m), none, none, none]) rfl rfl (c_seqR (c_ifT t (c_ret rfl rfl))) rfl
  · rw [if_neg hg]
    have hg' : (decide (m < 1) || (!sTup d m || !isTup (ix d 0))) = false := by simpa using hg
    rw [hg'] at t
    rw [Bool.or_eq_false_iff, Bool.or_eq_false_iff] at hg'
    have k1 : sTup d m = true := by simpa using hg'.2.1
    have k2 : isTup (ix d 0) = true := by simpa using hg'.2.2
    generalize hN : (items (ix d 0)).length = n at *
    have s2 : mSet 2 (un dLen (bin dIx (mVar 0) (mC (.int 0)))) [dd d, dd (nt m), none, none, none] = some (.next, [dd d, dd (nt m), dd (nt n), none, none]) := by
      have := vv_len (vx k1) k2
      rw [hN] at this
      exact c_set this rfl
    have sq : mISeq (mVar 0) [dd d, dd (nt m), dd (nt n), none, none] = some (items d, [dd d, dd (nt m), dd (nt n), none, none]) := sq_var rfl (tup2 k1).1
    rcases bk_loop (d := d) (m := m) (n := n) R (items d) none fun x hx => in_mem hd hx with ⟨y3, e1, e2⟩ | ⟨y3, e1, e2⟩
    · rw [if_pos e1]
      exact c_fn (ρ0 := [dd d, dd (nt m), none, none, none]) rfl rfl (c_seq (c_ifF t c_skip) (c_seq s2 (c_seq (c_for sq e2) (c_ret rfl rfl)))) rfl
    · rw [if_neg (by rw [e1]; decide)]
      exact c_fn (ρ0 := [dd d, dd (nt m), none, none, none]) rfl rfl (c_seq (c_ifF t c_skip) (c_seq s2 (c_seqR (c_for sq e2)))) rfl
def BoardP (f : Fn) : Prop := ∀ (d : D) (m : Nat) (b : Bool), In d → 1 ≤ m → B3 f d (nt m) (.bool b) (if b = true then sTable d m else sSheet d m)
theorem board_ok (S : StgP (cl 36)) (P : PartsP (cl 37)) : BoardP (fn38 cl) := fun d m b hd hm => by
  have v0 : ∀ s3, EV (mVar 0) [dd d, dd (nt m), dd (.bool b), s3, none] d := fun _ => ev_var rfl
  have vx : ∀ (k : Nat) s3, k < 2 → sTup d 2 = true → EV (bin dIx (mVar 0) (mC (nt k))) [dd d, dd (nt m), dd (.bool b), s3, none] (ix d k) := fun k s3 hk h => ev_ix (v0 s3) (tup2 h).1 (by rw [(tup2 h).2]; exact hk)
  have t : TB (mOrT (mNotT (mTru (un (dIsi Ty.tuple) (mVar 0)))) (mB (bin dNe (un dLen (mVar 0)) (mC (.int 2))))) [dd d, dd (nt m), dd (.bool b), none, none] (!isTup d || !decide ((items d).length = 2)) :=
    tb_or (tb_not (tb_tru (eb_isi (v0 none) hd))) fun k => tb_b (v_bin (ev_len (v0 none) (by simpa using k)) (ev_c (d := nt 2)) (ne_nat _ _))
  rw [show (!isTup d || !decide ((items d).length = 2)) = !sTup d 2 by unfold sTup; cases isTup d <;> simp] at t
  unfold B3 sTable sSheet
  cases hg : sTup d 2 with
  | false =>
    rw [hg] at t
    have : (if b = true then (false && (match stg (ix d 0) m with
      | some n => sParts (ix d 1) m n
      | none => false)) else (false && (isTup (ix d 1) && (match stg (ix d 0) m with
      | some n => (items (ix d 1)).all fun x => sParts x m n
      | none => false)))) = false := by cases b <;> rfl
    rw [this]
    exact c_fn (ρ0 := [dd d, dd (nt m), dd (.bool b), none, none]) rfl rfl (c_seqR (c_ifT t (c_ret rfl rfl))) rfl
  | true =>
    rw [hg] at t
    have s3 : mSet 3 (mCall (cl 36) (rVal (bin dIx (mVar 0) (mC (.int 0))) (rVal (mVar 1) rNil))) [dd d, dd (nt m), dd (.bool b), none, none] = some (.next, [dd d, dd (nt m), dd (.bool b), dd (oD (stg (ix d 0) m)), none]) := c_set (v_call2 (vx 0 none (by decide) hg) (ev_var rfl) (S (ix d 0) m (ix_in hd 0) hm)) rfl
    have tn : TB (mB (bin dIs (mVar 3) (mC .none))) [dd d, dd (nt m), dd (.bool b), dd (oD (stg (ix d 0) m)), none] (!(stg (ix d 0) m).isSome) := tb_b (v_bin (ev_var rfl) ev_c (by cases stg (ix d 0) m <;> rfl))
    cases hs : stg (ix d 0) m with
    | none =>
      rw [hs] at tn s3
      have : (if b = true then (true && false) else (true && (isTup (ix d 1) && false))) = false := by cases b <;> simp
      rw [this]
      exact c_fn (ρ0 := [dd d, dd (nt m), dd (.bool b), none, none]) rfl rfl (c_seq (c_ifF t c_skip) (c_seq s3 (c_seqR (c_ifT tn (c_ret rfl rfl))))) rfl
    | some n =>
      rw [hs] at tn s3
      have tb : TB (mTru (mVar 2)) [dd d, dd (nt m), dd (.bool b), dd (nt n), none] b := c_tru rfl rfl (by cases b <;> rfl)
      cases b with
      | true =>
        have e : EB (mCall (cl 37) (rVal (bin dIx (mVar 0) (mC (.int 1))) (rVal (mVar 1) (rVal (mVar 3) rNil)))) [dd d, dd (nt m), dd (.bool true), dd (nt n), none] (sParts (ix d 1) m n) := v_call3 (vx 1 _ (by decide) hg) (ev_var rfl) (ev_var rfl) (P (ix d 1) m n (ix_in hd 1))
        rw [if_pos rfl]
        exact c_fn (ρ0 := [dd d, dd (nt m), dd (.bool true), none, none]) rfl rfl (c_seq (c_ifF t c_skip) (c_seq s3 (c_seq (c_ifF tn c_skip) (c_seqR (c_ifT tb (c_ret e rfl)))))) rfl
      | false =>
        have e : EB (mAnd (un (dIsi Ty.tuple) (bin dIx (mVar 0) (mC (.int 1)))) (un dAll (mComp (mISeq (bin dIx (mVar 0) (mC (.int 1)))) (mN 4) mYes (mCall (cl 37) (rVal (mVar 4) (rVal (mVar 1) (rVal (mVar 3) rNil)))) [4]))) [dd d, dd (nt m), dd (.bool false), dd (nt n), none] (isTup (ix d 1) && (items (ix d 1)).all fun x => sParts x m n) :=
          eb_and (eb_isi (vx 1 _ (by decide) hg) (ix_in hd 1)) fun k => eb_all (ρ' := fun x => [dd d, dd (nt m), dd (.bool false), dd (nt n), dd x]) (sq_ev (vx 1 _ (by decide) hg) k) (in_len (ix_in hd 1)) (fun x hx => v_call3 (ev_var rfl) (ev_var rfl) (ev_var rfl) (P x m n (in_mem (ix_in hd 1) hx))) (fun _ => rfl) rfl rfl (fun _ => rfl) rfl
        rw [if_neg (by decide)]
        exact c_fn (ρ0 := [dd d, dd (nt m), dd (.bool false), none, none]) rfl rfl (c_seq (c_ifF t c_skip) (c_seq s3 (c_seq (c_ifF tn c_skip) (c_seq (c_ifF tb c_skip) (c_ret e rfl))))) rfl
end
end K01

namespace K01
open PySem Vi PyProof.Rows
/-! polys and changes -/
def zD : D := .tuple ([0, 1].map .int)
def sTerm (d : D) (m : Nat) : Bool := sTup d 2 && (sTup (ix d 0) m && ((items (ix d 0)).all sCount && (sFrac (ix d 1) && !PyData.eqv (ix d 1) zD)))
/-- what ascends -/
def adj : List D → List Bool
  | a :: b :: r => W.dataLt a b :: adj (b :: r)
  | _ => []
def sPoly (d : D) (m : Nat) : Bool := isTup d && ((items d).all (fun x => sTerm x m) && (adj ((items d).map fun x => ix x 0)).all id)
def sChange (d : D) : Bool := isTup d && (!(items d).isEmpty && (isTup (ix d 0) && (!(items (ix d 0)).isEmpty && (items d).all fun x => sTup x (items (ix d 0)).length && (items x).all fun y => sPoly y (items (ix d 0)).length)))
def CountP (f : Fn) : Prop := ∀ d, In d → B1 f d (sCount d)
def TermP (f : Fn) : Prop := ∀ (d : D) (m : Nat), In d → B2 f d (nt m) (sTerm d m)
def PolyP (f : Fn) : Prop := ∀ (d : D) (m : Nat), In d → B2 f d (nt m) (sPoly d m)
def ChangeP (f : Fn) : Prop := ∀ d : D, In d → B1 f d (sChange d)
theorem in_z : In zD := rfl
theorem ok_z : okD zD = true := in_ok in_z
theorem ne_b {ρ : Fm} {ma mb : ME} {x y : D} (h1 : EV ma ρ x) (h2 : EV mb ρ y) (hx : okD x = true) (hy : okD y = true) : EB (bin dNe ma mb) ρ (!PyData.eqv x y) := v_bin h1 h2 (by unfold dNe; rw [hx, hy]; rfl)
section
variable {cl : Nat → Fn}
theorem term_ok (T : TupP (cl 4)) (C : CountP (cl 3)) (F : FracP (cl 8)) : TermP (fn17 cl) := fun d m hd => by
  have v0 : EV (mVar 0) [dd d, dd (nt m), none] d := ev_var rfl
  have vx : ∀ (k : Nat), k < 2 → sTup d 2 = true → EV (bin dIx (mVar 0) (mC (nt k))) [dd d, dd (nt m), none] (ix d k) := fun k hk h => ev_ix v0 (tup2 h).1 (by rw [(tup2 h).2]; exact hk)
  have t : TB (mOrT (mNotT (mTru (mCall (cl 4) (rVal (mVar 0) (rVal (mC (.int 2)) rNil))))) (mNotT (mTru (mCall (cl 4) (rVal (bin dIx (mVar 0) (mC (.int 0))) (rVal (mVar 1) rNil)))))) [dd d, dd (nt m), none] (!sTup d 2 || !sTup (ix d 0) m) :=
    tb_or (tb_not (tb_tru (v_call2 v0 (ev_c (d := nt 2)) (T d 2 hd)))) fun k => tb_not (tb_tru (v_call2 (vx 0 (by decide) (by simpa using k)) (ev_var rfl) (T (ix d 0) m (ix_in hd 0))))
  have e := fn_guard (me := mAnd (un dAll (mComp (mISeq (bin dIx (mVar 0) (mC (.int 0)))) (mN 2) mYes (mCall (cl 3) (rVal (mVar 2) rNil)) [2])) (mAnd (mCall (cl 8) (rVal (bin dIx (mVar 0) (mC (.int 1))) rNil)) (bin dNe (bin dIx (mVar 0) (mC (.int 1))) (mC (.tuple ([0, 1].map .int)))))) (b := (items (ix d 0)).all sCount && (sFrac (ix d 1) && !PyData.eqv (ix d 1) zD)) t fun k => by
    rw [Bool.or_eq_false_iff] at k
    have k1 : sTup d 2 = true := by simpa using k.1
    have k2 : sTup (ix d 0) m = true := by simpa using k.2
    exact eb_and (eb_all (ρ' := fun x => [dd d, dd (nt m), dd x]) (sq_ev (vx 0 (by decide) k1) (tup2 k2).1) (in_len (ix_in hd 0)) (fun x hx => v_call1 (ev_var rfl) (C x (in_mem (ix_in hd 0) hx))) (fun _ => rfl) rfl rfl (fun _ => rfl) rfl) fun _ => eb_and (v_call1 (vx 1 (by decide) k1) (F _ (ix_in hd 1))) fun _ => ne_b (vx 1 (by decide) k1) ev_c (in_ok (ix_in hd 1)) ok_z
  have hs : (!(!sTup d 2 || !sTup (ix d 0) m) && ((items (ix d 0)).all sCount && (sFrac (ix d 1) && !PyData.eqv (ix d 1) zD))) = sTerm d m := by
    unfold sTerm
    cases sTup d 2 <;> cases sTup (ix d 0) m <;> rfl
  rw [hs] at e
  exact c_fn (ρ0 := [dd d, dd (nt m), none]) rfl rfl e rfl
/-- keys -/
structure Ky (x : D) : Prop where
  tup : isTup x = true
  num : (items x).all sCount = true
  inn : In x
theorem alike_ints : ∀ {xs ys : List D}, xs.all sCount = true → ys.all sCount = true → W.alikeAll xs ys = true
  | [], _, _, _ => by simp [W.alikeAll]
  | _ :: _, [], _, _ => by simp [W.alikeAll]
  | x :: xs, y :: ys, h1, h2 => by
    rw [List.all_cons, Bool.and_eq_true] at h1 h2
    rw [W.alikeAll, alike_ints h1.2 h2.2]
    obtain ⟨i, rfl⟩ : ∃ i, x = .int i := by have := h1.1; cases x <;> first | exact ⟨_, rfl⟩ | cases this
    obtain ⟨j, rfl⟩ : ∃ i, y = .int i := by have := h2.1; cases y <;> first | exact ⟨_, rfl⟩ | cases this
    simp [W.alike]
theorem lt_ky {x y : D} (hx : Ky x) (hy : Ky y) : dLtA x y = some (.imm (.bool (W.dataLt x y))) := by
  have ex := tup_of hx.tup
  have ey := tup_of hy.tup
  have ha : W.alike x y = true := by
    rw [ex, ey, W.alike]; exact alike_ints hx.num hy.num
  have ox := in_ok hx.inn
  have oy := in_ok hy.inn
  have hn : isNon x = false := by rw [ex]; rfl
  have h : (okD x && okD y && W.alike x y && !isNon x) = true := by rw [ox, oy, ha, hn]; rfl
  generalize items x = xs at *
  generalize items y = ys at *
  subst ex ey
  show (if (okD (PyData.tuple xs) && okD (.tuple ys) && W.alike (.tuple xs) (.tuple ys) && !isNon (.tuple xs)) = true then some (Sv.imm (.bool (W.dataLt (.tuple xs) (.tuple ys)))) else none) = _
  rw [if_pos h]
theorem adj_range : ∀ (L : List D), adj L = (List.range (L.length - 1)).map fun k => W.dataLt ((L[k]?).getD .none) ((L[k + 1]?).getD .none)
  | [] => rfl
  | [a] => rfl
  | a :: b :: r => by
    have ih := adj_range (b :: r)
    show W.dataLt a b :: adj (b :: r) = _
    rw [ih]
    show _ = (List.range (r.length + 1)).map _
    rw [List.range_succ_eq_map, List.map_cons, List.map_map]
    rfl
def AscP (f : Fn) : Prop := ∀ L : List D, L.length ≤ 1000 → (∀ x ∈ L, Ky x) → f [.imm (.list L)] = some (.imm (.bool ((adj L).all id)), [none])
theorem asc_ok : AscP (fn5 cl) := fun L hl hk => by
  have hlen : un dLen (mVar 0) [dd (.list L), none] = some (.val (.imm (.int (L.length : Int))), [dd (.list L), none]) := c_un rfl rfl rfl
  have hr : mIRng1 (mCons (bin dSub (un dLen (mVar 0)) (mC (.int 1))) mNil) [dd (.list L), none] = some (rngD 0 (L.length - 1), [dd (.list L), none]) := by
    have h1 : mCons (bin dSub (un dLen (mVar 0)) (mC (.int 1))) mNil [dd (.list L), none] = some ([.int ((L.length : Int) - 1)], [dd (.list L), none]) := c_acons (c_bin hlen rfl rfl rfl rfl) rfl c_anil
    unfold mIRng1
    rw [h1]
    simp only
    rw [if_pos (c_rng (by omega)), show ((L.length : Int) - 1).toNat = L.length - 1 by omega]
  have hc : cloop (mN 1) mYes (bin dLtA (bin dIx (mVar 0) (mVar 1)) (bin dIx (mVar 0) (bin dAdd (mVar 1) (mC (.int 1))))) [1] ((List.range (L.length - 1)).map fun k => .int (0 + (k : Nat))) [dd (.list L), none] = some ((List.range (L.length - 1)).map fun k => .bool (W.dataLt ((L[k]?).getD .none) ((L[k + 1]?).getD .none)), [dd (.list L), none]) :=
    c_cmap (fun k : Nat => .int (0 + (k : Nat))) (fun k => .bool (W.dataLt ((L[k]?).getD .none) ((L[k + 1]?).getD .none))) _ fun k hk2 => by
      have hk3 := List.mem_range.mp hk2
      have h1 : k < L.length := by omega
      have h2 : k + 1 < L.length := by omega
      have a1 : dIx (.list L) (.int (k : Int)) = some (.imm L[k]) := by
        show (L2.atI L (k : Int)).map Sv.imm = _
        rw [L2.atI_nat (List.getElem?_eq_getElem h1)]; rfl
      have a2 : dIx (.list L) (.int ((k + 1 : Nat) : Int)) = some (.imm L[k + 1]) := by
        show (L2.atI L ((k + 1 : Nat) : Int)).map Sv.imm = _
        rw [L2.atI_nat (List.getElem?_eq_getElem h2)]; rfl
      rw [Int.zero_add, List.getElem?_eq_getElem h1, List.getElem?_eq_getElem h2]
      exact ⟨[dd (.list L), ii (k : Int)], .val (.imm (.bool (W.dataLt L[k] L[k + 1]))), [dd (.list L), ii (k : Int)], [dd (.list L), ii (k : Int)], rfl, c_bin (c_bin rfl rfl rfl rfl a1) (c_bin (t := .int ((k + 1 : Nat) : Int)) rfl (c_bin rfl rfl rfl rfl rfl) rfl rfl a2) rfl rfl (lt_ky (hk _ (List.getElem_mem h1)) (hk _ (List.getElem_mem h2))), rfl, rfl⟩
  have e := all_of (fun b : Bool => b) (adj L)
  have em : (adj L).map (fun b => (.bool b : D)) = (List.range (L.length - 1)).map fun k => .bool (W.dataLt ((L[k]?).getD .none) ((L[k + 1]?).getD .none)) := by rw [adj_range, List.map_map]; rfl
  rw [em] at e
  exact c_fn (ρ0 := [dd (.list L), none]) rfl rfl (c_ret (c_un (c_comp hr rfl hc (c_fits (by rw [List.length_map, List.length_range]; omega)) rfl) rfl e) rfl) rfl
theorem term_ky {x : D} {m : Nat} (hx : In x) (h : sTerm x m = true) : Ky (ix x 0) := by
  unfold sTerm at h
  rw [Bool.and_eq_true, Bool.and_eq_true, Bool.and_eq_true] at h
  exact ⟨(tup2 h.2.1).1, h.2.2.1, ix_in hx 0⟩
theorem term_two {x : D} {m : Nat} (h : sTerm x m = true) : x = .tuple [ix x 0, ix x 1] := by
  unfold sTerm at h
  rw [Bool.and_eq_true] at h
  have h1 := tup2 h.1
  have h2 := tup_of h1.1
  have h3 := h1.2
  unfold ix
  generalize items x = xs at *
  match xs, h3 with
  | [a, b], _ => exact h2
theorem poly_ok (Tm : TermP (cl 17)) (A : AscP (cl 5)) : PolyP (fn18 cl) := fun d m hd => by
  have v0 : EV (mVar 0) [dd d, dd (nt m), none, none, none] d := ev_var rfl
  have t : TB (mOrT (mNotT (mTru (un (dIsi Ty.tuple) (mVar 0)))) (mNotT (mTru (un dAll (mComp (mISeq (mVar 0)) (mN 2) mYes (mCall (cl 17) (rVal (mVar 2) (rVal (mVar 1) rNil))) [2]))))) [dd d, dd (nt m), none, none, none] (!isTup d || !((items d).all fun x => sTerm x m)) :=
    tb_or (tb_not (tb_tru (eb_isi v0 hd))) fun k => tb_not (tb_tru (eb_all (ρ' := fun x => [dd d, dd (nt m), dd x, none, none]) (sq_var rfl (by simpa using k)) (in_len hd) (fun x hx => v_call2 (ev_var rfl) (ev_var rfl) (Tm x m (in_mem hd hx))) (fun _ => rfl) rfl rfl (fun _ => rfl) rfl))
  have e := fn_guard (me := mCall (cl 5) (rVal (mComp (mISeq (mVar 0)) (mGseq 2 (mGcons (mN 3) (mGcons (mN 4) mGnil))) mYes (mVar 3) [3, 4]) rNil)) (b := (adj ((items d).map fun x => ix x 0)).all id) t fun k => by
    rw [Bool.or_eq_false_iff] at k
    have k1 : isTup d = true := by simpa using k.1
    have k2 : ((items d).all fun x => sTerm x m) = true := by simpa using k.2
    rw [List.all_eq_true] at k2
    have hc : cloop (mGseq 2 (mGcons (mN 3) (mGcons (mN 4) mGnil))) mYes (mVar 3) [3, 4] ((items d).map id) [dd d, dd (nt m), none, none, none] = some ((items d).map fun x => ix x 0, [dd d, dd (nt m), none, none, none]) :=
      c_cmap id (fun x => ix x 0) (items d) fun x hx => by
        refine ⟨[dd d, dd (nt m), none, dd (ix x 0), dd (ix x 1)], .slot 3, [dd d, dd (nt m), none, dd (ix x 0), dd (ix x 1)], [dd d, dd (nt m), none, dd (ix x 0), dd (ix x 1)], ?_, rfl, rfl, rfl⟩
        have ex := term_two (k2 x hx)
        show mGseq 2 (mGcons (mN 3) (mGcons (mN 4) mGnil)) x [dd d, dd (nt m), none, none, none] = _
        generalize ix x 0 = a at *
        generalize ix x 1 = b at *
        rw [ex]; rfl
    rw [List.map_id] at hc
    have hcomp : mComp (mISeq (mVar 0)) (mGseq 2 (mGcons (mN 3) (mGcons (mN 4) mGnil))) mYes (mVar 3) [3, 4] [dd d, dd (nt m), none, none, none] = some (.val (.own .loc ((items d).map fun x => ix x 0)), [dd d, dd (nt m), none, none, none]) :=
      c_comp (ds := items d) (ρ1 := [dd d, dd (nt m), none, none, none]) (sq_var rfl k1) rfl hc (c_fits (by rw [List.length_map]; exact in_len hd)) rfl
    exact v_call1 (ev_own hcomp) (A _ (by rw [List.length_map]; exact bd_len hd) fun y hy => by
      obtain ⟨x, hx, rfl⟩ := List.mem_map.mp hy
      exact term_ky (in_mem hd hx) (k2 x hx))
  have hs : (!(!isTup d || !((items d).all fun x => sTerm x m)) && (adj ((items d).map fun x => ix x 0)).all id) = sPoly d m := by
    unfold sPoly
    cases isTup d <;> cases ((items d).all fun x => sTerm x m) <;> rfl
  rw [hs] at e
  exact c_fn (ρ0 := [dd d, dd (nt m), none, none, none]) rfl rfl e rfl
theorem tru_tup {ρ : Fm} {me : ME} {d : D} (h : EV me ρ d) (k : isTup d = true) : TB (mTru me) ρ (!(items d).isEmpty) := by
  obtain ⟨pr, h1, _, h3⟩ := h
  exact c_tru h1 h3 (by cases d <;> first | rfl | cases k)
theorem change_ok (T : TupP (cl 4)) (P : PolyP (cl 18)) : ChangeP (fn19 cl) := fun d hd => by
  have v0 : EV (mVar 0) [dd d, none, none, none] d := ev_var rfl
  have vx : isTup d = true → (!(items d).isEmpty) = true → EV (bin dIx (mVar 0) (mC (.int 0))) [dd d, none, none, none] (ix d 0) := fun h k => ev_ix (k := 0) v0 h (by
    cases e : items d with
    | nil => rw [e] at k; cases k
    | cons _ _ => simp)
  have t : TB (mOrT (mNotT (mTru (un (dIsi Ty.tuple) (mVar 0)))) (mOrT (mNotT (mTru (mVar 0))) (mOrT (mNotT (mTru (un (dIsi Ty.tuple) (bin dIx (mVar 0) (mC (.int 0)))))) (mNotT (mTru (bin dIx (mVar 0) (mC (.int 0)))))))) [dd d, none, none, none] (!isTup d || (!(!(items d).isEmpty) || (!isTup (ix d 0) || !(!(items (ix d 0)).isEmpty)))) :=
    tb_or (tb_not (tb_tru (eb_isi v0 hd))) fun k => tb_or (tb_not (tru_tup v0 (by simpa using k))) fun k2 => tb_or (tb_not (tb_tru (eb_isi (vx (by simpa using k) (by simpa using k2)) (ix_in hd 0)))) fun k3 => tb_not (tru_tup (vx (by simpa using k) (by simpa using k2)) (by simpa using k3))
  unfold B1
  by_cases hg : (!isTup d || (!(!(items d).isEmpty) || (!isTup (ix d 0) || !(!(items (ix d 0)).isEmpty)))) = true
  · rw [hg] at t
    have hs : sChange d = false := by
      unfold sChange
      revert hg
      cases isTup d <;> cases (items d).isEmpty <;> cases isTup (ix d 0) <;> cases (items (ix d 0)).isEmpty <;> simp
    rw [hs]
    exact c_fn (ρ0 := [dd d, none, none, none]) rfl rfl (c_seqR (c_ifT t (c_ret rfl rfl))) rfl
  · have hg' : (!isTup d || (!(!(items d).isEmpty) || (!isTup (ix d 0) || !(!(items (ix d 0)).isEmpty)))) = false := by simpa using hg
    rw [hg'] at t
    rw [Bool.or_eq_false_iff, Bool.or_eq_false_iff, Bool.or_eq_false_iff] at hg'
    have k1 : isTup d = true := by simpa using hg'.1
    have k2 : (!(items d).isEmpty) = true := by simpa using hg'.2.1
    have k3 : isTup (ix d 0) = true := by simpa using hg'.2.2.1
    have k4 : (!(items (ix d 0)).isEmpty) = true := by simpa using hg'.2.2.2
    have hs : sChange d = (items d).all fun x => sTup x (items (ix d 0)).length && (items x).all fun y => sPoly y (items (ix d 0)).length := by
      unfold sChange
      rw [k1, k2, k3, k4]; simp
    rw [hs]
    have s2 := c_set (i := 1) (ρ2 := [dd d, dd (nt (items (ix d 0)).length), none, none]) (vv_len (vx k1 k2) k3) rfl
    generalize (items (ix d 0)).length = n at *
    have e : EB (un dAll (mComp (mISeq (mVar 0)) (mN 2) mYes (mAnd (mCall (cl 4) (rVal (mVar 2) (rVal (mVar 1) rNil))) (un dAll (mComp (mISeq (mVar 2)) (mN 3) mYes (mCall (cl 18) (rVal (mVar 3) (rVal (mVar 1) rNil))) [3]))) [2])) [dd d, dd (nt n), none, none] ((items d).all fun x => sTup x n && (items x).all fun y => sPoly y n) :=
      eb_all (ρ' := fun x => [dd d, dd (nt n), dd x, none]) (sq_var rfl k1) (in_len hd) (fun x hx => eb_and (v_call2 (ev_var rfl) (ev_var rfl) (T x n (in_mem hd hx))) fun k => eb_all (ρ' := fun y => [dd d, dd (nt n), dd x, dd y]) (sq_var rfl (tup2 k).1) (in_len (in_mem hd hx)) (fun y hy => v_call2 (ev_var rfl) (ev_var rfl) (P y n (in_mem (in_mem hd hx) hy))) (fun _ => rfl) rfl rfl (fun _ => rfl) rfl) (fun _ => rfl) rfl rfl (fun _ => rfl) rfl
    exact c_fn (ρ0 := [dd d, none, none, none]) rfl rfl (c_seq (c_ifF t c_skip) (c_seq s2 (c_ret e rfl))) rfl
end
end K01

namespace K01
open PySem Vi PyProof.Rows
/-! polys and changes by the law -/
theorem cut_1 : ∀ L : List D, Vi.cutD L (some 1) none = L.drop 1
  | [] => rfl
  | d :: L => cut_off (d :: L) 1 (by simp)
theorem frac_zero {y : D} (h : sFrac y = true) : (iv (ix (y) 0) == 0) = PyData.eqv y zD ∧ isTup y = true ∧ (items y).length = 2 ∧ ix y 0 = .int (iv (ix y 0)) := by
  unfold sFrac at h
  rw [Bool.and_eq_true, Bool.and_eq_true, Bool.and_eq_true, Bool.and_eq_true] at h
  obtain ⟨h1, h2, h3, h4, h5⟩ := h
  have k := tup2 h1
  refine ⟨?_, k.1, k.2, num_of h2⟩
  have ht := tup_of k.1
  have hl := k.2
  have e0 := num_of h2
  have e1 := num_of h3
  have hd2 : y = .tuple [.int (iv (ix y 0)), .int (iv (ix y 1))] := by
    unfold ix at e0 e1 ⊢
    generalize items y = xs at *
    match xs, hl with
    | [a, b], _ =>
      have e0' : a = .int (iv a) := e0
      have e1' : b = .int (iv b) := e1
      rw [ht]
      show PyData.tuple [a, b] = .tuple [.int (iv a), .int (iv b)]
      rw [← e0', ← e1']
  have h4' := of_decide_eq_true h4
  have h5' : Nat.gcd (iv (ix y 0)).natAbs (iv (ix y 1)).natAbs = 1 := beq_iff_eq.mp h5
  clear h1 h2 h3 h4 h5 k ht hl e0 e1
  generalize iv (ix y 0) = a at *
  generalize iv (ix y 1) = b at *
  subst hd2
  show _ = PyData.eqv (.tuple [.int a, .int b]) (.tuple [.int 0, .int 1])
  rw [PyData.eqv, PyData.eqvAll, PyData.eqvAll, PyData.eqvAll, eqv_int, eqv_int]
  by_cases ha : a = 0
  · subst ha
    rw [show (0 : Int).natAbs = 0 from rfl, Nat.gcd_zero_left] at h5'
    have : b = 1 := by omega
    subst this
    rfl
  · rw [show (a == 0) = false from beq_eq_false_iff_ne.mpr ha]; rfl
section
variable {cl : Nat → Fn}
def lpA (cl : Nat → Fn) : MT := (mOrT (mNotT (mTru (un (dIsi Ty.tuple) (mVar 2)))) (mOrT (mB (bin dNe (un dLen (mVar 2)) (mC (.int 2)))) (mOrT (mNotT (mTru (un (dIsi Ty.tuple) (bin dIx (mVar 2) (mC (.int 0)))))) (mB (bin dNe (un dLen (bin dIx (mVar 2) (mC (.int 0)))) (mVar 1))))))
def lpB (cl : Nat → Fn) : MT := (mOrT (mNotT (mTru (un dAll (mComp (mISeq (bin dIx (mVar 2) (mC (.int 0)))) (mN 3) mYes (mAnd (mCall (cl 28) (rVal (mVar 3) rNil)) (bin dGe (mVar 3) (mC (.int 0)))) [3])))) (mOrT (mNotT (mTru (mCall (cl 29) (rVal (bin dIx (mVar 2) (mC (.int 1))) rNil)))) (mB (bin dEq (bin dIx (bin dIx (mVar 2) (mC (.int 1))) (mC (.int 0))) (mC (.int 0))))))
def lpS (cl : Nat → Fn) : MS := (mSeq (mIfS (lpA cl) (mRet (mC (.bool false))) mNext) (mIfS (lpB cl) (mRet (mC (.bool false))) mNext))
def lpZ : ME := (un dAll (mComp (mIZip (mCons (mVar 0) (mCons (mSl (mVar 0) (mPart (mC (.int 1))) mNoPart) mNil))) (mGtup 2 (mGcons (mN 4) (mGcons (mN 5) mGnil))) mYes (bin dLtA (bin dIx (mVar 4) (mC (.int 0))) (bin dIx (mVar 5) (mC (.int 0)))) [4, 5]))
theorem lpoly_fn (cl : Nat → Fn) : fn39 cl = mFn 6 2 (mSeq (mIfS (mNotT (mTru (un (dIsi Ty.tuple) (mVar 0)))) (mRet (mC (.bool false))) mNext) (mSeq (mFor (mISeq (mVar 0)) (mN 2) (lpS cl)) (mRet lpZ))) := rfl
abbrev PF (d : D) (m : Nat) (s2 s3 s4 s5 : Option Sv) : Fm := [dd d, dd (nt m), s2, s3, s4, s5]
theorem lp_step (N : NumP (cl 28)) (F : FracP (cl 29)) {d x : D} {m : Nat} (hx : In x) : (sTerm x m = true ∧ lpS cl (PF d m (dd x) none none none) = some (.next, PF d m (dd x) none none none)) ∨ (sTerm x m = false ∧ lpS cl (PF d m (dd x) none none none) = some (.ret (.imm (.bool false)), PF d m (dd x) none none none)) := by
  have v2 : EV (mVar 2) (PF d m (dd x) none none none) x := ev_var rfl
  have vx : ∀ (k : Nat), k < 2 → sTup x 2 = true → EV (bin dIx (mVar 2) (mC (nt k))) (PF d m (dd x) none none none) (ix x k) := fun k hk h => ev_ix v2 (tup2 h).1 (by rw [(tup2 h).2]; exact hk)
  have mk2 : isTup x = true → (items x).length = 2 → sTup x 2 = true := fun h1 h2 => by unfold sTup; rw [h1, decide_eq_true h2]; rfl
  have tA : TB (lpA cl) (PF d m (dd x) none none none) (!isTup x || (!decide ((items x).length = 2) || (!isTup (ix x 0) || !decide ((items (ix x 0)).length = m)))) :=
    tb_or (tb_not (tb_tru (eb_isi v2 hx))) fun k => tb_or (tb_b (v_bin (ev_len v2 (by simpa using k)) (ev_c (d := nt 2)) (ne_nat _ _))) fun k2 => tb_or (tb_not (tb_tru (eb_isi (vx 0 (by decide) (mk2 (by simpa using k) (by simpa using k2))) (ix_in hx 0)))) fun k3 => tb_b (v_bin (ev_len (vx 0 (by decide) (mk2 (by simpa using k) (by simpa using k2))) (by simpa using k3)) (ev_var (i := 1) rfl) (ne_nat _ _))
  have eA : (!isTup x || (!decide ((items x).length = 2) || (!isTup (ix x 0) || !decide ((items (ix x 0)).length = m)))) = !(sTup x 2 && sTup (ix x 0) m) := by
    unfold sTup
    cases isTup x <;> cases decide ((items x).length = 2) <;> cases isTup (ix x 0) <;> cases decide ((items (ix x 0)).length = m) <;> rfl
  rw [eA] at tA
  have hT : sTerm x m = (sTup x 2 && sTup (ix x 0) m && ((items (ix x 0)).all sCount && (sFrac (ix x 1) && !PyData.eqv (ix x 1) zD))) := by unfold sTerm; rw [Bool.and_assoc]
  rw [hT]
  cases hg : (sTup x 2 && sTup (ix x 0) m) with
  | false =>
    rw [hg] at tA
    exact .inr ⟨rfl, c_seqR (c_ifT tA (c_ret rfl rfl))⟩
  | true =>
    rw [hg] at tA
    rw [Bool.and_eq_true] at hg
    have w0 := vx 0 (by decide) hg.1
    have w1 := vx 1 (by decide) hg.1
    have tB : TB (lpB cl) (PF d m (dd x) none none none) (!((items (ix x 0)).all sCount) || (!sFrac (ix x 1) || PyData.eqv (ix x 1) zD)) := by
      refine tb_or (tb_not (tb_tru ?_)) fun _ => tb_or (tb_not (tb_tru (v_call1 w1 (F _ (ix_in hx 1))))) fun k2 => ?_
      · refine eb_all (ρ' := fun y => PF d m (dd x) (dd y) none none) (sq_ev w0 (tup2 hg.2).1) (in_len (ix_in hx 0)) (fun y hy => ?_) (fun _ => rfl) rfl rfl (fun _ => rfl) rfl
        have h : EB (mAnd (mCall (cl 28) (rVal (mVar 3) rNil)) (bin dGe (mVar 3) (mC (.int 0)))) (PF d m (dd x) (dd y) none none) (sNum y && sCount y) :=
          eb_and (v_call1 (ev_var rfl) (N y (in_mem (ix_in hx 0) hy))) fun k => by
            cases y with
            | int i => exact c_bin rfl rfl rfl rfl rfl
            | _ => cases k
        rw [show (sNum y && sCount y) = sCount y by cases y <;> rfl] at h
        exact h
      · obtain ⟨z1, z2, z3, z4⟩ := frac_zero (by simpa using k2 : sFrac (ix x 1) = true)
        have w10 := ev_ix (k := 0) w1 z2 (by rw [z3]; decide)
        rw [z4] at w10
        have := tb_b (v_bin w10 (ev_c (d := .int 0)) (eq_int _ _))
        rw [z1] at this
        exact this
    cases h : ((items (ix x 0)).all sCount && (sFrac (ix x 1) && !PyData.eqv (ix x 1) zD)) with
    | true =>
      rw [show (!((items (ix x 0)).all sCount) || (!sFrac (ix x 1) || PyData.eqv (ix x 1) zD)) = !((items (ix x 0)).all sCount && (sFrac (ix x 1) && !PyData.eqv (ix x 1) zD)) by cases (items (ix x 0)).all sCount <;> cases sFrac (ix x 1) <;> cases PyData.eqv (ix x 1) zD <;> rfl, h] at tB
      exact .inl ⟨rfl, c_seq (c_ifF tA c_skip) (c_ifF tB c_skip)⟩
    | false =>
      rw [show (!((items (ix x 0)).all sCount) || (!sFrac (ix x 1) || PyData.eqv (ix x 1) zD)) = !((items (ix x 0)).all sCount && (sFrac (ix x 1) && !PyData.eqv (ix x 1) zD)) by cases (items (ix x 0)).all sCount <;> cases sFrac (ix x 1) <;> cases PyData.eqv (ix x 1) zD <;> rfl, h] at tB
      exact .inr ⟨rfl, c_seq (c_ifF tA c_skip) (c_ifT tB (c_ret rfl rfl))⟩
theorem lp_loop (N : NumP (cl 28)) (F : FracP (cl 29)) {d : D} {m : Nat} : ∀ (xs : List D) (s2 : Option Sv), (∀ x ∈ xs, In x) → (∃ y2, (xs.all fun x => sTerm x m) = true ∧ loop (mN 2) (lpS cl) xs (PF d m s2 none none none) = some (.next, PF d m y2 none none none)) ∨ ∃ y2, (xs.all fun x => sTerm x m) = false ∧ loop (mN 2) (lpS cl) xs (PF d m s2 none none none) = some (.ret (.imm (.bool false)), PF d m y2 none none none)
  | [], s2, _ => .inl ⟨s2, rfl, rfl⟩
  | x :: xs, s2, h => by
    rw [List.all_cons]
    rcases lp_step (d := d) (m := m) N F (h x (List.mem_cons_self ..)) with ⟨e, k⟩ | ⟨e, k⟩
    · rw [e]
      rcases lp_loop N F xs (dd x) (fun y hy => h y (List.mem_cons_of_mem _ hy)) with ⟨y2, e1, e2⟩ | ⟨y2, e1, e2⟩
      · exact .inl ⟨y2, by rw [e1]; rfl, c_cons rfl k e2⟩
      · exact .inr ⟨y2, by rw [e1]; rfl, c_cons rfl k e2⟩
    · exact .inr ⟨dd x, by rw [e]; rfl, c_cons_ret rfl k⟩
theorem lpZ_loop {d : D} {m : Nat} {s2 : Option Sv} : ∀ (xs : List D), (∀ x ∈ xs, In x ∧ sTerm x m = true) → cloop (mGtup 2 (mGcons (mN 4) (mGcons (mN 5) mGnil))) mYes (bin dLtA (bin dIx (mVar 4) (mC (.int 0))) (bin dIx (mVar 5) (mC (.int 0)))) [4, 5] (zipD xs (xs.drop 1)) (PF d m s2 none none none) = some ((adj (xs.map fun x => ix x 0)).map fun b => .bool b, PF d m s2 none none none)
  | [], _ => rfl
  | [x], _ => rfl
  | x :: y :: r, h => by
    have ih := lpZ_loop (d := d) (m := m) (s2 := s2) (y :: r) fun z hz => h z (List.mem_cons_of_mem _ hz)
    obtain ⟨x1, x2⟩ := h x (by simp)
    obtain ⟨y1, y2⟩ := h y (by simp)
    have kx := term_ky x1 x2
    have ky := term_ky y1 y2
    have tx : sTup x 2 = true := by unfold sTerm at x2; rw [Bool.and_eq_true] at x2; exact x2.1
    have ty : sTup y 2 = true := by unfold sTerm at y2; rw [Bool.and_eq_true] at y2; exact y2.1
    have vx : EV (bin dIx (mVar 4) (mC (.int 0))) (PF d m s2 none (dd x) (dd y)) (ix x 0) := ev_ix (k := 0) (ev_var rfl) (tup2 tx).1 (by rw [(tup2 tx).2]; decide)
    have vy : EV (bin dIx (mVar 5) (mC (.int 0))) (PF d m s2 none (dd x) (dd y)) (ix y 0) := ev_ix (k := 0) (ev_var rfl) (tup2 ty).1 (by rw [(tup2 ty).2]; decide)
    have hb : bin dLtA (bin dIx (mVar 4) (mC (.int 0))) (bin dIx (mVar 5) (mC (.int 0))) (PF d m s2 none (dd x) (dd y)) = some (.val (.imm (.bool (W.dataLt (ix x 0) (ix y 0)))), PF d m s2 none (dd x) (dd y)) := v_bin vx vy (lt_ky kx ky)
    exact c_ccons (ρ1 := PF d m s2 none (dd x) (dd y)) rfl rfl hb rfl ih
theorem lpoly_ok (N : NumP (cl 28)) (F : FracP (cl 29)) : PolyP (fn39 cl) := fun d m hd => by
  have v0 : EV (mVar 0) (PF d m none none none none) d := ev_var rfl
  have t : TB (mNotT (mTru (un (dIsi Ty.tuple) (mVar 0)))) (PF d m none none none none) (!isTup d) := tb_not (tb_tru (eb_isi v0 hd))
  unfold B2 sPoly
  rw [lpoly_fn]
  cases hg : isTup d with
  | false =>
    rw [hg] at t
    exact c_fn (ρ0 := PF d m none none none none) rfl rfl (c_seqR (c_ifT t (c_ret rfl rfl))) rfl
  | true =>
    rw [hg] at t
    have sq : mISeq (mVar 0) (PF d m none none none none) = some (items d, PF d m none none none none) := sq_var rfl hg
    rcases lp_loop (d := d) (m := m) N F (items d) none fun x hx => in_mem hd hx with ⟨y2, e1, e2⟩ | ⟨y2, e1, e2⟩
    · rw [e1]
      have hsl : mSl (mVar 0) (mPart (mC (.int 1))) mNoPart (PF d m y2 none none none) = some (.val (.imm (.tuple ((items d).drop 1))), PF d m y2 none none none) := by
        have ht := tup_of hg
        generalize items d = xs at *
        subst ht
        have : mSl (mVar 0) (mPart (mC (.int 1))) mNoPart (PF (.tuple xs) m y2 none none none) = some (.val (.imm (.tuple (Vi.cutD xs (some 1) none))), PF (.tuple xs) m y2 none none none) := rfl
        rw [this, cut_1]
      have hz : mIZip (mCons (mVar 0) (mCons (mSl (mVar 0) (mPart (mC (.int 1))) mNoPart) mNil)) (PF d m y2 none none none) = some (zipD (items d) ((items d).drop 1), PF d m y2 none none none) := by
        have hc : mCons (mVar 0) (mCons (mSl (mVar 0) (mPart (mC (.int 1))) mNoPart) mNil) (PF d m y2 none none none) = some ([d, .tuple ((items d).drop 1)], PF d m y2 none none none) := c_acons rfl rfl (c_acons hsl rfl c_anil)
        unfold mIZip
        rw [hc]
        have ht := tup_of hg
        generalize items d = xs at *
        subst ht
        rfl
      have hk : ∀ x ∈ items d, In x ∧ sTerm x m = true := fun x hx => ⟨in_mem hd hx, List.all_eq_true.mp e1 x hx⟩
      have hl : ((adj ((items d).map fun x => ix x 0)).map fun b => (.bool b : D)).length ≤ 10000 := by
        rw [adj_range, List.length_map, List.length_map, List.length_range, List.length_map]
        have := bd_len hd; omega
      have e : EB lpZ (PF d m y2 none none none) ((adj ((items d).map fun x => ix x 0)).all id) :=
        c_un (c_comp (ρ1 := PF d m y2 none none none) hz rfl (lpZ_loop (items d) hk) (c_fits hl) rfl) rfl (all_of (fun b : Bool => b) _)
      rw [Bool.true_and, Bool.true_and]
      exact c_fn (ρ0 := PF d m none none none none) rfl rfl (c_seq (c_ifF t c_skip) (c_seq (c_for sq e2) (c_ret e rfl))) rfl
    · rw [e1]
      exact c_fn (ρ0 := PF d m none none none none) rfl rfl (c_seq (c_ifF t c_skip) (c_seqR (c_for sq e2))) rfl
def lcS (cl : Nat → Fn) : MS := (mIfS (mOrT (mNotT (mTru (un (dIsi Ty.tuple) (mVar 2)))) (mOrT (mB (bin dNe (un dLen (mVar 2)) (mVar 1))) (mNotT (mTru (un dAll (mComp (mISeq (mVar 2)) (mN 3) mYes (mCall (cl 39) (rVal (mVar 3) (rVal (mVar 1) rNil))) [3])))))) (mRet (mC (.bool false))) mNext)
def lcG : MT := (mOrT (mNotT (mTru (un (dIsi Ty.tuple) (mVar 0)))) (mOrT (mB (bin dEq (un dLen (mVar 0)) (mC (.int 0)))) (mOrT (mNotT (mTru (un (dIsi Ty.tuple) (bin dIx (mVar 0) (mC (.int 0)))))) (mB (bin dEq (bin dIx (mVar 0) (mC (.int 0))) (mTup mNil))))))
theorem lchange_fn (cl : Nat → Fn) : fn40 cl = mFn 4 1 (mSeq (mIfS lcG (mRet (mC (.bool false))) mNext) (mSeq (mSet 1 (un dLen (bin dIx (mVar 0) (mC (.int 0))))) (mSeq (mFor (mISeq (mVar 0)) (mN 2) (lcS cl)) (mRet (mC (.bool true)))))) := rfl
theorem lc_loop (P : PolyP (cl 39)) {d : D} {n : Nat} : ∀ (xs : List D) (s2 : Option Sv), (∀ x ∈ xs, In x) → (∃ y2, (xs.all fun x => sTup x n && (items x).all fun y => sPoly y n) = true ∧ loop (mN 2) (lcS cl) xs [dd d, dd (nt n), s2, none] = some (.next, [dd d, dd (nt n), y2, none])) ∨ ∃ y2, (xs.all fun x => sTup x n && (items x).all fun y => sPoly y n) = false ∧ loop (mN 2) (lcS cl) xs [dd d, dd (nt n), s2, none] = some (.ret (.imm (.bool false)), [dd d, dd (nt n), y2, none])
  | [], s2, _ => .inl ⟨s2, rfl, rfl⟩
  | x :: xs, s2, h => by
    have hx := h x (List.mem_cons_self ..)
    have t : TB (mOrT (mNotT (mTru (un (dIsi Ty.tuple) (mVar 2)))) (mOrT (mB (bin dNe (un dLen (mVar 2)) (mVar 1))) (mNotT (mTru (un dAll (mComp (mISeq (mVar 2)) (mN 3) mYes (mCall (cl 39) (rVal (mVar 3) (rVal (mVar 1) rNil))) [3])))))) [dd d, dd (nt n), dd x, none] (!isTup x || (!decide ((items x).length = n) || !((items x).all fun y => sPoly y n))) :=
      tb_or (tb_not (tb_tru (eb_isi (ev_var rfl) hx))) fun k => tb_or (tb_b (v_bin (ev_len (me := mVar 2) (ev_var rfl) (by simpa using k)) (ev_var (i := 1) rfl) (ne_nat _ _))) fun _ => tb_not (tb_tru (eb_all (ρ' := fun y => [dd d, dd (nt n), dd x, dd y]) (sq_var rfl (by simpa using k)) (in_len hx) (fun y hy => v_call2 (ev_var rfl) (ev_var rfl) (P y n (in_mem hx hy))) (fun _ => rfl) rfl rfl (fun _ => rfl) rfl))
    have e : (!isTup x || (!decide ((items x).length = n) || !((items x).all fun y => sPoly y n))) = !(sTup x n && (items x).all fun y => sPoly y n) := by
      unfold sTup
      cases isTup x <;> cases decide ((items x).length = n) <;> cases ((items x).all fun y => sPoly y n) <;> rfl
    rw [e] at t
    rw [List.all_cons]
    cases hb : (sTup x n && (items x).all fun y => sPoly y n) with
    | false =>
      rw [hb] at t
      exact .inr ⟨dd x, rfl, c_cons_ret rfl (c_ifT t (c_ret rfl rfl))⟩
    | true =>
      rw [hb] at t
      rcases lc_loop P xs (dd x) (fun y hy => h y (List.mem_cons_of_mem _ hy)) with ⟨y2, e1, e2⟩ | ⟨y2, e1, e2⟩
      · exact .inl ⟨y2, by rw [e1]; rfl, c_cons rfl (c_ifF t c_skip) e2⟩
      · exact .inr ⟨y2, by rw [e1]; rfl, c_cons rfl (c_ifF t c_skip) e2⟩
theorem lchange_ok (P : PolyP (cl 39)) : ChangeP (fn40 cl) := fun d hd => by
  have v0 : EV (mVar 0) [dd d, none, none, none] d := ev_var rfl
  have vx : isTup d = true → decide ((items d).length = 0) = false → EV (bin dIx (mVar 0) (mC (.int 0))) [dd d, none, none, none] (ix d 0) := fun h k => ev_ix (k := 0) v0 h (by have := of_decide_eq_false k; omega)
  have t : TB lcG [dd d, none, none, none] (!isTup d || (decide ((items d).length = 0) || (!isTup (ix d 0) || PyData.eqv (ix d 0) (.tuple [])))) :=
    tb_or (tb_not (tb_tru (eb_isi v0 hd))) fun k => tb_or (tb_b (v_bin (ev_len v0 (by simpa using k)) (ev_c (d := nt 0)) (eq_len _ 0))) fun k2 => tb_or (tb_not (tb_tru (eb_isi (vx (by simpa using k) k2) (ix_in hd 0)))) fun k3 => by
      refine tb_b (v_bin (vx (by simpa using k) k2) (ev_val (c_tup c_anil rfl)) ?_)
      unfold dEq
      rw [in_ok (ix_in hd 0), show okD (.tuple []) = true from in_ok (rfl : In (.tuple []))]; rfl
  have ee : (!isTup d || (decide ((items d).length = 0) || (!isTup (ix d 0) || PyData.eqv (ix d 0) (.tuple [])))) = (!isTup d || (!(!(items d).isEmpty) || (!isTup (ix d 0) || !(!(items (ix d 0)).isEmpty)))) := by
    have h1 : decide ((items d).length = 0) = (items d).isEmpty := by cases items d <;> rfl
    have h2 : isTup (ix d 0) = true → PyData.eqv (ix d 0) (.tuple []) = (items (ix d 0)).isEmpty := fun k => by
      have ht := tup_of k
      generalize items (ix d 0) = xs at *
      rw [ht]
      cases xs with
      | nil => rw [PyData.eqv, PyData.eqvAll]; rfl
      | cons y ys => rw [PyData.eqv, PyData.eqvAll]; rfl
    rw [h1]
    cases hk : isTup (ix d 0) with
    | false => simp
    | true => rw [h2 hk]; simp
  rw [ee] at t
  unfold B1
  rw [lchange_fn]
  by_cases hg : (!isTup d || (!(!(items d).isEmpty) || (!isTup (ix d 0) || !(!(items (ix d 0)).isEmpty)))) = true
  · rw [hg] at t
    have hs : sChange d = false := by
      unfold sChange
      revert hg
      cases isTup d <;> cases (items d).isEmpty <;> cases isTup (ix d 0) <;> cases (items (ix d 0)).isEmpty <;> simp
    rw [hs]
    exact c_fn (ρ0 := [dd d, none, none, none]) rfl rfl (c_seqR (c_ifT t (c_ret rfl rfl))) rfl
  · have hg' : (!isTup d || (!(!(items d).isEmpty) || (!isTup (ix d 0) || !(!(items (ix d 0)).isEmpty)))) = false := by simpa using hg
    rw [hg'] at t
    rw [Bool.or_eq_false_iff, Bool.or_eq_false_iff, Bool.or_eq_false_iff] at hg'
    have k1 : isTup d = true := by simpa using hg'.1
    have k2 : (!(items d).isEmpty) = true := by simpa using hg'.2.1
    have k3 : isTup (ix d 0) = true := by simpa using hg'.2.2.1
    have k4 : (!(items (ix d 0)).isEmpty) = true := by simpa using hg'.2.2.2
    have hs : sChange d = (items d).all fun x => sTup x (items (ix d 0)).length && (items x).all fun y => sPoly y (items (ix d 0)).length := by
      unfold sChange
      rw [k1, k2, k3, k4]; simp
    rw [hs]
    have k2' : decide ((items d).length = 0) = false := by revert k2; cases items d <;> simp
    have s2 := c_set (i := 1) (ρ2 := [dd d, dd (nt (items (ix d 0)).length), none, none]) (vv_len (vx k1 k2') k3) rfl
    generalize (items (ix d 0)).length = n at *
    have sq : mISeq (mVar 0) [dd d, dd (nt n), none, none] = some (items d, [dd d, dd (nt n), none, none]) := sq_var rfl k1
    rcases lc_loop (d := d) (n := n) P (items d) none fun x hx => in_mem hd hx with ⟨y2, e1, e2⟩ | ⟨y2, e1, e2⟩
    · rw [e1]
      exact c_fn (ρ0 := [dd d, none, none, none]) rfl rfl (c_seq (c_ifF t c_skip) (c_seq s2 (c_seq (c_for sq e2) (c_ret rfl rfl)))) rfl
    · rw [e1]
      exact c_fn (ρ0 := [dd d, none, none, none]) rfl rfl (c_seq (c_ifF t c_skip) (c_seq s2 (c_seqR (c_for sq e2)))) rfl
end
end K01

namespace K01
open PySem Vi PyProof.Rows
/-! draws -/
theorem bx_len (a b c : Int) : (bx a b c).length = 3 := rfl
def OfP (f : Fn) (b : Int) : Prop := ∀ (L : List D) (a c : Int), 0 < L.length → L.length < 1000 → 0 ≤ c → c < 900000 → ∃ (x : D) (a' c' : Int), f [.own .par (bx a b c), .imm (.list L)] = some (.imm x, [some (bx a' b c'), none]) ∧ x ∈ L ∧ 0 ≤ c' ∧ c' ≤ c + 1
section
variable {cl : Nat → Fn} {b : Int}
theorem of_ok (T : TakeP (cl 22) b) : OfP (fn24 cl) b := fun L a c h1 h2 h3 h4 => by
  obtain ⟨v, a1, c1, e, q1, q2, p1, p2⟩ := T a c (L.length : Int) (by omega) (by omega) h3 (by omega)
  obtain ⟨k, rfl⟩ : ∃ k : Nat, v = (k : Int) := ⟨v.toNat, by omega⟩
  have hk : k < L.length := by omega
  have e3 : mCall (cl 22) (rSlot 0 (rVal (un dLen (mVar 1)) rNil)) [some (.own .par (bx a b c)), dd (.list L)] = some (.val (.imm (.int (k : Int))), [some (.own .par (bx a1 b c1)), dd (.list L)]) := c_call (c_rslot rfl (c_rval (c_un (s := .list L) rfl rfl rfl) rfl rfl)) rfl rfl e rfl
  have e4 : dIx (.list L) (.int (k : Int)) = some (.imm L[k]) := by
    show (L2.atI L (k : Int)).map Sv.imm = _
    rw [L2.atI_nat (List.getElem?_eq_getElem hk)]; rfl
  exact ⟨L[k], a1, c1, c_fn (ρ0 := [some (.own .par (bx a b c)), dd (.list L)]) rfl rfl (c_ret (c_bin rfl e3 rfl rfl e4) rfl) rfl, List.getElem_mem hk, p1, p2⟩
def shL : List D := [.tuple [.int 0, .int 1], .tuple [.int 0, .int 1], .tuple [.int 0, .int 1], .tuple [.int 1, .int 1], .tuple [.int 1, .int 1], .tuple [.int (-1), .int 1], .tuple [.int 1, .int 2], .tuple [.int 1, .int 3], .tuple [.int (-2), .int 3], .tuple [.int 2, .int 1], .tuple [.int 3, .int 4]]
/-- only ints in tuples, small -/
def Bq : Nat → D → Bool
  | _, .int i => decide (i.natAbs ≤ 100)
  | n + 1, .tuple xs => decide (xs.length ≤ 100) && xs.all (Bq n)
  | _, _ => false
def GFr (x : D) : Prop := sFrac x = true ∧ Bq 1 x = true
theorem shL_ok : ∀ x ∈ shL, GFr x := by
  intro x hx
  have : (shL.all fun x => sFrac x && Bq 1 x) = true := by decide +kernel
  have := List.all_eq_true.mp this x hx
  rw [Bool.and_eq_true] at this
  exact this
def shE : MA := (mCons (mTup (mCons (mC (.int 0)) (mCons (mC (.int 1)) mNil))) (mCons (mTup (mCons (mC (.int 0)) (mCons (mC (.int 1)) mNil))) (mCons (mTup (mCons (mC (.int 0)) (mCons (mC (.int 1)) mNil))) (mCons (mTup (mCons (mC (.int 1)) (mCons (mC (.int 1)) mNil))) (mCons (mTup (mCons (mC (.int 1)) (mCons (mC (.int 1)) mNil))) (mCons (mTup (mCons (un dNeg (mC (.int 1))) (mCons (mC (.int 1)) mNil))) (mCons (mTup (mCons (mC (.int 1)) (mCons (mC (.int 2)) mNil))) (mCons (mTup (mCons (mC (.int 1)) (mCons (mC (.int 3)) mNil))) (mCons (mTup (mCons (un dNeg (mC (.int 2))) (mCons (mC (.int 3)) mNil))) (mCons (mTup (mCons (mC (.int 2)) (mCons (mC (.int 1)) mNil))) (mCons (mTup (mCons (mC (.int 3)) (mCons (mC (.int 4)) mNil))) mNil)))))))))))
theorem share_fn (cl : Nat → Fn) : fn30 cl = mFn 1 1 (mRet (mCall (cl 24) (rSlot 0 (rVal (mLst shE) rNil)))) := rfl
theorem shE_ev (ρ : Fm) : mLst shE ρ = some (.val (.own .loc shL), ρ) := rfl
def ShareP (f : Fn) (b : Int) : Prop := ∀ a c : Int, 0 ≤ c → c < 900000 → ∃ (x : D) (a' c' : Int), f [.own .par (bx a b c)] = some (.imm x, [some (bx a' b c')]) ∧ GFr x ∧ 0 ≤ c' ∧ c' ≤ c + 1
theorem share_ok (O : OfP (cl 24) b) : ShareP (fn30 cl) b := fun a c h1 h2 => by
  obtain ⟨x, a1, c1, e, hx, p1, p2⟩ := O shL a c (by decide) (by decide) h1 h2
  refine ⟨x, a1, c1, ?_, shL_ok x hx, p1, p2⟩
  rw [share_fn]
  have k : mCall (cl 24) (rSlot 0 (rVal (mLst shE) rNil)) [some (.own .par (bx a b c))] = some (.val (.imm x), [some (.own .par (bx a1 b c1))]) := c_call (as := [.s 0, .v (.list shL)]) (c_rslot rfl (c_rval (shE_ev _) rfl rfl)) rfl rfl e rfl
  exact c_fn (ρ0 := [some (.own .par (bx a b c))]) rfl rfl (c_ret k rfl) rfl
/-- a list of draws -/
theorem c_draw {mg : MG} {body : ME} {vs : List Nat} {ρ : List D → Fm} {good : D → Prop} {w : Nat} {B : Int}
    (step : ∀ (d : D) (a c : Int), 0 ≤ c → c + w < B → ∃ (x : D) (a' c' : Int) (ρ1 ρ2 ρ3 : Fm) (pr : PR), mg d (ρ (bx a b c)) = some ρ1 ∧ body ρ1 = some (pr, ρ2) ∧ frz ρ2 pr = some (x, ρ3) ∧ wipeA ρ3 vs = ρ (bx a' b c') ∧ good x ∧ 0 ≤ c' ∧ c' ≤ c + w) :
    ∀ (ds : List D) (a c : Int), 0 ≤ c → c + w * ds.length < B → ∃ (xs : List D) (a' c' : Int), cloop mg mYes body vs ds (ρ (bx a b c)) = some (xs, ρ (bx a' b c')) ∧ xs.length = ds.length ∧ (∀ x ∈ xs, good x) ∧ 0 ≤ c' ∧ c' ≤ c + w * ds.length
  | [], a, c, h1, _ => ⟨[], a, c, rfl, rfl, fun _ h => (by cases h), h1, (by simp)⟩
  | d :: ds, a, c, h1, h2 => by
    rw [List.length_cons] at h2 ⊢
    have hm : (w : Int) * ((ds.length + 1 : Nat) : Int) = w * ds.length + w := by rw [Int.natCast_add, Int.mul_add]; simp
    have hw : (0 : Int) ≤ (w : Int) * ds.length := Int.mul_nonneg (by omega) (by omega)
    rw [hm] at h2 ⊢
    obtain ⟨x, a1, c1, ρ1, ρ2, ρ3, pr, e1, e2, e3, e4, g, p1, p2⟩ := step d a c h1 (by omega)
    obtain ⟨xs, a2, c2, k1, k2, k3, k4, k5⟩ := c_draw step ds a1 c1 p1 (by omega)
    refine ⟨x :: xs, a2, c2, c_ccons e1 rfl e2 e3 (by rw [e4]; exact k1), by rw [List.length_cons, k2], fun y hy => ?_, k4, by omega⟩
    rcases List.mem_cons.mp hy with rfl | hy
    · exact g
    · exact k3 y hy
def GRow (n : Nat) (x : D) : Prop := sRow x n = true ∧ Bq 2 x = true
def GMat (n : Nat) (x : D) : Prop := sMat x n = true ∧ Bq 3 x = true
theorem all_bq {k : Nat} {xs : List D} (h : ∀ x ∈ xs, Bq k x = true) (hl : xs.length ≤ 100) : Bq (k + 1) (.tuple xs) = true := by
  show (decide (xs.length ≤ 100) && xs.all (Bq k)) = true
  rw [decide_eq_true hl, Bool.true_and, List.all_eq_true]
  exact h
theorem s_tup {xs : List D} {n : Nat} (h : xs.length = n) : sTup (.tuple xs) n = true := by
  show (true && decide (xs.length = n)) = true
  rw [decide_eq_true h]; rfl
theorem g_row {xs : List D} {n : Nat} (h : ∀ x ∈ xs, GFr x) (hl : xs.length = n) (hn : n ≤ 100) : GRow n (.tuple xs) := by
  refine ⟨?_, all_bq (fun x hx => (h x hx).2) (by omega)⟩
  unfold sRow
  rw [s_tup hl, Bool.true_and, List.all_eq_true]
  exact fun x hx => (h x hx).1
theorem g_mat {xs : List D} {n : Nat} (h : ∀ x ∈ xs, GRow n x) (hl : xs.length = n) (hn : n ≤ 100) : GMat n (.tuple xs) := by
  refine ⟨?_, all_bq (fun x hx => (h x hx).2) (by omega)⟩
  unfold sMat
  rw [s_tup hl, Bool.true_and, List.all_eq_true]
  exact fun x hx => (h x hx).1
abbrev HF (bb : List D) (m n : Nat) (s4 s5 s6 s7 s8 s9 : Option Sv) : Fm := [some (.own .par bb), dd (nt m), dd (nt n), dd (.bool false), s4, s5, s6, s7, s8, s9, none]
def hRow (cl : Nat → Fn) : MS := (mSet 8 (mComp (mIRng1 (mCons (mVar 2) mNil)) (mN 10) mYes (mCall (cl 30) (rSlot 0 rNil)) [10]))
def hTup : ME := (un dTuple (mComp (mIRng1 (mCons (mVar 2) mNil)) (mN 10) mYes (mIf (mAndT (mTru (mVar 3)) (mB (bin dGeA (mVar 10) (mVar 7)))) (mTup (mCons (mC (.int 0)) (mCons (mC (.int 1)) mNil))) (bin dIx (mVar 8) (mVar 10))) [10]))
def hK (cl : Nat → Fn) : MS := mSeq (hRow cl) (mDrop (mApp 6 hTup))
def hPart (cl : Nat → Fn) : MS := (mSeq (mSet 6 (mLst mNil)) (mSeq (mFor (mIRng1 (mCons (mVar 2) mNil)) (mN 7) (hK cl)) (mDrop (mApp 4 (un dTuple (mVar 6))))))
def hW (cl : Nat → Fn) : ME := (un dTuple (mComp (mIRng1 (mCons (mVar 2) mNil)) (mN 10) mYes (mCall (cl 30) (rSlot 0 rNil)) [10]))
def hWs (cl : Nat → Fn) : MS := (mSet 9 (mComp (mIRng1 (mCons (mVar 1) mNil)) (mN 5) mYes (hW cl) [5]))
theorem table_fn (cl : Nat → Fn) : fn31 cl = mFn 11 4 (mSeq (mSet 4 (mLst mNil)) (mSeq (mFor (mIRng1 (mCons (mVar 1) mNil)) (mN 5) (hPart cl)) (mSeq (hWs cl) (mRet (mTup (mCons (un dTuple (mVar 4)) (mCons (un dTuple (mVar 9)) mNil))))))) := rfl
theorem mid_row {m n : Nat} {s4 s5 s6 s7 s8 s9 : Option Sv} (S : ShareP (cl 30) b) : ∀ (ds : List D) (a c : Int), 0 ≤ c → c + (1 : Nat) * ds.length < 100000 → ∃ (xs : List D) (a' c' : Int), cloop (mN 10) mYes (mCall (cl 30) (rSlot 0 rNil)) [10] ds (HF (bx a b c) m n s4 s5 s6 s7 s8 s9) = some (xs, HF (bx a' b c') m n s4 s5 s6 s7 s8 s9) ∧ xs.length = ds.length ∧ (∀ x ∈ xs, GFr x) ∧ 0 ≤ c' ∧ c' ≤ c + (1 : Nat) * ds.length :=
  c_draw (B := 100000) (ρ := fun bb => HF bb m n s4 s5 s6 s7 s8 s9) fun d a c h1 h2 => by
    obtain ⟨x, a1, c1, e, g, p1, p2⟩ := S a c h1 (by omega)
    exact ⟨x, a1, c1, [some (.own .par (bx a b c)), dd (nt m), dd (nt n), dd (.bool false), s4, s5, s6, s7, s8, s9, dd d], [some (.own .par (bx a1 b c1)), dd (nt m), dd (nt n), dd (.bool false), s4, s5, s6, s7, s8, s9, dd d], [some (.own .par (bx a1 b c1)), dd (nt m), dd (nt n), dd (.bool false), s4, s5, s6, s7, s8, s9, dd d], .val (.imm x), rfl, c_call (as := [.s 0]) (c_rslot rfl rfl) rfl rfl e rfl, rfl, rfl, g, p1, by omega⟩
theorem hK_ok (S : ShareP (cl 30) b) {m n : Nat} (hn : n ≤ 50) {a c : Int} {s4 s5 s8 s9 : Option Sv} {R : List D} (hR : R.length ≤ 900) (d : D) (h1 : 0 ≤ c) (h2 : c < 50000) :
    ∃ (x : D) (a' c' : Int) (y8 : Option Sv), hK cl (HF (bx a b c) m n s4 s5 (some (.own .loc R)) (dd d) s8 s9) = some (.next, HF (bx a' b c') m n s4 s5 (some (.own .loc (R ++ [x]))) (dd d) y8 s9) ∧ GRow n x ∧ 0 ≤ c' ∧ c' ≤ c + n := by
  have hlen : (rngD 0 n).length = n := rngD_len 0 n
  obtain ⟨xs, a1, c1, e, k1, k2, p1, p2⟩ := mid_row (m := m) (n := n) (s4 := s4) (s5 := s5) (s6 := some (.own .loc R)) (s7 := dd d) (s8 := s8) (s9 := s9) S (rngD 0 n) a c h1 (by rw [hlen]; omega)
  rw [hlen] at k1 p2
  have s1 : hRow cl (HF (bx a b c) m n s4 s5 (some (.own .loc R)) (dd d) s8 s9) = some (.next, HF (bx a1 b c1) m n s4 s5 (some (.own .loc R)) (dd d) (some (.own .loc xs)) s9) :=
    c_set (c_comp (ρ1 := HF (bx a b c) m n s4 s5 (some (.own .loc R)) (dd d) s8 s9) (c_rng1 (n := n) (c_acons rfl rfl c_anil) (by omega)) rfl e (c_fits (by omega)) rfl) rfl
  have hc : cloop (mN 10) mYes (mIf (mAndT (mTru (mVar 3)) (mB (bin dGeA (mVar 10) (mVar 7)))) (mTup (mCons (mC (.int 0)) (mCons (mC (.int 1)) mNil))) (bin dIx (mVar 8) (mVar 10))) [10] ((List.range n).map fun k => .int (0 + (k : Nat))) (HF (bx a1 b c1) m n s4 s5 (some (.own .loc R)) (dd d) (some (.own .loc xs)) s9) = some ((List.range n).map fun k => (xs[k]?).getD .none, HF (bx a1 b c1) m n s4 s5 (some (.own .loc R)) (dd d) (some (.own .loc xs)) s9) :=
    c_cmap (fun k : Nat => .int (0 + (k : Nat))) (fun k => (xs[k]?).getD .none) _ fun k hk => by
      have hk' : k < xs.length := by have := List.mem_range.mp hk; omega
      have a1' : dIx (.list xs) (.int (k : Int)) = some (.imm xs[k]) := by
        show (L2.atI xs (k : Int)).map Sv.imm = _
        rw [L2.atI_nat (List.getElem?_eq_getElem hk')]; rfl
      rw [Int.zero_add, List.getElem?_eq_getElem hk']
      have hb : bin dIx (mVar 8) (mVar 10) [some (.own .par (bx a1 b c1)), dd (nt m), dd (nt n), dd (.bool false), s4, s5, some (.own .loc R), dd d, some (.own .loc xs), s9, ii (k : Int)] = some (.val (.imm xs[k]), [some (.own .par (bx a1 b c1)), dd (nt m), dd (nt n), dd (.bool false), s4, s5, some (.own .loc R), dd d, some (.own .loc xs), s9, ii (k : Int)]) := c_bin rfl rfl rfl rfl a1'
      exact ⟨_, _, _, _, rfl, mif_F (c_andTF (c_tru (d := .bool false) rfl rfl rfl)) hb, rfl, rfl⟩
  have hxs : (List.range n).map (fun k => (xs[k]?).getD .none) = xs := by
    rw [← k1]
    refine List.ext_getElem? fun i => ?_
    rw [List.getElem?_map]
    by_cases hi : i < xs.length
    · rw [List.getElem?_range hi]
      show some ((xs[i]?).getD .none) = _
      rw [List.getElem?_eq_getElem hi]; rfl
    · rw [List.getElem?_eq_none (by rw [List.length_range]; omega), List.getElem?_eq_none (by omega)]; rfl
  rw [hxs] at hc
  have s2 : hTup (HF (bx a1 b c1) m n s4 s5 (some (.own .loc R)) (dd d) (some (.own .loc xs)) s9) = some (.val (.imm (.tuple xs)), HF (bx a1 b c1) m n s4 s5 (some (.own .loc R)) (dd d) (some (.own .loc xs)) s9) :=
    c_un (f := dTuple) (c_comp (ρ1 := HF (bx a1 b c1) m n s4 s5 (some (.own .loc R)) (dd d) (some (.own .loc xs)) s9) (c_rng1 (n := n) (c_acons rfl rfl c_anil) (by omega)) rfl hc (c_fits (by omega)) rfl) rfl rfl
  exact ⟨.tuple xs, a1, c1, _, c_seq s1 (c_drop (c_app (i := 6) (b := .loc) (b2 := .loc) (ds := R) (ys := R) rfl s2 rfl rfl (c_fits (by omega)))), g_row k2 k1 (by omega), p1, by omega⟩
end
end K01

namespace K01
open PySem Vi PyProof.Rows
section
variable {cl : Nat → Fn} {b : Int}
/-- a loop that grows a list by draws -/
theorem l_draw {mg : MG} {body : MS} {P : List D → List D → Fm → Prop} {good : D → Prop} {w : Nat} {B : Int}
    (step : ∀ (d : D) (a c : Int) (R : List D) (ρ : Fm), P (bx a b c) R ρ → R.length < 900 → 0 ≤ c → c + w < B → ∃ (x : D) (a' c' : Int) (ρ0 ρ1 : Fm), mg d ρ = some ρ0 ∧ body ρ0 = some (.next, ρ1) ∧ P (bx a' b c') (R ++ [x]) ρ1 ∧ good x ∧ 0 ≤ c' ∧ c' ≤ c + w) :
    ∀ (ds : List D) (a c : Int) (R : List D) (ρ : Fm), P (bx a b c) R ρ → R.length + ds.length ≤ 900 → 0 ≤ c → c + w * ds.length < B → ∃ (xs : List D) (a' c' : Int) (ρ' : Fm), loop mg body ds ρ = some (.next, ρ') ∧ P (bx a' b c') (R ++ xs) ρ' ∧ xs.length = ds.length ∧ (∀ x ∈ xs, good x) ∧ 0 ≤ c' ∧ c' ≤ c + w * ds.length
  | [], a, c, R, ρ, h, _, h1, _ => ⟨[], a, c, ρ, rfl, by rw [List.append_nil]; exact h, rfl, fun _ h => (by cases h), h1, (by simp)⟩
  | d :: ds, a, c, R, ρ, h, hl, h1, h2 => by
    rw [List.length_cons] at h2 hl ⊢
    have hm : (w : Int) * ((ds.length + 1 : Nat) : Int) = w * ds.length + w := by rw [Int.natCast_add, Int.mul_add]; simp
    have hw : (0 : Int) ≤ (w : Int) * ds.length := Int.mul_nonneg (by omega) (by omega)
    rw [hm] at h2 ⊢
    obtain ⟨x, a1, c1, ρ0, ρ1, e1, e2, h', g, p1, p2⟩ := step d a c R ρ h (by omega) h1 (by omega)
    obtain ⟨xs, a2, c2, ρ2, k1, k0, k2, k3, k4, k5⟩ := l_draw step ds a1 c1 (R ++ [x]) ρ1 h' (by rw [List.length_append, List.length_singleton]; omega) p1 (by omega)
    refine ⟨x :: xs, a2, c2, ρ2, c_cons e1 e2 k1, by rw [List.append_assoc] at k0; exact k0, by rw [List.length_cons, k2], fun y hy => ?_, k4, by omega⟩
    rcases List.mem_cons.mp hy with rfl | hy
    · exact g
    · exact k3 y hy
theorem dt_own {i : Nat} {ρ : Fm} {L : List D} {b : Kd} (h : ρ[i]? = some (some (.own b L))) (hb : b.isL = true := by rfl) : un dTuple (mVar i) ρ = some (.val (.imm (.tuple L)), ρ) := by
  obtain ⟨pr, e1, e2⟩ : ∃ pr, mVar i ρ = some (pr, ρ) ∧ peek ρ pr = some (.list L) := by
    refine ⟨.slot i, ?_, ?_⟩
    · unfold mVar; simp only [h]
    · unfold peek; simp only [h]; cases b <;> first | rfl | cases hb
  exact c_un (f := dTuple) e1 e2 rfl
theorem hPart_ok (S : ShareP (cl 30) b) {m n : Nat} (hn : n ≤ 4) {a c : Int} {s5 s6 s7 s8 s9 : Option Sv} {R : List D} (hR : R.length < 900) (h1 : 0 ≤ c) (h2 : c + (16 : Nat) < 50000) :
    ∃ (x : D) (a' c' : Int) (y6 y7 y8 : Option Sv), hPart cl (HF (bx a b c) m n (some (.own .loc R)) s5 s6 s7 s8 s9) = some (.next, HF (bx a' b c') m n (some (.own .loc (R ++ [x]))) s5 y6 y7 y8 s9) ∧ GMat n x ∧ 0 ≤ c' ∧ c' ≤ c + (16 : Nat) := by
  have hlen : (rngD 0 n).length = n := rngD_len 0 n
  have hnn : (n : Int) * (n : Int) ≤ 16 := by
    have : n * n ≤ 4 * 4 := Nat.mul_le_mul hn hn
    exact_mod_cast this
  obtain ⟨xs, a1, c1, ρ1, e, ⟨y7, y8, rfl⟩, k1, k2, p1, p2⟩ := l_draw (B := 50000) (b := b) (mg := mN 7) (body := hK cl) (w := n) (good := GRow n)
    (P := fun bb Q ρ => ∃ y7 y8, ρ = HF bb m n (some (.own .loc R)) s5 (some (.own .loc Q)) y7 y8 s9)
    (fun d a c Q ρ h hq q1 q2 => by
      obtain ⟨y7, y8, rfl⟩ := h
      obtain ⟨x, a1, c1, z8, e, g, p1, p2⟩ := hK_ok (cl := cl) (m := m) (s4 := some (.own .loc R)) (s5 := s5) (s8 := y8) (s9 := s9) S (n := n) (by omega) (R := Q) (by omega) d q1 (by omega)
      exact ⟨x, a1, c1, HF (bx a b c) m n (some (.own .loc R)) s5 (some (.own .loc Q)) (dd d) y8 s9, _, rfl, e, ⟨_, _, rfl⟩, g, p1, p2⟩)
    (rngD 0 n) a c [] (HF (bx a b c) m n (some (.own .loc R)) s5 (some (.own .loc [])) s7 s8 s9) ⟨_, _, rfl⟩ (by rw [hlen]; simp; omega) h1 (by rw [hlen]; omega)
  rw [List.nil_append] at e
  rw [hlen] at k1 p2
  refine ⟨.tuple xs, a1, c1, some (.own .loc xs), y7, y8, ?_, g_mat k2 k1 (by omega), p1, by omega⟩
  exact c_seq (c_set (c_lst c_anil rfl) rfl) (c_seq (c_for (c_rng1 (n := n) (c_acons rfl rfl c_anil) (by omega)) e) (c_drop (c_app (i := 4) (b := .loc) (b2 := .loc) (ds := R) (ys := R) rfl (dt_own rfl) rfl rfl (c_fits (by omega)))))
theorem hW_ok (S : ShareP (cl 30) b) {m n : Nat} (hn : n ≤ 4) {a c : Int} {s4 s5 s6 s7 s8 s9 : Option Sv} (h1 : 0 ≤ c) (h2 : c + (4 : Nat) < 100000) :
    ∃ (x : D) (a' c' : Int), hW cl (HF (bx a b c) m n s4 s5 s6 s7 s8 s9) = some (.val (.imm x), HF (bx a' b c') m n s4 s5 s6 s7 s8 s9) ∧ GRow n x ∧ 0 ≤ c' ∧ c' ≤ c + (4 : Nat) := by
  have hlen : (rngD 0 n).length = n := rngD_len 0 n
  obtain ⟨xs, a1, c1, e, k1, k2, p1, p2⟩ := mid_row (m := m) (n := n) (s4 := s4) (s5 := s5) (s6 := s6) (s7 := s7) (s8 := s8) (s9 := s9) S (rngD 0 n) a c h1 (by rw [hlen]; omega)
  rw [hlen] at k1 p2
  exact ⟨.tuple xs, a1, c1, c_un (f := dTuple) (c_comp (ρ1 := HF (bx a b c) m n s4 s5 s6 s7 s8 s9) (c_rng1 (n := n) (c_acons rfl rfl c_anil) (by omega)) rfl e (c_fits (by omega)) rfl) rfl rfl, g_row k2 k1 (by omega), p1, by omega⟩
theorem c_app_fit (n : Nat) (h : n ≤ 900) : fits n = true := c_fits (by omega)
/-- a drawn table -/
def GTab (m n : Nat) (x : D) : Prop := ∃ (ms ws : List D), x = .tuple [.tuple ms, .tuple ws] ∧ ms.length = m ∧ ws.length = m ∧ (∀ y ∈ ms, GMat n y) ∧ ∀ y ∈ ws, GRow n y
def TabP (f : Fn) (b : Int) : Prop := ∀ (m n : Nat) (a c : Int), m ≤ 3 → n ≤ 4 → 0 ≤ c → c < 20000 → ∃ (x : D) (a' c' : Int), f [.own .par (bx a b c), .imm (nt m), .imm (nt n), .imm (.bool false)] = some (.imm x, [some (bx a' b c'), none, none, none]) ∧ GTab m n x ∧ 0 ≤ c' ∧ c' ≤ c + 60
theorem table_ok_ (S : ShareP (cl 30) b) : TabP (fn31 cl) b := fun m n a c hm hn h1 h2 => by
  have hlen : (rngD 0 m).length = m := rngD_len 0 m
  have hm3 : (m : Int) ≤ 3 := by omega
  obtain ⟨ms, a1, c1, ρ1, e, ⟨y5, y6, y7, y8, rfl, hy⟩, k1, k2, p1, p2⟩ := l_draw (B := 50000) (b := b) (mg := mN 5) (body := hPart cl) (w := 16) (good := GMat n)
    (P := fun bb Q ρ => ∃ y5 y6 y7 y8, ρ = HF bb m n (some (.own .loc Q)) y5 y6 y7 y8 none ∧ (y5 = none ∨ ∃ d, y5 = dd d))
    (fun d a c Q ρ h hq q1 q2 => by
      obtain ⟨y5, y6, y7, y8, rfl, hy⟩ := h
      obtain ⟨x, a1, c1, z6, z7, z8, e, g, p1, p2⟩ := hPart_ok (cl := cl) (m := m) (s5 := dd d) (s6 := y6) (s7 := y7) (s8 := y8) (s9 := none) S (n := n) hn (R := Q) (by omega) q1 q2
      exact ⟨x, a1, c1, HF (bx a b c) m n (some (.own .loc Q)) (dd d) y6 y7 y8 none, _, rfl, e, ⟨_, _, _, _, rfl, .inr ⟨d, rfl⟩⟩, g, p1, p2⟩)
    (rngD 0 m) a c [] (HF (bx a b c) m n (some (.own .loc [])) none none none none none) ⟨_, _, _, _, rfl, .inl rfl⟩ (by rw [hlen]; simp; omega) h1 (by rw [hlen]; omega)
  rw [List.nil_append] at e
  rw [hlen] at k1 p2
  obtain ⟨ws, a2, c2, f, l1, l2, r1, r2⟩ := c_draw (B := 100000) (b := b) (mg := mN 5) (body := hW cl) (vs := [5]) (ρ := fun bb => HF bb m n (some (.own .loc ms)) none y6 y7 y8 none) (good := GRow n) (w := 4)
    (fun d a c q1 q2 => by
      obtain ⟨x, a1, c1, e, g, p1, p2⟩ := hW_ok (cl := cl) (m := m) (s4 := some (.own .loc ms)) (s5 := dd d) (s6 := y6) (s7 := y7) (s8 := y8) (s9 := none) S (n := n) hn q1 q2
      exact ⟨x, a1, c1, HF (bx a b c) m n (some (.own .loc ms)) (dd d) y6 y7 y8 none, _, HF (bx a1 b c1) m n (some (.own .loc ms)) (dd d) y6 y7 y8 none, _, rfl, e, rfl, rfl, g, p1, p2⟩)
    (rngD 0 m) a1 c1 p1 (by rw [hlen]; omega)
  rw [hlen] at l1 r2
  have h3 : hWs cl (HF (bx a1 b c1) m n (some (.own .loc ms)) y5 y6 y7 y8 none) = some (.next, HF (bx a2 b c2) m n (some (.own .loc ms)) y5 y6 y7 y8 (some (.own .loc ws))) :=
    c_set (c_comp (ρ1 := HF (bx a1 b c1) m n (some (.own .loc ms)) y5 y6 y7 y8 none) (ρ2 := HF (bx a2 b c2) m n (some (.own .loc ms)) none y6 y7 y8 none) (ρ3 := HF (bx a2 b c2) m n (some (.own .loc ms)) y5 y6 y7 y8 none) (c_rng1 (n := m) (c_acons rfl rfl c_anil) (by omega)) (by rcases hy with rfl | ⟨d, rfl⟩ <;> rfl) f (c_fits (by omega)) rfl) rfl
  refine ⟨.tuple [.tuple ms, .tuple ws], a2, c2, ?_, ⟨ms, ws, rfl, k1, l1, k2, l2⟩, r1, by omega⟩
  rw [table_fn]
  refine c_fn (ρ0 := HF (bx a b c) m n none none none none none none) (ρ := HF (bx a2 b c2) m n (some (.own .loc ms)) y5 y6 y7 y8 (some (.own .loc ws))) rfl rfl ?_ rfl
  exact c_seq (c_set (c_lst c_anil rfl) rfl) (c_seq (c_for (c_rng1 (n := m) (c_acons rfl rfl c_anil) (by omega)) e) (c_seq h3 (c_ret (c_tup (c_acons (dt_own rfl) rfl (c_acons (dt_own rfl) rfl c_anil)) rfl) rfl)))
end
end K01

namespace K01
open PySem Vi PyProof.Rows
/-! polys drawn -/
abbrev il (p : List Int) : List D := p.map .int
def GKey (n : Nat) (x : D) : Prop := ∃ p : List Int, x = .tuple (il p) ∧ p.length = n ∧ ∀ i ∈ p, 0 ≤ i ∧ i ≤ 100
theorem keys_il : ∀ p : List Int, keysOf (il p) = p.map .num
  | [] => rfl
  | a :: p => by show keyOf (.int a) :: keysOf (il p) = _; rw [keys_il p]; rfl
theorem key_ok_il (p : List Int) : keyOk (.tuple (il p)) = true := by
  show (il p).all (keyOkN 7) = true
  rw [List.all_eq_true]
  intro x hx
  obtain ⟨i, _, rfl⟩ := List.mem_map.mp hx
  rfl
theorem key_inj_il {p q : List Int} (h : keyOf (.tuple (il p)) = keyOf (.tuple (il q))) : p = q := by
  have h' : NestedKey.tup (keysOf (il p)) = .tup (keysOf (il q)) := h
  injection h' with h'
  rw [keys_il, keys_il] at h'
  exact List.map_inj_right (fun a b e => by injection e) |>.mp h'
def pt : List Int → List (Int ⊕ List Nat)
  | [] => [.inl 0]
  | a :: as => .inl 1 :: .inl a :: pt as
theorem pt_toks : ∀ as : List Int, W.keyToksAll (il as) = pt as
  | [] => by show W.keyToksAll [] = _; rw [W.keyToksAll]; rfl
  | a :: as => by
    show W.keyToksAll (.int a :: il as) = _
    rw [W.keyToksAll, pt_toks as, W.keyToks]; rfl
theorem pt_inj : ∀ {p q : List Int}, pt p = pt q → p = q
  | [], [], _ => rfl
  | [], _ :: _, h => by unfold pt at h; injection h with h _; injection h with h; cases h
  | _ :: _, [], h => by unfold pt at h; injection h with h _; injection h with h; cases h
  | a :: p, b :: q, h => by
    unfold pt at h
    injection h with _ h
    injection h with h1 h2
    injection h1 with h1
    rw [h1, pt_inj h2]
theorem toks_il (p : List Int) : W.keyToks (.tuple (il p)) = pt p := by
  rw [W.keyToks, pt_toks]
theorem le_lt (x y : D) : leD x y = !W.dataLt y x := rfl
theorem leT : W.TotalLe leD := W.sortLe_total (PyProof.Rows.listOrd PyProof.Rows.itemOrd) false (fun b : D => W.keyToks (id b))
theorem sortD_pair (L : List D) : (sortD L).Pairwise fun a b => leD a b = true := by
  unfold sortD
  rw [← isort_eq leT]
  exact W.sort_pairwise leT L
theorem lt_of_le {p q : List Int} (h : leD (.tuple (il p)) (.tuple (il q)) = true) (hn : p ≠ q) : W.dataLt (.tuple (il p)) (.tuple (il q)) = true := by
  rw [le_lt] at h
  have k1 : W.dataLt (.tuple (il q)) (.tuple (il p)) = false := by
    cases e : W.dataLt (.tuple (il q)) (.tuple (il p)) with
    | false => rfl
    | true => rw [e] at h; cases h
  cases k2 : W.dataLt (.tuple (il p)) (.tuple (il q)) with
  | true => rfl
  | false =>
    have := PyProof.Rows.lex_total _ _ k2 k1
    rw [toks_il, toks_il] at this
    exact absurd (pt_inj this) hn
def coL : List D := [.tuple [.int 1, .int 1], .tuple [.int 1, .int 1], .tuple [.int (-1), .int 1], .tuple [.int 2, .int 1], .tuple [.int 1, .int 2], .tuple [.int (-3), .int 1]]
def coE : MA := (mCons (mTup (mCons (mC (.int 1)) (mCons (mC (.int 1)) mNil))) (mCons (mTup (mCons (mC (.int 1)) (mCons (mC (.int 1)) mNil))) (mCons (mTup (mCons (un dNeg (mC (.int 1))) (mCons (mC (.int 1)) mNil))) (mCons (mTup (mCons (mC (.int 2)) (mCons (mC (.int 1)) mNil))) (mCons (mTup (mCons (mC (.int 1)) (mCons (mC (.int 2)) mNil))) (mCons (mTup (mCons (un dNeg (mC (.int 3))) (mCons (mC (.int 1)) mNil))) mNil))))))
theorem coE_ev (ρ : Fm) : mLst coE ρ = some (.val (.own .loc coL), ρ) := rfl
theorem coL_ok : ∀ x ∈ coL, sFrac x = true ∧ PyData.eqv x zD = false ∧ Bq 1 x = true := by
  intro x hx
  have h : (coL.all fun x => sFrac x && (!PyData.eqv x zD && Bq 1 x)) = true := by decide +kernel
  have := List.all_eq_true.mp h x hx
  rw [Bool.and_eq_true, Bool.and_eq_true] at this
  exact ⟨this.1, by simpa using this.2.1, this.2.2⟩
/-- a ledger: keys and values in turn -/
def Led (n : Nat) : List D → Prop
  | k :: v :: r => GKey n k ∧ v ∈ coL ∧ (∀ x ∈ dKeys r, x ≠ k) ∧ Led n r
  | [] => True
  | [_] => False
theorem eqv_T {n : Nat} {k : D} (h1 : GKey n k) : PyData.eqv k k = true := by
  obtain ⟨p, rfl, _, _⟩ := h1
  rw [key_eqv (key_ok_il p) (key_ok_il p)]; simp
theorem eqv_F {n m : Nat} {k x : D} (h1 : GKey n k) (h2 : GKey m x) (h : k ≠ x) : PyData.eqv k x = false := by
  obtain ⟨p, rfl, _, _⟩ := h1
  obtain ⟨q, rfl, _, _⟩ := h2
  rw [key_eqv (key_ok_il p) (key_ok_il q)]
  exact decide_eq_false fun e => h (by rw [key_inj_il e])
theorem led_key {n : Nat} : ∀ {ds : List D}, Led n ds → ∀ x ∈ dKeys ds, GKey n x
  | [], _, x, hx => by cases hx
  | [_], h, _, _ => h.elim
  | k :: v :: r, h, x, hx => by
    rcases List.mem_cons.mp (show x ∈ k :: dKeys r from hx) with rfl | hx
    · exact h.1
    · exact led_key h.2.2.2 x hx
theorem led_nodup {n : Nat} : ∀ {ds : List D}, Led n ds → (dKeys ds).Nodup
  | [], _ => List.nodup_nil
  | [_], h => h.elim
  | k :: v :: r, h => List.nodup_cons.mpr ⟨fun hm => h.2.2.1 k hm rfl, led_nodup h.2.2.2⟩
theorem led_get {n : Nat} : ∀ {ds : List D}, Led n ds → ∀ x ∈ dKeys ds, ∃ v, dGet ds x = some v ∧ v ∈ coL
  | [], _, x, hx => by cases hx
  | [_], h, _, _ => h.elim
  | k :: v :: r, h, x, hx => by
    unfold dGet
    have hx2 : GKey n x := led_key h x hx
    by_cases e : k = x
    · subst e; rw [if_pos (eqv_T h.1)]; exact ⟨v, rfl, h.2.1⟩
    · rw [if_neg (by rw [eqv_F h.1 hx2 e]; decide)]
      rcases List.mem_cons.mp (show x ∈ k :: dKeys r from hx) with rfl | hx
      · exact absurd rfl e
      · exact led_get h.2.2.2 x hx
theorem led_put {n : Nat} {x v : D} (hx : GKey n x) (hv : v ∈ coL) : ∀ {ds : List D}, Led n ds → Led n (dPut ds x v) ∧ (dPut ds x v).length ≤ ds.length + 2 ∧ ∀ y ∈ dKeys (dPut ds x v), y = x ∨ y ∈ dKeys ds
  | [], _ => ⟨⟨hx, hv, fun _ h => (by cases h), trivial⟩, Nat.le_refl _, fun y hy => .inl (by rcases List.mem_cons.mp (show y ∈ [x] from hy) with h | h; exact h; cases h)⟩
  | [_], h => h.elim
  | k :: w :: r, h => by
    unfold dPut
    by_cases e : k = x
    · subst e
      rw [if_pos (eqv_T h.1)]
      exact ⟨⟨h.1, hv, h.2.2.1, h.2.2.2⟩, by simp, fun y hy => .inr hy⟩
    · rw [if_neg (by rw [eqv_F h.1 hx e]; decide)]
      obtain ⟨i1, i2, i3⟩ := led_put hx hv h.2.2.2
      refine ⟨⟨h.1, h.2.1, fun y hy => ?_, i1⟩, by simp only [List.length_cons]; omega, fun y hy => ?_⟩
      · rcases i3 y hy with rfl | hy
        · exact fun q => e q.symm
        · exact h.2.2.1 y hy
      · rcases List.mem_cons.mp (show y ∈ k :: dKeys (dPut r x v) from hy) with rfl | hy
        · exact .inr (List.mem_cons_self ..)
        · rcases i3 y hy with rfl | hy
          · exact .inl rfl
          · exact .inr (List.mem_cons_of_mem _ hy)
theorem led_len {n : Nat} : ∀ {ds : List D}, Led n ds → 2 * (dKeys ds).length = ds.length
  | [], _ => rfl
  | [_], h => h.elim
  | k :: v :: r, h => by
    have := led_len h.2.2.2
    show 2 * ((dKeys r).length + 1) = r.length + 1 + 1
    omega
/-! the poly out of a ledger -/
def polyOf (ds : List D) : D := .tuple ((sortD (dKeys ds)).map fun k => .tuple [k, (dGet ds k).getD .none])
theorem count_il {p : List Int} (h : ∀ i ∈ p, 0 ≤ i ∧ i ≤ 100) : (il p).all sCount = true := by
  rw [List.all_eq_true]
  intro x hx
  obtain ⟨i, hi, rfl⟩ := List.mem_map.mp hx
  exact decide_eq_true (h i hi).1
theorem bq_il {p : List Int} {n : Nat} (h : ∀ i ∈ p, 0 ≤ i ∧ i ≤ 100) (hl : p.length = n) (hn : n ≤ 100) : Bq 1 (.tuple (il p)) = true := by
  refine all_bq (k := 0) (fun x hx => ?_) (by rw [List.length_map]; omega)
  obtain ⟨i, hi, rfl⟩ := List.mem_map.mp hx
  have := h i hi
  exact decide_eq_true (by omega)
def GPoly (n : Nat) (x : D) : Prop := sPoly x n = true ∧ Bq 3 x = true
theorem adj_strict : ∀ {L : List D}, (L.Pairwise fun a b => W.dataLt a b = true) → (adj L).all id = true
  | [], _ => rfl
  | [_], _ => rfl
  | a :: b :: r, h => by
    obtain ⟨h1, h2⟩ := List.pairwise_cons.mp h
    show (W.dataLt a b :: adj (b :: r)).all id = true
    rw [List.all_cons, adj_strict h2, Bool.and_true]
    exact h1 b (List.mem_cons_self ..)
theorem bq_up : ∀ (n : Nat) {d : D}, Bq n d = true → Bq (n + 1) d = true
  | 0, d, h => by cases d <;> first | exact h | cases h
  | n + 1, d, h => by
    cases d with
    | int b => exact h
    | tuple xs =>
      have h' : (decide (xs.length ≤ 100) && xs.all (Bq n)) = true := h
      rw [Bool.and_eq_true, List.all_eq_true] at h'
      show (decide (xs.length ≤ 100) && xs.all (Bq (n + 1))) = true
      rw [h'.1, Bool.true_and, List.all_eq_true]
      exact fun x hx => bq_up n (h'.2 x hx)
    | _ => cases h
theorem g_poly {n : Nat} {ds : List D} (h : Led n ds) (hn : n ≤ 100) (hl : ds.length ≤ 100) : GPoly n (polyOf ds) := by
  have hp : (sortD (dKeys ds)).Perm (dKeys ds) := isort_perm _
  have hlen : (sortD (dKeys ds)).length ≤ 100 := by rw [hp.length_eq]; have := led_len h; omega
  have hk : ∀ k ∈ sortD (dKeys ds), GKey n k ∧ ∃ v, dGet ds k = some v ∧ v ∈ coL := fun k hk => ⟨led_key h k (hp.mem_iff.mp hk), led_get h k (hp.mem_iff.mp hk)⟩
  have hs : (sortD (dKeys ds)).Pairwise fun a b => W.dataLt a b = true := by
    have hd : (sortD (dKeys ds)).Pairwise fun a b => a ≠ b := (hp.nodup_iff.mpr (led_nodup h))
    refine ((sortD_pair (dKeys ds)).and hd).imp_of_mem fun {a b} ha hb hab => ?_
    obtain ⟨p, rfl, _, _⟩ := (hk a ha).1
    obtain ⟨q, rfl, _, _⟩ := (hk b hb).1
    exact lt_of_le hab.1 fun e => hab.2 (by rw [e])
  refine ⟨?_, ?_⟩
  · show (true && (((sortD (dKeys ds)).map fun k => (.tuple [k, (dGet ds k).getD .none] : D)).all (fun x => sTerm x n) && (adj (((sortD (dKeys ds)).map fun k => (.tuple [k, (dGet ds k).getD .none] : D)).map fun x => ix x 0)).all id)) = true
    rw [List.map_map, show ((fun x => ix x 0) ∘ fun k => (.tuple [k, (dGet ds k).getD .none] : D)) = id from rfl, List.map_id, adj_strict hs, Bool.true_and, Bool.and_true, List.all_eq_true]
    intro x hx
    obtain ⟨k, hkm, rfl⟩ := List.mem_map.mp hx
    obtain ⟨⟨p, rfl, hpl, hpc⟩, v, hv, hvc⟩ := hk k hkm
    rw [hv]
    obtain ⟨f1, f2, _⟩ := coL_ok v hvc
    show (true && (sTup (.tuple (il p)) n && ((il p).all sCount && (sFrac v && !PyData.eqv v zD)))) = true
    rw [s_tup (by rw [List.length_map]; exact hpl), count_il hpc, f1, f2]; rfl
  · refine all_bq (k := 2) (fun x hx => ?_) (by rw [List.length_map]; exact hlen)
    obtain ⟨k, hkm, rfl⟩ := List.mem_map.mp hx
    obtain ⟨⟨p, rfl, hpl, hpc⟩, v, hv, hvc⟩ := hk k hkm
    rw [hv]
    refine all_bq (k := 1) (fun y hy => ?_) (by simp)
    rcases List.mem_cons.mp hy with rfl | hy
    · exact bq_il hpc hpl hn
    · rcases List.mem_cons.mp hy with rfl | hy
      · exact (coL_ok _ hvc).2.2
      · cases hy
end K01

namespace K01
open PySem Vi PyProof.Rows
section
variable {cl : Nat → Fn} {b : Int}
theorem c_dput {i : Nat} {mk me : ME} {ρ ρ1 ρ2 ρ3 : Fm} {pr pk : PR} {d kd : D} {ds ds1 : List D} (h1 : me ρ = some (pr, ρ1)) (h2 : frz ρ1 pr = some (d, ρ2)) (h3 : ρ2[i]? = some (some (.own .dic ds1))) (h4 : mk ρ2 = some (pk, ρ3)) (h5 : peek ρ3 pk = some kd) (h6 : ρ3[i]? = some (some (.own .dic ds))) (h7 : keyOk kd = true) (h8 : fits ds.length = true) : mDPut i mk me ρ = some (.next, ρ3.set i (some (.own .dic (dPut ds kd d)))) := by
  unfold mDPut
  rw [h1]
  simp only [h2, h3, h4, h5, h6, h7, h8, Bool.and_self, if_true]
theorem v_rep2 {ma : MA} {mb : ME} {ρ : Fm} {d : D} {k : Nat} (h : EA ma ρ [d]) (hb : EV mb ρ (nt k)) (hk : k ≤ 1000) : mRep (mLst ma) mb ρ = some (.val (.own .loc (List.replicate k d)), ρ) := by
  have h1 := v_lst h (by simp)
  obtain ⟨pr, e1, _, e2⟩ := hb
  have hd : decide (-(2 ^ 63) ≤ (k : Int) ∧ (k : Int) < 2 ^ 63 ∧ ([d] : List D).length * ((k : Int)).toNat ≤ sizeLine) = true := decide_eq_true ⟨by omega, by omega, by rw [Int.toNat_natCast]; simp [sizeLine]; omega⟩
  have hf : ∀ n : Nat, (List.replicate n [d]).flatten = List.replicate n d := fun n => by
    induction n with
    | zero => rfl
    | succ n ih => rw [List.replicate_succ, List.flatten_cons, ih]; rfl
  unfold mRep
  rw [h1]
  simp only [e1, e2]
  rw [if_pos hd, Int.toNat_natCast, hf]
abbrev QF (bb : List D) (n : Nat) (ds : List D) (s5 s6 s7 s8 : Option Sv) : Fm := [some (.own .par bb), dd (nt n), dd (nt n), dd (nt 3), some (.own .dic ds), s5, s6, s7, s8]
def qTurn (cl : Nat → Fn) : MS := (mIfS (mB (bin dGt (mVar 2) (mC (.int 0)))) (mSeq (mSet 8 (mCall (cl 22) (rSlot 0 (rVal (mVar 2) rNil)))) (mStore 6 (mVar 8) (bin dAdd (bin dIx (mVar 6) (mVar 8)) (mC (.int 1))))) mNext)
def qMost (cl : Nat → Fn) : MI := (mIRng1 (mCons (mCall (cl 22) (rSlot 0 (rVal (bin dAdd (mVar 3) (mC (.int 1))) rNil))) mNil))
def qPut (cl : Nat → Fn) : MS := (mDPut 4 (un dTuple (mVar 6)) (mCall (cl 24) (rSlot 0 (rVal (mLst coE) rNil))))
def qLap (cl : Nat → Fn) : MS := (mSeq (mSet 6 (mRep (mLst (mCons (mC (.int 0)) mNil)) (mVar 1))) (mSeq (mFor (qMost cl) (mN 7) (qTurn cl)) (qPut cl)))
def qLaps (cl : Nat → Fn) : MI := (mIRng1 (mCons (mCall (cl 24) (rSlot 0 (rVal (mLst (mCons (mC (.int 0)) (mCons (mC (.int 1)) (mCons (mC (.int 1)) (mCons (mC (.int 2)) (mCons (mC (.int 2)) mNil)))))) rNil))) mNil))
def qTup : ME := (mTup (mCons (mVar 6) (mCons (mDIx 4 (mVar 6)) mNil)))
def qComp : ME := (mComp (mISeq (mSortDic 4)) (mN 6) mYes qTup [6])
theorem poly_fn (cl : Nat → Fn) : fn32 cl = mFn 9 4 (mSeq (mSet 4 mDNew) (mSeq (mFor (qLaps cl) (mN 5) (qLap cl)) (mRet (un dTuple (mFzO 6 qComp))))) := rfl
theorem ixN_nat {n k : Nat} (h : k < n) : L2.ixN n (k : Int) = some k := by
  unfold L2.ixN
  simp
  omega
theorem qTurn_ok (T : TakeP (cl 22) b) {n t : Nat} (hn1 : 1 ≤ n) (hn : n ≤ 100) {a c : Int} {ds : List D} {p : List Int} {s5 s7 s8 : Option Sv} (hp : p.length = n) (hc : ∀ i ∈ p, 0 ≤ i ∧ i ≤ (t : Int)) (h1 : 0 ≤ c) (h2 : c < 900000) :
    ∃ (a' c' : Int) (p' : List Int) (k : Int), qTurn cl (QF (bx a b c) n ds s5 (some (.own .loc (il p))) s7 s8) = some (.next, QF (bx a' b c') n ds s5 (some (.own .loc (il p'))) s7 (ii k)) ∧ p'.length = n ∧ (∀ i ∈ p', 0 ≤ i ∧ i ≤ ((t + 1 : Nat) : Int)) ∧ 0 ≤ c' ∧ c' ≤ c + 1 := by
  obtain ⟨v, a1, c1, e, q1, q2, p1, p2⟩ := T a c (n : Int) (by omega) (by omega) h1 (by omega)
  obtain ⟨k, rfl⟩ : ∃ k : Nat, v = (k : Int) := ⟨v.toNat, by omega⟩
  have hk : k < p.length := by omega
  have hk2 : k < (il p).length := by rw [List.length_map]; exact hk
  have ht : TB (mB (bin dGt (mVar 2) (mC (.int 0)))) (QF (bx a b c) n ds s5 (some (.own .loc (il p))) s7 s8) true := by
    have hd : dGt (nt n) (.int 0) = some (.imm (.bool (decide (0 < (n : Int))))) := rfl
    rw [decide_eq_true (show 0 < (n : Int) by omega)] at hd
    exact c_b (c_bin rfl rfl rfl rfl hd)
  have s1 : mSet 8 (mCall (cl 22) (rSlot 0 (rVal (mVar 2) rNil))) (QF (bx a b c) n ds s5 (some (.own .loc (il p))) s7 s8) = some (.next, QF (bx a1 b c1) n ds s5 (some (.own .loc (il p))) s7 (ii (k : Int))) :=
    c_set (c_call (as := [.s 0, .v (.int (n : Int))]) (c_rslot rfl (c_rval rfl rfl rfl)) rfl rfl e rfl) rfl
  have a2 : dIx (.list (il p)) (.int (k : Int)) = some (.imm (.int p[k])) := by
    show (L2.atI (il p) (k : Int)).map Sv.imm = _
    rw [L2.atI_nat (List.getElem?_eq_getElem hk2), List.getElem_map]; rfl
  have s2 : mStore 6 (mVar 8) (bin dAdd (bin dIx (mVar 6) (mVar 8)) (mC (.int 1))) (QF (bx a1 b c1) n ds s5 (some (.own .loc (il p))) s7 (ii (k : Int))) = some (.next, QF (bx a1 b c1) n ds s5 (some (.own .loc ((il p).set k (.int (p[k] + 1))))) s7 (ii (k : Int))) :=
    c_store (ρ3 := QF (bx a1 b c1) n ds s5 (some (.own .loc (il p))) s7 (ii (k : Int))) (d := .int (p[k] + 1)) (b := .loc) (b1 := .loc) (ds := il p) (ds1 := il p) (k := (k : Int)) (c_bin (s := .int p[k]) (c_bin rfl rfl rfl rfl a2) rfl rfl rfl rfl) rfl rfl rfl rfl rfl (ixN_nat hk2)
  have hs : (il p).set k (.int (p[k] + 1)) = il (p.set k (p[k] + 1)) := by unfold il; rw [List.map_set]
  rw [hs] at s2
  refine ⟨a1, c1, p.set k (p[k] + 1), k, c_ifT ht (c_seq s1 s2), by rw [List.length_set]; exact hp, fun i hi => ?_, p1, p2⟩
  rcases List.mem_or_eq_of_mem_set hi with h | rfl
  · have := hc i h; omega
  · have := hc _ (List.getElem_mem hk); omega
/-- a loop with the box -/
theorem l_box {mg : MG} {body : MS} {P : Nat → List D → Fm → Prop} {w : Nat} {B : Int} (N : Nat)
    (step : ∀ (d : D) (a c : Int) (t : Nat) (ρ : Fm), P t (bx a b c) ρ → t < N → 0 ≤ c → c + w < B → ∃ (a' c' : Int) (ρ0 ρ1 : Fm), mg d ρ = some ρ0 ∧ body ρ0 = some (.next, ρ1) ∧ P (t + 1) (bx a' b c') ρ1 ∧ 0 ≤ c' ∧ c' ≤ c + w) :
    ∀ (ds : List D) (a c : Int) (t : Nat) (ρ : Fm), P t (bx a b c) ρ → t + ds.length ≤ N → 0 ≤ c → c + w * ds.length < B → ∃ (a' c' : Int) (ρ' : Fm), loop mg body ds ρ = some (.next, ρ') ∧ P (t + ds.length) (bx a' b c') ρ' ∧ 0 ≤ c' ∧ c' ≤ c + w * ds.length
  | [], a, c, t, ρ, h, _, h1, _ => ⟨a, c, ρ, rfl, h, h1, (by simp)⟩
  | d :: ds, a, c, t, ρ, h, hN, h1, h2 => by
    rw [List.length_cons] at hN h2 ⊢
    have hm : (w : Int) * ((ds.length + 1 : Nat) : Int) = w * ds.length + w := by rw [Int.natCast_add, Int.mul_add]; simp
    have hw : (0 : Int) ≤ (w : Int) * ds.length := Int.mul_nonneg (by omega) (by omega)
    rw [hm] at h2 ⊢
    obtain ⟨a1, c1, ρ0, ρ1, e1, e2, h', p1, p2⟩ := step d a c t ρ h (by omega) h1 (by omega)
    obtain ⟨a2, c2, ρ2, k1, k0, k4, k5⟩ := l_box N step ds a1 c1 (t + 1) ρ1 h' (by omega) p1 (by omega)
    exact ⟨a2, c2, ρ2, c_cons e1 e2 k1, by rw [show t + (ds.length + 1) = t + 1 + ds.length by omega]; exact k0, k4, by omega⟩
theorem qMost_ok (T : TakeP (cl 22) b) {n : Nat} {a c : Int} {ds : List D} {s5 s6 s7 s8 : Option Sv} (h1 : 0 ≤ c) (h2 : c < 900000) :
    ∃ (a' c' : Int) (k : Nat), qMost cl (QF (bx a b c) n ds s5 s6 s7 s8) = some (rngD 0 k, QF (bx a' b c') n ds s5 s6 s7 s8) ∧ k ≤ 3 ∧ 0 ≤ c' ∧ c' ≤ c + 1 := by
  obtain ⟨v, a1, c1, e, q1, q2, p1, p2⟩ := T a c 4 (by omega) (by omega) h1 (by omega)
  obtain ⟨k, rfl⟩ : ∃ k : Nat, v = (k : Int) := ⟨v.toNat, by omega⟩
  refine ⟨a1, c1, k, c_rng1 (n := k) (c_acons (pr := .val (.imm (.int (k : Int)))) (ρ1 := QF (bx a1 b c1) n ds s5 s6 s7 s8) (c_call (as := [.s 0, .v (.int 4)]) (c_rslot rfl (c_rval (c_bin rfl rfl rfl rfl rfl) rfl rfl)) rfl rfl e rfl) rfl c_anil) (by omega), by omega, p1, p2⟩
theorem qLaps_ok (O : OfP (cl 24) b) {n : Nat} {a c : Int} {ds : List D} {s5 s6 s7 s8 : Option Sv} (h1 : 0 ≤ c) (h2 : c < 900000) :
    ∃ (a' c' : Int) (k : Nat), qLaps cl (QF (bx a b c) n ds s5 s6 s7 s8) = some (rngD 0 k, QF (bx a' b c') n ds s5 s6 s7 s8) ∧ k ≤ 2 ∧ 0 ≤ c' ∧ c' ≤ c + 1 := by
  obtain ⟨x, a1, c1, e, hx, p1, p2⟩ := O [.int 0, .int 1, .int 1, .int 2, .int 2] a c (by decide) (by decide) h1 (by omega)
  obtain ⟨k, rfl, hk⟩ : ∃ k : Nat, x = .int (k : Int) ∧ k ≤ 2 := by
    simp only [List.mem_cons, List.not_mem_nil, or_false] at hx
    rcases hx with rfl | rfl | rfl | rfl | rfl
    · exact ⟨0, rfl, by decide⟩
    · exact ⟨1, rfl, by decide⟩
    · exact ⟨1, rfl, by decide⟩
    · exact ⟨2, rfl, by decide⟩
    · exact ⟨2, rfl, by decide⟩
  refine ⟨a1, c1, k, c_rng1 (n := k) (c_acons (pr := .val (.imm (.int (k : Int)))) (ρ1 := QF (bx a1 b c1) n ds s5 s6 s7 s8) (c_call (as := [.s 0, .v (.list [.int 0, .int 1, .int 1, .int 2, .int 2])]) (c_rslot rfl (c_rval (c_lst rfl rfl) rfl rfl)) rfl rfl e rfl) rfl c_anil) (by omega), hk, p1, p2⟩
theorem qLap_ok (T : TakeP (cl 22) b) (O : OfP (cl 24) b) {n : Nat} (hn1 : 1 ≤ n) (hn : n ≤ 100) {a c : Int} {ds : List D} {s5 s6 s7 s8 : Option Sv} (hd : Led n ds) (hl : ds.length ≤ 100) (h1 : 0 ≤ c) (h2 : c + 5 < 50000) :
    ∃ (a' c' : Int) (ds' : List D) (L : List D) (y7 y8 : Option Sv), qLap cl (QF (bx a b c) n ds s5 s6 s7 s8) = some (.next, QF (bx a' b c') n ds' s5 (some (.own .loc L)) y7 y8) ∧ Led n ds' ∧ ds'.length ≤ ds.length + 2 ∧ 0 ≤ c' ∧ c' ≤ c + 5 := by
  have s1 : mSet 6 (mRep (mLst (mCons (mC (.int 0)) mNil)) (mVar 1)) (QF (bx a b c) n ds s5 s6 s7 s8) = some (.next, QF (bx a b c) n ds s5 (some (.own .loc (il (List.replicate n 0)))) s7 s8) := by
    rw [show il (List.replicate n 0) = List.replicate n (.int 0) from List.map_replicate]
    exact c_set (v_rep2 (ea_cons ev_c ea_nil) (ev_var rfl) (by omega)) rfl
  obtain ⟨a1, c1, k, e1, hk, p1, p2⟩ := qMost_ok (cl := cl) (n := n) (a := a) (ds := ds) (s5 := s5) (s6 := some (.own .loc (il (List.replicate n 0)))) (s7 := s7) (s8 := s8) T h1 (by omega)
  have hlen : (rngD 0 k).length = k := rngD_len 0 k
  obtain ⟨a2, c2, ρ2, e2, ⟨p, y7, y8, rfl, g1, g2⟩, p3, p4⟩ := l_box (B := 50000) (b := b) (mg := mN 7) (body := qTurn cl) (w := 1) 3
    (P := fun t bb ρ => ∃ (p : List Int) (y7 y8 : Option Sv), ρ = QF bb n ds s5 (some (.own .loc (il p))) y7 y8 ∧ p.length = n ∧ ∀ i ∈ p, 0 ≤ i ∧ i ≤ (t : Int))
    (fun d a c t ρ h _ q1 q2 => by
      obtain ⟨p, y7, y8, rfl, g1, g2⟩ := h
      obtain ⟨a1, c1, p', k, e, r1, r2, r3, r4⟩ := qTurn_ok (cl := cl) (ds := ds) (s5 := s5) (s7 := dd d) (s8 := y8) T hn1 hn g1 g2 q1 (by omega)
      exact ⟨a1, c1, _, _, rfl, e, ⟨p', _, _, rfl, r1, r2⟩, r3, by omega⟩)
    (rngD 0 k) a1 c1 0 _ ⟨List.replicate n 0, s7, s8, rfl, List.length_replicate, fun i hi => by rw [(List.mem_replicate.mp hi).2]; exact ⟨by decide, by decide⟩⟩ (by rw [hlen]; omega) p1 (by rw [hlen]; omega)
  rw [hlen] at g2 p4
  obtain ⟨v, a3, c3, e3, hv, p5, p6⟩ := O coL a2 c2 (by decide) (by decide) p3 (by omega)
  have hg : GKey n (.tuple (il p)) := ⟨p, rfl, g1, fun i hi => by have := g2 i hi; omega⟩
  obtain ⟨l1, l2, _⟩ := led_put hg hv hd
  have s3 : qPut cl (QF (bx a2 b c2) n ds s5 (some (.own .loc (il p))) y7 y8) = some (.next, QF (bx a3 b c3) n (dPut ds (.tuple (il p)) v) s5 (some (.own .loc (il p))) y7 y8) :=
    c_dput (ρ2 := QF (bx a3 b c3) n ds s5 (some (.own .loc (il p))) y7 y8) (ρ3 := QF (bx a3 b c3) n ds s5 (some (.own .loc (il p))) y7 y8) (c_call (as := [.s 0, .v (.list coL)]) (c_rslot rfl (c_rval (coE_ev _) rfl rfl)) rfl rfl e3 rfl) rfl rfl (dt_own rfl) rfl rfl (key_ok_il p) (c_fits (by omega))
  exact ⟨a3, c3, _, il p, y7, y8, c_seq s1 (c_seq (c_for e1 e2) s3), l1, l2, p5, by omega⟩
theorem ok_key {n : Nat} {x : D} (h : GKey n x) (hn : n ≤ 100) : Ky x := by
  obtain ⟨p, rfl, h1, h2⟩ := h
  refine ⟨rfl, count_il h2, ?_⟩
  show (decide ((il p).length ≤ 1000) && (il p).all (Bd 39)) = true
  rw [decide_eq_true (by rw [List.length_map]; omega), Bool.true_and, List.all_eq_true]
  intro x hx
  obtain ⟨i, hi, rfl⟩ := List.mem_map.mp hx
  have := h2 i hi
  exact decide_eq_true (by omega)
theorem sort_led {n : Nat} {ds : List D} (h : Led n ds) (hn1 : 1 ≤ n) (hn : n ≤ 100) (hl : ds.length ≤ 1000) : sortOk (dKeys ds) = true := by
  have hk := led_key h
  have h1 : alikeAllB (dKeys ds) = true := List.all_eq_true.mpr fun x hx => List.all_eq_true.mpr fun y hy => by
    have kx := ok_key (hk x hx) hn
    have ky := ok_key (hk y hy) hn
    rw [tup_of kx.tup, tup_of ky.tup, W.alike]
    exact alike_ints kx.num ky.num
  have h2 : (dKeys ds).all headB = true := List.all_eq_true.mpr fun x hx => by
    obtain ⟨p, rfl, e, _⟩ := hk x hx
    cases p with
    | nil => rw [← e] at hn1; exact absurd hn1 (by decide)
    | cons _ _ => rfl
  have h3 : (dKeys ds).all okD = true := List.all_eq_true.mpr fun x hx => in_ok (ok_key (hk x hx) hn).inn
  have h4 : fits (dKeys ds).length = true := c_fits (by have := led_len h; omega)
  unfold sortOk
  rw [h1, h2, h3, h4]; rfl
theorem qEnd_ok {n : Nat} {ds : List D} (h : Led n ds) (hn1 : 1 ≤ n) (hn : n ≤ 100) (hl : ds.length ≤ 1000) {bb : List D} {s5 s6 s7 s8 : Option Sv} (h6 : s6 = none ∨ ∃ d, s6 = dd d) : un dTuple qComp (QF bb n ds s5 s6 s7 s8) = some (.val (.imm (polyOf ds)), QF bb n ds s5 s6 s7 s8) := by
  have hs : mISeq (mSortDic 4) (QF bb n ds s5 s6 s7 s8) = some (sortD (dKeys ds), QF bb n ds s5 s6 s7 s8) := by
    have : mSortDic 4 (QF bb n ds s5 s6 s7 s8) = some (.val (.own .loc (sortD (dKeys ds))), QF bb n ds s5 s6 s7 s8) := by
      show (if sortOk (dKeys ds) = true then some (PR.val (.own .loc (sortD (dKeys ds))), _) else none) = _
      rw [if_pos (sort_led h hn1 hn hl)]
    unfold mISeq
    rw [this]; rfl
  have hp : (sortD (dKeys ds)).Perm (dKeys ds) := isort_perm _
  have hc : cloop (mN 6) mYes qTup [6] ((sortD (dKeys ds)).map id) (QF bb n ds s5 none s7 s8) = some ((sortD (dKeys ds)).map fun k => .tuple [k, (dGet ds k).getD .none], QF bb n ds s5 none s7 s8) :=
    c_cmap id (fun k => .tuple [k, (dGet ds k).getD .none]) _ fun k hk => by
      obtain ⟨v, hv, _⟩ := led_get h k (hp.mem_iff.mp hk)
      obtain ⟨p, rfl, _, _⟩ := led_key h k (hp.mem_iff.mp hk)
      have hx : mDIx 4 (mVar 6) (QF bb n ds s5 (dd (.tuple (il p))) s7 s8) = some (.val (.imm v), QF bb n ds s5 (dd (.tuple (il p))) s7 s8) := by
        show (if keyOk (.tuple (il p)) = true then match dGet ds (.tuple (il p)) with
          | some d => some (PR.val (.imm d), QF bb n ds s5 (dd (.tuple (il p))) s7 s8)
          | none => none
          else none) = _
        rw [if_pos (key_ok_il p), hv]
      rw [hv]
      exact ⟨QF bb n ds s5 (dd (.tuple (il p))) s7 s8, .val (.imm (.tuple [.tuple (il p), v])), QF bb n ds s5 (dd (.tuple (il p))) s7 s8, QF bb n ds s5 (dd (.tuple (il p))) s7 s8, rfl, c_tup (c_acons rfl rfl (c_acons hx rfl c_anil)) rfl, rfl, rfl⟩
  rw [List.map_id] at hc
  have hl2 : (sortD (dKeys ds)).length ≤ 10000 := by rw [hp.length_eq]; have := led_len h; omega
  rcases h6 with rfl | ⟨d, rfl⟩
  · exact c_un (f := dTuple) (c_comp hs rfl hc (c_fits (by rw [List.length_map]; exact hl2)) rfl) rfl rfl
  · exact c_un (f := dTuple) (c_comp hs rfl hc (c_fits (by rw [List.length_map]; exact hl2)) rfl) rfl rfl
def PolyOfP (f : Fn) (b : Int) : Prop := ∀ (n : Nat) (a c : Int), 1 ≤ n → n ≤ 50 → 0 ≤ c → c < 20000 → ∃ (x : D) (a' c' : Int), f [.own .par (bx a b c), .imm (nt n), .imm (nt n), .imm (.int 3)] = some (.imm x, [some (bx a' b c'), none, none, none]) ∧ GPoly n x ∧ 0 ≤ c' ∧ c' ≤ c + 11
theorem polyof_ok (T : TakeP (cl 22) b) (O : OfP (cl 24) b) : PolyOfP (fn32 cl) b := fun n a c hn1 hn h1 h2 => by
  obtain ⟨a1, c1, k, e1, hk, p1, p2⟩ := qLaps_ok (cl := cl) (n := n) (a := a) (ds := []) (s5 := none) (s6 := none) (s7 := none) (s8 := none) O h1 (by omega)
  have hlen : (rngD 0 k).length = k := rngD_len 0 k
  obtain ⟨a2, c2, ρ2, e2, ⟨ds, y5, y6, y7, y8, rfl, g1, g2, g3⟩, p3, p4⟩ := l_box (B := 50000) (b := b) (mg := mN 5) (body := qLap cl) (w := 5) 2
    (P := fun t bb ρ => ∃ (ds : List D) (y5 y6 y7 y8 : Option Sv), ρ = QF bb n ds y5 y6 y7 y8 ∧ Led n ds ∧ ds.length ≤ 2 * t ∧ (y6 = none ∨ ∃ L, y6 = some (.own .loc L)))
    (fun d a c t ρ h ht q1 q2 => by
      obtain ⟨ds, y5, y6, y7, y8, rfl, g1, g2, g3⟩ := h
      obtain ⟨a1, c1, ds', L, z7, z8, e, l1, l2, r1, r2⟩ := qLap_ok (cl := cl) (s5 := dd d) (s6 := y6) (s7 := y7) (s8 := y8) T O hn1 (by omega) g1 (by omega) q1 (by omega)
      exact ⟨a1, c1, QF (bx a b c) n ds (dd d) y6 y7 y8, _, rfl, e, ⟨ds', _, _, _, _, rfl, l1, by omega, .inr ⟨L, rfl⟩⟩, r1, by omega⟩)
    (rngD 0 k) a1 c1 0 _ ⟨[], none, none, none, none, rfl, trivial, Nat.zero_le _, .inl rfl⟩ (by rw [hlen]; omega) p1 (by rw [hlen]; omega)
  rw [hlen] at g2 p4
  have hl : ds.length ≤ 100 := by omega
  have hg := g_poly g1 (by omega) hl
  have hs : ∃ y6', un dTuple (mFzO 6 qComp) (QF (bx a2 b c2) n ds y5 y6 y7 y8) = some (.val (.imm (polyOf ds)), QF (bx a2 b c2) n ds y5 y6' y7 y8) := by
    rcases g3 with rfl | ⟨L, rfl⟩
    · exact ⟨none, qEnd_ok g1 hn1 (by omega) (by omega) (.inl rfl)⟩
    · exact ⟨dd (.list L), qEnd_ok (s6 := dd (.list L)) g1 hn1 (by omega) (by omega) (.inr ⟨_, rfl⟩)⟩
  obtain ⟨y6', hs⟩ := hs
  refine ⟨polyOf ds, a2, c2, ?_, hg, p3, by omega⟩
  rw [poly_fn]
  exact c_fn (ρ0 := [some (.own .par (bx a b c)), dd (nt n), dd (nt n), dd (.int 3), none, none, none, none, none]) rfl rfl (c_seq (c_set rfl rfl) (c_seq (c_for e1 e2) (c_ret hs rfl))) rfl
end
end K01

namespace K01
open PySem Vi PyProof.Rows
section
variable {cl : Nat → Fn} {b : Int}
/-! changes drawn -/
abbrev CF (bb : List D) (m n : Nat) (F : List D) (s6 s7 : Option Sv) : Fm := [some (.own .par bb), dd (nt m), dd (nt n), dd (.bool false), dd (nt 3), some (.own .loc F), s6, s7]
def hcP (cl : Nat → Fn) : ME := (mCall (cl 32) (rSlot 0 (rVal (mVar 2) (rVal (mIf (mTru (mVar 3)) (mVar 7) (mVar 2)) (rVal (mVar 4) rNil)))))
def hcB (cl : Nat → Fn) : MS := (mDrop (mApp 5 (un dTuple (mComp (mIRng1 (mCons (mVar 2) mNil)) (mN 7) mYes (hcP cl) [7]))))
theorem change_fn (cl : Nat → Fn) : fn33 cl = mFn 8 5 (mSeq (mSet 5 (mLst mNil)) (mSeq (mFor (mIRng1 (mCons (mVar 1) mNil)) (mN 6) (hcB cl)) (mRet (un dTuple (mVar 5))))) := rfl
def GPart (n : Nat) (x : D) : Prop := sTup x n = true ∧ (items x).all (fun y => sPoly y n) = true ∧ Bq 4 x = true
theorem hcB_ok (P : PolyOfP (cl 32) b) {m n : Nat} (hn1 : 1 ≤ n) (hn : n ≤ 2) {a c : Int} {F : List D} {s6 : Option Sv} (hF : F.length < 900) (h1 : 0 ≤ c) (h2 : c < 19000) :
    ∃ (x : D) (a' c' : Int), hcB cl (CF (bx a b c) m n F s6 none) = some (.next, CF (bx a' b c') m n (F ++ [x]) s6 none) ∧ GPart n x ∧ 0 ≤ c' ∧ c' ≤ c + 22 := by
  have hlen : (rngD 0 n).length = n := rngD_len 0 n
  obtain ⟨xs, a1, c1, e, k1, k2, p1, p2⟩ : ∃ (xs : List D) (a' c' : Int), cloop (mN 7) mYes (hcP cl) [7] (rngD 0 n) (CF (bx a b c) m n F s6 none) = some (xs, CF (bx a' b c') m n F s6 none) ∧ xs.length = (rngD 0 n).length ∧ (∀ x ∈ xs, GPoly n x) ∧ 0 ≤ c' ∧ c' ≤ c + (11 : Nat) * (rngD 0 n).length :=
    c_draw (b := b) (B := 20000) (ρ := fun bb => CF bb m n F s6 none) (fun d a c q1 q2 => by
      obtain ⟨x, a1, c1, e, g, p1, p2⟩ := P n a c hn1 (by omega) q1 (by omega)
      exact ⟨x, a1, c1, CF (bx a b c) m n F s6 (dd d), _, CF (bx a1 b c1) m n F s6 (dd d), _, rfl, c_call (as := [.s 0, .v (nt n), .v (nt n), .v (nt 3)]) (c_rslot rfl (c_rval rfl rfl (c_rval (mif_F (c_tru (d := .bool false) rfl rfl rfl) rfl) rfl (c_rval rfl rfl rfl)))) rfl rfl e rfl, rfl, rfl, g, p1, p2⟩)
      (rngD 0 n) a c h1 (by rw [hlen]; omega)
  rw [hlen] at k1 p2
  refine ⟨.tuple xs, a1, c1, ?_, ⟨s_tup k1, List.all_eq_true.mpr fun x hx => (k2 x hx).1, all_bq (fun x hx => (k2 x hx).2) (by omega)⟩, p1, by omega⟩
  exact c_drop (c_app (i := 5) (b := .loc) (b2 := .loc) (ds := F) (ys := F) rfl (c_un (f := dTuple) (c_comp (ρ1 := CF (bx a b c) m n F s6 none) (ρ3 := CF (bx a1 b c1) m n F s6 none) (c_rng1 (n := n) (c_acons rfl rfl c_anil) (by omega)) rfl e (c_fits (by omega)) rfl) rfl rfl) rfl rfl (c_fits (by omega)))
def ChgOfP (f : Fn) (b : Int) : Prop := ∀ (m n : Nat) (a c : Int), 1 ≤ m → m ≤ 3 → 1 ≤ n → n ≤ 2 → 0 ≤ c → c < 18000 → ∃ (x : D) (a' c' : Int), f [.own .par (bx a b c), .imm (nt m), .imm (nt n), .imm (.bool false), .imm (nt 3)] = some (.imm x, [some (bx a' b c'), none, none, none, none]) ∧ sChange x = true ∧ Bq 5 x = true ∧ 0 ≤ c' ∧ c' ≤ c + 66
theorem g_change {xs : List D} {m n : Nat} (h : ∀ x ∈ xs, GPart n x) (hl : xs.length = m) (hm1 : 1 ≤ m) (hm : m ≤ 100) (hn1 : 1 ≤ n) : sChange (.tuple xs) = true ∧ Bq 5 (.tuple xs) = true := by
  refine ⟨?_, all_bq (fun x hx => (h x hx).2.2) (by omega)⟩
  cases xs with
  | nil => rw [← hl] at hm1; exact absurd hm1 (by decide)
  | cons x r =>
    obtain ⟨g1, g2, _⟩ := h x (List.mem_cons_self ..)
    obtain ⟨t1, t2⟩ := tup2 g1
    show (true && (true && (isTup x && (!(items x).isEmpty && (x :: r).all fun y => sTup y (items x).length && (items y).all fun y => sPoly y (items x).length)))) = true
    rw [t1, t2]
    have he : (items x).isEmpty = false := by
      cases hi : items x with
      | nil => rw [hi] at t2; rw [← t2] at hn1; exact absurd hn1 (by decide)
      | cons _ _ => rfl
    rw [he, Bool.true_and, Bool.true_and, Bool.true_and, Bool.not_false, Bool.true_and, List.all_eq_true]
    intro y hy
    obtain ⟨k1, k2, _⟩ := h y hy
    rw [k1, k2]; rfl
theorem chgof_ok (P : PolyOfP (cl 32) b) : ChgOfP (fn33 cl) b := fun m n a c hm1 hm hn1 hn h1 h2 => by
  have hlen : (rngD 0 m).length = m := rngD_len 0 m
  have hm3 : (m : Int) ≤ 3 := by omega
  obtain ⟨ms, a1, c1, ρ1, e, ⟨y6, rfl⟩, k1, k2, p1, p2⟩ := l_draw (b := b) (mg := mN 6) (body := hcB cl) (w := 22) (good := GPart n) (B := 19000)
    (P := fun bb Q ρ => ∃ y6, ρ = CF bb m n Q y6 none)
    (fun d a c Q ρ h hq q1 q2 => by
      obtain ⟨y6, rfl⟩ := h
      obtain ⟨x, a1, c1, e, g, p1, p2⟩ := hcB_ok (cl := cl) (m := m) (s6 := dd d) P hn1 hn (F := Q) (by omega) q1 (by omega)
      exact ⟨x, a1, c1, CF (bx a b c) m n Q (dd d) none, _, rfl, e, ⟨_, rfl⟩, g, p1, p2⟩)
    (rngD 0 m) a c [] (CF (bx a b c) m n [] none none) ⟨_, rfl⟩ (by rw [hlen]; simp; omega) h1 (by rw [hlen]; omega)
  rw [List.nil_append] at e
  rw [hlen] at k1 p2
  obtain ⟨g1, g2⟩ := g_change k2 k1 hm1 (by omega) hn1
  refine ⟨.tuple ms, a1, c1, ?_, g1, g2, p1, by omega⟩
  rw [change_fn]
  exact c_fn (ρ0 := [some (.own .par (bx a b c)), dd (nt m), dd (nt n), dd (.bool false), dd (nt 3), none, none, none]) rfl rfl (c_seq (c_set (c_lst c_anil rfl) rfl) (c_seq (c_for (c_rng1 (n := m) (c_acons rfl rfl c_anil) (by omega)) e) (c_ret (dt_own rfl) rfl))) rfl
end
end K01

namespace K01
open PySem Vi PyProof.Rows
section
variable {cl : Nat → Fn} {b : Int}
/-! leaves bent -/
theorem bq_bd : ∀ (n : Nat) {d : D}, Bq n d = true → Bd n d = true
  | 0, d, h => by
    cases d with
    | int i => have := of_decide_eq_true h; exact decide_eq_true (by omega)
    | _ => cases h
  | n + 1, d, h => by
    cases d with
    | int i => have := of_decide_eq_true (p := i.natAbs ≤ 100) h; exact decide_eq_true (by omega)
    | tuple xs =>
      have h' : (decide (xs.length ≤ 100) && xs.all (Bq n)) = true := h
      rw [Bool.and_eq_true, List.all_eq_true] at h'
      show (decide (xs.length ≤ 1000) && xs.all (Bd n)) = true
      have := of_decide_eq_true h'.1
      rw [decide_eq_true (by omega), Bool.true_and, List.all_eq_true]
      exact fun x hx => bq_bd n (h'.2 x hx)
    | _ => cases h
theorem bd_tup {n : Nat} {xs : List D} (h : ∀ x ∈ xs, Bd n x = true) (hl : xs.length ≤ 1000) : Bd (n + 1) (.tuple xs) = true := by
  show (decide (xs.length ≤ 1000) && xs.all (Bd n)) = true
  rw [decide_eq_true hl, Bool.true_and, List.all_eq_true]; exact h
theorem bd_list {n : Nat} {xs : List D} (h : ∀ x ∈ xs, Bd n x = true) (hl : xs.length ≤ 1000) : Bd (n + 1) (.list xs) = true := by
  show (decide (xs.length ≤ 1000) && xs.all (Bd n)) = true
  rw [decide_eq_true hl, Bool.true_and, List.all_eq_true]; exact h
/-- what a call gives: a value or a list of its own -/
def Gv (r : Sv) (y : D) : Prop := r = .imm y ∨ ∃ L, r = .own .loc L ∧ y = .list L
def LeafP (f : Fn) (b : Int) (k : Nat) : Prop := ∀ (d : D) (a c : Int), Bq k d = true → 0 ≤ c → c + 2 * (k + 1) < 900000 → ∃ (r : Sv) (y : D) (a' c' : Int), f [.own .par (bx a b c), .imm d] = some (r, [some (bx a' b c'), none]) ∧ Gv r y ∧ Bd (k + 1) y = true ∧ 0 ≤ c' ∧ c' ≤ c + 2 * (k + 1)
abbrev LF (bb : List D) (d : D) (s2 s3 : Option Sv) : Fm := [some (.own .par bb), dd d, s2, s3]
def vE : MA := (mCons (bin dAdd (mVar 1) (mC (.int 1))) (mCons (bin dSub (mVar 1) (mC (.int 1))) (mCons (bin dSub (mC (.int 0)) (mVar 1)) (mCons (mC (.int 0)) (mCons (mC (.int 1)) (mCons (mC (.int 2)) (mCons (mC (.bool true)) (mCons (mC .none) (mCons (mC (.str "1")) (mCons (mTup (mCons (mC (.int 1)) mNil)) mNil))))))))))
def vInt (cl : Nat → Fn) : MS := (mRet (mCall (cl 24) (rSlot 0 (rVal (mLst vE) rNil))))
def vTake (cl : Nat → Fn) : MS := (mPar 2 3 (mCall (cl 22) (rSlot 0 (rVal (un dLen (mVar 1)) rNil))) (mCall (cl 22) (rSlot 0 (rVal (mC (.int 16)) rNil))))
def vTo : ME := (mSl (mVar 1) mNoPart (mPart (mVar 2)))
def vOff : ME := (mSl (mVar 1) (mPart (bin dAdd (mVar 2) (mC (.int 1)))) mNoPart)
def vIn (cl : Nat → Fn) : ME := (mTup (mCons (mCall (cl 34) (rSlot 0 (rVal (bin dIx (mVar 1) (mVar 2)) rNil))) mNil))
def vR0 : ME := (bin dAdd vTo vOff)
def vR2 : ME := (bin dAdd (mVar 1) (mTup (mCons (bin dIx (mVar 1) (mVar 2)) mNil)))
def vR3 (cl : Nat → Fn) : ME := (bin dAdd (bin dAdd vTo (vIn cl)) vOff)
def vIs (i : Int) : MT := (mB (bin dEq (mVar 3) (mC (.int i))))
def vWays (cl : Nat → Fn) : MS := (mSeq (mIfS (vIs 0) (mRet vR0) mNext) (mSeq (mIfS (vIs 1) (mRet (un dList (mVar 1))) mNext) (mSeq (mIfS (vIs 2) (mRet vR2) mNext) (mRet (vR3 cl)))))
def vNil : MS := (mIfS (mB (bin dEq (un dLen (mVar 1)) (mC (.int 0)))) (mRet (mTup (mCons (mTup (mCons (mC (.int 0)) (mCons (mC (.int 1)) mNil))) mNil))) mNext)
theorem leaf_fn (cl : Nat → Fn) : fn34 cl = mFn 4 2 (mSeq (mIfS (mTru (un (dIsi Ty.tuple) (mVar 1))) (mSeq vNil (mSeq (vTake cl) (vWays cl))) mNext) (vInt cl)) := rfl
theorem leaf_int (O : OfP (cl 24) b) {i : Int} {k : Nat} {a c : Int} (hi : i.natAbs ≤ 100) (h1 : 0 ≤ c) (h2 : c < 900000) : ∃ (r : Sv) (y : D) (a' c' : Int), fn34 cl [.own .par (bx a b c), .imm (.int i)] = some (r, [some (bx a' b c'), none]) ∧ Gv r y ∧ Bd (k + 1) y = true ∧ 0 ≤ c' ∧ c' ≤ c + 1 := by
  let V : List D := [.int (i + 1), .int (i - 1), .int (0 - i), .int 0, .int 1, .int 2, .bool true, .none, .str "1", .tuple [.int 1]]
  have hv : mLst vE (LF (bx a b c) (.int i) none none) = some (.val (.own .loc V), LF (bx a b c) (.int i) none none) := rfl
  obtain ⟨x, a1, c1, e, hx, p1, p2⟩ := O V a c (by simp [V]) (by simp [V]) h1 (by omega)
  have hb : Bd (k + 1) x = true := by
    simp only [V, List.mem_cons, List.not_mem_nil, or_false] at hx
    rcases hx with rfl | rfl | rfl | rfl | rfl | rfl | rfl | rfl | rfl | rfl
    · exact decide_eq_true (by omega)
    · exact decide_eq_true (by omega)
    · exact decide_eq_true (by omega)
    · exact decide_eq_true (by omega)
    · exact decide_eq_true (by omega)
    · exact decide_eq_true (by omega)
    · rfl
    · rfl
    · show PyData.strOk "1" = true
      decide +kernel
    · exact bd_tup (fun x hx => by
        rcases List.mem_cons.mp hx with rfl | hx
        · exact (bd_le (n := 0) (m := k) (show Bd 0 (.int 1) = true from rfl) (Nat.zero_le _))
        · cases hx) (by simp)
  refine ⟨.imm x, x, a1, c1, ?_, .inl rfl, hb, p1, p2⟩
  rw [leaf_fn]
  refine c_fn (ρ0 := LF (bx a b c) (.int i) none none) (ρ := LF (bx a1 b c1) (.int i) none none) rfl rfl (c_seq (c_ifF (c_tru (d := .bool false) rfl rfl rfl) c_skip) ?_) rfl
  exact c_ret (c_call (as := [.s 0, .v (.list V)]) (c_rslot rfl (c_rval hv rfl rfl)) rfl rfl e rfl) rfl
section
variable {xs : List D} {bb : List D} {k w : Nat}
theorem v_to (hs : k ≤ xs.length) : vTo (LF bb (.tuple xs) (ii (k : Int)) (ii (w : Int))) = some (.val (.imm (.tuple (xs.take k))), LF bb (.tuple xs) (ii (k : Int)) (ii (w : Int))) := by
  have hc := cut_to xs k hs
  have : vTo (LF bb (.tuple xs) (ii (k : Int)) (ii (w : Int))) = some (.val (.imm (.tuple (Vi.cutD xs none (some (k : Int))))), LF bb (.tuple xs) (ii (k : Int)) (ii (w : Int))) := rfl
  rw [this, hc]
theorem v_off (hs : k + 1 ≤ xs.length) : vOff (LF bb (.tuple xs) (ii (k : Int)) (ii (w : Int))) = some (.val (.imm (.tuple (xs.drop (k + 1)))), LF bb (.tuple xs) (ii (k : Int)) (ii (w : Int))) := by
  have hc := cut_off xs (k + 1) hs
  have : vOff (LF bb (.tuple xs) (ii (k : Int)) (ii (w : Int))) = some (.val (.imm (.tuple (Vi.cutD xs (some ((k + 1 : Nat) : Int)) none))), LF bb (.tuple xs) (ii (k : Int)) (ii (w : Int))) := rfl
  rw [this, hc]
theorem v_ix {d : D} (hk : xs[k]? = some d) : bin dIx (mVar 1) (mVar 2) (LF bb (.tuple xs) (ii (k : Int)) (ii (w : Int))) = some (.val (.imm d), LF bb (.tuple xs) (ii (k : Int)) (ii (w : Int))) :=
  c_bin rfl rfl rfl rfl (at_tup hk)
theorem v_is (j : Nat) : TB (vIs (j : Int)) (LF bb (.tuple xs) (ii (k : Int)) (ii (w : Int))) (decide (w = j)) := c_b (c_bin (t := .int (j : Int)) rfl rfl rfl rfl (eq_len w j))
end
theorem gv_give {r : Sv} {y : D} {ρ : Fm} (h : Gv r y) : frz ρ (.val r) = some (y, ρ) := by
  rcases h with rfl | ⟨L, rfl, rfl⟩ <;> rfl
theorem leaf_step (T : TakeP (cl 22) b) (O : OfP (cl 24) b) {k : Nat} (L : LeafP (cl 34) b k) : LeafP (fn34 cl) b (k + 1) := fun d a c hd h1 h2 => by
  cases d with
  | int i =>
    obtain ⟨r, y, a1, c1, e, g, q, p1, p2⟩ := leaf_int (cl := cl) (b := b) (i := i) (k := k + 1) (a := a) O (of_decide_eq_true (p := i.natAbs ≤ 100) hd) h1 (by omega)
    exact ⟨r, y, a1, c1, e, g, q, p1, by omega⟩
  | tuple xs =>
    have h' : (decide (xs.length ≤ 100) && xs.all (Bq k)) = true := hd
    rw [Bool.and_eq_true, List.all_eq_true] at h'
    have hl := of_decide_eq_true h'.1
    have hb : ∀ x ∈ xs, Bd (k + 1) x = true := fun x hx => bd_up k (bq_bd k (h'.2 x hx))
    have ht : TB (mTru (un (dIsi Ty.tuple) (mVar 1))) (LF (bx a b c) (.tuple xs) none none) true := c_tru (d := .bool true) rfl rfl rfl
    rw [leaf_fn]
    by_cases h0 : xs.length = 0
    · cases List.length_eq_zero_iff.mp h0
      refine ⟨.imm (.tuple [.tuple [.int 0, .int 1]]), .tuple [.tuple [.int 0, .int 1]], a, c, ?_, .inl rfl, ?_, h1, by omega⟩
      · exact c_fn (ρ0 := LF (bx a b c) (.tuple []) none none) (ρ := LF (bx a b c) (.tuple []) none none) rfl rfl (c_seqR (c_ifT ht (c_seqR rfl))) rfl
      · exact bd_le (n := 2) (m := k + 2) rfl (by omega)
    · have hn : vNil (LF (bx a b c) (.tuple xs) none none) = some (.next, LF (bx a b c) (.tuple xs) none none) := by
        have hq := eq_len xs.length 0
        rw [decide_eq_false h0] at hq
        exact c_ifF (c_b (c_bin (c_un rfl rfl rfl) rfl rfl rfl hq)) rfl
      obtain ⟨v, a1, c1, e1, q1, q2, p1, p2⟩ := T a c (xs.length : Int) (by omega) (by omega) h1 (by omega)
      obtain ⟨j, rfl⟩ : ∃ j : Nat, v = (j : Int) := ⟨v.toNat, by omega⟩
      obtain ⟨v, a2, c2, e2, q3, q4, p3, p4⟩ := T a1 c1 16 (by omega) (by omega) p1 (by omega)
      obtain ⟨w, rfl⟩ : ∃ w : Nat, v = (w : Int) := ⟨v.toNat, by omega⟩
      have hj : j < xs.length := by omega
      have htk : vTake cl (LF (bx a b c) (.tuple xs) none none) = some (.next, LF (bx a2 b c2) (.tuple xs) (ii (j : Int)) (ii (w : Int))) :=
        c_par (ρ2 := LF (bx a1 b c1) (.tuple xs) none none) (ρ4 := LF (bx a2 b c2) (.tuple xs) none none) (s1 := .imm (.int (j : Int))) (s2 := .imm (.int (w : Int))) (c_call (as := [.s 0, .v (.int (xs.length : Int))]) (c_rslot rfl (c_rval (c_un (s := .tuple xs) rfl rfl rfl) rfl rfl)) rfl rfl e1 rfl) rfl (c_call (as := [.s 0, .v (.int 16)]) (c_rslot rfl (c_rval rfl rfl rfl)) rfl rfl e2 rfl) rfl rfl
      have fin : ∀ {r : Sv} {y : D} {a' c' : Int}, vWays cl (LF (bx a2 b c2) (.tuple xs) (ii (j : Int)) (ii (w : Int))) = some (.ret r, LF (bx a' b c') (.tuple xs) (ii (j : Int)) (ii (w : Int))) → Gv r y → Bd (k + 1 + 1) y = true → 0 ≤ c' → c' ≤ c2 + 2 * (k + 1) → ∃ (r : Sv) (y : D) (a' c' : Int), mFn 4 2 (mSeq (mIfS (mTru (un (dIsi Ty.tuple) (mVar 1))) (mSeq vNil (mSeq (vTake cl) (vWays cl))) mNext) (vInt cl)) [.own .par (bx a b c), .imm (.tuple xs)] = some (r, [some (bx a' b c'), none]) ∧ Gv r y ∧ Bd (k + 1 + 1) y = true ∧ 0 ≤ c' ∧ c' ≤ c + 2 * (((k + 1 : Nat) : Int) + 1) := by
        intro r y a' c' hw g q r1 r2
        exact ⟨r, y, a', c', c_fn (ρ0 := LF (bx a b c) (.tuple xs) none none) rfl rfl (c_seqR (c_ifT ht (c_seq hn (c_seq htk hw)))) rfl, g, q, r1, by omega⟩
      have hx : xs[j]? = some xs[j] := List.getElem?_eq_getElem hj
      have hto := v_to (bb := bx a2 b c2) (w := w) (xs := xs) (k := j) (by omega)
      have hoff := v_off (bb := bx a2 b c2) (w := w) (xs := xs) (k := j) (by omega)
      by_cases w0 : w = 0
      · have t0 := v_is (bb := bx a2 b c2) (xs := xs) (k := j) (w := w) 0
        rw [decide_eq_true w0] at t0
        refine fin (c_seqR (c_ifT t0 (c_ret (c_bin hto hoff rfl rfl (c_addT (by rw [List.length_take, List.length_drop]; omega))) rfl))) (.inl rfl) (bd_tup (fun x hx => hb x ?_) (by rw [List.length_append, List.length_take, List.length_drop]; omega)) p3 (by omega)
        rcases List.mem_append.mp hx with h | h
        · exact List.mem_of_mem_take h
        · exact List.mem_of_mem_drop h
      · have t0 := v_is (bb := bx a2 b c2) (xs := xs) (k := j) (w := w) 0
        rw [decide_eq_false w0] at t0
        by_cases w1 : w = 1
        · have t1 := v_is (bb := bx a2 b c2) (xs := xs) (k := j) (w := w) 1
          rw [decide_eq_true w1] at t1
          exact fin (r := .own .loc xs) (y := .list xs) (c_seq (c_ifF t0 c_skip) (c_seqR (c_ifT t1 (c_ret (c_un rfl rfl rfl) rfl)))) (.inr ⟨xs, rfl, rfl⟩) (bd_list hb (by omega)) p3 (by omega)
        · have t1 := v_is (bb := bx a2 b c2) (xs := xs) (k := j) (w := w) 1
          rw [decide_eq_false w1] at t1
          by_cases w2 : w = 2
          · have t2 := v_is (bb := bx a2 b c2) (xs := xs) (k := j) (w := w) 2
            rw [decide_eq_true w2] at t2
            refine fin (c_seq (c_ifF t0 c_skip) (c_seq (c_ifF t1 c_skip) (c_seqR (c_ifT t2 (c_ret (c_bin rfl (c_tup (c_acons (v_ix hx) rfl c_anil) rfl) rfl rfl (c_addT (by simp; omega))) rfl))))) (.inl rfl) (bd_tup (fun x hx => hb x ?_) (by simp; omega)) p3 (by omega)
            rcases List.mem_append.mp hx with h | h
            · exact h
            · rcases List.mem_cons.mp h with rfl | h
              · exact List.getElem_mem hj
              · cases h
          · have t2 := v_is (bb := bx a2 b c2) (xs := xs) (k := j) (w := w) 2
            rw [decide_eq_false w2] at t2
            obtain ⟨r, y, a3, c3, e3, g, q, p5, p6⟩ := L xs[j] a2 c2 (h'.2 _ (List.getElem_mem hj)) p3 (by omega)
            have hin : vIn cl (LF (bx a2 b c2) (.tuple xs) (ii (j : Int)) (ii (w : Int))) = some (.val (.imm (.tuple [y])), LF (bx a3 b c3) (.tuple xs) (ii (j : Int)) (ii (w : Int))) :=
              c_tup (c_acons (c_call (as := [.s 0, .v xs[j]]) (c_rslot rfl (c_rval (v_ix hx) rfl rfl)) rfl rfl e3 rfl) (gv_give g) c_anil) rfl
            have hoff3 := v_off (bb := bx a3 b c3) (w := w) (xs := xs) (k := j) (by omega)
            refine fin (c_seq (c_ifF t0 c_skip) (c_seq (c_ifF t1 c_skip) (c_seq (c_ifF t2 c_skip) (c_ret (c_bin (c_bin hto hin rfl rfl (c_addT (by simp; omega))) hoff3 rfl rfl (c_addT (by simp; omega))) rfl)))) (.inl rfl) (bd_tup (fun x hx => ?_) (by simp; omega)) p5 (by omega)
            rcases List.mem_append.mp hx with h | h
            · rcases List.mem_append.mp h with h | h
              · exact hb x (List.mem_of_mem_take h)
              · rcases List.mem_cons.mp h with rfl | h
                · exact q
                · cases h
            · exact hb x (List.mem_of_mem_drop h)
  | _ => cases hd
theorem leaf_zero (O : OfP (cl 24) b) : LeafP (fn34 cl) b 0 := fun d a c hd h1 h2 => by
  cases d with
  | int i =>
    obtain ⟨r, y, a1, c1, e, g, q, p1, p2⟩ := leaf_int (cl := cl) (b := b) (i := i) (k := 0) (a := a) O (of_decide_eq_true (p := i.natAbs ≤ 100) hd) h1 (by omega)
    exact ⟨r, y, a1, c1, e, g, q, p1, by omega⟩
  | _ => cases hd
end
end K01

namespace K01
open PySem Vi PyProof.Rows
section
variable {cl : Nat → Fn} {b : Int}
/-! two lists of bools that are the same -/
abbrev bl (L : List Bool) : List D := L.map .bool
theorem same_b (v : Bool) : B2 (fn25 cl) (.bool v) (.bool v) true := by cases v <;> rfl
theorem same_loop (h : ∀ v, B2 (cl 25) (.bool v) (.bool v) true) {x y : D} : ∀ L : List Bool, cloop (mGtup 2 (mGcons (mN 2) (mGcons (mN 3) mGnil))) mYes (mCall (cl 25) (rVal (mVar 2) (rVal (mVar 3) rNil))) [2, 3] (zipD (bl L) (bl L)) [dd x, dd y, none, none] = some (L.map fun _ => .bool true, [dd x, dd y, none, none])
  | [] => rfl
  | v :: L => by
    have ih := same_loop h (x := x) (y := y) L
    exact c_ccons (ρ1 := [dd x, dd y, dd (.bool v), dd (.bool v)]) rfl rfl (v_call2 (ev_var (i := 2) rfl) (ev_var (i := 3) rfl) (h v)) rfl ih
def SameP (f : Fn) : Prop := ∀ L : List Bool, L.length ≤ 100 → B2 f (.list (bl L)) (.list (bl L)) true
theorem same_ok (h : ∀ v, B2 (cl 25) (.bool v) (.bool v) true) : SameP (fn25 cl) := fun L hl => by
  have hz : mIZip (mCons (mVar 0) (mCons (mVar 1) mNil)) [dd (.list (bl L)), dd (.list (bl L)), none, none] = some (zipD (bl L) (bl L), [dd (.list (bl L)), dd (.list (bl L)), none, none]) := rfl
  have hc := same_loop h (x := .list (bl L)) (y := .list (bl L)) L
  have ha : dAll (.list (L.map fun _ => .bool true)) = some (.imm (.bool true)) := by
    rw [all_of (fun _ : Bool => true) L, show (L.all fun _ => true) = true from List.all_eq_true.mpr fun _ _ => rfl]
  have hlen : un dLen (mVar 0) [dd (.list (bl L)), dd (.list (bl L)), none, none] = some (.val (.imm (nt (bl L).length)), [dd (.list (bl L)), dd (.list (bl L)), none, none]) := c_un rfl rfl rfl
  have hlen2 : un dLen (mVar 1) [dd (.list (bl L)), dd (.list (bl L)), none, none] = some (.val (.imm (nt (bl L).length)), [dd (.list (bl L)), dd (.list (bl L)), none, none]) := c_un rfl rfl rfl
  have he : EB (bin dEq (un dLen (mVar 0)) (un dLen (mVar 1))) [dd (.list (bl L)), dd (.list (bl L)), none, none] true := by
    have := eq_len (bl L).length (bl L).length
    rw [decide_eq_true rfl] at this
    exact c_bin hlen hlen2 rfl rfl this
  have hall : EB (un dAll (mComp (mIZip (mCons (mVar 0) (mCons (mVar 1) mNil))) (mGtup 2 (mGcons (mN 2) (mGcons (mN 3) mGnil))) mYes (mCall (cl 25) (rVal (mVar 2) (rVal (mVar 3) rNil))) [2, 3])) [dd (.list (bl L)), dd (.list (bl L)), none, none] true :=
    c_un (c_comp hz rfl hc (c_fits (by rw [List.length_map]; omega)) rfl) rfl ha
  have hf := eb_and he (fun _ => hall)
  generalize bl L = M at *
  exact c_fn (ρ0 := [dd (.list M), dd (.list M), none, none]) rfl rfl (c_seqR (c_ifT (c_tru (d := .bool true) rfl rfl rfl) (c_seq (c_ifF (c_orTF (c_b (b := false) rfl) (c_b rfl)) c_skip) (c_ret hf rfl)))) rfl
/-! what is drawn -/
theorem stg_some {ms : List D} {m n : Nat} (hm : 1 ≤ m) (hl : ms.length = m) (h : ∀ y ∈ ms, GMat n y) : stg (.tuple ms) m = some n := by
  cases ms with
  | nil => rw [← hl] at hm; exact absurd hm (by decide)
  | cons y r =>
    have hy := (h y (List.mem_cons_self ..)).1
    unfold sMat at hy
    rw [Bool.and_eq_true] at hy
    obtain ⟨t1, t2⟩ := tup2 hy.1
    have e0 : ix (.tuple (y :: r)) 0 = y := rfl
    unfold stg
    rw [e0, t1, t2, s_tup hl, decide_eq_false (by omega)]
    rw [if_neg (by decide), if_pos]
    exact List.all_eq_true.mpr fun x hx => (h x hx).1
theorem parts_some {ws : List D} {m n : Nat} (hl : ws.length = m) (h : ∀ y ∈ ws, GRow n y) : sParts (.tuple ws) m n = true := by
  unfold sParts
  rw [s_tup hl, Bool.true_and, List.all_eq_true]
  exact fun x hx => (h x hx).1
theorem tab_true {ms ws : List D} {m n : Nat} (hm : 1 ≤ m) (h1 : ms.length = m) (h2 : ws.length = m) (h3 : ∀ y ∈ ms, GMat n y) (h4 : ∀ y ∈ ws, GRow n y) : sTable (.tuple [.tuple ms, .tuple ws]) m = true := by
  unfold sTable
  rw [s_tup (n := 2) rfl, show ix (.tuple [.tuple ms, .tuple ws]) 0 = .tuple ms from rfl, stg_some hm h1 h3]
  exact parts_some h2 h4
theorem sheet_true {ms Ws : List D} {m n : Nat} (hm : 1 ≤ m) (h1 : ms.length = m) (h3 : ∀ y ∈ ms, GMat n y) (h4 : ∀ w ∈ Ws, ∃ ws : List D, w = .tuple ws ∧ ws.length = m ∧ ∀ y ∈ ws, GRow n y) : sSheet (.tuple [.tuple ms, .tuple Ws]) m = true := by
  unfold sSheet
  rw [s_tup (n := 2) rfl, show ix (.tuple [.tuple ms, .tuple Ws]) 0 = .tuple ms from rfl, show ix (.tuple [.tuple ms, .tuple Ws]) 1 = .tuple Ws from rfl, stg_some hm h1 h3]
  show (true && (true && Ws.all fun x => sParts x m n)) = true
  rw [Bool.true_and, Bool.true_and, List.all_eq_true]
  intro w hw
  obtain ⟨ws, rfl, k1, k2⟩ := h4 w hw
  exact parts_some k1 k2
theorem stg_none {ms : List D} {m : Nat} (hl : ms.length = m) : stg (.tuple ms) (m + 1) = none := by
  have : sTup (.tuple ms) (m + 1) = false := by
    show (true && decide (ms.length = m + 1)) = false
    rw [decide_eq_false (by omega)]; rfl
  unfold stg
  rw [this, if_pos]
  cases decide (m + 1 < 1) <;> rfl
theorem tab_false {ms : List D} {z : D} {m : Nat} (h1 : ms.length = m) : sTable (.tuple [.tuple ms, z]) (m + 1) = false := by
  unfold sTable
  rw [show ix (.tuple [.tuple ms, z]) 0 = .tuple ms from rfl, stg_none h1]
  exact Bool.and_false _
theorem sheet_false {ms : List D} {z : D} {m : Nat} (h1 : ms.length = m) : sSheet (.tuple [.tuple ms, z]) (m + 1) = false := by
  unfold sSheet
  rw [show ix (.tuple [.tuple ms, z]) 0 = .tuple ms from rfl, stg_none h1]
  show (_ && (_ && false)) = false
  rw [Bool.and_false, Bool.and_false]
theorem bq_le {n m : Nat} {d : D} (h : Bq n d = true) (k : n ≤ m) : Bq m d = true := by
  obtain ⟨j, rfl⟩ := Nat.le.dest k
  induction j with
  | zero => exact h
  | succ j ih => exact bq_up (n + j) (ih (by omega))
theorem bq_in {n : Nat} {d : D} (h : Bq n d = true) (k : n ≤ 40) : In d := bd_le (bq_bd n h) k
theorem tab_bq {ms ws : List D} {m n : Nat} (hm : m ≤ 100) (h1 : ms.length = m) (h2 : ws.length = m) (h3 : ∀ y ∈ ms, GMat n y) (h4 : ∀ y ∈ ws, GRow n y) : Bq 4 (.tuple ms) = true ∧ Bq 4 (.tuple ws) = true :=
  ⟨all_bq (k := 3) (fun x hx => (h3 x hx).2) (by omega), all_bq (k := 3) (fun x hx => bq_up 2 (h4 x hx).2) (by omega)⟩
end
end K01

namespace K01
open PySem Vi PyProof.Rows
/-! the law's right -/
structure RP (cl : Nat → Fn) (b : Int) : Prop where
  T : TakeP (cl 22) b
  tab : TabP (cl 31) b
  chg : ChgOfP (cl 33) b
  pol : PolyOfP (cl 32) b
  leaf : LeafP (cl 34) b 5
  it : TableP (cl 14)
  is : SheetP (cl 15)
  ic : ChangeP (cl 19)
  ip : PolyP (cl 18)
  lb : BoardP (cl 38)
  lp : PolyP (cl 39)
  lc : ChangeP (cl 40)
  same : SameP (cl 25)
section
variable {cl : Nat → Fn} {b : Int}
def r1 (cl : Nat → Fn) : MS := (mPar 1 2 (bin dAdd (mC (.int 1)) (mCall (cl 22) (rSlot 0 (rVal (mC (.int 3)) rNil)))) (bin dAdd (mC (.int 1)) (mCall (cl 22) (rSlot 0 (rVal (mC (.int 2)) rNil)))))
def r2 (cl : Nat → Fn) : MS := (mSet 3 (mCall (cl 31) (rSlot 0 (rVal (mVar 1) (rVal (mCall (cl 22) (rSlot 0 (rVal (mC (.int 4)) rNil))) (rVal (mC (.bool false)) rNil))))))
def r3 (cl : Nat → Fn) : MS := (mSet 4 (mCall (cl 31) (rSlot 0 (rVal (mVar 1) (rVal (un dLen (bin dIx (bin dIx (mVar 3) (mC (.int 0))) (mC (.int 0)))) (rVal (mC (.bool false)) rNil))))))
def r4 (cl : Nat → Fn) : MS := (mSet 5 (mTup (mCons (bin dIx (mVar 3) (mC (.int 0))) (mCons (mSl (mTup (mCons (bin dIx (mVar 3) (mC (.int 1))) (mCons (bin dIx (mVar 4) (mC (.int 1))) mNil))) mNoPart (mPart (mCall (cl 22) (rSlot 0 (rVal (mC (.int 3)) rNil))))) mNil))))
def r5 (cl : Nat → Fn) : MS := (mSet 6 (mCall (cl 33) (rSlot 0 (rVal (mVar 1) (rVal (mVar 2) (rVal (mC (.bool false)) (rVal (mC (.int 3)) rNil)))))))
def r6 (cl : Nat → Fn) : MS := (mPar 7 8 (mLst (mCons (mCall (cl 14) (rVal (mVar 3) (rVal (mVar 1) rNil))) (mCons (mCall (cl 15) (rVal (mVar 5) (rVal (mVar 1) rNil))) (mCons (mCall (cl 19) (rVal (mVar 6) rNil)) mNil)))) (mLst (mCons (mC (.bool true)) (mCons (mC (.bool true)) (mCons (mC (.bool true)) mNil)))))
def q1 (cl : Nat → Fn) : MS := (mSet 10 (mLst (mCons (mCall (cl 34) (rSlot 0 (rVal (mVar 3) rNil))) (mCons (mCall (cl 34) (rSlot 0 (rVal (mVar 5) rNil))) (mCons (mCall (cl 34) (rSlot 0 (rVal (mVar 6) rNil))) mNil)))))
def q2 (cl : Nat → Fn) : MS := (mSet 7 (bin dAdd (mVar 7) (mLst (mCons (mCall (cl 14) (rVal (bin dIx (mVar 10) (mC (.int 0))) (rVal (mVar 1) rNil))) (mCons (mCall (cl 15) (rVal (bin dIx (mVar 10) (mC (.int 1))) (rVal (mVar 1) rNil))) (mCons (mCall (cl 19) (rVal (bin dIx (mVar 10) (mC (.int 2))) rNil)) mNil))))))
def q3 (cl : Nat → Fn) : MS := (mSet 8 (bin dAdd (mVar 8) (mLst (mCons (mCall (cl 38) (rVal (bin dIx (mVar 10) (mC (.int 0))) (rVal (mVar 1) (rVal (mC (.bool true)) rNil)))) (mCons (mCall (cl 38) (rVal (bin dIx (mVar 10) (mC (.int 1))) (rVal (mVar 1) (rVal (mC (.bool false)) rNil)))) (mCons (mCall (cl 40) (rVal (bin dIx (mVar 10) (mC (.int 2))) rNil)) mNil))))))
def q4 (cl : Nat → Fn) : MS := (mSet 11 (mCall (cl 32) (rSlot 0 (rVal (mVar 2) (rVal (mVar 2) (rVal (mC (.int 3)) rNil))))))
def q5 (cl : Nat → Fn) : MS := (mSet 12 (mCall (cl 34) (rSlot 0 (rVal (mVar 11) rNil))))
def q6 (cl : Nat → Fn) : MS := (mSet 7 (bin dAdd (mVar 7) (mLst (mCons (mCall (cl 18) (rVal (mVar 11) (rVal (mVar 2) rNil))) (mCons (mCall (cl 18) (rVal (mVar 12) (rVal (mVar 2) rNil))) mNil)))))
def q7 (cl : Nat → Fn) : MS := (mSet 8 (bin dAdd (mVar 8) (mLst (mCons (mC (.bool true)) (mCons (mCall (cl 39) (rVal (mVar 12) (rVal (mVar 2) rNil))) mNil)))))
def qB (cl : Nat → Fn) : MS := (mSeq (q1 cl) (mSeq (q2 cl) (mSeq (q3 cl) (mSeq (q4 cl) (mSeq (q5 cl) (mSeq (q6 cl) (q7 cl)))))))
def r7 (cl : Nat → Fn) : MS := (mSet 7 (bin dAdd (mVar 7) (mLst (mCons (mCall (cl 14) (rVal (mVar 3) (rVal (bin dAdd (mVar 1) (mC (.int 1))) rNil))) (mCons (mCall (cl 15) (rVal (mVar 5) (rVal (bin dAdd (mVar 1) (mC (.int 1))) rNil))) (mCons (mCall (cl 15) (rVal (mVar 3) (rVal (mVar 1) rNil))) (mCons (mCall (cl 14) (rVal (mVar 5) (rVal (mVar 1) rNil))) mNil)))))))
def r8 (cl : Nat → Fn) : MS := (mSet 8 (bin dAdd (mVar 8) (mLst (mCons (mC (.bool false)) (mCons (mC (.bool false)) (mCons (mCall (cl 38) (rVal (mVar 3) (rVal (mVar 1) (rVal (mC (.bool false)) rNil)))) (mCons (mCall (cl 38) (rVal (mVar 5) (rVal (mVar 1) (rVal (mC (.bool true)) rNil)))) mNil)))))))
def r9 (cl : Nat → Fn) : MS := (mRet (mCall (cl 25) (rVal (mVar 7) (rVal (mVar 8) rNil))))
theorem right_fn (cl : Nat → Fn) : fn42 cl = mFn 13 1 (mSeq (r1 cl) (mSeq (r2 cl) (mSeq (r3 cl) (mSeq (r4 cl) (mSeq (r5 cl) (mSeq (r6 cl) (mSeq (mFor (mIRng1 (mCons (mC (.int 3)) mNil)) (mN 9) (qB cl)) (mSeq (r7 cl) (mSeq (r8 cl) (r9 cl)))))))))) := rfl
abbrev RF (bb : List D) (s1 s2 s3 s4 s5 s6 s7 s8 s9 s10 s11 s12 : Option Sv) : Fm := [some (.own .par bb), s1, s2, s3, s4, s5, s6, s7, s8, s9, s10, s11, s12]
abbrev ow (L : List D) : Option Sv := some (.own .loc L)
theorem e_take {ρ : List D → Fm} (T : TakeP (cl 22) b) (i : Nat) (hi : 1 ≤ i ∧ i ≤ 100) {a c : Int} (h1 : 0 ≤ c) (h2 : c < 900000) (e0 : ∀ bb, (ρ bb)[0]? = some (some (.own .par bb)) := by intro; rfl) (e1 : ∀ bb bb', Vi.backTo (ρ bb) [.s 0, .v (.int (i : Int))] [some bb', none] = some (ρ bb') := by intros; rfl) :
    ∃ (a' c' : Int) (k : Nat), mCall (cl 22) (rSlot 0 (rVal (mC (.int (i : Int))) rNil)) (ρ (bx a b c)) = some (.val (.imm (nt k)), ρ (bx a' b c')) ∧ k < i ∧ 0 ≤ c' ∧ c' ≤ c + 1 := by
  obtain ⟨v, a1, c1, e, q1, q2, p1, p2⟩ := T a c (i : Int) (by omega) (by omega) h1 (by omega)
  obtain ⟨k, rfl⟩ : ∃ k : Nat, v = (k : Int) := ⟨v.toNat, by omega⟩
  refine ⟨a1, c1, k, c_call (as := [.s 0, .v (.int (i : Int))]) (c_rslot (e0 _) (c_rval rfl rfl rfl)) rfl ?_ e (e1 _ _), by omega, p1, p2⟩
  unfold Vi.argsOf
  simp only [e0]
  rfl
theorem r1_ok (R : RP cl b) {a c : Int} {s1 s2 : Option Sv} (h1 : 0 ≤ c) (h2 : c < 800000) : ∃ (a' c' : Int) (m n : Nat), r1 cl (RF (bx a b c) s1 s2 none none none none none none none none none none) = some (.next, RF (bx a' b c') (dd (nt m)) (dd (nt n)) none none none none none none none none none none) ∧ 1 ≤ m ∧ m ≤ 3 ∧ 1 ≤ n ∧ n ≤ 2 ∧ 0 ≤ c' ∧ c' ≤ c + 2 := by
  obtain ⟨a1, c1, m, e1, k1, p1, p2⟩ := e_take (ρ := fun bb => RF bb s1 s2 none none none none none none none none none none) R.T 3 (by omega) (a := a) h1 (by omega)
  obtain ⟨a2, c2, n, e2, k2, p3, p4⟩ := e_take (ρ := fun bb => RF bb s1 s2 none none none none none none none none none none) R.T 2 (by omega) (a := a1) p1 (by omega)
  refine ⟨a2, c2, 1 + m, 1 + n, ?_, by omega, by omega, by omega, by omega, p3, by omega⟩
  have f1 : ∀ k : Nat, dAdd (.int 1) (nt k) = some (.imm (nt (1 + k))) := fun k => by
    show some (Sv.imm (.int (1 + (k : Int)))) = some (Sv.imm (.int ((1 + k : Nat) : Int)))
    rw [show ((1 + k : Nat) : Int) = 1 + (k : Int) by omega]
  exact c_par (s1 := .imm (nt (1 + m))) (s2 := .imm (nt (1 + n))) (c_bin rfl e1 rfl rfl (f1 m)) rfl (c_bin rfl e2 rfl rfl (f1 n)) rfl rfl
theorem r2_ok (R : RP cl b) {a c : Int} {m : Nat} {s2 : Option Sv} (hm : m ≤ 3) (h1 : 0 ≤ c) (h2 : c < 10000) : ∃ (a' c' : Int) (k : Nat) (t : D), r2 cl (RF (bx a b c) (dd (nt m)) s2 none none none none none none none none none none) = some (.next, RF (bx a' b c') (dd (nt m)) s2 (dd t) none none none none none none none none none) ∧ k ≤ 4 ∧ GTab m k t ∧ 0 ≤ c' ∧ c' ≤ c + 61 := by
  obtain ⟨a1, c1, k, e1, k1, p1, p2⟩ := e_take (ρ := fun bb => RF bb (dd (nt m)) s2 none none none none none none none none none none) R.T 4 (by omega) (a := a) h1 (by omega)
  obtain ⟨t, a2, c2, e2, g, p3, p4⟩ := R.tab m k a1 c1 hm (by omega) p1 (by omega)
  exact ⟨a2, c2, k, t, c_set (c_call (as := [.s 0, .v (nt m), .v (nt k), .v (.bool false)]) (c_rslot rfl (c_rval rfl rfl (c_rval e1 rfl (c_rval rfl rfl rfl)))) rfl rfl e2 rfl) rfl, by omega, g, p3, by omega⟩
theorem r3_ok (R : RP cl b) {a c : Int} {m k : Nat} {t : D} {s2 : Option Sv} (hm1 : 1 ≤ m) (hm : m ≤ 3) (hk : k ≤ 4) (g : GTab m k t) (h1 : 0 ≤ c) (h2 : c < 10000) : ∃ (a' c' : Int) (o : D), r3 cl (RF (bx a b c) (dd (nt m)) s2 (dd t) none none none none none none none none none) = some (.next, RF (bx a' b c') (dd (nt m)) s2 (dd t) (dd o) none none none none none none none none) ∧ GTab m k o ∧ 0 ≤ c' ∧ c' ≤ c + 60 := by
  obtain ⟨ms, ws, rfl, l1, l2, g1, g2⟩ := g
  cases ms with
  | nil => rw [← l1] at hm1; exact absurd hm1 (by decide)
  | cons y r =>
    have hy := (g1 y (List.mem_cons_self ..)).1
    unfold sMat at hy
    rw [Bool.and_eq_true] at hy
    obtain ⟨t1, t2⟩ := tup2 hy.1
    obtain ⟨o, a2, c2, e2, g, p3, p4⟩ := R.tab m k a c hm hk h1 (by omega)
    have ev : EV (bin dIx (bin dIx (mVar 3) (mC (.int 0))) (mC (.int 0))) (RF (bx a b c) (dd (nt m)) s2 (dd (.tuple [.tuple (y :: r), .tuple ws])) none none none none none none none none none) y :=
      ev_ix (d := .tuple (y :: r)) (k := 0) (ev_ix (d := .tuple [.tuple (y :: r), .tuple ws]) (k := 0) (ev_var rfl) rfl (show 0 < 2 by decide)) rfl (by show 0 < r.length + 1; omega)
    have el := vv_len ev t1
    rw [t2] at el
    exact ⟨a2, c2, o, c_set (c_call (as := [.s 0, .v (nt m), .v (nt k), .v (.bool false)]) (c_rslot rfl (c_rval rfl rfl (c_rval el rfl (c_rval rfl rfl rfl)))) rfl rfl e2 rfl) rfl, g, p3, p4⟩
theorem c_sl {me : ME} {ml mh : MO} {ρ ρ1 ρ2 ρ3 : Fm} {pr : PR} {lo hi : Option Int} {d : D} {s : Sv} (h1 : me ρ = some (pr, ρ1)) (h2 : ml ρ1 = some (lo, ρ2)) (h3 : mh ρ2 = some (hi, ρ3)) (h4 : peek ρ3 pr = some d) (h5 : dCut lo hi d = some s) : mSl me ml mh ρ = some (.val s, ρ3) := by
  unfold mSl
  rw [h1]
  simp only [h2, h3, h4, h5]
theorem c_part {me : ME} {ρ ρ1 : Fm} {i : Int} (h : me ρ = some (.val (.imm (.int i)), ρ1)) : mPart me ρ = some (some i, ρ1) := by
  unfold mPart
  rw [h]; rfl
theorem r4_ok (R : RP cl b) {a c : Int} {ms ws ms' ws' : List D} {s1 s2 : Option Sv} (h1 : 0 ≤ c) (h2 : c < 10000) : ∃ (a' c' : Int) (j : Nat), r4 cl (RF (bx a b c) s1 s2 (dd (.tuple [.tuple ms, .tuple ws])) (dd (.tuple [.tuple ms', .tuple ws'])) none none none none none none none none) = some (.next, RF (bx a' b c') s1 s2 (dd (.tuple [.tuple ms, .tuple ws])) (dd (.tuple [.tuple ms', .tuple ws'])) (dd (.tuple [.tuple ms, .tuple ([.tuple ws, .tuple ws'].take j)])) none none none none none none none) ∧ 0 ≤ c' ∧ c' ≤ c + 1 := by
  obtain ⟨a1, c1, j, e1, k1, p1, p2⟩ := e_take (ρ := fun bb => RF bb s1 s2 (dd (.tuple [.tuple ms, .tuple ws])) (dd (.tuple [.tuple ms', .tuple ws'])) none none none none none none none none) R.T 3 (by omega) (a := a) h1 (by omega)
  have hc := cut_to [(.tuple ws : D), .tuple ws'] j (by simp; omega)
  have hs : mSl (mTup (mCons (bin dIx (mVar 3) (mC (.int 1))) (mCons (bin dIx (mVar 4) (mC (.int 1))) mNil))) mNoPart (mPart (mCall (cl 22) (rSlot 0 (rVal (mC (.int 3)) rNil)))) (RF (bx a b c) s1 s2 (dd (.tuple [.tuple ms, .tuple ws])) (dd (.tuple [.tuple ms', .tuple ws'])) none none none none none none none none) = some (.val (.imm (.tuple ([.tuple ws, .tuple ws'].take j))), RF (bx a1 b c1) s1 s2 (dd (.tuple [.tuple ms, .tuple ws])) (dd (.tuple [.tuple ms', .tuple ws'])) none none none none none none none none) := by
    refine c_sl (pr := .val (.imm (.tuple [.tuple ws, .tuple ws']))) (d := .tuple [.tuple ws, .tuple ws']) (ρ1 := RF (bx a b c) s1 s2 (dd (.tuple [.tuple ms, .tuple ws])) (dd (.tuple [.tuple ms', .tuple ws'])) none none none none none none none none) rfl rfl (c_part e1) rfl ?_
    show some (Sv.imm (.tuple (Vi.cutD [.tuple ws, .tuple ws'] none (some (j : Int))))) = _
    rw [hc]
  exact ⟨a1, c1, j, c_set (c_tup (c_acons (pr := .val (.imm (.tuple ms))) rfl rfl (c_acons hs rfl c_anil)) rfl) rfl, p1, p2⟩
theorem r5_ok (R : RP cl b) {a c : Int} {m n : Nat} {s3 s4 s5 : Option Sv} (hm1 : 1 ≤ m) (hm : m ≤ 3) (hn1 : 1 ≤ n) (hn : n ≤ 2) (h1 : 0 ≤ c) (h2 : c < 10000) : ∃ (a' c' : Int) (h : D), r5 cl (RF (bx a b c) (dd (nt m)) (dd (nt n)) s3 s4 s5 none none none none none none none) = some (.next, RF (bx a' b c') (dd (nt m)) (dd (nt n)) s3 s4 s5 (dd h) none none none none none none) ∧ sChange h = true ∧ Bq 5 h = true ∧ 0 ≤ c' ∧ c' ≤ c + 66 := by
  obtain ⟨h, a2, c2, e2, g1, g2, p3, p4⟩ := R.chg m n a c hm1 hm hn1 hn h1 (by omega)
  exact ⟨a2, c2, h, c_set (c_call (as := [.s 0, .v (nt m), .v (nt n), .v (.bool false), .v (nt 3)]) (c_rslot rfl (c_rval rfl rfl (c_rval rfl rfl (c_rval rfl rfl (c_rval rfl rfl rfl))))) rfl rfl e2 rfl) rfl, g1, g2, p3, p4⟩
/-- the board that stays -/
structure Bo (m n : Nat) (t s h : D) : Prop where
  m1 : 1 ≤ m
  n1 : 1 ≤ n
  n2 : n ≤ 2
  t1 : Bq 5 t = true
  s1 : Bq 5 s = true
  h1 : Bq 5 h = true
  t2 : sTable t m = true
  s2 : sSheet s m = true
  h2 : sChange h = true
  t3 : sTable t (m + 1) = false
  s3 : sSheet s (m + 1) = false
theorem r6_ok (R : RP cl b) {bb : List D} {m n : Nat} {t s h : D} {s4 s9 s10 s11 s12 : Option Sv} (g : Bo m n t s h) : r6 cl (RF bb (dd (nt m)) (dd (nt n)) (dd t) s4 (dd s) (dd h) none none s9 s10 s11 s12) = some (.next, RF bb (dd (nt m)) (dd (nt n)) (dd t) s4 (dd s) (dd h) (ow (bl [true, true, true])) (ow (bl [true, true, true])) s9 s10 s11 s12) := by
  have b1 := R.it t m (bq_in g.t1 (by decide)) g.m1
  have b2 := R.is s m (bq_in g.s1 (by decide)) g.m1
  have b3 := R.ic h (bq_in g.h1 (by decide))
  rw [g.t2] at b1
  rw [g.s2] at b2
  rw [g.h2] at b3
  have v1 : mLst (mCons (mCall (cl 14) (rVal (mVar 3) (rVal (mVar 1) rNil))) (mCons (mCall (cl 15) (rVal (mVar 5) (rVal (mVar 1) rNil))) (mCons (mCall (cl 19) (rVal (mVar 6) rNil)) mNil))) (RF bb (dd (nt m)) (dd (nt n)) (dd t) s4 (dd s) (dd h) none none s9 s10 s11 s12) = some (.val (.own .loc (bl [true, true, true])), RF bb (dd (nt m)) (dd (nt n)) (dd t) s4 (dd s) (dd h) none none s9 s10 s11 s12) :=
    v_lst (ea_cons (eb_ev (v_call2 (ev_var rfl) (ev_var rfl) b1)) (ea_cons (eb_ev (v_call2 (ev_var rfl) (ev_var rfl) b2)) (ea_cons (eb_ev (v_call1 (ev_var rfl) b3)) ea_nil))) (by simp)
  have v2 : mLst (mCons (mC (.bool true)) (mCons (mC (.bool true)) (mCons (mC (.bool true)) mNil))) (RF bb (dd (nt m)) (dd (nt n)) (dd t) s4 (dd s) (dd h) none none s9 s10 s11 s12) = some (.val (.own .loc (bl [true, true, true])), RF bb (dd (nt m)) (dd (nt n)) (dd t) s4 (dd s) (dd h) none none s9 s10 s11 s12) := rfl
  exact c_par v1 rfl v2 rfl rfl
theorem e_leaf {ρ : List D → Fm} (L : LeafP (cl 34) b 5) {d : D} (hd : Bq 5 d = true) (i : Nat) {a c : Int} (h1 : 0 ≤ c) (h2 : c < 800000) (h : ∀ bb, (ρ bb)[i]? = some (dd d)) (e0 : ∀ bb, (ρ bb)[0]? = some (some (.own .par bb))) (e1 : ∀ bb bb', Vi.backTo (ρ bb) [.s 0, .v d] [some bb', none] = some (ρ bb')) :
    ∃ (r : Sv) (y : D) (a' c' : Int), mCall (cl 34) (rSlot 0 (rVal (mVar i) rNil)) (ρ (bx a b c)) = some (.val r, ρ (bx a' b c')) ∧ Gv r y ∧ In y ∧ 0 ≤ c' ∧ c' ≤ c + 12 := by
  obtain ⟨r, y, a1, c1, e, g, q, p1, p2⟩ := L d a c hd h1 (by omega)
  obtain ⟨pr, f1, f2, _⟩ := ev_var (h (bx a b c))
  refine ⟨r, y, a1, c1, c_call (as := [.s 0, .v d]) (c_rslot (e0 _) (c_rval f1 f2 rfl)) rfl ?_ e (e1 _ _), g, bd_le q (by decide), p1, by omega⟩
  unfold Vi.argsOf
  simp only [e0]
  rfl
section
variable {m n : Nat} {t s h : D} {s4 s9 : Option Sv}
abbrev QR (bb : List D) (m n : Nat) (t : D) (s4 : Option Sv) (s h : D) (H E : List D) (s9 s10 s11 s12 : Option Sv) : Fm := RF bb (dd (nt m)) (dd (nt n)) (dd t) s4 (dd s) (dd h) (ow H) (ow E) s9 s10 s11 s12
theorem q1_ok (R : RP cl b) (g : Bo m n t s h) {a c : Int} {H E : List D} {s10 s11 s12 : Option Sv} (h1 : 0 ≤ c) (h2 : c < 700000) : ∃ (a' c' : Int) (y0 y1 y2 : D), q1 cl (QR (bx a b c) m n t s4 s h H E s9 s10 s11 s12) = some (.next, QR (bx a' b c') m n t s4 s h H E s9 (ow [y0, y1, y2]) s11 s12) ∧ In y0 ∧ In y1 ∧ In y2 ∧ 0 ≤ c' ∧ c' ≤ c + 36 := by
  obtain ⟨r0, y0, a1, c1, e0, g0, i0, p1, p2⟩ := e_leaf (ρ := fun bb => QR bb m n t s4 s h H E s9 s10 s11 s12) R.leaf g.t1 3 (a := a) h1 (by omega) (fun _ => rfl) (fun _ => rfl) (fun _ _ => rfl)
  obtain ⟨r1, y1, a2, c2, e1, g1, i1, p3, p4⟩ := e_leaf (ρ := fun bb => QR bb m n t s4 s h H E s9 s10 s11 s12) R.leaf g.s1 5 (a := a1) p1 (by omega) (fun _ => rfl) (fun _ => rfl) (fun _ _ => rfl)
  obtain ⟨r2, y2, a3, c3, e2, g2, i2, p5, p6⟩ := e_leaf (ρ := fun bb => QR bb m n t s4 s h H E s9 s10 s11 s12) R.leaf g.h1 6 (a := a2) p3 (by omega) (fun _ => rfl) (fun _ => rfl) (fun _ _ => rfl)
  exact ⟨a3, c3, y0, y1, y2, c_set (c_lst (c_acons e0 (gv_give g0) (c_acons e1 (gv_give g1) (c_acons e2 (gv_give g2) c_anil))) rfl) rfl, i0, i1, i2, p5, by omega⟩
variable {bb : List D} {H E : List D} {y0 y1 y2 p y : D} {s10 s11 s12 : Option Sv}
theorem q2_ok (R : RP cl b) (g : Bo m n t s h) (i0 : In y0) (i1 : In y1) (i2 : In y2) (hH : H.length ≤ 100) : q2 cl (QR bb m n t s4 s h H E s9 (ow [y0, y1, y2]) s11 s12) = some (.next, QR bb m n t s4 s h (H ++ bl [sTable y0 m, sSheet y1 m, sChange y2]) E s9 (ow [y0, y1, y2]) s11 s12) :=
  s_grow (i := 7) (b := .loc) (b2 := .loc) rfl (v_lst (ea_cons (eb_ev (v_call2 (ev_val (c_bin rfl rfl rfl rfl rfl)) (ev_var rfl) (R.it y0 m i0 g.m1))) (ea_cons (eb_ev (v_call2 (ev_val (c_bin rfl rfl rfl rfl rfl)) (ev_var rfl) (R.is y1 m i1 g.m1))) (ea_cons (eb_ev (v_call1 (ev_val (c_bin rfl rfl rfl rfl rfl)) (R.ic y2 i2))) ea_nil))) (by simp)) (by simp; omega)
theorem q3_ok (R : RP cl b) (g : Bo m n t s h) (i0 : In y0) (i1 : In y1) (i2 : In y2) (hE : E.length ≤ 100) : q3 cl (QR bb m n t s4 s h H E s9 (ow [y0, y1, y2]) s11 s12) = some (.next, QR bb m n t s4 s h H (E ++ bl [sTable y0 m, sSheet y1 m, sChange y2]) s9 (ow [y0, y1, y2]) s11 s12) := by
  have b1 := R.lb y0 m true i0 g.m1
  rw [if_pos rfl] at b1
  have b2 := R.lb y1 m false i1 g.m1
  rw [if_neg (by decide)] at b2
  exact s_grow (i := 8) (b := .loc) (b2 := .loc) rfl (v_lst (ea_cons (eb_ev (v_call3 (ev_val (c_bin rfl rfl rfl rfl rfl)) (ev_var rfl) ev_c b1)) (ea_cons (eb_ev (v_call3 (ev_val (c_bin rfl rfl rfl rfl rfl)) (ev_var rfl) ev_c b2)) (ea_cons (eb_ev (v_call1 (ev_val (c_bin rfl rfl rfl rfl rfl)) (R.lc y2 i2))) ea_nil))) (by simp)) (by simp; omega)
theorem q4_ok (R : RP cl b) (g : Bo m n t s h) {a c : Int} (h1 : 0 ≤ c) (h2 : c < 19000) : ∃ (a' c' : Int) (p : D), q4 cl (QR (bx a b c) m n t s4 s h H E s9 s10 s11 s12) = some (.next, QR (bx a' b c') m n t s4 s h H E s9 s10 (dd p) s12) ∧ GPoly n p ∧ 0 ≤ c' ∧ c' ≤ c + 11 := by
  have hn := g.n2
  obtain ⟨p, a2, c2, e2, g1, p3, p4⟩ := R.pol n a c g.n1 (by omega) h1 (by omega)
  exact ⟨a2, c2, p, c_set (c_call (as := [.s 0, .v (nt n), .v (nt n), .v (nt 3)]) (c_rslot rfl (c_rval rfl rfl (c_rval rfl rfl (c_rval rfl rfl rfl)))) rfl rfl e2 rfl) rfl, g1, p3, p4⟩
theorem q5_ok (R : RP cl b) {a c : Int} (hp : Bq 5 p = true) (h1 : 0 ≤ c) (h2 : c < 700000) : ∃ (a' c' : Int) (r : Sv) (y : D), q5 cl (QR (bx a b c) m n t s4 s h H E s9 s10 (dd p) s12) = some (.next, QR (bx a' b c') m n t s4 s h H E s9 s10 (dd p) (some r)) ∧ Gv r y ∧ In y ∧ 0 ≤ c' ∧ c' ≤ c + 12 := by
  obtain ⟨r0, y0, a1, c1, e0, g0, i0, p1, p2⟩ := e_leaf (ρ := fun bb => QR bb m n t s4 s h H E s9 s10 (dd p) s12) R.leaf hp 11 (a := a) h1 (by omega) (fun _ => rfl) (fun _ => rfl) (fun _ _ => rfl)
  refine ⟨a1, c1, r0, y0, c_set e0 ?_, g0, i0, p1, p2⟩
  rcases g0 with rfl | ⟨L, rfl, rfl⟩ <;> rfl
theorem q6_ok (R : RP cl b) {r : Sv} (hp : GPoly n p) (g : Gv r y) (i : In y) (hH : H.length ≤ 100) : q6 cl (QR bb m n t s4 s h H E s9 s10 (dd p) (some r)) = some (.next, QR bb m n t s4 s h (H ++ bl [true, sPoly y n]) E s9 s10 (dd p) (dd y)) := by
  have b1 := R.ip p n (bq_in hp.2 (by decide))
  rw [hp.1] at b1
  have b2 := R.ip y n i
  have ca : mCall (cl 18) (rVal (mVar 11) (rVal (mVar 2) rNil)) (QR bb m n t s4 s h H E s9 s10 (dd p) (some r)) = some (.val (.imm (.bool true)), QR bb m n t s4 s h H E s9 s10 (dd p) (some r)) := v_call2 (ev_var rfl) (ev_var rfl) b1
  have cb : mCall (cl 18) (rVal (mVar 12) (rVal (mVar 2) rNil)) (QR bb m n t s4 s h H E s9 s10 (dd p) (some r)) = some (.val (.imm (.bool (sPoly y n))), QR bb m n t s4 s h H E s9 s10 (dd p) (dd y)) := by
    rcases g with rfl | ⟨L, rfl, rfl⟩
    · exact c_call (as := [.v y, .v (nt n)]) (c_rval rfl rfl (c_rval rfl rfl rfl)) rfl rfl b2 rfl
    · exact c_call (as := [.v (.list L), .v (nt n)]) (c_rval rfl rfl (c_rval rfl rfl rfl)) rfl rfl b2 rfl
  exact c_set (c_bin (s := .list H) (t := .list (bl [true, sPoly y n])) rfl (c_lst (c_acons ca rfl (c_acons cb rfl c_anil)) rfl) rfl rfl (c_addL (by simp; omega))) rfl
theorem q7_ok (R : RP cl b) (i : In y) (hE : E.length ≤ 100) : q7 cl (QR bb m n t s4 s h H E s9 s10 s11 (dd y)) = some (.next, QR bb m n t s4 s h H (E ++ bl [true, sPoly y n]) s9 s10 s11 (dd y)) :=
  s_grow (i := 8) (b := .loc) (b2 := .loc) rfl (v_lst (ea_cons ev_c (ea_cons (eb_ev (v_call2 (ev_var rfl) (ev_var rfl) (R.lp y n i))) ea_nil)) (by simp)) (by simp; omega)
theorem qB_ok (R : RP cl b) (g : Bo m n t s h) {a c : Int} {L : List Bool} (hL : L.length ≤ 50) (h1 : 0 ≤ c) (h2 : c < 10000) : ∃ (a' c' : Int) (L' : List Bool) (s10' s11' s12' : Option Sv), qB cl (QR (bx a b c) m n t s4 s h (bl L) (bl L) s9 s10 s11 s12) = some (.next, QR (bx a' b c') m n t s4 s h (bl L') (bl L') s9 s10' s11' s12') ∧ L'.length = L.length + 5 ∧ 0 ≤ c' ∧ c' ≤ c + 59 := by
  obtain ⟨a1, c1, y0, y1, y2, e1, i0, i1, i2, p1, p2⟩ := q1_ok (cl := cl) (s4 := s4) (s9 := s9) (H := bl L) (E := bl L) (s10 := s10) (s11 := s11) (s12 := s12) R g (a := a) h1 (by omega)
  have hl : (bl L).length = L.length := List.length_map ..
  have e2 := q2_ok (bb := bx a1 b c1) (s4 := s4) (s9 := s9) (H := bl L) (E := bl L) (s11 := s11) (s12 := s12) R g i0 i1 i2 (by omega)
  have e3 := q3_ok (bb := bx a1 b c1) (s4 := s4) (s9 := s9) (H := bl L ++ bl [sTable y0 m, sSheet y1 m, sChange y2]) (E := bl L) (s11 := s11) (s12 := s12) R g i0 i1 i2 (by omega)
  obtain ⟨a2, c2, p, e4, gp, p3, p4⟩ := q4_ok (cl := cl) (s4 := s4) (s9 := s9) (H := bl L ++ bl [sTable y0 m, sSheet y1 m, sChange y2]) (E := bl L ++ bl [sTable y0 m, sSheet y1 m, sChange y2]) (s10 := ow [y0, y1, y2]) (s11 := s11) (s12 := s12) R g (a := a1) p1 (by omega)
  obtain ⟨a3, c3, r, y, e5, gy, iy, p5, p6⟩ := q5_ok (cl := cl) (m := m) (n := n) (t := t) (s := s) (h := h) (s4 := s4) (s9 := s9) (H := bl L ++ bl [sTable y0 m, sSheet y1 m, sChange y2]) (E := bl L ++ bl [sTable y0 m, sSheet y1 m, sChange y2]) (s10 := ow [y0, y1, y2]) (s12 := s12) R (a := a2) (bq_le gp.2 (by decide)) p3 (by omega)
  have hl3 : (bl L ++ bl [sTable y0 m, sSheet y1 m, sChange y2]).length = L.length + 3 := by rw [List.length_append, hl]; rfl
  have e6 := q6_ok (bb := bx a3 b c3) (m := m) (t := t) (s := s) (h := h) (s4 := s4) (s9 := s9) (H := bl L ++ bl [sTable y0 m, sSheet y1 m, sChange y2]) (E := bl L ++ bl [sTable y0 m, sSheet y1 m, sChange y2]) (s10 := ow [y0, y1, y2]) R gp gy iy (by omega)
  have e7 := q7_ok (bb := bx a3 b c3) (m := m) (n := n) (t := t) (s := s) (h := h) (s4 := s4) (s9 := s9) (H := bl L ++ bl [sTable y0 m, sSheet y1 m, sChange y2] ++ bl [true, sPoly y n]) (E := bl L ++ bl [sTable y0 m, sSheet y1 m, sChange y2]) (s10 := ow [y0, y1, y2]) (s11 := dd p) R iy (by omega)
  have hb : bl L ++ bl [sTable y0 m, sSheet y1 m, sChange y2] ++ bl [true, sPoly y n] = bl (L ++ [sTable y0 m, sSheet y1 m, sChange y2] ++ [true, sPoly y n]) := by unfold bl; rw [List.map_append, List.map_append]
  rw [hb] at e6 e7
  exact ⟨a3, c3, L ++ [sTable y0 m, sSheet y1 m, sChange y2] ++ [true, sPoly y n], _, _, _, c_seq e1 (c_seq e2 (c_seq e3 (c_seq e4 (c_seq e5 (c_seq e6 e7))))), by simp, p5, by omega⟩
theorem r7_ok (R : RP cl b) (g : Bo m n t s h) (hH : H.length ≤ 100) : r7 cl (QR bb m n t s4 s h H E s9 s10 s11 s12) = some (.next, QR bb m n t s4 s h (H ++ bl [false, false, sSheet t m, sTable s m]) E s9 s10 s11 s12) := by
  have it := bq_in g.t1 (by decide)
  have is := bq_in g.s1 (by decide)
  have b1 := R.it t (m + 1) it (by omega)
  rw [g.t3] at b1
  have b2 := R.is s (m + 1) is (by omega)
  rw [g.s3] at b2
  have b3 := R.is t m it g.m1
  have b4 := R.it s m is g.m1
  have em : ∀ H', EV (bin dAdd (mVar 1) (mC (.int 1))) (QR bb m n t s4 s h H' E s9 s10 s11 s12) (nt (m + 1)) := fun H' => e_bin (ev_var rfl) ev_c rfl
  exact s_grow (i := 7) (b := .loc) (b2 := .loc) rfl (v_lst (ea_cons (eb_ev (v_call2 (ev_var rfl) (em H) b1)) (ea_cons (eb_ev (v_call2 (ev_var rfl) (em H) b2)) (ea_cons (eb_ev (v_call2 (ev_var rfl) (ev_var rfl) b3)) (ea_cons (eb_ev (v_call2 (ev_var rfl) (ev_var rfl) b4)) ea_nil)))) (by simp)) (by simp; omega)
theorem r8_ok (R : RP cl b) (g : Bo m n t s h) (hE : E.length ≤ 100) : r8 cl (QR bb m n t s4 s h H E s9 s10 s11 s12) = some (.next, QR bb m n t s4 s h H (E ++ bl [false, false, sSheet t m, sTable s m]) s9 s10 s11 s12) := by
  have it := bq_in g.t1 (by decide)
  have is := bq_in g.s1 (by decide)
  have b1 := R.lb t m false it g.m1
  rw [if_neg (by decide)] at b1
  have b2 := R.lb s m true is g.m1
  rw [if_pos rfl] at b2
  exact s_grow (i := 8) (b := .loc) (b2 := .loc) rfl (v_lst (ea_cons ev_c (ea_cons ev_c (ea_cons (eb_ev (v_call3 (ev_var rfl) (ev_var rfl) ev_c b1)) (ea_cons (eb_ev (v_call3 (ev_var rfl) (ev_var rfl) ev_c b2)) ea_nil)))) (by simp)) (by simp; omega)
end
theorem board_of {ms ws ms' ws' : List D} {m n k j : Nat} {h : D} (hm1 : 1 ≤ m) (hm : m ≤ 3) (hn1 : 1 ≤ n) (hn : n ≤ 2) (l1 : ms.length = m) (l2 : ws.length = m) (g1 : ∀ y ∈ ms, GMat k y) (g2 : ∀ y ∈ ws, GRow k y) (l3 : ms'.length = m) (l4 : ws'.length = m) (g3 : ∀ y ∈ ms', GMat k y) (g4 : ∀ y ∈ ws', GRow k y) (h1 : sChange h = true) (h2 : Bq 5 h = true) : Bo m n (.tuple [.tuple ms, .tuple ws]) (.tuple [.tuple ms, .tuple ([.tuple ws, .tuple ws'].take j)]) h := by
  obtain ⟨b1, b2⟩ := tab_bq (by omega) l1 l2 g1 g2
  obtain ⟨_, b3⟩ := tab_bq (by omega) l3 l4 g3 g4
  have hw : ∀ w ∈ [(.tuple ws : D), .tuple ws'].take j, ∃ us : List D, w = .tuple us ∧ us.length = m ∧ ∀ y ∈ us, GRow k y := fun w hw => by
    have := List.mem_of_mem_take hw
    simp only [List.mem_cons, List.not_mem_nil, or_false] at this
    rcases this with rfl | rfl
    · exact ⟨ws, rfl, l2, g2⟩
    · exact ⟨ws', rfl, l4, g4⟩
  refine ⟨hm1, hn1, hn, ?_, ?_, h2, tab_true hm1 l1 l2 g1 g2, sheet_true hm1 l1 g1 hw, h1, tab_false l1, sheet_false l1⟩
  · refine all_bq (k := 4) (fun x hx => ?_) (by simp)
    simp only [List.mem_cons, List.not_mem_nil, or_false] at hx
    rcases hx with rfl | rfl
    · exact b1
    · exact b2
  · refine all_bq (k := 4) (fun x hx => ?_) (by simp)
    simp only [List.mem_cons, List.not_mem_nil, or_false] at hx
    rcases hx with rfl | rfl
    · exact b1
    · refine all_bq (k := 3) (fun w hx => ?_) (by rw [List.length_take]; simp; omega)
      obtain ⟨us, rfl, k1, k2⟩ := hw w hx
      exact all_bq (k := 2) (fun y hy => (k2 y hy).2) (by omega)
theorem right_ok (R : RP cl b) (a : Int) : ∃ o, fn42 cl [.own .par (bx a b 0)] = some (.imm (.bool true), [some o]) := by
  obtain ⟨a1, c1, m, n, e1, hm1, hm, hn1, hn, p1, p2⟩ := r1_ok (s1 := none) (s2 := none) R (a := a) (c := 0) (by omega) (by omega)
  obtain ⟨a2, c2, k, t, e2, hk, gt, p3, p4⟩ := r2_ok (s2 := dd (nt n)) R (a := a1) hm p1 (by omega)
  obtain ⟨a3, c3, o, e3, go, p5, p6⟩ := r3_ok (s2 := dd (nt n)) R (a := a2) hm1 hm hk gt p3 (by omega)
  obtain ⟨ms, ws, rfl, l1, l2, g1, g2⟩ := gt
  obtain ⟨ms', ws', rfl, l3, l4, g3, g4⟩ := go
  obtain ⟨a4, c4, j, e4, p7, p8⟩ := r4_ok (s1 := dd (nt m)) (s2 := dd (nt n)) (ms := ms) (ws := ws) (ms' := ms') (ws' := ws') R (a := a3) p5 (by omega)
  obtain ⟨a5, c5, h, e5, h1, h2, p9, p10⟩ := r5_ok (s3 := dd (.tuple [.tuple ms, .tuple ws])) (s4 := dd (.tuple [.tuple ms', .tuple ws'])) (s5 := dd (.tuple [.tuple ms, .tuple ([.tuple ws, .tuple ws'].take j)])) R (a := a4) hm1 hm hn1 hn p7 (by omega)
  have g := board_of (j := j) hm1 hm hn1 hn l1 l2 g1 g2 l3 l4 g3 g4 h1 h2
  generalize (.tuple [.tuple ms, .tuple ([.tuple ws, .tuple ws'].take j)] : D) = s at *
  generalize (.tuple [.tuple ms, .tuple ws] : D) = t at *
  generalize (.tuple [.tuple ms', .tuple ws'] : D) = o at *
  have e6 := r6_ok (bb := bx a5 b c5) (s4 := dd o) (s9 := none) (s10 := none) (s11 := none) (s12 := none) R g
  obtain ⟨a6, c6, ρ6, e7, ⟨L, s9, s10, s11, s12, rfl, hL⟩, p11, p12⟩ := l_box (B := 10000) (b := b) (mg := mN 9) (body := qB cl) (w := 59) 3
    (P := fun t' bb ρ => ∃ (L : List Bool) (s9 s10 s11 s12 : Option Sv), ρ = QR bb m n t (dd o) s h (bl L) (bl L) s9 s10 s11 s12 ∧ L.length = 3 + 5 * t')
    (fun d a c t' ρ hρ ht q1 q2 => by
      obtain ⟨L, s9, s10, s11, s12, rfl, hL⟩ := hρ
      obtain ⟨a1, c1, L', z10, z11, z12, e, k1, k2, k3⟩ := qB_ok (cl := cl) (s4 := dd o) (s9 := dd d) (s10 := s10) (s11 := s11) (s12 := s12) (L := L) R g (a := a) (by omega) q1 (by omega)
      exact ⟨a1, c1, QR (bx a b c) m n t (dd o) s h (bl L) (bl L) (dd d) s10 s11 s12, _, rfl, e, ⟨L', _, _, _, _, rfl, by omega⟩, k2, k3⟩)
    (rngD 0 3) a5 c5 0 _ ⟨[true, true, true], none, none, none, none, rfl, rfl⟩ (by rw [rngD_len]; omega) p9 (by rw [rngD_len]; omega)
  rw [rngD_len] at hL
  have hl : (bl L).length = L.length := List.length_map ..
  have e8 := r7_ok (bb := bx a6 b c6) (s4 := dd o) (H := bl L) (E := bl L) (s9 := s9) (s10 := s10) (s11 := s11) (s12 := s12) R g (by omega)
  have e9 := r8_ok (bb := bx a6 b c6) (s4 := dd o) (H := bl L ++ bl [false, false, sSheet t m, sTable s m]) (E := bl L) (s9 := s9) (s10 := s10) (s11 := s11) (s12 := s12) R g (by omega)
  have hb : bl L ++ bl [false, false, sSheet t m, sTable s m] = bl (L ++ [false, false, sSheet t m, sTable s m]) := by unfold bl; rw [List.map_append]
  rw [hb] at e8 e9
  have es := R.same (L ++ [false, false, sSheet t m, sTable s m]) (by simp; omega)
  have e10 : r9 cl (QR (bx a6 b c6) m n t (dd o) s h (bl (L ++ [false, false, sSheet t m, sTable s m])) (bl (L ++ [false, false, sSheet t m, sTable s m])) s9 s10 s11 s12) = some (.ret (.imm (.bool true)), RF (bx a6 b c6) (dd (nt m)) (dd (nt n)) (dd t) (dd o) (dd s) (dd h) (dd (.list (bl (L ++ [false, false, sSheet t m, sTable s m])))) (dd (.list (bl (L ++ [false, false, sSheet t m, sTable s m])))) s9 s10 s11 s12) :=
    c_ret (c_call (as := [.v (.list (bl (L ++ [false, false, sSheet t m, sTable s m]))), .v (.list (bl (L ++ [false, false, sSheet t m, sTable s m])))]) (c_rval rfl rfl (c_rval rfl rfl rfl)) rfl rfl es rfl) rfl
  refine ⟨bx a6 b c6, ?_⟩
  rw [right_fn]
  exact c_fn (ρ0 := RF (bx a b 0) none none none none none none none none none none none none) rfl rfl (c_seq e1 (c_seq e2 (c_seq e3 (c_seq e4 (c_seq e5 (c_seq e6 (c_seq (c_for rfl e7) (c_seq e8 (c_seq e9 e10))))))))) rfl
end
end K01

namespace K01
open PySem Vi PyProof.Rows
/-! the numbers of the script -/
abbrev scD (ns : List Int) : D := .dict (ns.map fun n => (.int n, .none))
def cB : MS := (mSeq (mSet 5 (bin dMod (un dInt (mVar 3)) (mVar 1))) (mStore 2 (mVar 5) (bin dAdd (bin dIx (mVar 2) (mVar 5)) (bin dMul (mVar 4) (bin dAdd (mVar 3) (mC (.int 2)))))))
theorem cells_fn (cl : Nat → Fn) : fn23 cl = mFn 6 2 (mSeq (mSet 2 (mOr (un dList (mSl (mVar 0) mNoPart (mPart (mVar 1)))) (mLst (mCons (mC (.int 0)) mNil)))) (mSeq (mFor (mIEnum (mCons (mSl (mVar 0) (mPart (mVar 1)) (mPart (mC (.int 63)))) mNil)) (mGtup 2 (mGcons (mN 3) (mGcons (mN 4) mGnil))) cB) (mRet (mVar 2)))) := rfl
abbrev ZF (x0 : Option Sv) (u v : Int) (x3 x4 x5 : Option Sv) : Fm := [x0, ii 2, some (.own .loc [.int u, .int v]), x3, x4, x5]
theorem cB_ok {x0 x5 : Option Sv} {u v n : Int} {k : Nat} (hk : k ≤ 1000) : ∃ u' v' y5, cB (ZF x0 u v (ii k) (ii n) x5) = some (.next, ZF x0 u' v' (ii k) (ii n) y5) := by
  have hm : mulOk n ((k : Int) + 2) = true := c_mul (by omega)
  have m : dMul (.int n) (.int ((k : Int) + 2)) = some (.imm (.int (n * ((k : Int) + 2)))) := by
    show (if mulOk n ((k : Int) + 2) = true then _ else _) = _
    rw [if_pos hm]
  have e1 : ∀ y, EV (mVar 3) (ZF x0 u v (ii k) (ii n) y) (.int (k : Int)) := fun y => ev_var rfl
  have e2 : ∀ y, EV (mVar 4) (ZF x0 u v (ii k) (ii n) y) (.int n) := fun y => ev_var rfl
  have e3 : EV (mVar 1) (ZF x0 u v (ii k) (ii n) x5) (.int 2) := ev_var rfl
  have hmod : dMod (.int (k : Int)) (.int 2) = some (.imm (.int ((k : Int) % 2))) := rfl
  have e4 := e_bin (f := dMod) (e_un (f := dInt) (e1 x5) rfl) e3 hmod
  have s1 : mSet 5 (bin dMod (un dInt (mVar 3)) (mVar 1)) (ZF x0 u v (ii k) (ii n) x5) = some (.next, ZF x0 u v (ii k) (ii n) (ii ((k : Int) % 2))) := c_set (v_bin (e_un (f := dInt) (e1 x5) rfl) e3 hmod) rfl
  have h2 : (k : Int) % 2 = 0 ∨ (k : Int) % 2 = 1 := by omega
  rcases h2 with h2 | h2
  · rw [h2] at s1
    have hb : bin dIx (mVar 2) (mVar 5) (ZF x0 u v (ii k) (ii n) (ii 0)) = some (.val (.imm (.int u)), ZF x0 u v (ii k) (ii n) (ii 0)) := c_bin rfl rfl rfl rfl rfl
    have e5 := v_bin (f := dAdd) (ev_val hb) (e_bin (f := dMul) (e2 (ii 0)) (e_bin (f := dAdd) (e1 (ii 0)) (ev_c (d := .int 2)) rfl) m) rfl
    exact ⟨_, v, ii 0, c_seq s1 (c_store (j := 0) (k := 0) (ds := [.int u, .int v]) (ds1 := [.int u, .int v]) (b := .loc) (b1 := .loc) (i := 2) (ρ2 := ZF x0 u v (ii k) (ii n) (ii 0)) (ρ3 := ZF x0 u v (ii k) (ii n) (ii 0)) e5 rfl rfl rfl rfl rfl rfl)⟩
  · rw [h2] at s1
    have hb : bin dIx (mVar 2) (mVar 5) (ZF x0 u v (ii k) (ii n) (ii 1)) = some (.val (.imm (.int v)), ZF x0 u v (ii k) (ii n) (ii 1)) := c_bin rfl rfl rfl rfl rfl
    have e5 := v_bin (f := dAdd) (ev_val hb) (e_bin (f := dMul) (e2 (ii 1)) (e_bin (f := dAdd) (e1 (ii 1)) (ev_c (d := .int 2)) rfl) m) rfl
    exact ⟨u, _, ii 1, c_seq s1 (c_store (j := 1) (k := 1) (ds := [.int u, .int v]) (ds1 := [.int u, .int v]) (b := .loc) (b1 := .loc) (i := 2) (ρ2 := ZF x0 u v (ii k) (ii n) (ii 1)) (ρ3 := ZF x0 u v (ii k) (ii n) (ii 1)) e5 rfl rfl rfl rfl rfl rfl)⟩
theorem cells_loop {x0 : Option Sv} : ∀ (ns : List Int) (k : Nat) (u v : Int) (x3 x4 x5 : Option Sv), k + ns.length ≤ 900 → ∃ u' v' y3 y4 y5,
    loop (mGtup 2 (mGcons (mN 3) (mGcons (mN 4) mGnil))) cB (enumD k (ns.map .int)) (ZF x0 u v x3 x4 x5) = some (.next, ZF x0 u' v' y3 y4 y5)
  | [], k, u, v, x3, x4, x5, _ => ⟨u, v, x3, x4, x5, rfl⟩
  | n :: ns, k, u, v, x3, x4, x5, hk => by
    simp only [List.length_cons] at hk
    obtain ⟨u1, v1, y5, e1⟩ := cB_ok (x0 := x0) (x5 := x5) (u := u) (v := v) (n := n) (k := k) (by omega)
    obtain ⟨u2, v2, z3, z4, z5, e2⟩ := cells_loop (x0 := x0) ns (k + 1) u1 v1 (ii k) (ii n) y5 (by omega)
    exact ⟨u2, v2, z3, z4, z5, c_cons (ρ1 := ZF x0 u v (ii k) (ii n) x5) rfl e1 e2⟩
theorem cut_ints (ns : List Int) (lo hi : Option Int) : ∃ ms : List Int, Vi.cutD (ns.map .int) lo hi = ms.map .int ∧ ms.length ≤ ns.length := by
  refine ⟨(ns.drop (HT.sIx ns.length 0 lo)).take (HT.sIx ns.length ns.length hi - HT.sIx ns.length 0 lo), ?_, ?_⟩
  · unfold Vi.cutD
    rw [List.length_map, ← List.map_drop, ← List.map_take]
  · rw [List.length_take, List.length_drop]; omega
theorem sc_keys (ns : List Int) : (ns.map fun n => ((.int n : D), (.none : D))).map Prod.fst = ns.map .int := by rw [List.map_map]; rfl
theorem first_two (x y : Int) (ns : List Int) : Vi.cutD ((x :: y :: ns).map PyData.int) none (some 2) = [.int x, .int y] := by
  unfold Vi.cutD
  rw [HT.sIx_none, show (some (2 : Int)) = some ((2 : Nat) : Int) from rfl, HT.sIx_nat]
  have : min 2 ((x :: y :: ns).map PyData.int).length = 2 := by simp
  rw [this]
  rfl
theorem cells_ok {cl : Nat → Fn} (ns : List Int) (h : ns.length ≤ 63) : ∃ ms : List Int, fn23 cl [.imm (scD ns), .imm (.int 2)] = some (.own .loc (ms.map .int), [none, none]) ∧ (ms.length = 1 ∨ ms.length = 2) := by
  match ns, h with
  | [], _ => exact ⟨[0], rfl, .inl rfl⟩
  | [x], _ => exact ⟨[x], by rw [cells_fn]; rfl, .inl rfl⟩
  | x :: y :: ns, h =>
    have hk := sc_keys (x :: y :: ns)
    obtain ⟨ms, e1, hl⟩ := cut_ints (x :: y :: ns) (some 2) (some 63)
    obtain ⟨u, v, y3, y4, y5, e3⟩ := cells_loop (x0 := some (.imm (scD (x :: y :: ns)))) ms 0 x y none none none (by omega)
    refine ⟨[u, v], ?_, .inr rfl⟩
    have e0 := first_two x y ns
    rw [← hk] at e0 e1
    unfold scD at e3 ⊢
    generalize ((x :: y :: ns).map fun n => ((.int n : D), (.none : D))) = kv at e0 e1 e3 ⊢
    have h1 : un dList (mSl (mVar 0) mNoPart (mPart (mVar 1))) [some (.imm (.dict kv)), ii 2, none, none, none, none] = some (.val (.own .loc [.int x, .int y]), [some (.imm (.dict kv)), ii 2, none, none, none, none]) := by
      have hs : mSl (mVar 0) mNoPart (mPart (mVar 1)) [some (.imm (.dict kv)), ii 2, none, none, none, none] = some (.val (.own .loc (Vi.cutD (kv.map Prod.fst) none (some 2))), [some (.imm (.dict kv)), ii 2, none, none, none, none]) := rfl
      rw [e0] at hs
      exact c_un hs rfl rfl
    have s1 : mSet 2 (mOr (un dList (mSl (mVar 0) mNoPart (mPart (mVar 1)))) (mLst (mCons (mC (.int 0)) mNil))) [some (.imm (.dict kv)), ii 2, none, none, none, none] = some (.next, ZF (some (.imm (.dict kv))) x y none none none) := by
      refine c_set (pr := .val (.own .loc [.int x, .int y])) (ρ1 := [some (.imm (.dict kv)), ii 2, none, none, none, none]) ?_ rfl
      unfold mOr
      rw [h1]
      rfl
    have hi : mIEnum (mCons (mSl (mVar 0) (mPart (mVar 1)) (mPart (mC (.int 63)))) mNil) (ZF (some (.imm (.dict kv))) x y none none none) = some (enumD 0 (ms.map .int), ZF (some (.imm (.dict kv))) x y none none none) := by
      have hs : mSl (mVar 0) (mPart (mVar 1)) (mPart (mC (.int 63))) (ZF (some (.imm (.dict kv))) x y none none none) = some (.val (.own .loc (Vi.cutD (kv.map Prod.fst) (some 2) (some 63))), ZF (some (.imm (.dict kv))) x y none none none) := rfl
      rw [e1] at hs
      unfold mIEnum
      rw [c_acons hs rfl c_anil]
      rfl
    rw [cells_fn]
    exact c_fn (ρ0 := [some (.imm (.dict kv)), ii 2, none, none, none, none]) rfl rfl (c_seq s1 (c_seq (c_for hi e3) (c_ret rfl rfl))) rfl
theorem dGe_int (i j : Int) : dGe (.int i) (.int j) = some (.imm (.bool (decide (j ≤ i)))) := rfl
theorem box_ok {cl : Nat → Fn} {ms : List Int} {k : Nat} (hk : k < ms.length) (hk2 : k < 2) : ∃ a b : Int, fn21 cl [.imm (.list (ms.map .int)), .imm (.int (k : Int))] = some (.own .loc (bx a b 0), [none, none]) := by
  have hx : dIx (.list (ms.map .int)) (.int (k : Int)) = some (.imm (.int ms[k])) := by
    show (L2.atI (ms.map PyData.int) (k : Int)).map Sv.imm = _
    rw [L2.atI_nat (show (ms.map PyData.int)[k]? = some (.int ms[k]) by rw [List.getElem?_map, List.getElem?_eq_getElem hk]; rfl)]
    rfl
  have hlen : dLen (.list (ms.map .int)) = some (.imm (.int ((ms.length : Nat) : Int))) := by
    show some (Sv.imm (.int (((ms.map PyData.int).length : Nat) : Int))) = _
    rw [List.length_map]
  obtain ⟨s, hs⟩ : ∃ s, ms[k] = s := ⟨_, rfl⟩
  rw [hs] at hx
  clear hs
  generalize ms.length = n at *
  generalize ms.map PyData.int = L at *
  have v0 : ∀ y, EV (mVar 0) [some (.imm (.list L)), ii (k : Int), y] (.list L) := fun y => ev_var rfl
  have v1 : ∀ y, EV (mVar 1) [some (.imm (.list L)), ii (k : Int), y] (.int (k : Int)) := fun y => ev_var rfl
  have v2 : EV (mVar 2) [some (.imm (.list L)), ii (k : Int), ii s] (.int s) := ev_var rfl
  have t1 : mB (bin dLt (mVar 1) (un dLen (mVar 0))) [some (.imm (.list L)), ii (k : Int), none] = some (true, [some (.imm (.list L)), ii (k : Int), none]) := by
    have h := c_b (v_bin (f := dLt) (v1 none) (e_un (f := dLen) (v0 none) hlen) (show dLt (.int (k : Int)) (.int (n : Int)) = some (.imm (.bool (decide ((k : Int) < (n : Int))))) from rfl))
    rwa [decide_eq_true (show (k : Int) < (n : Int) by omega)] at h
  have s1 : mSet 2 (mIf (mB (bin dLt (mVar 1) (un dLen (mVar 0)))) (bin dIx (mVar 0) (mVar 1)) (mC (.int 0))) [some (.imm (.list L)), ii (k : Int), none] = some (.next, [some (.imm (.list L)), ii (k : Int), ii s]) :=
    c_set (mif_T t1 (v_bin (v0 none) (v1 none) hx)) rfl
  have habs : dAbs (.int s) = some (.imm (.int (if s < 0 then -s else s))) := rfl
  have hpow : dPow (.int 10) (.int 18) = some (.imm (.int 1000000000000000000)) := rfl
  generalize (if s < 0 then -s else s) = z at habs
  generalize hq : decide ((1000000000000000000 : Int) ≤ z) = q
  have hge : dGe (.int z) (.int 1000000000000000000) = some (.imm (.bool q)) := by rw [dGe_int, hq]
  have m1 : mulOk z (if q = true then 1 else 0) = true := c_mul (by cases q <;> decide)
  have hmul : dMul (.int z) (.int (if q = true then 1 else 0)) = some (.imm (.int (z * (if q = true then 1 else 0)))) := by
    show (if mulOk z _ = true then _ else _) = _
    rw [m1]; rfl
  have m2 : mulOk 39373 (k : Int) = true := c_mul (by omega)
  have hmul2 : dMul (.int 39373) (.int (k : Int)) = some (.imm (.int (39373 * (k : Int)))) := by
    show (if mulOk 39373 (k : Int) = true then some (Sv.imm (.int (39373 * (k : Int)))) else none) = _
    rw [if_pos m2]
  have a1 := e_un (f := dAbs) v2 habs
  have a2 := e_bin (f := dMul) a1 (e_un (f := dInt) (e_bin (f := dGe) a1 (e_bin (f := dPow) (ev_c (d := .int 10)) (ev_c (d := .int 18)) hpow) hge) (show dInt (.bool q) = some (.imm (.int (if q = true then 1 else 0))) from rfl)) hmul
  have hadd : ∀ x y : Int, dAdd (.int x) (.int y) = some (.imm (.int (x + y))) := fun x y => rfl
  have hint : dInt (.int s) = some (.imm (.int s)) := rfl
  have hmod : dMod (.int s) (.int 2305843009213693951) = some (.imm (.int (s % 2305843009213693951))) := rfl
  have a3 := e_bin (f := dAdd) (e_bin (f := dAdd) (e_bin (f := dMod) (e_un (f := dInt) v2 hint) (ev_c (d := .int 2305843009213693951)) hmod) (e_bin (f := dMul) (ev_c (d := .int 39373)) (v1 (ii s)) hmul2) (hadd _ _)) (ev_c (d := .int 94501)) (hadd _ _)
  have a4 := v_lst (ea_cons a2 (ea_cons a3 (ea_cons (ev_c (d := .int 0)) ea_nil))) (by simp)
  refine ⟨z * (if q = true then 1 else 0), s % 2305843009213693951 + 39373 * (k : Int) + 94501, ?_⟩
  unfold fn21
  exact c_fn (ρ0 := [some (.imm (.list L)), ii (k : Int), none]) rfl rfl (c_seq s1 (c_ret a4 rfl)) rfl
/-! the law -/
def oR (cl : Nat → Fn) : ME := (mCallO (cl 42) (mCall (cl 21) (rVal (mVar 1) (rVal (mVar 2) rNil))))
theorem law_fn (cl : Nat → Fn) : fn43 cl = mFn 3 1 (mSeq (mIfS (mNotT (mTru (mCall (cl 41) rNil))) (mRet (mC (.bool false))) mNext) (mSeq (mSet 1 (mCall (cl 23) (rVal (mVar 0) (rVal (mC (.int 2)) rNil)))) (mRet (un dAll (mComp (mIRng1 (mCons (un dLen (mVar 1)) mNil)) (mN 2) mYes (oR cl) [2]))))) := rfl
structure LawP (cl : Nat → Fn) : Prop where
  hand : cl 41 [] = some (.imm (.bool true), [])
  cells : ∀ ns : List Int, ns.length ≤ 63 → ∃ ms : List Int, cl 23 [.imm (scD ns), .imm (.int 2)] = some (.own .loc (ms.map .int), [none, none]) ∧ (ms.length = 1 ∨ ms.length = 2)
  box : ∀ (ms : List Int) (k : Nat), k < ms.length → k < 2 → ∃ a b : Int, cl 21 [.imm (.list (ms.map .int)), .imm (.int (k : Int))] = some (.own .loc (bx a b 0), [none, none])
  right : ∀ a b : Int, ∃ o, cl 42 [.own .par (bx a b 0)] = some (.imm (.bool true), [some o])
theorem oR_ok {cl : Nat → Fn} (P : LawP cl) {x0 x1 : Option Sv} {ms : List Int} {k : Nat} (hk : k < ms.length) (hk2 : k < 2) (h1 : x1 = some (.own .loc (ms.map .int)) ∨ x1 = some (.imm (.list (ms.map .int)))) : oR cl [x0, x1, ii (k : Int)] = some (.val (.imm (.bool true)), [x0, some (.imm (.list (ms.map .int))), ii (k : Int)]) := by
  obtain ⟨a, b, e⟩ := P.box ms k hk hk2
  obtain ⟨o, e2⟩ := P.right a b
  have hc : mCall (cl 21) (rVal (mVar 1) (rVal (mVar 2) rNil)) [x0, x1, ii (k : Int)] = some (.val (.own .loc (bx a b 0)), [x0, some (.imm (.list (ms.map .int))), ii (k : Int)]) := by
    rcases h1 with rfl | rfl
    · exact c_call (as := [.v (.list (ms.map .int)), .v (.int (k : Int))]) rfl rfl rfl e rfl
    · exact c_call (as := [.v (.list (ms.map .int)), .v (.int (k : Int))]) rfl rfl rfl e rfl
  unfold oR mCallO
  rw [hc]
  simp only [e2]
theorem law_gen {cl : Nat → Fn} (P : LawP cl) (ns : List Int) (hl : ns.length ≤ 63) : fn43 cl [.imm (scD ns)] = some (.imm (.bool true), [none]) := by
  obtain ⟨ms, e1, hm⟩ := P.cells ns hl
  have h2 : mCall (cl 41) rNil [some (.imm (scD ns)), none, none] = some (.val (.imm (.bool true)), [some (.imm (scD ns)), none, none]) := c_call rfl rfl rfl P.hand rfl
  have v0 : EV (mVar 0) [some (.imm (scD ns)), none, none] (scD ns) := ev_var rfl
  have s1 : mSet 1 (mCall (cl 23) (rVal (mVar 0) (rVal (mC (.int 2)) rNil))) [some (.imm (scD ns)), none, none] = some (.next, [some (.imm (scD ns)), some (.own .loc (ms.map .int)), none]) := c_set (v_call2 v0 ev_c e1) rfl
  have g : ∃ (es : List D) (x1 : Option Sv), cloop (mN 2) mYes (oR cl) [2] (rngD 0 ms.length) [some (.imm (scD ns)), some (.own .loc (ms.map .int)), none] = some (es, [some (.imm (scD ns)), x1, none]) ∧ fits es.length = true ∧ dAll (.list es) = some (.imm (.bool true)) := by
    rcases hm with hm | hm
    · have q := oR_ok P (x0 := some (.imm (scD ns))) (ms := ms) (k := 0) (by omega) (by omega) (.inl rfl)
      refine ⟨[.bool true], some (.imm (.list (ms.map .int))), ?_, rfl, rfl⟩
      rw [hm]
      exact c_ccons (ρ1 := [some (.imm (scD ns)), some (.own .loc (ms.map .int)), ii ((0 : Nat) : Int)]) rfl rfl q rfl rfl
    · have q := oR_ok P (x0 := some (.imm (scD ns))) (ms := ms) (k := 0) (by omega) (by omega) (.inl rfl)
      have q2 := oR_ok P (x0 := some (.imm (scD ns))) (ms := ms) (k := 1) (by omega) (by omega) (.inr rfl)
      refine ⟨[.bool true, .bool true], some (.imm (.list (ms.map .int))), ?_, rfl, rfl⟩
      rw [hm]
      exact c_ccons (ρ1 := [some (.imm (scD ns)), some (.own .loc (ms.map .int)), ii ((0 : Nat) : Int)]) rfl rfl q rfl (c_ccons (ρ1 := [some (.imm (scD ns)), some (.imm (.list (ms.map .int))), ii ((1 : Nat) : Int)]) rfl rfl q2 rfl rfl)
  obtain ⟨es, ρ2, g1, g2, g3⟩ := g
  have hlen : dLen (.list (ms.map .int)) = some (.imm (.int ((ms.length : Nat) : Int))) := by
    show some (Sv.imm (.int (((ms.map PyData.int).length : Nat) : Int))) = _
    rw [List.length_map]
  generalize scD ns = sc at *
  generalize ms.map PyData.int = L at *
  generalize ms.length = n at *
  have hi : mIRng1 (mCons (un dLen (mVar 1)) mNil) [some (.imm sc), some (.own .loc L), none] = some (rngD 0 n, [some (.imm sc), some (.own .loc L), none]) :=
    c_rng1 (c_acons (c_un rfl rfl hlen) rfl c_anil) (by omega)
  have hc := c_comp (vs := [2]) hi rfl g1 g2 rfl
  rw [law_fn]
  exact c_fn (ρ0 := [some (.imm sc), none, none]) rfl rfl (c_seq (c_ifF (c_not (b := true) (c_tru h2 rfl rfl)) rfl) (c_seq s1 (c_ret (c_un hc rfl g3) rfl))) rfl


end K01

namespace K01
open PySem Vi PyProof.Rows
theorem hand_ok : run 59 41 [] = some (.imm (.bool true), []) := by kernel_rfl
theorem i_num (K : Nat) : NumP (run (K + 1) 2) := fun d hd => by rw [rs2]; exact num_ok hd
theorem i_num2 (K : Nat) : NumP (run (K + 1) 28) := fun d hd => by rw [rs28]; exact num_ok2 hd
theorem i_tup (K : Nat) : TupP (run (K + 1) 4) := fun d n hd => by rw [rs4]; exact tup_ok hd
theorem i_count (K : Nat) : CountP (run (K + 2) 3) := fun d hd => by rw [rs3]; exact count_ok (i_num K) hd
theorem i_frac (K : Nat) : FracP (run (K + 2) 8) := by rw [rs8]; exact frac_ok (i_tup K) (i_num K)
theorem i_row (K : Nat) : RowP (run (K + 3) 9) := by rw [rs9]; exact row_ok (i_tup (K + 1)) (i_frac K)
theorem i_parts (K : Nat) : PartsP (run (K + 4) 11) := by rw [rs11]; exact parts_ok (i_tup (K + 2)) (i_row K)
theorem i_mat (K : Nat) : MatP (run (K + 4) 12) := by rw [rs12]; exact mat_ok (i_tup (K + 2)) (i_row K)
theorem i_stg (K : Nat) : StgP (run (K + 5) 13) := by rw [rs13]; exact stg_ok (i_tup (K + 3)) (i_mat K)
theorem i_table (K : Nat) : TableP (run (K + 6) 14) := by rw [rs14]; exact table_ok (i_tup (K + 4)) (i_stg K) (i_parts (K + 1))
theorem i_sheet (K : Nat) : SheetP (run (K + 6) 15) := by rw [rs15]; exact sheet_ok (i_tup (K + 4)) (i_stg K) (i_parts (K + 1))
theorem i_term (K : Nat) : TermP (run (K + 3) 17) := by rw [rs17]; exact term_ok (i_tup (K + 1)) (i_count K) (i_frac K)
theorem i_asc (K : Nat) : AscP (run (K + 1) 5) := by rw [rs5]; exact asc_ok
theorem i_poly (K : Nat) : PolyP (run (K + 4) 18) := by rw [rs18]; exact poly_ok (i_term K) (i_asc (K + 2))
theorem i_change (K : Nat) : ChangeP (run (K + 5) 19) := by rw [rs19]; exact change_ok (i_tup (K + 3)) (i_poly K)
theorem i_low (K : Nat) : LowP (run (K + 1) 27) := by rw [rs27]; exact low_ok
theorem i_lfrac (K : Nat) : FracP (run (K + 2) 29) := by rw [rs29]; exact lfrac_ok (i_num2 K) (i_low K)
theorem i_band (K : Nat) : RowP (run (K + 3) 35) := by rw [rs35]; exact band_ok (i_lfrac K)
theorem i_block (K : Nat) : StgP (run (K + 4) 36) := by rw [rs36]; exact block_ok (i_band K)
theorem i_weights (K : Nat) : PartsP (run (K + 4) 37) := by rw [rs37]; exact weights_ok (i_band K)
theorem i_board (K : Nat) : BoardP (run (K + 5) 38) := by rw [rs38]; exact board_ok (i_block K) (i_weights K)
theorem i_lpoly (K : Nat) : PolyP (run (K + 3) 39) := by rw [rs39]; exact lpoly_ok (i_num2 (K + 1)) (i_lfrac K)
theorem i_lchange (K : Nat) : ChangeP (run (K + 4) 40) := by rw [rs40]; exact lchange_ok (i_lpoly K)
theorem i_of (K : Nat) (b : Int) : OfP (run (K + 2) 24) b := by rw [rs24]; exact of_ok (take_P K b)
theorem i_share (K : Nat) (b : Int) : ShareP (run (K + 3) 30) b := by rw [rs30]; exact share_ok (i_of K b)
theorem i_tab (K : Nat) (b : Int) : TabP (run (K + 4) 31) b := by rw [rs31]; exact table_ok_ (i_share K b)
theorem i_pol (K : Nat) (b : Int) : PolyOfP (run (K + 3) 32) b := by rw [rs32]; exact polyof_ok (take_P (K + 1) b) (i_of K b)
theorem i_chg (K : Nat) (b : Int) : ChgOfP (run (K + 4) 33) b := by rw [rs33]; exact chgof_ok (i_pol K b)
theorem i_leaf (K : Nat) (b : Int) : ∀ k : Nat, LeafP (run (K + 3 + k) 34) b k
  | 0 => by show LeafP (run (K + 2 + 1) 34) b 0; rw [rs34]; exact leaf_zero (i_of K b)
  | k + 1 => by
    show LeafP (run (K + 3 + k + 1) 34) b (k + 1)
    rw [rs34]
    have h1 := take_P (K + 2 + k) b
    have h2 := i_of (K + 1 + k) b
    rw [show K + 2 + k + 1 = K + 3 + k by omega] at h1
    rw [show K + 1 + k + 2 = K + 3 + k by omega] at h2
    exact leaf_step h1 h2 (i_leaf K b k)
theorem i_sameb (K : Nat) (v : Bool) : B2 (run (K + 1) 25) (.bool v) (.bool v) true := by rw [rs25]; exact same_b v
theorem i_same (K : Nat) : SameP (run (K + 2) 25) := by rw [rs25]; exact same_ok (i_sameb K)
theorem right_calls (b : Int) : RP (run 58) b :=
  ⟨take_P 57 b, i_tab 54 b, i_chg 54 b, i_pol 55 b, i_leaf 50 b 5, i_table 52, i_sheet 52, i_change 53, i_poly 54, i_board 53, i_lpoly 55, i_lchange 54, i_same 56⟩
theorem law_calls : LawP (run 59) := ⟨hand_ok, fun ns h => by rw [rs23]; exact cells_ok ns h, fun ms k h1 h2 => by rw [rs21]; exact box_ok h1 h2, fun a b => by rw [rs42]; exact right_ok (right_calls b) a⟩
theorem law_true (ns : List Int) (hl : ns.length ≤ 63) : ∃ os, run 60 43 [.imm (.dict (ns.map fun n => (.int n, .none)))] = some (.imm (.bool true), os) := ⟨[none], by rw [rs43]; exact law_gen law_calls ns hl⟩
end K01

open PySem PySem.W PyProof.Rows
set_option maxHeartbeats 0 in
theorem PySem.Challenge.cw_everychange_k01_things_that_are_tables_o_holds : PySem.Challenge.rw_everychange_k01_things_that_are_tables_o.Holds := by
  w_on; o_law; k_head; (case hw => w_witness2)
  k_fill
  refine L2.walk_of (l := PySem.Challenge.rw_everychange_k01_things_that_are_tables_o) (n := 63) (k := 60) (x := "script") (CX := fun _ => L2.CX0) (sp := fun w => Vi.spD _ 1 (K01.run 60 43)) rfl (by decide) rfl ⟨rfl, by decide, by decide⟩ (fun w h Y => PySem.W.kIn_of Y) ?F (fun _ _ a ns hl _ hS => Vi.law_sp hS (K01.law_true ns hl)) (fun _ _ _ _ _ h => h)
  case F =>
    intro w mg fa h KX G hmg
    refine' K01.all_mk KX G hmg ?a2 ?l2 ?c2 ?k2 ?a3 ?l3 ?c3 ?k3 ?a4 ?l4 ?c4 ?k4 ?a5 ?l5 ?c5 ?k5 ?a8 ?l8 ?c8 ?k8 ?a9 ?l9 ?c9 ?k9 ?a11 ?l11 ?c11 ?k11 ?a12 ?l12 ?c12 ?k12 ?a13 ?l13 ?c13 ?k13 ?a14 ?l14 ?c14 ?k14 ?a15 ?l15 ?c15 ?k15 ?a17 ?l17 ?c17 ?k17 ?a18 ?l18 ?c18 ?k18 ?a19 ?l19 ?c19 ?k19 ?a21 ?l21 ?c21 ?k21 ?a22 ?l22 ?c22 ?k22 ?a23 ?l23 ?c23 ?k23 ?a24 ?l24 ?c24 ?k24 ?a25 ?l25 ?c25 ?k25 ?a26 ?l26 ?c26 ?k26 ?a27 ?l27 ?c27 ?k27 ?a28 ?l28 ?c28 ?k28 ?a29 ?l29 ?c29 ?k29 ?a30 ?l30 ?c30 ?k30 ?a31 ?l31 ?c31 ?k31 ?a32 ?l32 ?c32 ?k32 ?a33 ?l33 ?c33 ?k33 ?a34 ?l34 ?c34 ?k34 ?a35 ?l35 ?c35 ?k35 ?a36 ?l36 ?c36 ?k36 ?a37 ?l37 ?c37 ?k37 ?a38 ?l38 ?c38 ?k38 ?a39 ?l39 ?c39 ?k39 ?a40 ?l40 ?c40 ?k40 ?a41 ?l41 ?c41 ?k41 ?a42 ?l42 ?c42 ?k42 ?a43 ?l43 ?c43 ?k43 ?m_ZERO ?k_ZERO ?f_gcd ?z_abs ?z_all ?z_bool ?z_enumerate ?z_int ?z_isinstance ?z_len ?z_list ?z_range ?z_sorted ?z_str ?z_tuple ?z_zip
    (case a2 => k_is); (case l2 => k_is); (case c2 => k_is); (case k2 => k_is); (case a3 => k_is); (case l3 => k_is); (case c3 => k_is); (case k3 => k_is); (case a4 => k_is); (case l4 => k_is); (case c4 => k_is); (case k4 => k_is); (case a5 => k_is); (case l5 => k_is); (case c5 => k_is); (case k5 => k_is); (case a8 => k_is); (case l8 => k_is); (case c8 => k_is); (case k8 => k_is); (case a9 => k_is); (case l9 => k_is); (case c9 => k_is); (case k9 => k_is); (case a11 => k_is); (case l11 => k_is); (case c11 => k_is); (case k11 => k_is); (case a12 => k_is); (case l12 => k_is); (case c12 => k_is); (case k12 => k_is); (case a13 => k_is); (case l13 => k_is); (case c13 => k_is); (case k13 => k_is); (case a14 => k_is); (case l14 => k_is); (case c14 => k_is); (case k14 => k_is); (case a15 => k_is); (case l15 => k_is); (case c15 => k_is); (case k15 => k_is); (case a17 => k_is); (case l17 => k_is); (case c17 => k_is); (case k17 => k_is); (case a18 => k_is); (case l18 => k_is); (case c18 => k_is); (case k18 => k_is); (case a19 => k_is); (case l19 => k_is); (case c19 => k_is); (case k19 => k_is); (case a21 => k_is); (case l21 => k_is); (case c21 => k_is); (case k21 => k_is); (case a22 => k_is); (case l22 => k_is); (case c22 => k_is); (case k22 => k_is); (case a23 => k_is); (case l23 => k_is); (case c23 => k_is); (case k23 => k_is); (case a24 => k_is); (case l24 => k_is); (case c24 => k_is); (case k24 => k_is); (case a25 => k_is); (case l25 => k_is); (case c25 => k_is); (case k25 => k_is); (case a26 => k_is); (case l26 => k_is); (case c26 => k_is); (case k26 => k_is); (case a27 => k_is); (case l27 => k_is); (case c27 => k_is); (case k27 => k_is); (case a28 => k_is); (case l28 => k_is); (case c28 => k_is); (case k28 => k_is); (case a29 => k_is); (case l29 => k_is); (case c29 => k_is); (case k29 => k_is); (case a30 => k_is); (case l30 => k_is); (case c30 => k_is); (case k30 => k_is); (case a31 => k_is); (case l31 => k_is); (case c31 => k_is); (case k31 => k_is); (case a32 => k_is); (case l32 => k_is); (case c32 => k_is); (case k32 => k_is); (case a33 => k_is); (case l33 => k_is); (case c33 => k_is); (case k33 => k_is); (case a34 => k_is); (case l34 => k_is); (case c34 => k_is); (case k34 => k_is); (case a35 => k_is); (case l35 => k_is); (case c35 => k_is); (case k35 => k_is); (case a36 => k_is); (case l36 => k_is); (case c36 => k_is); (case k36 => k_is); (case a37 => k_is); (case l37 => k_is); (case c37 => k_is); (case k37 => k_is); (case a38 => k_is); (case l38 => k_is); (case c38 => k_is); (case k38 => k_is); (case a39 => k_is); (case l39 => k_is); (case c39 => k_is); (case k39 => k_is); (case a40 => k_is); (case l40 => k_is); (case c40 => k_is); (case k40 => k_is); (case a41 => k_is); (case l41 => k_is); (case c41 => k_is); (case k41 => k_is); (case a42 => k_is); (case l42 => k_is); (case c42 => k_is); (case k42 => k_is); (case a43 => k_is); (case l43 => k_is); (case c43 => k_is); (case k43 => k_is); (case m_ZERO => k_is); (case k_ZERO => k_is); (case f_gcd => k_is); (case z_abs => k_is); (case z_all => k_is); (case z_bool => k_is); (case z_enumerate => k_is); (case z_int => k_is); (case z_isinstance => k_is); (case z_len => k_is); (case z_list => k_is); (case z_range => k_is); (case z_sorted => k_is); (case z_str => k_is); (case z_tuple => k_is); (case z_zip => k_is)

