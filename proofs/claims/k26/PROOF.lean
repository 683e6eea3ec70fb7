import PyProof.Rows.All
import Wide.All
import OpenK.AllK
import Wide.FinOn
import HandS.ForMost
import HandS.Deep
import HandS.TupAny
import HandS.IsInst
import HandS.Flow
import HandS.Zip
import HandS.Wide
import HandS.Walk
import HandS.TupMul
import KE.SortData
import KE.DataCmp
import KE.KeyNested
import KE.GoesMore
import HandS.Style
import HandS.Gcd
import HandS.Rev
import HandS.Iter
import KE.DataMinMax
import PyProof.Claim2Refuses
import HandS.Conv
import HandS.TupSets
import HandS.Sort
import HandS.SetFor
import HandS.Strs
import KE.KMathGC
import KE.KDictKeyed
import KE.KDictDisplayH
import PySem.Challenge.RW_everychange_k26_whole_rows_whose_parts_g
set_option Elab.async false
set_option linter.all false
set_option maxRecDepth 100000
set_option maxHeartbeats 4000000
namespace Vi
open PySem PySem.Spec PyProof.Rows L2

abbrev D := PyData
abbrev Mset := Addr → Prop
abbrev St := L2.St

/-- a tuple that stays -/
def TupAt (K : PySem.W.Frag) (H : Hp) (M : Mset) (a : Addr) (xs : List V) : Prop :=
  (Rd H a (.tup xs) ∧ ¬ M a) ∨
    ∃ (o : Obj) (its : Array Value) (n : Nat), K.lookup a = some o ∧ o.cls = .type "tuple" ∧ o.data = .seq its n ∧ its.size ≤ sizeLine ∧ Vals xs its.toList
theorem TupAt.sq {K : PySem.W.Frag} {H : Hp} {M : Mset} {a : Addr} {xs : List V} (h : TupAt K H M a xs) : SqT K H a xs := by
  rcases h with ⟨h, _⟩ | h
  · exact .inl h
  · exact .inr h

/-- a list that stays, of the module's own too (the script) -/
def LstAt (K : PySem.W.Frag) (H : Hp) (M : Mset) (a : Addr) (xs : List V) : Prop :=
  (Rd H a (.lst xs) ∧ ¬ M a) ∨
    ∃ (o : Obj) (its : Array Value) (n : Nat), K.lookup a = some o ∧ o.cls = .type "list" ∧ o.dict = none ∧ o.data = .seq its n ∧ its.size ≤ sizeLine ∧ Vals xs its.toList
theorem LstAt.sq {K : PySem.W.Frag} {H : Hp} {M : Mset} {a : Addr} {xs : List V} (h : LstAt K H M a xs) : SqL K H a xs := by
  rcases h with ⟨h, _⟩ | h
  · exact .inl h
  · exact .inr h

mutual
inductive Rep (K : PySem.W.Frag) (H : Hp) (M : Mset) : V → D → Prop
  | non : Rep K H M .non .none
  | bl (b : Bool) : Rep K H M (.bl b) (.bool b)
  | int (i : Int) : Rep K H M (.int i) (.int i)
  | str (x : Str) : Rep K H M (.str x) (.str x)
  | lst {a : Addr} {xs : List V} {ds : List D} : Rd H a (.lst xs) → ¬ M a → Reps K H M xs ds → Rep K H M (.ref a) (.list ds)
  | tup {a : Addr} {xs : List V} {ds : List D} : TupAt K H M a xs → Reps K H M xs ds → Rep K H M (.ref a) (.tuple ds)
  | scr {a : Addr} {xs : List V} {kvs : List (D × D)} : LstAt K H M a xs → Reps K H M xs (kvs.map Prod.fst) → Rep K H M (.ref a) (.dict kvs)
inductive Reps (K : PySem.W.Frag) (H : Hp) (M : Mset) : List V → List D → Prop
  | nil : Reps K H M [] []
  | cons {v : V} {vs : List V} {d : D} {ds : List D} : Rep K H M v d → Reps K H M vs ds → Reps K H M (v :: vs) (d :: ds)
end

section
variable {K : PySem.W.Frag} {H H' : Hp} {M M' : Mset}
mutual
theorem Rep.tr (t : ∀ a u, Rd H a u → ¬ M a → Rd H' a u ∧ ¬ M' a) : ∀ {v : V} {d : D}, Rep K H M v d → Rep K H' M' v d
  | _, _, .non => .non
  | _, _, .bl b => .bl b
  | _, _, .int i => .int i
  | _, _, .str x => .str x
  | _, _, .lst h n r => .lst (t _ _ h n).1 (t _ _ h n).2 (Reps.tr t r)
  | _, _, .tup h r => .tup (by
      rcases h with ⟨h, n⟩ | h
      · exact .inl (t _ _ h n)
      · exact .inr h) (Reps.tr t r)
  | _, _, .scr h r => .scr (by
      rcases h with ⟨h, n⟩ | h
      · exact .inl (t _ _ h n)
      · exact .inr h) (Reps.tr t r)
theorem Reps.tr (t : ∀ a u, Rd H a u → ¬ M a → Rd H' a u ∧ ¬ M' a) : ∀ {vs : List V} {ds : List D}, Reps K H M vs ds → Reps K H' M' vs ds
  | _, _, .nil => .nil
  | _, _, .cons h r => .cons (Rep.tr t h) (Reps.tr t r)
end
mutual
theorem Rep.dp : ∀ {v : V} {d : D}, Rep K H M v d → d.canLay0 = true → Dp K H v d
  | _, _, .non, _ => .non
  | _, _, .bl b, _ => .bl b
  | _, _, .int i, _ => .int i
  | _, _, .str x, _ => .str x
  | _, _, .lst h n r, c => .lst (.inl h) (Reps.dp r (by simpa [PyData.canLay0] using c))
  | _, _, .tup h r, c => .tup h.sq (Reps.dp r (by simpa [PyData.canLay0] using c))
  | _, _, .scr h r, c => by simp [PyData.canLay0] at c
theorem Reps.dp : ∀ {vs : List V} {ds : List D}, Reps K H M vs ds → PyData.canLayAll0 ds = true → DpAll K H vs ds
  | _, _, .nil, _ => .nil
  | _, _, .cons h r, c => .cons (Rep.dp h (by simp [PyData.canLayAll0] at c; exact c.1)) (Reps.dp r (by simp [PyData.canLayAll0] at c; exact c.2))
end
theorem Rep.smaller (h : ∀ a, M' a → M a) {v : V} {d : D} (r : Rep K H M v d) : Rep K H M' v d := r.tr fun a u q n => ⟨q, fun z => n (h a z)⟩
theorem Reps.smaller (h : ∀ a, M' a → M a) {v : List V} {d : List D} (r : Reps K H M v d) : Reps K H M' v d := r.tr fun a u q n => ⟨q, fun z => n (h a z)⟩
theorem Reps.length : ∀ {vs : List V} {ds : List D}, Reps K H M vs ds → vs.length = ds.length
  | _, _, .nil => rfl
  | _, _, .cons _ r => by rw [List.length_cons, List.length_cons, Reps.length r]
theorem Reps.append : ∀ {vs ws : List V} {ds es : List D}, Reps K H M vs ds → Reps K H M ws es → Reps K H M (vs ++ ws) (ds ++ es)
  | _, _, _, _, .nil, s => s
  | _, _, _, _, .cons h r, s => .cons h (Reps.append r s)
theorem Reps.get : ∀ {vs : List V} {ds : List D} {i : Nat} {d : D}, Reps K H M vs ds → ds[i]? = some d → ∃ v, vs[i]? = some v ∧ Rep K H M v d
  | _, _, _, _, .nil, e => by simp at e
  | _, _, 0, _, .cons h r, e => by simp at e; subst e; exact ⟨_, rfl, h⟩
  | _, _, i + 1, d, .cons h r, e => by
    obtain ⟨v, h1, h2⟩ := Reps.get (i := i) (d := d) r (by simpa using e)
    exact ⟨v, by simpa using h1, h2⟩
theorem Reps.getV : ∀ {vs : List V} {ds : List D} {i : Nat} {v : V}, Reps K H M vs ds → vs[i]? = some v → ∃ d, ds[i]? = some d ∧ Rep K H M v d
  | _, _, _, _, .nil, e => by simp at e
  | _, _, 0, _, .cons h r, e => by simp at e; subst e; exact ⟨_, rfl, h⟩
  | _, _, i + 1, v, .cons h r, e => by
    obtain ⟨d, h1, h2⟩ := Reps.getV (i := i) (v := v) r (by simpa using e)
    exact ⟨d, by simpa using h1, h2⟩
theorem Reps.take : ∀ {vs : List V} {ds : List D} (n : Nat), Reps K H M vs ds → Reps K H M (vs.take n) (ds.take n)
  | _, _, 0, _ => by simp; exact .nil
  | _, _, _ + 1, .nil => .nil
  | _, _, n + 1, .cons h r => .cons h (Reps.take n r)
theorem Reps.drop : ∀ {vs : List V} {ds : List D} (n : Nat), Reps K H M vs ds → Reps K H M (vs.drop n) (ds.drop n)
  | _, _, 0, r => r
  | _, _, _ + 1, .nil => .nil
  | _, _, n + 1, .cons h r => Reps.drop n r
theorem Reps.set : ∀ {vs : List V} {ds : List D} (i : Nat) {v : V} {d : D}, Reps K H M vs ds → Rep K H M v d → Reps K H M (vs.set i v) (ds.set i d)
  | _, _, _, _, _, .nil, _ => .nil
  | _, _, 0, _, _, .cons _ r, q => .cons q r
  | _, _, i + 1, _, _, .cons h r, q => .cons h (Reps.set i r q)
theorem Reps.erase : ∀ {vs : List V} {ds : List D} (i : Nat), Reps K H M vs ds → Reps K H M (vs.eraseIdx i) (ds.eraseIdx i)
  | _, _, _, .nil => .nil
  | _, _, 0, .cons _ r => r
  | _, _, i + 1, .cons h r => .cons h (Reps.erase i r)
theorem Reps.rep {vs : List V} {ds : List D} (h : Reps K H M vs ds) : ∀ k : Nat, Reps K H M (List.replicate k vs).flatten (List.replicate k ds).flatten
  | 0 => .nil
  | k + 1 => by
    rw [List.replicate_succ, List.replicate_succ, List.flatten_cons, List.flatten_cons]
    exact Reps.append h (Reps.rep h k)
end

/-! ### what a def's names hold -/
/-- a local list, a parameter's list, a dict (its keys and values in turn) -/
inductive Kd where
  | loc | par | dic
def Kd.isL : Kd → Bool
  | .dic => false
  | _ => true
inductive Sv where
  | imm (d : D)
  | own (pin : Kd) (ds : List D)
abbrev Fm := List (Option Sv)
/-! the keys that a dict of this layer may have: tuples of whole numbers, and of such tuples -/
mutual
def keyOf : D → NestedKey
  | .int i => .num i
  | .tuple ds => .tup (keysOf ds)
  | _ => .none
def keysOf : List D → List NestedKey
  | [] => []
  | d :: ds => keyOf d :: keysOf ds
end
def keyOkN : Nat → D → Bool
  | _, .int _ => true
  | n + 1, .tuple ds => ds.all (keyOkN n)
  | _, _ => false
def keyOk : D → Bool
  | .tuple ds => keyOkN 8 (.tuple ds)
  | _ => false
/-- the keys -/
def dKeys : List D → List D
  | k :: _ :: r => k :: dKeys r
  | _ => []
/-- keys and values in turn: what stands in the dict's table -/
inductive Ents : List DictEntry → List V → List D → Prop
  | nil : Ents [] [] []
  | cons {e : DictEntry} {es : List DictEntry} {b : Addr} {v : V} {vs : List V} {kd d : D} {ds : List D} : keyOk kd = true → (∀ w, e.hash = (keyOf kd).hash w) → e.key = .ref b → RelV v e.val → Ents es vs ds → Ents (e :: es) (.ref b :: v :: vs) (kd :: d :: ds)
def dicO (a : Addr) (vs : List V) (ds : List D) : HO := .ext fun h => ∃ o es ep, h.get? a = some o ∧ o.ExactDict ∧ o.data = .dict es ep ∧ Ents es.toList vs ds ∧ ((dKeys ds).map keyOf).Nodup ∧ (a == sysModules) = false
def cell : Kd → Addr → List V → List D → HO
  | .dic, a, vs, ds => dicO a vs ds
  | _, _, vs, _ => .lst vs

theorem cell_lst {b : Kd} (hb : b.isL = true) {a : Addr} {vs : List V} {ds : List D} : cell b a vs ds = .lst vs := by cases b <;> first | rfl | cases hb
/-- from one world to a later one: what is fixed stays -/
structure Ext (O : Mset) (H : Hp) (M : Mset) (H' : Hp) (M' : Mset) : Prop where
  keep : ∀ a o, H a = some o → (O a ∨ ¬ M a) → H' a = some o
  sub : ∀ a, O a → M' a
  new : ∀ a, M' a → M a ∨ H a = none
theorem Ext.trans {O : Mset} {H H1 H2 : Hp} {M M1 M2 : Mset} (a : Ext O H M H1 M1) (b : Ext O H1 M1 H2 M2) : Ext O H M H2 M2 := by
  refine ⟨fun x o e h => ?_, b.sub, fun x h => ?_⟩
  · have e1 := a.keep x o e h
    refine b.keep x o e1 ?_
    rcases h with h | h
    · exact .inl h
    · refine .inr fun z => ?_
      rcases a.new x z with q | q
      · exact h q
      · rw [e] at q; cases q
  · rcases b.new x h with q | q
    · exact a.new x q
    · cases e : H x with
      | none => exact .inr rfl
      | some o =>
        refine .inl (Classical.byContradiction fun n => ?_)
        have := a.keep x o e (.inr n)
        rw [this] at q; cases q
theorem Ext.less {O O' : Mset} {H H1 : Hp} {M M1 : Mset} (a : Ext O H M H1 M1) (h : ∀ x, O' x → O x) : Ext O' H M H1 M1 :=
  ⟨fun x o e q => a.keep x o e (q.imp (h x) id), fun x q => a.sub x (h x q), a.new⟩
theorem Ext.tr {O : Mset} {H H' : Hp} {M M' : Mset} (x : Ext O H M H' M') : ∀ a u, Rd H a u → ¬ M a → Rd H' a u ∧ ¬ M' a := fun a u h n => by
  refine ⟨?_, fun z => ?_⟩
  · rcases h with h | ⟨o, h⟩
    · exact .inl (x.keep a _ h (.inr n))
    · exact .inr ⟨o, x.keep a _ h (.inr n)⟩
  · rcases x.new a z with q | q
    · exact n q
    · rcases h with h | ⟨o, h⟩ <;> (rw [h] at q; cases q)

structure SR (K : PySem.W.Frag) (H : Hp) (M O : Mset) (π : Nat → Option Addr) (ρ : Fm) (σ : St) : Prop where
  len : ρ.length = σ.length
  sub : ∀ a, O a → M a
  live : ∀ a, M a → H a ≠ none
  imm : ∀ (i : Nat) (d : D), ρ[i]? = some (some (.imm d)) → ∃ v, σ[i]? = some (some v) ∧ Rep K H M v d
  own : ∀ (i : Nat) (b : Kd) (ds : List D), ρ[i]? = some (some (.own b ds)) → ∃ a vs, σ[i]? = some (some (.ref a)) ∧ H a = some (cell b a vs ds) ∧ M a ∧ ¬ O a ∧ Reps K H M vs ds ∧ (b = .par → π i = some a)
  uniq : ∀ (i j : Nat) (b c : Kd) (ds es : List D) (a : Addr), i ≠ j → ρ[i]? = some (some (.own b ds)) → ρ[j]? = some (some (.own c es)) → σ[i]? = some (some (.ref a)) → σ[j]? ≠ some (some (.ref a))

theorem Ext.refl {K : PySem.W.Frag} {H : Hp} {M O : Mset} {π : Nat → Option Addr} {ρ : Fm} {σ : St} (h : SR K H M O π ρ σ) : Ext O H M H M := ⟨fun _ _ e _ => e, h.sub, fun _ q => .inl q⟩

section
variable {K : PySem.W.Frag} {H H' : Hp} {M M' O : Mset} {π : Nat → Option Addr} {ρ ρ' : Fm} {σ : St}
/-- a new object, not owned by a name -/
theorem SR.alloc (h : SR K H M O π ρ σ) {p : Addr} {o : HO} (hp : H p = none) : SR K (upd H p o) M O π ρ σ := by
  have ne : ∀ a, M a → a ≠ p := fun a q z => h.live a q (by rw [z]; exact hp)
  have ne2 : ∀ {a : Addr} {u : HO}, H a = some u → a ≠ p := fun e z => by rw [z, hp] at e; cases e
  have t : ∀ a u, Rd H a u → ¬ M a → Rd (upd H p o) a u ∧ ¬ M a := fun a u q n => by
    refine ⟨?_, n⟩
    rcases q with q | ⟨o', q⟩
    · exact .inl (by rw [upd_ne (ne2 q)]; exact q)
    · exact .inr ⟨o', by rw [upd_ne (ne2 q)]; exact q⟩
  refine ⟨h.len, h.sub, fun a q => by rw [upd_ne (ne a q)]; exact h.live a q, fun i d e => ?_, fun i b ds e => ?_, h.uniq⟩
  · obtain ⟨v, e1, r⟩ := h.imm i d e
    exact ⟨v, e1, r.tr t⟩
  · obtain ⟨a, vs, e1, e2, e3, e4, r, e5⟩ := h.own i b ds e
    exact ⟨a, vs, e1, by rw [upd_ne (ne2 e2)]; exact e2, e3, e4, r.tr t, e5⟩
theorem Ext.alloc (h : SR K H M O π ρ σ) {p : Addr} {o : HO} (hp : H p = none) : Ext O H M (upd H p o) M :=
  ⟨fun a u e _ => by rw [upd_ne (fun z => by rw [z, hp] at e; cases e)]; exact e, h.sub, fun _ q => .inl q⟩
/-- M with p -/
def wth (M : Mset) (p : Addr) : Mset := fun a => M a ∨ a = p
/-- M without p -/
def wo (M : Mset) (p : Addr) : Mset := fun a => M a ∧ a ≠ p
theorem SR.allocOwn (h : SR K H M O π ρ σ) {p : Addr} {o : HO} (hp : H p = none) : SR K (upd H p o) (wth M p) O π ρ σ := by
  have ne2 : ∀ {a : Addr} {u : HO}, H a = some u → a ≠ p := fun e z => by rw [z, hp] at e; cases e
  have t : ∀ a u, Rd H a u → ¬ M a → Rd (upd H p o) a u ∧ ¬ wth M p a := fun a u q n => by
    rcases q with q | ⟨o', q⟩
    · exact ⟨.inl (by rw [upd_ne (ne2 q)]; exact q), fun z => z.elim n (ne2 q)⟩
    · exact ⟨.inr ⟨o', by rw [upd_ne (ne2 q)]; exact q⟩, fun z => z.elim n (ne2 q)⟩
  refine ⟨h.len, fun a q => .inl (h.sub a q), fun a q => ?_, fun i d e => ?_, fun i b ds e => ?_, h.uniq⟩
  · rcases q with q | rfl
    · rw [upd_ne (fun z => h.live a q (by rw [z]; exact hp))]; exact h.live a q
    · rw [upd_same]; intro z; cases z
  · obtain ⟨v, e1, r⟩ := h.imm i d e
    exact ⟨v, e1, r.tr t⟩
  · obtain ⟨a, vs, e1, e2, e3, e4, r, e5⟩ := h.own i b ds e
    exact ⟨a, vs, e1, by rw [upd_ne (ne2 e2)]; exact e2, .inl e3, e4, r.tr t, e5⟩
theorem Ext.allocOwn (h : SR K H M O π ρ σ) {p : Addr} {o : HO} (hp : H p = none) : Ext O H M (upd H p o) (wth M p) :=
  ⟨fun a u e _ => by rw [upd_ne (fun z => by rw [z, hp] at e; cases e)]; exact e, fun a q => .inl (h.sub a q), fun a q => q.imp id (fun z => by rw [z]; exact hp)⟩
theorem SR.less (h : SR K H M O π ρ σ) {O' : Mset} (q : ∀ a, O' a → O a) : SR K H M O' π ρ σ :=
  ⟨h.len, fun a z => h.sub a (q a z), h.live, h.imm, fun i b ds e => let ⟨a, vs, e1, e2, e3, e4, r⟩ := h.own i b ds e; ⟨a, vs, e1, e2, e3, fun z => e4 (q a z), r⟩, h.uniq⟩
/-- one more that is held -/
theorem SR.more (h : SR K H M O π ρ σ) {O' : Mset} (q : ∀ a, O' a → M a) (n : ∀ (i : Nat) (b : Kd) (ds : List D) (a : Addr), ρ[i]? = some (some (.own b ds)) → σ[i]? = some (some (.ref a)) → ¬ O' a) : SR K H M O' π ρ σ :=
  ⟨h.len, q, h.live, h.imm, fun i b ds e => let ⟨a, vs, e1, e2, e3, e4, r⟩ := h.own i b ds e; ⟨a, vs, e1, e2, e3, n i b ds a e e1, r⟩, h.uniq⟩
end

/-! ### what an expression hands on -/
inductive PR where
  | val (s : Sv)
  | slot (i : Nat)
def Apart (ρ : Fm) (σ : St) (p : Addr) : Prop := ∀ (i : Nat) (b : Kd) (ds : List D), ρ[i]? = some (some (.own b ds)) → σ[i]? ≠ some (some (.ref p))
def RP (K : PySem.W.Frag) (H : Hp) (M O : Mset) (ρ : Fm) (σ : St) : PR → V → Prop
  | .val (.imm d), v => Rep K H M v d
  | .val (.own b ds), v => ∃ p vs, v = .ref p ∧ H p = some (cell b p vs ds) ∧ M p ∧ ¬ O p ∧ Reps K H M vs ds ∧ Apart ρ σ p
  | .slot i, v => σ[i]? = some (some v)
/-- what is held of it while something else is reckoned -/
def hold (O : Mset) : PR → V → Mset
  | .val (.own _ _), .ref p => wth O p
  | _, _ => O
theorem hold_le (O : Mset) (pr : PR) (v : V) : ∀ a, O a → hold O pr v a := fun a q => by
  unfold hold
  split
  · exact .inl q
  · exact q
section
variable {K : PySem.W.Frag} {H H' : Hp} {M M' O O' : Mset} {π : Nat → Option Addr} {ρ ρ' : Fm} {σ : St} {pr : PR} {v : V}
theorem SR.hold (h : SR K H M O π ρ σ) (r : RP K H M O ρ σ pr v) : SR K H M (hold O pr v) π ρ σ := by
  unfold Vi.hold
  split
  · obtain ⟨p, vs, e, e1, e2, e3, e4, e5⟩ := r
    cases e
    refine h.more (fun a q => ?_) fun i b ds a e6 e7 z => ?_
    · rcases q with q | rfl
      · exact h.sub a q
      · exact e2
    · rcases z with z | rfl
      · obtain ⟨a', _, f1, _, _, f2, _⟩ := h.own i b ds e6
        rw [e7] at f1; cases f1; exact f2 z
      · exact e5 i b ds e6 e7
  · exact h
theorem RP.held (r : RP K H M O ρ σ pr v) (x : Ext (hold O pr v) H M H' M') (h : SR K H' M' (hold O pr v) π ρ' σ) : RP K H' M' O ρ' σ pr v := by
  match pr, v, r with
  | .val (.imm d), v, r => exact Rep.tr x.tr r
  | .slot i, v, r => exact r
  | .val (.own b ds), v, ⟨p, vs, e, e1, e2, e3, e4, e5⟩ =>
    subst e
    refine ⟨p, vs, rfl, x.keep p _ e1 (.inl (.inr rfl)), x.sub p (.inr rfl), e3, Reps.tr x.tr e4, fun i b ds e6 e7 => ?_⟩
    obtain ⟨a, _, f1, _, _, f2, _⟩ := h.own i b ds e6
    rw [e7] at f1; cases f1
    exact f2 (.inr rfl)
theorem RP.less (r : RP K H M O ρ σ pr v) (q : ∀ a, O' a → O a) : RP K H M O' ρ σ pr v := by
  match pr, v, r with
  | .val (.imm d), v, r => exact r
  | .slot i, v, r => exact r
  | .val (.own b ds), v, ⟨p, vs, e, e1, e2, e3, e4, e5⟩ => exact ⟨p, vs, e, e1, e2, fun z => e3 (q p z), e4, e5⟩
end

/-- how a value is looked at -/
def VW (K : PySem.W.Frag) (H : Hp) (M : Mset) (v : V) (d : D) : Prop :=
  match d with
  | .list ds => ∃ a vs, v = .ref a ∧ Rd H a (.lst vs) ∧ Reps K H M vs ds
  | d => Rep K H M v d
def Sv.toD : Sv → D
  | .imm d => d
  | .own _ ds => .list ds
def peek (ρ : Fm) : PR → Option D
  | .val (.own .dic _) => none
  | .val s => some s.toD
  | .slot i => match ρ[i]? with
    | some (some (.own .dic _)) => none
    | some (some s) => some s.toD
    | _ => none
def frz (ρ : Fm) : PR → Option (D × Fm)
  | .val (.own .dic _) => none
  | .val s => some (s.toD, ρ)
  | .slot i => match ρ[i]? with
    | some (some (.imm d)) => some (d, ρ)
    | some (some (.own .loc ds)) => some (.list ds, ρ.set i (some (.imm (.list ds))))
    | _ => none
section
variable {K : PySem.W.Frag} {H H' : Hp} {M M' O O' : Mset} {π : Nat → Option Addr} {ρ ρ' : Fm} {σ : St} {pr : PR} {v : V} {d : D}
theorem VW.of (r : Rep K H M v d) : VW K H M v d := by
  cases r with
  | lst h n r => exact ⟨_, _, rfl, h, r⟩
  | non => exact .non
  | bl b => exact .bl b
  | int i => exact .int i
  | str x => exact .str x
  | tup h r => exact .tup h r
  | scr h r => exact .scr h r
theorem VW.dp (r : VW K H M v d) (c : d.canLay0 = true) : Dp K H v d := by
  unfold VW at r
  split at r
  · obtain ⟨a, vs, rfl, h, r⟩ := r
    exact .lst (.inl h) (r.dp (by simpa [PyData.canLay0] using c))
  · exact r.dp c
theorem VW.lst {a : Addr} {vs : List V} {ds : List D} (h : H a = some (.lst vs)) (r : Reps K H M vs ds) : VW K H M (.ref a) (.list ds) := ⟨a, vs, rfl, .inl h, r⟩
theorem peek_vw (h : SR K H M O π ρ σ) (r : RP K H M O ρ σ pr v) (e : peek ρ pr = some d) : VW K H M v d := by
  match pr, v, r, e with
  | .val (.imm d'), v, r, e => cases e; exact .of r
  | .val (.own b ds), v, ⟨p, vs, e1, e2, _, _, e4, _⟩, e =>
    cases b with
    | dic => cases e
    | loc => cases e; subst e1; exact .lst e2 e4
    | par => cases e; subst e1; exact .lst e2 e4
  | .slot i, v, r, e =>
    have r' : σ[i]? = some (some v) := r
    cases hs : ρ[i]? with
    | none => unfold peek at e; simp only [hs] at e; cases e
    | some o =>
      cases o with
      | none => unfold peek at e; simp only [hs] at e; cases e
      | some s =>
        unfold peek at e
        simp only [hs] at e
        cases s with
        | imm d' =>
          cases e
          obtain ⟨w, f1, f2⟩ := h.imm i d' hs
          rw [r'] at f1; cases f1; exact .of f2
        | own b ds =>
          obtain ⟨a, vs, f1, f2, f3, f4, f5, f6⟩ := h.own i b ds hs
          rw [r'] at f1; cases f1
          cases b with
          | dic => cases e
          | loc => cases e; exact .lst f2 f5
          | par => cases e; exact .lst f2 f5
/-- M loses p, nobody's own -/
theorem SR.forget (h : SR K H M O π ρ σ) {p : Addr} (hp : ¬ O p) (ha : Apart ρ σ p) : SR K H (wo M p) O π ρ σ := by
  have sm : ∀ a, wo M p a → M a := fun a q => q.1
  refine ⟨h.len, fun a q => ⟨h.sub a q, fun z => hp (z ▸ q)⟩, fun a q => h.live a q.1, fun i d e => ?_, fun i b ds e => ?_, h.uniq⟩
  · obtain ⟨v, e1, r⟩ := h.imm i d e
    exact ⟨v, e1, r.smaller sm⟩
  · obtain ⟨a, vs, e1, e2, e3, e4, r, e5⟩ := h.own i b ds e
    exact ⟨a, vs, e1, e2, ⟨e3, fun z => ha i b ds e (z ▸ e1)⟩, e4, r.smaller sm, e5⟩
theorem Ext.forget (h : SR K H M O π ρ σ) {p : Addr} (hp : ¬ O p) : Ext O H M H (wo M p) :=
  ⟨fun _ _ e _ => e, fun a q => ⟨h.sub a q, fun z => hp (z ▸ q)⟩, fun _ q => .inl q.1⟩
theorem get_set {α : Type} {l : List α} {i j : Nat} {x y : α} (h : (l.set i x)[j]? = some y) : (j = i ∧ y = x) ∨ (j ≠ i ∧ l[j]? = some y) := by
  by_cases e : j = i
  · subst e
    rw [List.getElem?_set] at h
    split at h
    · split at h
      · cases h; exact .inl ⟨rfl, rfl⟩
      · cases h
    · exact absurd rfl (by assumption)
  · exact .inr ⟨e, by rw [List.getElem?_set_ne (Ne.symm e)] at h; exact h⟩
/-- a name's own list becomes fixed -/
theorem SR.freeze (h : SR K H M O π ρ σ) {i : Nat} {ds : List D} {a : Addr} {vs : List V} (e : ρ[i]? = some (some (.own .loc ds))) (e1 : σ[i]? = some (some (.ref a))) (e2 : H a = some (.lst vs)) (r : Reps K H M vs ds) (hO : ¬ O a) :
    SR K H (wo M a) O π (ρ.set i (some (.imm (.list ds)))) σ := by
  have sm : ∀ b, wo M a b → M b := fun b q => q.1
  refine ⟨by rw [List.length_set]; exact h.len, fun b q => ⟨h.sub b q, fun z => hO (z ▸ q)⟩, fun b q => h.live b q.1, fun j d f => ?_, fun j b es f => ?_, fun j k b c es fs x hjk f g => ?_⟩
  · rcases get_set f with ⟨hj, g⟩ | ⟨_, f⟩
    · subst hj
      cases g
      exact ⟨.ref a, e1, .lst (.inl e2) (fun z => z.2 rfl) (r.smaller sm)⟩
    · obtain ⟨v, g1, g2⟩ := h.imm j d f
      exact ⟨v, g1, g2.smaller sm⟩
  · rcases get_set f with ⟨_, g⟩ | ⟨hj, f⟩
    · cases g
    · obtain ⟨x, ws, g1, g2, g3, g4, g5, g6⟩ := h.own j b es f
      refine ⟨x, ws, g1, g2, ⟨g3, fun z => ?_⟩, g4, g5.smaller sm, g6⟩
      subst z
      exact h.uniq i j _ _ _ _ x (Ne.symm hj) e f e1 g1
  · rcases get_set f with ⟨_, z⟩ | ⟨_, f⟩
    · cases z
    · rcases get_set g with ⟨_, z⟩ | ⟨_, g⟩
      · cases z
      · exact h.uniq j k b c es fs x hjk f g
theorem frz_ok (h : SR K H M O π ρ σ) (r : RP K H M O ρ σ pr v) (e : frz ρ pr = some (d, ρ')) : ∃ M', Ext O H M H M' ∧ SR K H M' O π ρ' σ ∧ Rep K H M' v d := by
  match pr, v, r, e with
  | .val (.imm d'), v, r, e =>
    unfold frz at e; simp only [Option.some.injEq, Prod.mk.injEq] at e
    obtain ⟨rfl, rfl⟩ := e
    exact ⟨M, .refl h, h, r⟩
  | .val (.own .loc ds), v, ⟨p, vs, e1, e2, e3, e4, e5, e6⟩, e =>
    unfold frz at e; simp only [Option.some.injEq, Prod.mk.injEq] at e
    obtain ⟨rfl, rfl⟩ := e
    subst e1
    exact ⟨_, .forget h e4, h.forget e4 e6, .lst (.inl e2) (fun z => z.2 rfl) (e5.smaller fun a q => q.1)⟩
  | .val (.own .par ds), v, ⟨p, vs, e1, e2, e3, e4, e5, e6⟩, e =>
    unfold frz at e; simp only [Option.some.injEq, Prod.mk.injEq] at e
    obtain ⟨rfl, rfl⟩ := e
    subst e1
    exact ⟨_, .forget h e4, h.forget e4 e6, .lst (.inl e2) (fun z => z.2 rfl) (e5.smaller fun a q => q.1)⟩
  | .val (.own .dic ds), v, _, e => cases e
  | .slot i, v, r, e =>
    have r' : σ[i]? = some (some v) := r
    unfold frz at e
    simp only at e
    split at e
    · rename_i d' hs
      simp only [Option.some.injEq, Prod.mk.injEq] at e
      obtain ⟨rfl, rfl⟩ := e
      obtain ⟨w, f1, f2⟩ := h.imm i _ hs
      rw [r'] at f1; cases f1; exact ⟨M, .refl h, h, f2⟩
    · rename_i ds hs
      simp only [Option.some.injEq, Prod.mk.injEq] at e
      obtain ⟨rfl, rfl⟩ := e
      obtain ⟨a, vs, f1, f2, f3, f4, f5, f6⟩ := h.own i _ ds hs
      rw [r'] at f1; cases f1
      exact ⟨_, .forget h f4, h.freeze hs r' f2 f5 f4, .lst (.inl f2) (fun z => z.2 rfl) (f5.smaller fun a q => q.1)⟩
    · cases e
end

/-! ### expressions -/
abbrev ME := Fm → Option (PR × Fm)
def tE (K : PySem.W.Frag) (m : ME) : TE := fun σ H Q => ∃ ρ M O π pr ρ', SR K H M O π ρ σ ∧ m ρ = some (pr, ρ') ∧ ∀ v H' M', Ext O H M H' M' → SR K H' M' O π ρ' σ → RP K H' M' O ρ' σ pr v → Q v H'
def DE (X : Cx) (e : Expr) (m : ME) : Prop := PE X e (tE X.K m)
theorem _root_.L2.PE.imp {X : Cx} {e : Expr} {t t' : TE} (h : PE X e t) (i : ∀ σ H Q, t' σ H Q → t σ H Q) : PE X e t' := ⟨fun pins s σ H Q I q => h.run pins s σ H Q I (i σ H Q q)⟩
theorem _root_.L2.PT.imp {X : Cx} {e : Expr} {t t' : TT} (h : PT X e t) (i : ∀ σ H Q, t' σ H Q → t σ H Q) : PT X e t' := ⟨fun pins s σ H Q I q => h.run pins s σ H Q I (i σ H Q q)⟩
theorem _root_.L2.PA.imp {X : Cx} {e : List Expr} {t t' : TA} (h : PA X e t) (i : ∀ σ H Q, t' σ H Q → t σ H Q) : PA X e t' := ⟨fun pos pins s σ H Q I q => h.run pos pins s σ H Q I (i σ H Q q)⟩
theorem _root_.L2.PS.imp {X : Cx} {e : Stmt} {t t' : TS} (h : PS X e t) (i : ∀ D σ H, t' D σ H → t D σ H) : PS X e t' := ⟨fun pins s σ H D I q => h.run pins s σ H D I (i D σ H q)⟩
theorem _root_.L2.PSs.imp {X : Cx} {e : List Stmt} {t t' : TS} (h : PSs X e t) (i : ∀ D σ H, t' D σ H → t D σ H) : PSs X e t' := ⟨fun pins s σ H D I q => h.run pins s σ H D I (i D σ H q)⟩

section
variable {X : Cx} {a b : Expr} {ma mb : ME} {pos : Pos}
/-- a name -/
def mVar (i : Nat) : ME := fun ρ => match ρ[i]? with
  | some (some _) => some (.slot i, ρ)
  | _ => none
theorem SR.at {K : PySem.W.Frag} {H : Hp} {M O : Mset} {π : Nat → Option Addr} {ρ : Fm} {σ : St} (h : SR K H M O π ρ σ) {i : Nat} {s : Sv} (e : ρ[i]? = some (some s)) : ∃ v, σ[i]? = some (some v) := by
  cases s with
  | imm d => obtain ⟨v, e1, _⟩ := h.imm i d e; exact ⟨v, e1⟩
  | own b ds => obtain ⟨a, vs, e1, _⟩ := h.own i b ds e; exact ⟨_, e1⟩
theorem de_var {i : Nat} {x : Str} (h : PE X (.Name x pos) (tVar i)) : DE X (.Name x pos) (mVar i) := by
  refine PE.imp h fun σ H Q ⟨ρ, M, O, π, pr, ρ', hs, e, q⟩ => ?_
  unfold mVar at e
  split at e
  · rename_i s hs'
    simp only [Option.some.injEq, Prod.mk.injEq] at e
    obtain ⟨rfl, rfl⟩ := e
    obtain ⟨v, e1⟩ := hs.at hs'
    exact ⟨v, e1, q v H M (.refl hs) hs e1⟩
  · cases e
def mC (d : D) : ME := fun ρ => some (.val (.imm d), ρ)
/-- what is always the same value -/
theorem de_c {v : V} {d : D} {e : Expr} (h : PE X e (tC v)) (r : ∀ H M, Rep X.K H M v d) : DE X e (mC d) := by
  refine PE.imp h fun σ H Q ⟨ρ, M, O, π, pr, ρ', hs, e, q⟩ => ?_
  cases e
  exact q v H M (.refl hs) hs (r H M)
theorem de_int {i : Int} {j} : DE X (.Constant (.int i) j pos) (mC (.int i)) := de_c pe_int fun _ _ => .int i
theorem de_bl {i : Bool} {j} : DE X (.Constant (.bool i) j pos) (mC (.bool i)) := de_c pe_bl fun _ _ => .bl i
theorem de_non {j} : DE X (.Constant .none j pos) (mC .none) := de_c pe_non fun _ _ => .non
theorem de_str {x : Str} {j} : DE X (.Constant (.str x) j pos) (mC (.str x)) := de_c pe_str fun _ _ => .str x

/-! ### two-place and one-place operations -/
def bin (f : D → D → Option Sv) (ma mb : ME) : ME := fun ρ =>
  match ma ρ with
  | some (a, ρ1) => match mb ρ1 with
    | some (b, ρ2) => match peek ρ2 a, peek ρ2 b with
      | some x, some y => match f x y with
        | some r => some (.val r, ρ2)
        | none => none
      | _, _ => none
    | none => none
  | none => none
/-- the operation's rule answers to f -/
def OpS (X : Cx) (r : R2) (f : D → D → Option Sv) : Prop := ∀ {H : Hp} {M O : Mset} {π : Nat → Option Addr} {ρ : Fm} {σ : St} {v1 v2 : V} {d1 d2 : D} {res : Sv} {Q : VK}, SR X.K H M O π ρ σ → VW X.K H M v1 d1 → VW X.K H M v2 d2 → f d1 d2 = some res →
  (∀ v H' M', Ext O H M H' M' → SR X.K H' M' O π ρ σ → RP X.K H' M' O ρ σ (.val res) v → Q v H') → r v1 v2 H Q
theorem tE_bin {K : PySem.W.Frag} {f : D → D → Option Sv} {r : R2} (hs : ∀ {H : Hp} {M O : Mset} {π : Nat → Option Addr} {ρ : Fm} {σ : St} {v1 v2 : V} {d1 d2 : D} {res : Sv} {Q : VK}, SR K H M O π ρ σ → VW K H M v1 d1 → VW K H M v2 d2 → f d1 d2 = some res →
  (∀ v H' M', Ext O H M H' M' → SR K H' M' O π ρ σ → RP K H' M' O ρ σ (.val res) v → Q v H') → r v1 v2 H Q) {σ : St} {H : Hp} {Q : VK} (h : tE K (bin f ma mb) σ H Q) : tOp r (tE K ma) (tE K mb) σ H Q := by
  obtain ⟨ρ, M, O, π, pr, ρ', h0, e, q⟩ := h
  unfold bin at e
  split at e
  · rename_i a ρ1 ea
    split at e
    · rename_i b ρ2 eb
      split at e
      · rename_i x y ex ey
        split at e
        · rename_i res er
          simp only [Option.some.injEq, Prod.mk.injEq] at e
          obtain ⟨rfl, rfl⟩ := e
          refine ⟨ρ, M, O, π, a, ρ1, h0, ea, fun v1 H1 M1 x1 s1 r1 => ?_⟩
          refine ⟨ρ1, M1, Vi.hold O a v1, π, b, ρ2, s1.hold r1, eb, fun v2 H2 M2 x2 s2 r2 => ?_⟩
          have s2' := s2.less (hold_le O a v1)
          exact hs s2' (peek_vw s2' (r1.held x2 s2) ex) (peek_vw s2' (r2.less (hold_le O a v1)) ey) er fun v H' M' x3 s3 r3 => q v H' M' ((x1.trans (x2.less (hold_le O a v1))).trans x3) s3 r3
        · cases e
      · cases e
    · cases e
  · cases e
theorem de_op {op : Operator} {r : R2} {f : D → D → Option Sv} (ho : OpR X (binaryOp op) r) (hs : OpS X r f) (ha : DE X a ma) (hb : DE X b mb) : DE X (.BinOp a op b pos) (bin f ma mb) :=
  PE.imp (pe_op ho ha hb) fun σ H Q h => tE_bin hs h
theorem de_cmp {op : CmpOp} {r : R2} {f : D → D → Option Sv} (ho : OpR X (compareOp op) r) (hs : OpS X r f) (ha : DE X a ma) (hb : DE X b mb) (hm : behindInMarks op b = false) : DE X (.Compare a [op] [b] pos) (bin f ma mb) :=
  PE.imp (pe_cmpR ho ha hb hm) fun σ H Q h => tE_bin hs h
theorem de_ix {r : R2} {f : D → D → Option Sv} (ho : IxR X r) (hs : OpS X r f) (ha : DE X a ma) (hb : DE X b mb) (hp : PlainIx b) : DE X (.Subscript a b pos) (bin f ma mb) :=
  PE.imp (pe_ix ho ha hb hp) fun σ H Q h => tE_bin hs h
def un (f : D → Option Sv) (ma : ME) : ME := fun ρ =>
  match ma ρ with
  | some (a, ρ1) => match peek ρ1 a with
    | some x => match f x with
      | some r => some (.val r, ρ1)
      | none => none
    | none => none
  | none => none
def UnS (X : Cx) (r : V → Hp → VK → Prop) (f : D → Option Sv) : Prop := ∀ {H : Hp} {M O : Mset} {π : Nat → Option Addr} {ρ : Fm} {σ : St} {v1 : V} {d1 : D} {res : Sv} {Q : VK}, SR X.K H M O π ρ σ → VW X.K H M v1 d1 → f d1 = some res →
  (∀ v H' M', Ext O H M H' M' → SR X.K H' M' O π ρ σ → RP X.K H' M' O ρ σ (.val res) v → Q v H') → r v1 H Q
theorem tE_un {f : D → Option Sv} {r : V → Hp → VK → Prop} (hs : UnS X r f) {σ : St} {H : Hp} {Q : VK} (h : tE X.K (un f ma) σ H Q) : tE X.K ma σ H fun v H1 => r v H1 Q := by
  obtain ⟨ρ, M, O, π, pr, ρ', h0, e, q⟩ := h
  unfold un at e
  split at e
  · rename_i a ρ1 ea
    split at e
    · rename_i x ex
      split at e
      · rename_i res er
        simp only [Option.some.injEq, Prod.mk.injEq] at e
        obtain ⟨rfl, rfl⟩ := e
        exact ⟨ρ, M, O, π, a, ρ1, h0, ea, fun v1 H1 M1 x1 s1 r1 => hs s1 (peek_vw s1 r1 ex) er fun v H' M' x3 s3 r3 => q v H' M' (x1.trans x3) s3 r3⟩
      · cases e
    · cases e
  · cases e
theorem de_un {op : UnaryOp} {r : V → Hp → VK → Prop} {f : D → Option Sv} (ho : UnR X (unaryOp op) r) (hs : UnS X r f) (ha : DE X a ma) : DE X (.UnaryOp op a pos) (un f ma) :=
  PE.imp (pe_un ho ha) fun σ H Q h => tE_un hs h
/-- a built-in of one argument, by its name -/
theorem de_call1 {id : String} {x : Str} {p : Pos} {r : List V → Hp → VK → Prop} {f : D → Option Sv} (hc : CallR X (.builtin id) r) (hs : UnS X (fun v H Q => r [v] H Q) f) (hg : Gl X x) (hm : X.mg x = none) (hv : bootBuiltins x = some (.builtin id)) (ha : DE X a ma)
    (hn : x ≠ "__name__" := by decide) (hd : (x == ("__debug__" : Str)) = false := by decide) (he : starEach (a :: []) X.env = (false, eval a X.env) :: starEach [] X.env := by rfl) (hpl : (backTo pos (starEach [] X.env)).any (·.1) = false := by rfl) : DE X (.Call (.Name x p) [a] [] pos) (un f ma) :=
  PE.imp (pe_callB hc hg hm hv (pa_cons ha pa_nil he) hn hd he hpl) fun σ H Q h => tE_un hs h
theorem de_callT1 {T : String} {x : Str} {p : Pos} {r : List V → Hp → VK → Prop} {f : D → Option Sv} (hc : CallR X (.type T) r) (hs : UnS X (fun v H Q => r [v] H Q) f) (hg : Gl X x) (hm : X.mg x = none) (hv : bootBuiltins x = some (.type T)) (ha : DE X a ma)
    (hn : x ≠ "__name__" := by decide) (hd : (x == ("__debug__" : Str)) = false := by decide) (he : starEach (a :: []) X.env = (false, eval a X.env) :: starEach [] X.env := by rfl) (hpl : (backTo pos (starEach [] X.env)).any (·.1) = false := by rfl) : DE X (.Call (.Name x p) [a] [] pos) (un f ma) :=
  PE.imp (pe_callTy hc hg hm hv (pa_cons ha pa_nil he) hn hd he hpl) fun σ H Q h => tE_un hs h
end
end Vi

namespace Vi
open PySem PySem.Spec PyProof.Rows L2

/-! ### what stands behind an operation -/
section
variable {K : PySem.W.Frag} {H : Hp} {M O : Mset} {π : Nat → Option Addr} {ρ : Fm} {σ : St} {v : V} {Q : VK}
theorem alloc_tr (h : SR K H M O π ρ σ) {p : Addr} {o : HO} (hp : H p = none) : ∀ a u, Rd H a u → ¬ M a → Rd (upd H p o) a u ∧ ¬ M a := fun a u q n => by
  have ne2 : ∀ {a : Addr} {u : HO}, H a = some u → a ≠ p := fun e z => by rw [z, hp] at e; cases e
  refine ⟨?_, n⟩
  rcases q with q | ⟨o', q⟩
  · exact .inl (by rw [upd_ne (ne2 q)]; exact q)
  · exact .inr ⟨o', by rw [upd_ne (ne2 q)]; exact q⟩
theorem alloc_tr_own (h : SR K H M O π ρ σ) {p : Addr} {o : HO} (hp : H p = none) : ∀ a u, Rd H a u → ¬ M a → Rd (upd H p o) a u ∧ ¬ wth M p a := fun a u q n => by
  refine ⟨(alloc_tr h hp a u q n).1, fun z => z.elim n fun e => ?_⟩
  rcases q with q | ⟨o', q⟩ <;> (rw [e, hp] at q; cases q)
abbrev Post (K : PySem.W.Frag) (H : Hp) (M O : Mset) (π : Nat → Option Addr) (ρ : Fm) (σ : St) (res : Sv) (Q : VK) : Prop :=
  ∀ v H' M', Ext O H M H' M' → SR K H' M' O π ρ σ → RP K H' M' O ρ σ (.val res) v → Q v H'
theorem Post.now {d : D} (q : Post K H M O π ρ σ (.imm d) Q) (h : SR K H M O π ρ σ) (r : Rep K H M v d) : Q v H := q v H M (.refl h) h r
theorem Post.tup {ds : List D} {vs : List V} (q : Post K H M O π ρ σ (.imm (.tuple ds)) Q) (h : SR K H M O π ρ σ) (r : Reps K H M vs ds) {p : Addr} (hp : H p = none) : Q (.ref p) (upd H p (.tup vs)) :=
  q _ _ M (.alloc h hp) (h.alloc hp) (.tup (.inl ⟨.inl upd_same, fun z => h.live p z hp⟩) (r.tr (alloc_tr h hp)))
theorem Post.lst {ds : List D} {vs : List V} {b : Kd} (q : Post K H M O π ρ σ (.own b ds) Q) (h : SR K H M O π ρ σ) (r : Reps K H M vs ds) {p : Addr} (hp : H p = none) (hb : b.isL = true := by rfl) : Q (.ref p) (upd H p (.lst vs)) := by
  refine q _ _ (wth M p) (.allocOwn h hp) (h.allocOwn hp) ⟨p, vs, rfl, upd_same.trans (congrArg some (cell_lst hb).symm), .inr rfl, fun z => h.live p (h.sub p z) hp, r.tr (alloc_tr_own h hp), fun i b ds e e1 => ?_⟩
  obtain ⟨a, ws, f1, f2, _⟩ := h.own i b ds e
  rw [e1] at f1; cases f1
  rw [hp] at f2; cases f2
theorem VW.inI {i : Int} (r : VW K H M v (.int i)) : v = .int i := by cases (show Rep K H M v (.int i) from r); rfl
theorem VW.inB {i : Bool} (r : VW K H M v (.bool i)) : v = .bl i := by cases (show Rep K H M v (.bool i) from r); rfl
theorem VW.inS {i : Str} (r : VW K H M v (.str i)) : v = .str i := by cases (show Rep K H M v (.str i) from r); rfl
theorem VW.inN (r : VW K H M v .none) : v = .non := by cases (show Rep K H M v .none from r); rfl
theorem VW.inT {ds : List D} (r : VW K H M v (.tuple ds)) : ∃ a vs, v = .ref a ∧ TupAt K H M a vs ∧ Reps K H M vs ds := by
  cases (show Rep K H M v (.tuple ds) from r) with
  | tup h r => exact ⟨_, _, rfl, h, r⟩
theorem VW.inScr {kvs : List (D × D)} (r : VW K H M v (.dict kvs)) : ∃ a vs, v = .ref a ∧ LstAt K H M a vs ∧ Reps K H M vs (kvs.map Prod.fst) := by
  cases (show Rep K H M v (.dict kvs) from r) with
  | scr h r => exact ⟨_, _, rfl, h, r⟩
theorem VW.inL {ds : List D} (r : VW K H M v (.list ds)) : ∃ a vs, v = .ref a ∧ Rd H a (.lst vs) ∧ Reps K H M vs ds := r
/-- a list or a tuple -/
theorem VW.seq {d : D} {ds : List D} (r : VW K H M v d) (e : d = .list ds ∨ d = .tuple ds) : ∃ a vs, v = .ref a ∧ (SqL K H a vs ∨ SqT K H a vs) ∧ Reps K H M vs ds := by
  rcases e with rfl | rfl
  · obtain ⟨a, vs, e, h, r⟩ := r.inL
    exact ⟨a, vs, e, .inl (.inl h), r⟩
  · obtain ⟨a, vs, e, h, r⟩ := r.inT
    exact ⟨a, vs, e, .inr h.sq, r⟩
theorem rep_rep {v : V} {d : D} (r : VW K H M v d) (n : ∀ ds, d ≠ .list ds) : Rep K H M v d := by
  cases d with
  | list ds => exact absurd rfl (n ds)
  | _ => exact r
end

section
variable {X : Cx}
/-! ### + - * // % ** -/
def rCatR : R2 := fun x y H Q => ∃ l b xs zs, x = .ref l ∧ y = .ref b ∧ Rd H l (.lst xs) ∧ Rd H b (.lst zs) ∧ xs.length + zs.length ≤ sizeLine ∧ ∀ p, H p = none → Q (.ref p) (upd H p (.lst (xs ++ zs)))
theorem op_catR : OpR X (binaryOp .Add) rCatR := by
  intro pins s σ H x y v u Q I rx ry h
  obtain ⟨l, b, xs, zs, rfl, rfl, hH, hB, hz, q⟩ := h
  cases rx
  cases ry
  obtain ⟨z, its, n, r, e⟩ := hH.ok I.hok
  obtain ⟨z2, its2, n2, r2, e2⟩ := hB.ok I.hok
  have hl := r.length
  have hl2 := r2.length
  refine PySem.P.add_list e e2 ?_ (by rw [List.size_toArray, List.size_toArray]; omega)
  have ea : its.toArray ++ its2.toArray = (its ++ its2).toArray := by simp
  rw [ea]
  exact ⟨.ref _, _, I.lnew (t' := s.toks) (r.append r2) (by rw [List.length_append]; omega), rfl, q _ I.fresh⟩
def fits (n : Nat) : Bool := decide (n ≤ sizeLine)
theorem fits_le {n : Nat} (h : fits n = true) : n ≤ sizeLine := of_decide_eq_true h
def dAdd : D → D → Option Sv
  | .int i, .int j => some (.imm (.int (i + j)))
  | .tuple xs, .tuple ys => if fits (xs.length + ys.length) = true then some (.imm (.tuple (xs ++ ys))) else none
  | .list xs, .list ys => if fits (xs.length + ys.length) = true then some (.own .loc (xs ++ ys)) else none
  | .str x, .str y => if fits (x.length + y.length) = true then some (.imm (.str (x ++ y))) else none
  | _, _ => none
abbrev rAdd (X : Cx) : R2 := fun x y H Q => rI0 (fun i j => .int (i + j)) x y H Q ∨ rCatA X.K x y H Q ∨ rCatR x y H Q ∨ ∃ i j, x = .str i ∧ y = .str j ∧ i.length + j.length ≤ sizeLine ∧ Q (.str (i ++ j)) H
theorem op_addA : OpR X (binaryOp .Add) (rAdd X) := op_add.or (op_catA.or (op_catR.or op_add_str))
theorem os_add : OpS X (rAdd X) dAdd := by
  intro H M O π ρ σ v1 v2 d1 d2 res Q h r1 r2 e q
  unfold dAdd at e
  split at e
  · cases e
    cases r1.inI; cases r2.inI
    exact .inl ⟨_, _, rfl, rfl, Post.now q h (.int _)⟩
  · split at e
    · rename_i hz
      cases e
      obtain ⟨a, xs, rfl, ta, ra⟩ := r1.inT
      obtain ⟨b, ys, rfl, tb, rb⟩ := r2.inT
      refine .inr (.inl ⟨a, b, xs, ys, rfl, rfl, ta.sq, tb.sq, by rw [ra.length, rb.length]; exact fits_le hz, fun ex => ?_, fun _ ey => ?_, fun _ _ p hp => ?_⟩)
      · subst ex; cases ra; exact Post.now q h r2
      · subst ey; cases rb; exact Post.now q h (by rw [List.append_nil]; exact r1)
      · exact Post.tup q h (ra.append rb) hp
    · cases e
  · split at e
    · rename_i hz
      cases e
      obtain ⟨a, xs, rfl, ta, ra⟩ := r1.inL
      obtain ⟨b, ys, rfl, tb, rb⟩ := r2.inL
      exact .inr (.inr (.inl ⟨a, b, xs, ys, rfl, rfl, ta, tb, by rw [ra.length, rb.length]; exact fits_le hz, fun p hp => Post.lst q h (ra.append rb) hp⟩))
    · cases e
  · split at e
    · rename_i hz
      cases e
      cases r1.inS; cases r2.inS
      exact .inr (.inr (.inr ⟨_, _, rfl, rfl, fits_le hz, Post.now q h (.str _)⟩))
    · cases e
  · cases e
def dSub : D → D → Option Sv
  | .int i, .int j => some (.imm (.int (i - j)))
  | _, _ => none
theorem os_sub : OpS X (rI0 fun i j => .int (i - j)) dSub := by
  intro H M O π ρ σ v1 v2 d1 d2 res Q h r1 r2 e q
  unfold dSub at e
  split at e
  · cases e
    cases r1.inI; cases r2.inI
    exact ⟨_, _, rfl, rfl, Post.now q h (.int _)⟩
  · cases e
/-- how far products go -/
def mulOk (i j : Int) : Bool := decide (-(2 ^ 64) < i ∧ i < 2 ^ 64) || decide (-(2 ^ 64) < j ∧ j < 2 ^ 64) || decide (i.natAbs.log2 + j.natAbs.log2 < 1000000)
def rRepR : R2 := fun x y H Q => ∃ l k xs, x = .ref l ∧ y = .int k ∧ H l = some (.lst xs) ∧ -(2 ^ 63) ≤ k ∧ k < 2 ^ 63 ∧ xs.length * k.toNat ≤ sizeLine ∧
  ∀ p, H p = none → Q (.ref p) (upd H p (.lst (List.replicate k.toNat xs).flatten))
def dMul : D → D → Option Sv
  | .int i, .int j => if mulOk i j = true then some (.imm (.int (i * j))) else none
  | _, _ => none
abbrev rMul : R2 := fun x y H Q => rI CMul (fun i j => .int (i * j)) x y H Q ∨ rI CMulW (fun i j => .int (i * j)) x y H Q
theorem op_mulA : OpR X (binaryOp .Mult) rMul := op_mul.or op_mulW
theorem os_mul : OpS X rMul dMul := by
  intro H M O π ρ σ v1 v2 d1 d2 res Q h r1 r2 e q
  unfold dMul at e
  split at e
  · split at e
    · rename_i hz
      cases e
      cases r1.inI; cases r2.inI
      unfold mulOk at hz
      rw [Bool.or_eq_true, Bool.or_eq_true] at hz
      rcases hz with (hz | hz) | hz
      · exact .inl ⟨_, _, rfl, rfl, .inl (of_decide_eq_true hz), Post.now q h (.int _)⟩
      · exact .inl ⟨_, _, rfl, rfl, .inr (of_decide_eq_true hz), Post.now q h (.int _)⟩
      · exact .inr ⟨_, _, rfl, rfl, (of_decide_eq_true hz : _ < 1000000), Post.now q h (.int _)⟩
    · cases e
  · cases e
def divOk (j : Int) : Bool := decide (0 < j ∧ j.natAbs.log2 < 9000)
def dDiv : D → D → Option Sv
  | .int i, .int j => if divOk j = true then some (.imm (.int (i / j))) else none
  | _, _ => none
theorem os_div : OpS X (rI CDivW fun i j => .int (i / j)) dDiv := by
  intro H M O π ρ σ v1 v2 d1 d2 res Q h r1 r2 e q
  unfold dDiv at e
  split at e
  · split at e
    · rename_i hz
      cases e
      cases r1.inI; cases r2.inI
      unfold divOk at hz
      have hz' := of_decide_eq_true hz
      exact ⟨_, _, rfl, rfl, hz', Post.now q h (.int _)⟩
    · cases e
  · cases e
def dMod : D → D → Option Sv
  | .int i, .int j => if decide (0 < j) = true then some (.imm (.int (i % j))) else none
  | _, _ => none
theorem os_mod : OpS X (rI (fun _ j => 0 < j) fun i j => .int (i % j)) dMod := by
  intro H M O π ρ σ v1 v2 d1 d2 res Q h r1 r2 e q
  unfold dMod at e
  split at e
  · split at e
    · rename_i hz
      cases e
      cases r1.inI; cases r2.inI
      exact ⟨_, _, rfl, rfl, of_decide_eq_true hz, Post.now q h (.int _)⟩
    · cases e
  · cases e
def powOk (i j : Int) : Bool := decide (0 ≤ j ∧ j ≤ 1000000 ∧ i.natAbs < 2 ^ 64)
def dPow : D → D → Option Sv
  | .int i, .int j => if powOk i j = true then some (.imm (.int (i ^ j.toNat))) else none
  | _, _ => none
theorem os_pow : OpS X (rI CPow fun i j => .int (i ^ j.toNat)) dPow := by
  intro H M O π ρ σ v1 v2 d1 d2 res Q h r1 r2 e q
  unfold dPow at e
  split at e
  · split at e
    · rename_i hz
      cases e
      cases r1.inI; cases r2.inI
      unfold powOk at hz
      have hz' := of_decide_eq_true hz
      exact ⟨_, _, rfl, rfl, hz', Post.now q h (.int _)⟩
    · cases e
  · cases e
def dNeg : D → Option Sv
  | .int i => some (.imm (.int (-i)))
  | _ => none
theorem us_neg : UnS X (rU fun i => .int (-i)) dNeg := by
  intro H M O π ρ σ v1 d1 res Q h r1 e q
  unfold dNeg at e
  split at e
  · cases e
    cases r1.inI
    exact ⟨_, rfl, Post.now q h (.int _)⟩
  · cases e

/-! ### comparisons -/
def okD (d : D) : Bool := SeqAt.shaped d
def dEq (a b : D) : Option Sv := if (okD a && okD b) = true then some (.imm (.bool (PyData.eqv a b))) else none
def dNe (a b : D) : Option Sv := if (okD a && okD b) = true then some (.imm (.bool (!PyData.eqv a b))) else none
theorem os_eq : OpS X (rEqD X.K) dEq := by
  intro H M O π ρ σ v1 v2 d1 d2 res Q h r1 r2 e q
  unfold dEq at e
  split at e
  · rename_i hz
    cases e
    rw [Bool.and_eq_true] at hz
    exact ⟨d1, d2, r1.dp (SeqAt.canLay_of_shaped hz.1), r2.dp (SeqAt.canLay_of_shaped hz.2), hz.1, hz.2, Post.now q h (.bl _)⟩
  · cases e
theorem os_ne : OpS X (rNeD X.K) dNe := by
  intro H M O π ρ σ v1 v2 d1 d2 res Q h r1 r2 e q
  unfold dNe at e
  split at e
  · rename_i hz
    cases e
    rw [Bool.and_eq_true] at hz
    exact ⟨d1, d2, r1.dp (SeqAt.canLay_of_shaped hz.1), r2.dp (SeqAt.canLay_of_shaped hz.2), hz.1, hz.2, Post.now q h (.bl _)⟩
  · cases e
def dCmpI (f : Int → Int → Bool) : D → D → Option Sv
  | .int i, .int j => some (.imm (.bool (f i j)))
  | _, _ => none
theorem os_cmpI {f : Int → Int → Bool} : OpS X (rI0 fun i j => .bl (f i j)) (dCmpI f) := by
  intro H M O π ρ σ v1 v2 d1 d2 res Q h r1 r2 e q
  unfold dCmpI at e
  split at e
  · cases e
    cases r1.inI; cases r2.inI
    exact ⟨_, _, rfl, rfl, Post.now q h (.bl _)⟩
  · cases e
abbrev dLt := dCmpI fun i j => decide (i < j)
abbrev dLe := dCmpI fun i j => decide (i ≤ j)
abbrev dGt := dCmpI fun i j => decide (j < i)
abbrev dGe := dCmpI fun i j => decide (j ≤ i)
def isNon : D → Bool
  | .none => true
  | _ => false
theorem VW.non_iff {K : PySem.W.Frag} {H : Hp} {M : Mset} {v : V} {d : D} (r : VW K H M v d) : decide (v = .non) = isNon d := by
  cases d with
  | none => cases r.inN; rfl
  | bool b => cases r.inB; rfl
  | int b => cases r.inI; rfl
  | str b => cases r.inS; rfl
  | list b => obtain ⟨a, vs, rfl, _⟩ := r.inL; rfl
  | tuple b => obtain ⟨a, vs, rfl, _⟩ := r.inT; rfl
  | dict b => cases (show Rep K H M v (.dict b) from r); rfl
def dIs : D → D → Option Sv
  | a, .none => some (.imm (.bool (isNon a)))
  | _, _ => none
def dIsNot : D → D → Option Sv
  | a, .none => some (.imm (.bool (!isNon a)))
  | _, _ => none
theorem os_is : OpS X (fun x y H Q => y = .non ∧ Q (.bl (decide (x = .non))) H) dIs := by
  intro H M O π ρ σ v1 v2 d1 d2 res Q h r1 r2 e q
  unfold dIs at e
  split at e
  · cases e
    cases r2.inN
    refine ⟨rfl, ?_⟩
    rw [r1.non_iff]
    exact Post.now q h (.bl _)
  · cases e
theorem os_isnot : OpS X (fun x y H Q => y = .non ∧ Q (.bl (!decide (x = .non))) H) dIsNot := by
  intro H M O π ρ σ v1 v2 d1 d2 res Q h r1 r2 e q
  unfold dIsNot at e
  split at e
  · cases e
    cases r2.inN
    refine ⟨rfl, ?_⟩
    rw [r1.non_iff]
    exact Post.now q h (.bl _)
  · cases e
def flatD : D → Bool
  | .none | .bool _ | .int _ | .str _ => true
  | _ => false
theorem rep_flat {K : PySem.W.Frag} {H : Hp} {M : Mset} {v : V} {d : D} (r : Rep K H M v d) : flatV v = flatD d := by cases r <;> rfl
theorem rep_eqV {K : PySem.W.Frag} {H : Hp} {M : Mset} {v w : V} {d e : D} (r : Rep K H M v d) (s : Rep K H M w e) (f : flatD d = true) (g : flatD e = true) : eqV v w = PyData.eqv d e := by
  cases r <;> first | (exact absurd (show false = true from f) Bool.false_ne_true) | (cases s <;> first | (exact absurd (show false = true from g) Bool.false_ne_true) | rfl | (simp [eqV, PyData.eqv]))
theorem reps_flat {K : PySem.W.Frag} {H : Hp} {M : Mset} : ∀ {vs : List V} {ds : List D}, Reps K H M vs ds → vs.all flatV = ds.all flatD
  | _, _, .nil => rfl
  | _, _, .cons h r => by rw [List.all_cons, List.all_cons, rep_flat h, reps_flat r]
theorem reps_inV {K : PySem.W.Frag} {H : Hp} {M : Mset} {v : V} {d : D} (s : Rep K H M v d) (g : flatD d = true) : ∀ {vs : List V} {ds : List D}, Reps K H M vs ds → ds.all flatD = true → inV v vs = ds.any fun z => PyData.eqv z d
  | _, _, .nil, _ => rfl
  | _, _, .cons h r, f => by
    rw [List.all_cons, Bool.and_eq_true] at f
    have ih := reps_inV s g r f.2
    unfold inV at ih ⊢
    rw [List.any_cons, List.any_cons, ih, rep_eqV h s f.1 g]
/-- x in ds -/
def hasD (x : D) (ds : List D) : Bool := ds.any fun z => PyData.eqv z x
def dIn (neg : Bool) (x : D) : D → Option Sv
  | .list ds => if (flatD x && ds.all flatD) = true then some (.imm (.bool (if neg then !hasD x ds else hasD x ds))) else if (!neg && okD x && okD (.list ds)) = true then some (.imm (.bool (hasD x ds))) else if (neg && okD x && okD (.list ds)) = true then some (.imm (.bool (!hasD x ds))) else none
  | .tuple ds => if (flatD x && ds.all flatD) = true then some (.imm (.bool (if neg then !hasD x ds else hasD x ds))) else none
  | _ => none
abbrev rInA (X : Cx) (neg : Bool) : R2 := fun x y H Q => rIn X.K neg x y H Q ∨ (if neg then rNotInD X.K x y H Q else rInD X.K x y H Q)
theorem op_inA (hu : X.A.units + 65 < cLine) : OpR X (compareOp .In) (rInA X false) := op_in_seq.or (op_inD hu)
theorem op_notInA (hu : X.A.units + 65 < cLine) : OpR X (compareOp .NotIn) (rInA X true) := op_notIn_seq.or (op_notInD hu)
theorem flat_not {d : D} (f : flatD d = true) (ds : List D) : d ≠ .list ds := fun e => by rw [e] at f; cases f
theorem os_in (neg : Bool) : OpS X (rInA X neg) (dIn neg) := by
  intro H M O π ρ σ v1 v2 d1 d2 res Q h r1 r2 e q
  unfold dIn at e
  split at e
  · rename_i ds
    split at e
    · rename_i hz
      cases e
      rw [Bool.and_eq_true] at hz
      obtain ⟨a, vs, rfl, rd, rs⟩ := r2.inL
      have rp := rep_rep r1 (flat_not hz.1)
      refine .inl ⟨a, vs, rfl, .inl (.inl rd), by rw [rep_flat rp]; exact hz.1, by rw [reps_flat rs]; exact hz.2, ?_⟩
      rw [reps_inV rp hz.1 rs hz.2]
      exact Post.now q h (.bl _)
    · split at e
      · rename_i hz
        cases e
        rw [Bool.and_eq_true, Bool.and_eq_true] at hz
        have hn : neg = false := by simpa using hz.1.1
        subst hn
        exact .inr (show rInD X.K v1 v2 H Q from ⟨d1, ds, r1.dp (SeqAt.canLay_of_shaped hz.1.2), r2.dp (SeqAt.canLay_of_shaped hz.2), hz.1.2, hz.2, Post.now q h (.bl _)⟩)
      · split at e
        · rename_i hz
          cases e
          rw [Bool.and_eq_true, Bool.and_eq_true] at hz
          have hn : neg = true := hz.1.1
          subst hn
          exact .inr (show rNotInD X.K v1 v2 H Q from ⟨d1, ds, r1.dp (SeqAt.canLay_of_shaped hz.1.2), r2.dp (SeqAt.canLay_of_shaped hz.2), hz.1.2, hz.2, Post.now q h (.bl _)⟩)
        · cases e
  · rename_i ds
    split at e
    · rename_i hz
      cases e
      rw [Bool.and_eq_true] at hz
      obtain ⟨a, vs, rfl, rd, rs⟩ := r2.inT
      have rp := rep_rep r1 (flat_not hz.1)
      refine .inl ⟨a, vs, rfl, .inr rd.sq, by rw [rep_flat rp]; exact hz.1, by rw [reps_flat rs]; exact hz.2, ?_⟩
      rw [reps_inV rp hz.1 rs hz.2]
      exact Post.now q h (.bl _)
    · cases e
  · cases e

/-! ### places -/
def dIx : D → D → Option Sv
  | .list ds, .int i => (atI ds i).map .imm
  | .tuple ds, .int i => (atI ds i).map .imm
  | .dict kvs, .int i => (atI (kvs.map Prod.fst) i).map .imm
  | _, _ => none
abbrev rIxA (X : Cx) : R2 := fun x y H Q => rIxL X.K x y H Q ∨ rIxT X.K x y H Q
theorem ix_A : IxR X (rIxA X) := ix_list.or ix_tup
theorem atI_rep {K : PySem.W.Frag} {H : Hp} {M : Mset} {vs : List V} {ds : List D} {i : Int} {d : D} (r : Reps K H M vs ds) (e : atI ds i = some d) : ∃ v, atI vs i = some v ∧ Rep K H M v d := by
  unfold atI at e ⊢
  rw [r.length]
  cases ei : ixN ds.length i with
  | none => rw [ei] at e; cases e
  | some j =>
    rw [ei] at e
    exact r.get e
theorem os_ix : OpS X (rIxA X) dIx := by
  intro H M O π ρ σ v1 v2 d1 d2 res Q h r1 r2 e q
  unfold dIx at e
  split at e
  · obtain ⟨d, ed, er⟩ := Option.map_eq_some_iff.mp e
    subst er
    cases r2.inI
    obtain ⟨a, vs, rfl, rd, rs⟩ := r1.inL
    obtain ⟨v, ev, rv⟩ := atI_rep rs ed
    exact .inl ⟨a, vs, _, v, rfl, rfl, .inl rd, ev, Post.now q h rv⟩
  · obtain ⟨d, ed, er⟩ := Option.map_eq_some_iff.mp e
    subst er
    cases r2.inI
    obtain ⟨a, vs, rfl, rd, rs⟩ := r1.inT
    obtain ⟨v, ev, rv⟩ := atI_rep rs ed
    exact .inr ⟨a, vs, _, v, rfl, rfl, rd.sq, ev, Post.now q h rv⟩
  · obtain ⟨d, ed, er⟩ := Option.map_eq_some_iff.mp e
    subst er
    cases r2.inI
    obtain ⟨a, vs, rfl, rd, rs⟩ := r1.inScr
    obtain ⟨v, ev, rv⟩ := atI_rep rs ed
    exact .inl ⟨a, vs, _, v, rfl, rfl, rd.sq, ev, Post.now q h rv⟩
  · cases e

/-! ### built-ins of one argument -/
def dLen : D → Option Sv
  | .list ds => some (.imm (.int ds.length))
  | .tuple ds => some (.imm (.int ds.length))
  | .dict kvs => some (.imm (.int kvs.length))
  | _ => none
theorem us_len : UnS X (fun v H Q => (fun xs H Q => ∃ p ys, xs = [V.ref p] ∧ (SqL X.K H p ys ∨ SqT X.K H p ys) ∧ Q (.int ys.length) H) [v] H Q) dLen := by
  intro H M O π ρ σ v1 d1 res Q h r1 e q
  unfold dLen at e
  split at e
  · cases e
    obtain ⟨a, vs, rfl, rd, rs⟩ := r1.inL
    refine ⟨a, vs, rfl, .inl (.inl rd), ?_⟩
    rw [rs.length]
    exact Post.now q h (.int _)
  · cases e
    obtain ⟨a, vs, rfl, rd, rs⟩ := r1.inT
    refine ⟨a, vs, rfl, .inr rd.sq, ?_⟩
    rw [rs.length]
    exact Post.now q h (.int _)
  · cases e
    obtain ⟨a, vs, rfl, rd, rs⟩ := r1.inScr
    refine ⟨a, vs, rfl, .inl rd.sq, ?_⟩
    rw [rs.length, List.length_map]
    exact Post.now q h (.int _)
  · cases e
def dList : D → Option Sv
  | .list ds => some (.own .loc ds)
  | .tuple ds => some (.own .loc ds)
  | _ => none
theorem us_list : UnS X (fun v H Q => (fun xs H Q => ∃ p ys, xs = [V.ref p] ∧ (SqL X.K H p ys ∨ SqT X.K H p ys) ∧ ∀ l, H l = none → Q (.ref l) (upd H l (.lst ys))) [v] H Q) dList := by
  intro H M O π ρ σ v1 d1 res Q h r1 e q
  unfold dList at e
  split at e
  · cases e
    obtain ⟨a, vs, rfl, rd, rs⟩ := r1.inL
    exact ⟨a, vs, rfl, .inl (.inl rd), fun p hp => Post.lst q h rs hp⟩
  · cases e
    obtain ⟨a, vs, rfl, rd, rs⟩ := r1.inT
    exact ⟨a, vs, rfl, .inr rd.sq, fun p hp => Post.lst q h rs hp⟩
  · cases e
def dTuple : D → Option Sv
  | .list ds => some (.imm (.tuple ds))
  | .tuple ds => some (.imm (.tuple ds))
  | _ => none
theorem us_tuple : UnS X (fun v H Q => (fun xs H Q => ∃ p ys, xs = [V.ref p] ∧ ((SqL X.K H p ys ∧ ∀ l, H l = none → Q (.ref l) (upd H l (.tup ys))) ∨ (SqT X.K H p ys ∧ Q (.ref p) H))) [v] H Q) dTuple := by
  intro H M O π ρ σ v1 d1 res Q h r1 e q
  unfold dTuple at e
  split at e
  · cases e
    obtain ⟨a, vs, rfl, rd, rs⟩ := r1.inL
    exact ⟨a, vs, rfl, .inl ⟨.inl rd, fun p hp => Post.tup q h rs hp⟩⟩
  · cases e
    have rr := r1
    obtain ⟨a, vs, rfl, rd, rs⟩ := r1.inT
    exact ⟨a, vs, rfl, .inr ⟨rd.sq, Post.now q h rr⟩⟩
  · cases e
def dInt : D → Option Sv
  | .int i => some (.imm (.int i))
  | .bool b => some (.imm (.int (if b then 1 else 0)))
  | _ => none
theorem us_int : UnS X (fun v H Q => (fun xs H Q => (∃ i, xs = [V.int i] ∧ Q (.int i) H) ∨ ∃ k, xs = [V.bl k] ∧ Q (.int (if k then 1 else 0)) H) [v] H Q) dInt := by
  intro H M O π ρ σ v1 d1 res Q h r1 e q
  unfold dInt at e
  split at e
  · cases e
    cases r1.inI
    exact .inl ⟨_, rfl, Post.now q h (.int _)⟩
  · cases e
    cases r1.inB
    exact .inr ⟨_, rfl, Post.now q h (.int _)⟩
  · cases e
def dAbs : D → Option Sv
  | .int i => some (.imm (.int (if i < 0 then -i else i)))
  | _ => none
theorem us_abs : UnS X (fun v H Q => (fun xs H Q => ∃ i, xs = [V.int i] ∧ Q (.int (if i < 0 then -i else i)) H) [v] H Q) dAbs := by
  intro H M O π ρ σ v1 d1 res Q h r1 e q
  unfold dAbs at e
  split at e
  · cases e
    cases r1.inI
    exact ⟨_, rfl, Post.now q h (.int _)⟩
  · cases e
def boolsOf : List D → Option (List Bool)
  | [] => some []
  | .bool b :: r => (boolsOf r).map (b :: ·)
  | _ :: _ => none
theorem bools_reps {K : PySem.W.Frag} {H : Hp} {M : Mset} : ∀ {vs : List V} {ds : List D} {bs : List Bool}, Reps K H M vs ds → boolsOf ds = some bs → vs = bs.map V.bl
  | _, _, _, .nil, e => by cases e; rfl
  | _, _, bs, .cons h r, e => by
    cases h with
    | bl b =>
      obtain ⟨cs, e1, rfl⟩ := Option.map_eq_some_iff.mp (show (boolsOf _).map (b :: ·) = some bs from e)
      rw [bools_reps r e1]; rfl
    | _ => cases e
def dAll : D → Option Sv
  | .list ds => (boolsOf ds).map fun bs => .imm (.bool (bs.all id))
  | _ => none
def dAny : D → Option Sv
  | .list ds => (boolsOf ds).map fun bs => .imm (.bool (bs.any id))
  | _ => none
theorem us_all : UnS X (fun v H Q => rAll X.K [v] H Q) dAll := by
  intro H M O π ρ σ v1 d1 res Q h r1 e q
  unfold dAll at e
  split at e
  · obtain ⟨bs, e1, rfl⟩ := Option.map_eq_some_iff.mp e
    obtain ⟨a, vs, rfl, rd, rs⟩ := r1.inL
    exact ⟨a, bs, rfl, .inl (by rw [← bools_reps rs e1]; exact rd), Post.now q h (.bl _)⟩
  · cases e
theorem us_any : UnS X (fun v H Q => rAny X.K [v] H Q) dAny := by
  intro H M O π ρ σ v1 d1 res Q h r1 e q
  unfold dAny at e
  split at e
  · obtain ⟨bs, e1, rfl⟩ := Option.map_eq_some_iff.mp e
    obtain ⟨a, vs, rfl, rd, rs⟩ := r1.inL
    exact ⟨a, bs, rfl, .inl (by rw [← bools_reps rs e1]; exact rd), Post.now q h (.bl _)⟩
  · cases e
end
end Vi

namespace Vi
open PySem PySem.Spec PyProof.Rows L2

/-! ### lists of expressions, each fixed as it comes -/
abbrev MA := Fm → Option (List D × Fm)
def tA (K : PySem.W.Frag) (m : MA) : TA := fun σ H Q => ∃ ρ M O π ds ρ', SR K H M O π ρ σ ∧ m ρ = some (ds, ρ') ∧ ∀ vs H' M', Ext O H M H' M' → SR K H' M' O π ρ' σ → Reps K H' M' vs ds → Q vs H'
def DA (X : Cx) (es : List Expr) (m : MA) : Prop := PA X es (tA X.K m)
def mNil : MA := fun ρ => some ([], ρ)
def mCons (me : ME) (ma : MA) : MA := fun ρ => match me ρ with
  | some (pr, ρ1) => match frz ρ1 pr with
    | some (d, ρ2) => match ma ρ2 with
      | some (ds, ρ3) => some (d :: ds, ρ3)
      | none => none
    | none => none
  | none => none
section
variable {X : Cx} {a b c e : Expr} {es rest : List Expr} {ma mb me : ME} {mes : MA} {pos : Pos}
theorem da_nil : DA X [] mNil := PA.imp pa_nil fun σ H Q ⟨ρ, M, O, π, ds, ρ', h, e, q⟩ => by
  cases e
  exact q [] H M (.refl h) h .nil
theorem da_cons (he : DE X e me) (hes : DA X es mes) (hs : starEach (e :: es) X.env = (false, eval e X.env) :: starEach es X.env := by rfl) : DA X (e :: es) (mCons me mes) :=
  PA.imp (pa_cons he hes hs) fun σ H Q ⟨ρ, M, O, π, ds, ρ', h, e, q⟩ => by
    unfold mCons at e
    split at e
    · rename_i pr ρ1 e1
      split at e
      · rename_i d ρ2 e2
        split at e
        · rename_i ds' ρ3 e3
          simp only [Option.some.injEq, Prod.mk.injEq] at e
          obtain ⟨rfl, rfl⟩ := e
          refine ⟨ρ, M, O, π, pr, ρ1, h, e1, fun v H1 M1 x1 s1 r1 => ?_⟩
          obtain ⟨M2, x2, s2, r2⟩ := frz_ok s1 r1 e2
          exact ⟨ρ2, M2, O, π, ds', ρ3, s2, e3, fun vs H3 M3 x3 s3 r3 => q (v :: vs) H3 M3 ((x1.trans x2).trans x3) s3 (.cons (r2.tr x3.tr) r3)⟩
        · cases e
      · cases e
    · cases e
def mTup (m : MA) : ME := fun ρ => match m ρ with
  | some (ds, ρ1) => if fits ds.length = true then some (.val (.imm (.tuple ds)), ρ1) else none
  | none => none
def mLst (m : MA) : ME := fun ρ => match m ρ with
  | some (ds, ρ1) => if fits ds.length = true then some (.val (.own .loc ds), ρ1) else none
  | none => none
theorem de_tup {k : Nat} (hes : DA X es mes) : DE X (.Tuple es k pos) (mTup mes) := PE.imp (pe_tup hes) fun σ H Q ⟨ρ, M, O, π, pr, ρ', h, e, q⟩ => by
  unfold mTup at e
  split at e
  · rename_i ds ρ1 e1
    split at e
    · rename_i hz
      simp only [Option.some.injEq, Prod.mk.injEq] at e
      obtain ⟨rfl, rfl⟩ := e
      exact ⟨ρ, M, O, π, ds, ρ1, h, e1, fun vs H1 M1 x1 s1 r1 => ⟨by rw [r1.length]; exact fits_le hz, fun p hp => Post.tup (Q := Q) (fun v H' M' x2 => q v H' M' (x1.trans x2)) s1 r1 hp⟩⟩
    · cases e
  · cases e
theorem de_lst (hes : DA X es mes) : DE X (.List es pos) (mLst mes) := PE.imp (pe_lst hes) fun σ H Q ⟨ρ, M, O, π, pr, ρ', h, e, q⟩ => by
  unfold mLst at e
  split at e
  · rename_i ds ρ1 e1
    split at e
    · rename_i hz
      simp only [Option.some.injEq, Prod.mk.injEq] at e
      obtain ⟨rfl, rfl⟩ := e
      exact ⟨ρ, M, O, π, ds, ρ1, h, e1, fun vs H1 M1 x1 s1 r1 => ⟨by rw [r1.length]; exact fits_le hz, fun p hp => Post.lst (Q := Q) (fun v H' M' x2 => q v H' M' (x1.trans x2)) s1 r1 hp⟩⟩
    · cases e
  · cases e

/-! ### truth, tests -/
def dTru : D → Option Bool
  | .none => some false
  | .bool b => some b
  | .int i => some (i != 0)
  | .str x => if fits x.length = true then some ((x.length : Int) != 0) else none
  | .list ds => some (!ds.isEmpty)
  | .tuple ds => some (!ds.isEmpty)
  | _ => none
theorem reps_empty {K : PySem.W.Frag} {H : Hp} {M : Mset} {vs : List V} {ds : List D} (r : Reps K H M vs ds) : vs.isEmpty = ds.isEmpty := by cases r <;> rfl
theorem tru_vw {K : PySem.W.Frag} {H : Hp} {M : Mset} {v : V} {d : D} {k : Bool} (r : VW K H M v d) (e : dTru d = some k) : TruV K v H k := by
  cases d with
  | none => cases e; cases r.inN; rfl
  | bool b => cases e; cases r.inB; rfl
  | int b => cases e; cases r.inI; rfl
  | str b =>
    unfold dTru at e
    simp only at e
    split at e
    · rename_i hz
      cases e; cases r.inS; exact ⟨fits_le hz, rfl⟩
    · cases e
  | list b =>
    cases e
    obtain ⟨a, vs, rfl, h, rs⟩ := r.inL
    exact .inl ⟨vs, .inl h, by rw [reps_empty rs]⟩
  | tuple b =>
    cases e
    obtain ⟨a, vs, rfl, h, rs⟩ := r.inT
    exact .inr (.inl ⟨vs, h.sq, by rw [reps_empty rs]⟩)
  | dict b => cases e
abbrev MT := Fm → Option (Bool × Fm)
def tT (K : PySem.W.Frag) (m : MT) : TT := fun σ H Q => ∃ ρ M O π b ρ', SR K H M O π ρ σ ∧ m ρ = some (b, ρ') ∧ ∀ H' M', Ext O H M H' M' → SR K H' M' O π ρ' σ → Q b H'
def DT (X : Cx) (e : Expr) (m : MT) : Prop := PT X e (tT X.K m)
def mTru (ma : ME) : MT := fun ρ => match ma ρ with
  | some (pr, ρ1) => match peek ρ1 pr with
    | some d => match dTru d with
      | some b => some (b, ρ1)
      | none => none
    | none => none
  | none => none
/-- a value of any kind as a test -/
theorem dt_tru (ha : DE X a ma) (he : ∀ whole, isTrue a X.env whole = (do let v ← whole; standAt a.pos; holding [v] (truthy v)) := by intro _; rfl) : DT X a (mTru ma) :=
  PT.imp (pt_truth ha he) fun σ H Q ⟨ρ, M, O, π, b, ρ', h, e, q⟩ => by
    unfold mTru at e
    split at e
    · rename_i pr ρ1 e1
      split at e
      · rename_i d e2
        split at e
        · rename_i k e3
          simp only [Option.some.injEq, Prod.mk.injEq] at e
          obtain ⟨rfl, rfl⟩ := e
          exact ⟨ρ, M, O, π, pr, ρ1, h, e1, fun v H1 M1 x1 s1 r1 => ⟨k, tru_vw (peek_vw s1 r1 e2) e3, q H1 M1 x1 s1⟩⟩
        · cases e
      · cases e
    · cases e
def mB (m : ME) : MT := fun ρ => match m ρ with
  | some (.val (.imm (.bool b)), ρ1) => some (b, ρ1)
  | _ => none
theorem tT_B {K : PySem.W.Frag} {m : ME} {σ : St} {H : Hp} {Q : Bool → Hp → Prop} (h : tT K (mB m) σ H Q) : tE K m σ H fun x H' => ∃ k, x = .bl k ∧ Q k H' := by
  obtain ⟨ρ, M, O, π, b, ρ', h, e, q⟩ := h
  unfold mB at e
  split at e
  · rename_i k ρ1 e1
    simp only [Option.some.injEq, Prod.mk.injEq] at e
    obtain ⟨rfl, rfl⟩ := e
    refine ⟨ρ, M, O, π, _, ρ1, h, e1, fun v H1 M1 x1 s1 r1 => ⟨k, ?_, q H1 M1 x1 s1⟩⟩
    cases (show Rep K H1 M1 v (.bool k) from r1)
    rfl
  · cases e
theorem dt_cmp {op : CmpOp} {r : R2} {f : D → D → Option Sv} (ho : OpR X (compareOp op) r) (hs : OpS X r f) (ha : DE X a ma) (hb : DE X b mb) (hm : behindInMarks op b = false) : DT X (.Compare a [op] [b] pos) (mB (bin f ma mb)) :=
  PT.imp (pt_cmpR ho ha hb hm) fun σ H Q h => tE_bin hs (tT_B h)
def mNotT (m : MT) : MT := fun ρ => match m ρ with
  | some (b, ρ1) => some (!b, ρ1)
  | none => none
variable {mt mu : MT}
theorem dt_not (ha : DT X a mt) : DT X (.UnaryOp .Not a pos) (mNotT mt) := PT.imp (pt_not ha) fun σ H Q ⟨ρ, M, O, π, b, ρ', h, e, q⟩ => by
  unfold mNotT at e
  split at e
  · rename_i k ρ1 e1
    simp only [Option.some.injEq, Prod.mk.injEq] at e
    obtain ⟨rfl, rfl⟩ := e
    exact ⟨ρ, M, O, π, k, ρ1, h, e1, q⟩
  · cases e
def DW (X : Cx) (e : Expr) (m : MT) : Prop := PW X e (tT X.K m)
theorem dt_w (h : DW X e mt) : DT X e mt := PW.pt h
theorem dw_and1 (h : DT X a mt) : DW X (.BoolOp .And [a] pos) mt := pw_and1 h
theorem dw_or1 (h : DT X a mt) : DW X (.BoolOp .Or [a] pos) mt := pw_or1 h
def mAndT (m n : MT) : MT := fun ρ => match m ρ with
  | some (true, ρ1) => n ρ1
  | some (false, ρ1) => some (false, ρ1)
  | none => none
def mOrT (m n : MT) : MT := fun ρ => match m ρ with
  | some (false, ρ1) => n ρ1
  | some (true, ρ1) => some (true, ρ1)
  | none => none
theorem _root_.L2.PW.imp {X : Cx} {e : Expr} {t t' : TT} (h : PW X e t) (i : ∀ σ H Q, t' σ H Q → t σ H Q) : PW X e t' := ⟨fun w pins s σ H Q I q => h.run w pins s σ H Q I (i σ H Q q)⟩
theorem dw_and (ha : DT X a mt) (hb : DW X (.BoolOp .And (b :: rest) pos) mu) : DW X (.BoolOp .And (a :: b :: rest) pos) (mAndT mt mu) := PW.imp (pw_and ha hb) fun σ H Q ⟨ρ, M, O, π, r, ρ', h, e, q⟩ => by
  unfold mAndT at e
  split at e
  · rename_i ρ1 e1
    exact ⟨ρ, M, O, π, true, ρ1, h, e1, fun H1 M1 x1 s1 => ⟨ρ1, M1, O, π, r, ρ', s1, e, fun H2 M2 x2 s2 => q H2 M2 (x1.trans x2) s2⟩⟩
  · rename_i ρ1 e1
    simp only [Option.some.injEq, Prod.mk.injEq] at e
    obtain ⟨rfl, rfl⟩ := e
    exact ⟨ρ, M, O, π, false, ρ1, h, e1, fun H1 M1 x1 s1 => q H1 M1 x1 s1⟩
  · cases e
theorem dw_or (ha : DT X a mt) (hb : DW X (.BoolOp .Or (b :: rest) pos) mu) : DW X (.BoolOp .Or (a :: b :: rest) pos) (mOrT mt mu) := PW.imp (pw_or ha hb) fun σ H Q ⟨ρ, M, O, π, r, ρ', h, e, q⟩ => by
  unfold mOrT at e
  split at e
  · rename_i ρ1 e1
    exact ⟨ρ, M, O, π, false, ρ1, h, e1, fun H1 M1 x1 s1 => ⟨ρ1, M1, O, π, r, ρ', s1, e, fun H2 M2 x2 s2 => q H2 M2 (x1.trans x2) s2⟩⟩
  · rename_i ρ1 e1
    simp only [Option.some.injEq, Prod.mk.injEq] at e
    obtain ⟨rfl, rfl⟩ := e
    exact ⟨ρ, M, O, π, true, ρ1, h, e1, fun H1 M1 x1 s1 => q H1 M1 x1 s1⟩
  · cases e

/-! ### a if c else b; and, or, not as values -/
def mIf (c : MT) (ma mb : ME) : ME := fun ρ => match c ρ with
  | some (true, ρ1) => ma ρ1
  | some (false, ρ1) => mb ρ1
  | none => none
theorem de_if (hc : DT X c mt) (ha : DE X a ma) (hb : DE X b mb) : DE X (.IfExp c a b pos) (mIf mt ma mb) := PE.imp (pe_ifExp hc ha hb) fun σ H Q ⟨ρ, M, O, π, r, ρ', h, e, q⟩ => by
  unfold mIf at e
  split at e
  · rename_i ρ1 e1
    exact ⟨ρ, M, O, π, true, ρ1, h, e1, fun H1 M1 x1 s1 => ⟨ρ1, M1, O, π, r, ρ', s1, e, fun v H2 M2 x2 s2 r2 => q v H2 M2 (x1.trans x2) s2 r2⟩⟩
  · rename_i ρ1 e1
    exact ⟨ρ, M, O, π, false, ρ1, h, e1, fun H1 M1 x1 s1 => ⟨ρ1, M1, O, π, r, ρ', s1, e, fun v H2 M2 x2 s2 r2 => q v H2 M2 (x1.trans x2) s2 r2⟩⟩
  · cases e
def mOr (ma mb : ME) : ME := fun ρ => match ma ρ with
  | some (pr, ρ1) => match peek ρ1 pr with
    | some d => match dTru d with
      | some true => some (pr, ρ1)
      | some false => mb ρ1
      | none => none
    | none => none
  | none => none
def mAnd (ma mb : ME) : ME := fun ρ => match ma ρ with
  | some (pr, ρ1) => match peek ρ1 pr with
    | some d => match dTru d with
      | some false => some (pr, ρ1)
      | some true => mb ρ1
      | none => none
    | none => none
  | none => none
theorem de_one {op} (h : DE X a ma) : DE X (.BoolOp op [a] pos) ma := pe_one h
theorem de_or (ha : DE X a ma) (hb : DE X (.BoolOp .Or (b :: rest) pos) mb) : DE X (.BoolOp .Or (a :: b :: rest) pos) (mOr ma mb) := PE.imp (pe_orT ha hb) fun σ H Q ⟨ρ, M, O, π, r, ρ', h, e, q⟩ => by
  unfold mOr at e
  split at e
  · rename_i pr ρ1 e1
    split at e
    · rename_i d e2
      split at e
      · rename_i e3
        simp only [Option.some.injEq, Prod.mk.injEq] at e
        obtain ⟨rfl, rfl⟩ := e
        exact ⟨ρ, M, O, π, pr, ρ1, h, e1, fun v H1 M1 x1 s1 r1 => ⟨true, tru_vw (peek_vw s1 r1 e2) e3, iteT (q v H1 M1 x1 s1 r1)⟩⟩
      · rename_i e3
        exact ⟨ρ, M, O, π, pr, ρ1, h, e1, fun v H1 M1 x1 s1 r1 => ⟨false, tru_vw (peek_vw s1 r1 e2) e3, iteF ⟨ρ1, M1, O, π, r, ρ', s1, e, fun v H2 M2 x2 s2 r2 => q v H2 M2 (x1.trans x2) s2 r2⟩⟩⟩
      · cases e
    · cases e
  · cases e
theorem de_and (ha : DE X a ma) (hb : DE X (.BoolOp .And (b :: rest) pos) mb) : DE X (.BoolOp .And (a :: b :: rest) pos) (mAnd ma mb) := PE.imp (pe_andT ha hb) fun σ H Q ⟨ρ, M, O, π, r, ρ', h, e, q⟩ => by
  unfold mAnd at e
  split at e
  · rename_i pr ρ1 e1
    split at e
    · rename_i d e2
      split at e
      · rename_i e3
        simp only [Option.some.injEq, Prod.mk.injEq] at e
        obtain ⟨rfl, rfl⟩ := e
        exact ⟨ρ, M, O, π, pr, ρ1, h, e1, fun v H1 M1 x1 s1 r1 => ⟨false, tru_vw (peek_vw s1 r1 e2) e3, iteF (q v H1 M1 x1 s1 r1)⟩⟩
      · rename_i e3
        exact ⟨ρ, M, O, π, pr, ρ1, h, e1, fun v H1 M1 x1 s1 r1 => ⟨true, tru_vw (peek_vw s1 r1 e2) e3, iteT ⟨ρ1, M1, O, π, r, ρ', s1, e, fun v H2 M2 x2 s2 r2 => q v H2 M2 (x1.trans x2) s2 r2⟩⟩⟩
      · cases e
    · cases e
  · cases e
def dNot (d : D) : Option Sv := (dTru d).map fun b => .imm (.bool (!b))
theorem de_not (ha : DE X a ma) : DE X (.UnaryOp .Not a pos) (un dNot ma) := PE.imp (pe_notT ha) fun σ H Q h =>
  tE_un (r := fun x H1 Q => ∃ k, TruV X.K x H1 k ∧ Q (.bl (!k)) H1) (by
    intro H M O π ρ σ v1 d1 res Q h r1 e q
    obtain ⟨b, e1, rfl⟩ := Option.map_eq_some_iff.mp e
    exact ⟨b, tru_vw r1 e1, Post.now q h (.bl _)⟩) h

/-! ### slices -/
abbrev MO := Fm → Option (Option Int × Fm)
def tO (K : PySem.W.Frag) (m : MO) : TO := fun σ H Q => ∃ ρ M O π i ρ', SR K H M O π ρ σ ∧ m ρ = some (i, ρ') ∧ ∀ H' M', Ext O H M H' M' → SR K H' M' O π ρ' σ → Q i H'
def DO (X : Cx) (e : Option Expr) (m : MO) : Prop := PO X e (tO X.K m)
theorem _root_.L2.PO.imp {X : Cx} {e : Option Expr} {t t' : TO} (h : PO X e t) (i : ∀ σ H Q, t' σ H Q → t σ H Q) : PO X e t' := ⟨fun pins s σ H Q I q => h.run pins s σ H Q I (i σ H Q q)⟩
def mNoPart : MO := fun ρ => some (none, ρ)
def mPart (ma : ME) : MO := fun ρ => match ma ρ with
  | some (pr, ρ1) => match peek ρ1 pr with
    | some (.int i) => some (some i, ρ1)
    | _ => none
  | none => none
theorem do_none : DO X none mNoPart := PO.imp po_none fun σ H Q ⟨ρ, M, O, π, i, ρ', h, e, q⟩ => by
  cases e
  exact q H M (.refl h) h
theorem do_some (ha : DE X a ma) : DO X (some a) (mPart ma) := PO.imp (po_some ha) fun σ H Q ⟨ρ, M, O, π, r, ρ', h, e, q⟩ => by
  unfold mPart at e
  split at e
  · rename_i pr ρ1 e1
    split at e
    · rename_i i e2
      simp only [Option.some.injEq, Prod.mk.injEq] at e
      obtain ⟨rfl, rfl⟩ := e
      exact ⟨ρ, M, O, π, pr, ρ1, h, e1, fun v H1 M1 x1 s1 r1 => ⟨i, (peek_vw s1 r1 e2).inI, q H1 M1 x1 s1⟩⟩
    · cases e
  · cases e
def cutD (ds : List D) (lo hi : Option Int) : List D := (ds.drop (HT.sIx ds.length 0 lo)).take (HT.sIx ds.length ds.length hi - HT.sIx ds.length 0 lo)
theorem cut_rep {K : PySem.W.Frag} {H : Hp} {M : Mset} {vs : List V} {ds : List D} (r : Reps K H M vs ds) (lo hi : Option Int) : Reps K H M (cutV vs lo hi) (cutD ds lo hi) := by
  unfold cutV cutD
  rw [r.length]
  exact (r.drop _).take _
theorem cutD_whole {ds : List D} {lo hi : Option Int} (h : HT.sIx ds.length 0 lo = 0 ∧ HT.sIx ds.length ds.length hi = ds.length) : cutD ds lo hi = ds := by
  unfold cutD
  rw [h.1, h.2]
  simp
def dCut (lo hi : Option Int) : D → Option Sv
  | .list ds => some (.own .loc (cutD ds lo hi))
  | .tuple ds => some (.imm (.tuple (cutD ds lo hi)))
  | .dict kvs => some (.own .loc (cutD (kvs.map Prod.fst) lo hi))
  | _ => none
def mSl (me : ME) (ml mh : MO) : ME := fun ρ => match me ρ with
  | some (pr, ρ1) => match ml ρ1 with
    | some (lo, ρ2) => match mh ρ2 with
      | some (hi, ρ3) => match peek ρ3 pr with
        | some d => match dCut lo hi d with
          | some s => some (.val s, ρ3)
          | none => none
        | none => none
      | none => none
    | none => none
  | none => none
theorem de_sl {lo hi : Option Expr} {ml mh : MO} {p2 : Pos} (he : DE X e me) (hl : DO X lo ml) (hh : DO X hi mh) : DE X (.Subscript e (.Slice lo hi none p2) pos) (mSl me ml mh) :=
  PE.imp (pe_slice (sl_list.or sl_tupA) he hl hh) fun σ H Q ⟨ρ, M, O, π, r, ρ', h, e, q⟩ => by
    unfold mSl at e
    split at e
    · rename_i pr ρ1 e1
      split at e
      · rename_i lo ρ2 e2
        split at e
        · rename_i hi ρ3 e3
          split at e
          · rename_i d e4
            split at e
            · rename_i s e5
              simp only [Option.some.injEq, Prod.mk.injEq] at e
              obtain ⟨rfl, rfl⟩ := e
              refine ⟨ρ, M, O, π, pr, ρ1, h, e1, fun v H1 M1 x1 s1 r1 => ⟨ρ1, M1, hold O pr v, π, lo, ρ2, s1.hold r1, e2, fun H2 M2 x2 s2 => ⟨ρ2, M2, hold O pr v, π, hi, ρ3, s2, e3, fun H3 M3 x3 s3 => ?_⟩⟩⟩
              have s3' := s3.less (hold_le O pr v)
              have xx := x2.trans x3
              have vw := peek_vw s3' (r1.held xx s3) e4
              have q' : Post X.K H3 M3 O π ρ3 σ s Q := fun w H' M' x4 => q w H' M' ((x1.trans (xx.less (hold_le O pr v))).trans x4)
              unfold dCut at e5
              split at e5
              · cases e5
                obtain ⟨a, vs, rfl, rd, rs⟩ := vw.inL
                exact .inl ⟨a, vs, rfl, .inl rd, fun p hp => q'.lst s3' (cut_rep rs lo hi) hp⟩
              · cases e5
                have vw' := vw
                obtain ⟨a, vs, rfl, rd, rs⟩ := vw.inT
                refine .inr ⟨a, vs, rfl, rd.sq, fun hw => ?_, fun _ p hp => q'.tup s3' (cut_rep rs lo hi) hp⟩
                rw [rs.length] at hw
                rw [cutD_whole hw] at q'
                exact q'.now s3' vw'
              · cases e5
                obtain ⟨a, vs, rfl, rd, rs⟩ := vw.inScr
                exact .inl ⟨a, vs, rfl, rd.sq, fun p hp => q'.lst s3' (cut_rep rs lo hi) hp⟩
              · cases e5
            · cases e
          · cases e
        · cases e
      · cases e
    · cases e
end
end Vi

namespace Vi
open PySem PySem.Spec PyProof.Rows L2

/-! ### sorted -/
section
variable {prog : Program} {w : World} {A : Around} {E : Value → Shared → Prop} {s : Shared} {β : Type} {vs : List Value} {bs : List β} {enc : β → PyData} {R : Value → β → Prop}
theorem sorted_seq {l : Addr} {T : String} {o : Obj} {n : Nat} {Q : Value → Shared → Prop} (hT : T = "list" ∨ T = "tuple") (ho : s.heap.get? l = some o) (hc : o.cls = .type T) (hd : o.data = .seq vs.toArray n) (e : W.EachIs R vs bs)
    (er : W.EachIs (fun v b => ∃ as, Reads s.heap v (enc b) as) vs bs) (hal : W.AllAlike (bs.map enc)) (hk : W.Sortable (bs.map enc)) (hL : bs.length ≤ sizeLine) (hu : ∀ b, b ∈ bs → A.units + 2 + (enc b).depth < cLine)
    (h : ∀ (h' : Heap) (out : List Value), out.length = bs.length → (∀ b o', s.heap.get? b = some o' → h'.get? b = some o') → W.EachIs R out (bs.mergeSort (W.dataLe false enc)) → Q (.ref h'.objs.size) { s with heap := sortedHeap (h'.push (seqObj "list" vs.toArray 0)) h'.objs.size vs out.toArray }) :
    wpAny (model prog w) A (call (.builtin "sorted") [.ref l]) Q E s := by
  have hlen := e.length
  refine call_function_entry_kw kind_sorted plain_sorted entry_sorted (args_sorted1 _) ?_
  unfold Builtin.«sorted»
  refine wpAny_bind (m := checkCount "sorted" 1 1 _) (wpAny_pure ?_)
  refine wpAny_bind (wpAny_collect_seq l hT ho hc hd (fun h' kp => ?_) (by simp only [List.size_toArray]; omega))
  refine wpAny_bind (wpAny_newList ?_ (by show vs.length ≤ _; omega))
  have at_ : (h'.push (seqObj "list" vs.toArray 0)).get? h'.objs.size = some (seqObj "list" vs.toArray 0) := Heap.get?_push_size _ rfl
  have kp2 : ∀ b o', s.heap.get? b = some o' → (h'.push (seqObj "list" vs.toArray 0)).get? b = some o' := fun b o' q => Heap.get?_push_of_some _ (kp b o' q)
  have ne : ∀ b o', h'.get? b = some o' → b ≠ h'.objs.size := fun b o' q => Nat.ne_of_lt (Heap.lt_size q)
  have er' : W.EachIs (fun v b => ∃ as, Reads (W.sortingHeap (h'.push (seqObj "list" vs.toArray 0)) h'.objs.size vs) v (enc b) as) vs bs :=
    er.mono fun _ _ ⟨as, r⟩ => ⟨as, PyProof.Rows.Reads.keeps (fun b o' q => W.sortingHeap_old (ne b o' (kp b o' q)) (kp2 b o' q)) r⟩
  refine wpAny_bind (wpAny_holding (wpAny_call_entry_kw slot_list_sort ⟨_, at_, rfl⟩ entry_list_sort ?body (args_list_sort _)))
  case body =>
    show wpAny (model prog w) A.in1.in1 (Builtin.«list.sort» ⟨[.ref h'.objs.size], []⟩) _ _ { s with heap := h'.push (seqObj "list" vs.toArray 0) }
    refine wpAny_mono (W.list_sort_vals (κ := W.dataKind (W.sortingHeap (h'.push (seqObj "list" vs.toArray 0)) h'.objs.size vs) (bs.map enc)) (P := fun f s' => f = .done (.ret .none) ∧ Q (.ref h'.objs.size) s') at_ (W.SortsAt.data (s := { s with heap := W.sortingHeap (h'.push (seqObj "list" vs.toArray 0)) h'.objs.size vs }) (W.each_map (R := fun v d => ∃ as, Reads (W.sortingHeap (h'.push (seqObj "list" vs.toArray 0)) h'.objs.size vs) v d as) enc er') hal hk (W.bound_map hu)) (by omega) ⟨rfl, ?_⟩) (fun f s' hf => ?_) fun _ _ e => e
    · exact h h' _ (by rw [W.sortVals_length false rfl]; exact hlen) kp (W.sortVals_data false e er' hal)
    · obtain ⟨rfl, hq⟩ := hf
      exact ⟨_, rfl, wpAny_pure ⟨_, rfl, hq⟩⟩
end

/-- by insertion -/
def ins {β : Type} (le : β → β → Bool) (x : β) : List β → List β
  | [] => [x]
  | y :: ys => if le x y = true then x :: y :: ys else y :: ins le x ys
def isort {β : Type} (le : β → β → Bool) : List β → List β
  | [] => []
  | x :: xs => ins le x (isort le xs)
theorem ins_split {β : Type} {le : β → β → Bool} {x : β} : ∀ {l r : List β}, (∀ b ∈ l, le x b = false) → (∀ b, r.head? = some b → le x b = true) → ins le x (l ++ r) = l ++ x :: r
  | [], [], _, _ => rfl
  | [], y :: r, _, h => by
    show (if le x y = true then x :: y :: r else y :: ins le x r) = x :: y :: r
    rw [if_pos (h y rfl)]
  | b :: l, r, hl, hr => by
    show (if le x b = true then x :: b :: (l ++ r) else b :: ins le x (l ++ r)) = b :: (l ++ x :: r)
    rw [if_neg (by rw [hl b (List.mem_cons_self ..)]; decide), ins_split (fun c hc => hl c (List.mem_cons_of_mem _ hc)) hr]
theorem isort_eq {β : Type} {le : β → β → Bool} (T : W.TotalLe le) : ∀ l : List β, l.mergeSort le = isort le l
  | [] => by rw [List.mergeSort_nil]; rfl
  | x :: l => by
    have tr : ∀ a b c : β, le a b = true → le b c = true → le a c = true := T.trans
    have tt : ∀ a b : β, (le a b || le b a) = true := fun a b => Bool.or_eq_true_iff.mpr (T.total a b)
    obtain ⟨l1, l2, e1, e2, e3⟩ := List.mergeSort_cons (le := le) tr tt x l
    have hs := List.pairwise_mergeSort (le := le) tr tt (x :: l)
    rw [e1] at hs
    rw [e1]
    show l1 ++ x :: l2 = ins le x (isort le l)
    rw [← isort_eq T l, e2]
    refine (ins_split (fun b hb => by simpa using e3 b hb) fun b hb => ?_).symm
    have h2 := (List.pairwise_append.mp hs).2.1
    refine (List.pairwise_cons.mp h2).1 b ?_
    cases l2 with
    | nil => cases hb
    | cons y r => cases hb; exact List.mem_cons_self ..
theorem ins_map {β γ : Type} {le : γ → γ → Bool} (f : β → γ) (x : β) : ∀ l : List β, (ins (fun a b => le (f a) (f b)) x l).map f = ins le (f x) (l.map f)
  | [] => rfl
  | y :: l => by
    show (if le (f x) (f y) = true then x :: y :: l else y :: ins (fun a b => le (f a) (f b)) x l).map f = if le (f x) (f y) = true then f x :: f y :: l.map f else f y :: ins le (f x) (l.map f)
    split
    · rfl
    · rw [List.map_cons, ins_map f x l]
theorem isort_map {β γ : Type} {le : γ → γ → Bool} (f : β → γ) : ∀ l : List β, (isort (fun a b => le (f a) (f b)) l).map f = isort le (l.map f)
  | [] => rfl
  | x :: l => by
    show (ins (fun a b => le (f a) (f b)) x (isort (fun a b => le (f a) (f b)) l)).map f = ins le (f x) (isort le (l.map f))
    rw [ins_map, isort_map f l]
theorem ins_perm {β : Type} {le : β → β → Bool} {x : β} : ∀ l : List β, (ins le x l).Perm (x :: l)
  | [] => .refl _
  | y :: l => by
    show (if le x y = true then x :: y :: l else y :: ins le x l).Perm (x :: y :: l)
    split
    · exact .refl _
    · exact ((ins_perm l).cons y).trans (List.Perm.swap ..)
theorem isort_perm {β : Type} {le : β → β → Bool} : ∀ l : List β, (isort le l).Perm l
  | [] => .refl _
  | x :: l => (ins_perm _).trans ((isort_perm l).cons x)

/-- the order of data -/
def leD : D → D → Bool := W.dataLe false id
def sortD (ds : List D) : List D := isort leD ds
/-- what may be sorted -/
def alikeAllB (ds : List D) : Bool := ds.all fun d => ds.all fun e => W.alike d e
def headB : D → Bool
  | .tuple (_ :: _) => true
  | _ => false
def plainB : D → Bool
  | .none => false
  | .tuple _ => false
  | _ => true
def sortOk (ds : List D) : Bool := alikeAllB ds && (ds.all headB || ds.all plainB) && ds.all okD && fits ds.length
theorem sortOk_al {ds : List D} (h : sortOk ds = true) : W.AllAlike ds := fun d hd e he => by
  unfold sortOk alikeAllB at h
  rw [Bool.and_eq_true, Bool.and_eq_true, Bool.and_eq_true] at h
  exact List.all_eq_true.mp (List.all_eq_true.mp h.1.1.1 d hd) e he
theorem sortOk_so {ds : List D} (h : sortOk ds = true) : W.Sortable ds := by
  unfold sortOk at h
  rw [Bool.and_eq_true, Bool.and_eq_true, Bool.and_eq_true, Bool.or_eq_true] at h
  rcases h.1.1.2 with h | h
  · refine .inl fun d hd => ?_
    have q := List.all_eq_true.mp h d hd
    unfold headB at q
    split at q
    · exact ⟨_, _, rfl⟩
    · cases q
  · refine .inr fun d hd => ?_
    have q := List.all_eq_true.mp h d hd
    unfold plainB at q
    split at q
    · cases q
    · cases q
    · rename_i h1 h2
      exact ⟨fun e => h1 e, fun xs e => h2 xs e⟩
theorem sortOk_dp {ds : List D} (h : sortOk ds = true) : ∀ d ∈ ds, d.depth ≤ 64 := fun d hd => by
  unfold sortOk at h
  rw [Bool.and_eq_true, Bool.and_eq_true, Bool.and_eq_true] at h
  exact SeqAt.depth_of_shaped (List.all_eq_true.mp h.1.2 d hd)
theorem lay_all : ∀ {ds : List D}, (∀ d ∈ ds, d.canLay0 = true) → PyData.canLayAll0 ds = true
  | [], _ => by simp [PyData.canLayAll0]
  | d :: ds, h => by
    rw [PyData.canLayAll0, h d (List.mem_cons_self ..), lay_all fun e he => h e (List.mem_cons_of_mem _ he)]; rfl
theorem sortOk_lay {ds : List D} (h : sortOk ds = true) : PyData.canLayAll0 ds = true := lay_all fun d hd => by
  unfold sortOk at h
  rw [Bool.and_eq_true, Bool.and_eq_true, Bool.and_eq_true] at h
  exact SeqAt.canLay_of_shaped (List.all_eq_true.mp h.1.2 d hd)
theorem sortOk_len {ds : List D} (h : sortOk ds = true) : ds.length ≤ sizeLine := by
  unfold sortOk at h
  rw [Bool.and_eq_true] at h
  exact fits_le h.2
section
variable {X : Cx}
theorem each_zip {R : Value → V × D → Prop} : ∀ {us : List Value} {xs : List V} {ds : List D}, Vals xs us → xs.length = ds.length → (∀ (i : Nat) u x d, us[i]? = some u → xs[i]? = some x → ds[i]? = some d → RelV x u → R u (x, d)) → W.EachIs R us (xs.zip ds)
  | _, _, [], .nil, _, _ => .nil
  | _, _, d :: ds, .cons r t, hl, h => .cons (h 0 _ _ _ rfl rfl rfl r) (each_zip t (by simpa using hl) fun i u x d h1 h2 h3 => h (i + 1) u x d (by simpa using h1) (by simpa using h2) (by simpa using h3))
theorem each_vals : ∀ {us : List Value} {ps : List (V × D)}, W.EachIs (fun u (b : V × D) => RelV b.1 u) us ps → Vals (ps.map Prod.fst) us
  | _, _, .nil => .nil
  | _, _, .cons r t => .cons r (each_vals t)
theorem zip_snd : ∀ {xs : List V} {ds : List D}, xs.length = ds.length → (xs.zip ds).map Prod.snd = ds
  | [], [], _ => rfl
  | x :: xs, d :: ds, h => by rw [List.zip_cons_cons, List.map_cons, zip_snd (by simpa using h)]
theorem readsAll_get {h : Heap} : ∀ {ds : List D} {us : List Value} {as : List Addr} {i : Nat} {u : Value} {d : D}, ReadsAll h us ds as → us[i]? = some u → ds[i]? = some d → ∃ bs, Reads h u d bs
  | [], _, _, i, _, _, r, _, e => by simp at e
  | d :: ds, _, _, 0, _, _, .cons r1 r2, e1, e2 => by
    simp at e1 e2; subst e1; subst e2; exact ⟨_, r1⟩
  | d :: ds, _, _, i + 1, _, _, .cons r1 r2, e1, e2 => readsAll_get r2 (by simpa using e1) (by simpa using e2)
/-- sorted(x) of data: ps, the items with their data, in order -/
def rSortD (K : PySem.W.Frag) : List V → Hp → VK → Prop := fun vs H Q => ∃ (a : Addr) (xs : List V) (ds : List D), vs = [.ref a] ∧ (SqL K H a xs ∨ SqT K H a xs) ∧ xs.length = ds.length ∧ DpAll K H xs ds ∧ sortOk ds = true ∧
  ∀ p, H p = none → Q (.ref p) (upd H p (.lst ((isort (fun a b : V × D => leD a.2 b.2) (xs.zip ds)).map Prod.fst)))
theorem cr_sortD (hu : X.A.units + 70 < cLine) : CallR X (.builtin "sorted") (rSortD X.K) := by
  intro pins s σ H vs us Q I r h
  obtain ⟨a, xs, ds, rfl, hsq, hlen, hdp, hok, q⟩ := h
  rw [Vals.ref1 r]
  have core : ∀ {T : String} {o : Obj} {its : List Value} {n : Nat}, (T = "list" ∨ T = "tuple") → s.heap.get? a = some o → o.cls = .type T → o.data = .seq its.toArray n → Vals xs its → wpAny (model X.prog X.w) X.A (call (.builtin "sorted") [.ref a]) (EP X pins σ Q) X.xe s := by
    intro T o its n hT ho hc hd rv
    obtain ⟨as, hr⟩ := Dp.readsAll I ds xs its hdp rv
    have hzl : (xs.zip ds).length = ds.length := by rw [List.length_zip, hlen, Nat.min_self]
    have e : W.EachIs (fun u (b : V × D) => RelV b.1 u) its (xs.zip ds) := each_zip rv hlen fun i u x d _ _ _ r => r
    have er : W.EachIs (fun u (b : V × D) => ∃ as, Reads s.heap u (id (Prod.snd b)) as) its (xs.zip ds) := each_zip rv hlen fun i u x d h1 _ h3 _ => readsAll_get hr h1 h3
    have em : (xs.zip ds).map (fun b => id (Prod.snd b)) = ds := zip_snd hlen
    refine sorted_seq (enc := fun b : V × D => id b.2) (R := fun u (b : V × D) => RelV b.1 u) hT ho hc hd e er (by rw [em]; exact sortOk_al hok) (by rw [em]; exact sortOk_so hok) (by rw [hzl]; exact sortOk_len hok) (fun b hb => ?_) fun h' out hol kp ho2 => ?_
    · have hm : b.2 ∈ ds := by rw [← em]; exact List.mem_map.mpr ⟨b, hb, rfl⟩
      have := sortOk_dp hok _ hm
      show X.A.units + 2 + b.2.depth < cLine
      omega
    · rw [isort_eq (le := W.dataLe false fun b : V × D => id b.2) (W.sortLe_total _ _ _)] at ho2
      have I1 : Inv X pins σ H { s with heap := h' } := I.kept (t' := s.toks) kp
      have hz : ((isort (fun a b : V × D => leD a.2 b.2) (xs.zip ds)).map Prod.fst).length ≤ sizeLine := by
        rw [List.length_map, (isort_perm _).length_eq, hzl]; exact sortOk_len hok
      have hpush : (h'.push (seqObj "list" its.toArray 0)).get? h'.objs.size = some (seqObj "list" its.toArray 0) := Heap.get?_push_size _ rfl
      obtain ⟨e1, hat⟩ := sortedHeap_at (out := out.toArray) hpush
      refine ⟨.ref h'.objs.size, _, I1.laid (t' := s.toks) (o := .lst ((isort (fun a b : V × D => leD a.2 b.2) (xs.zip ds)).map Prod.fst)) (fun b u eb => ?_) (Nat.le_refl _) ⟨hz, out, e1, each_vals ho2, hat⟩, rfl, q _ I1.fresh⟩
      have hb : b < h'.objs.size := Heap.lt_size eb
      rw [sortedHeap_old (Nat.ne_of_lt hb) (by rw [size_push']; exact Nat.lt_succ_of_lt hb)]
      exact Heap.get?_push_of_some _ eb
  rcases hsq with hsq | hsq
  · obtain ⟨its, rv, ⟨o, n, ho, hc, _, hd⟩, _⟩ := I.list hsq
    exact core (.inl rfl) ho hc hd rv
  · obtain ⟨its, rv, ⟨o, ho, hc, n, hd⟩, _⟩ := I.tuple hsq
    exact core (.inr rfl) ho hc hd rv
def dSort : D → Option Sv
  | .list ds => if sortOk ds = true then some (.own .loc (sortD ds)) else none
  | .tuple ds => if sortOk ds = true then some (.own .loc (sortD ds)) else none
  | _ => none
theorem reps_sort {K : PySem.W.Frag} {H : Hp} {M : Mset} : ∀ {ps : List (V × D)}, (∀ b ∈ ps, Rep K H M b.1 b.2) → Reps K H M (ps.map Prod.fst) (ps.map Prod.snd)
  | [], _ => .nil
  | b :: ps, h => .cons (h b (List.mem_cons_self ..)) (reps_sort fun c hc => h c (List.mem_cons_of_mem _ hc))
theorem reps_zip {K : PySem.W.Frag} {H : Hp} {M : Mset} : ∀ {vs : List V} {ds : List D}, Reps K H M vs ds → ∀ b ∈ vs.zip ds, Rep K H M b.1 b.2
  | _, _, .nil, b, hb => by cases hb
  | _, _, .cons h r, b, hb => by
    rw [List.zip_cons_cons] at hb
    rcases List.mem_cons.mp hb with rfl | hb
    · exact h
    · exact reps_zip r b hb
theorem us_sort : UnS X (fun v H Q => rSortD X.K [v] H Q) dSort := by
  intro H M O π ρ σ v1 d1 res Q h r1 e q
  have fin : ∀ {vs : List V} {ds : List D} {p : Addr}, Reps X.K H M vs ds → Post X.K H M O π ρ σ (.own .loc (sortD ds)) Q → H p = none → Q (.ref p) (upd H p (.lst ((isort (fun a b : V × D => leD a.2 b.2) (vs.zip ds)).map Prod.fst))) := fun {vs ds p} rs q hp => by
    have e2 : sortD ds = (isort (fun a b : V × D => leD a.2 b.2) (vs.zip ds)).map Prod.snd := by
      rw [isort_map (le := leD) Prod.snd, zip_snd rs.length]; rfl
    rw [e2] at q
    exact q.lst h (reps_sort fun b hb => reps_zip rs b ((isort_perm _).mem_iff.mp hb)) hp
  unfold dSort at e
  split at e
  · split at e
    · rename_i hz
      cases e
      obtain ⟨a, vs, rfl, rd, rs⟩ := r1.inL
      exact ⟨a, vs, _, rfl, .inl (.inl rd), rs.length, rs.dp (sortOk_lay hz), hz, fun p hp => fin rs q hp⟩
    · cases e
  · split at e
    · rename_i hz
      cases e
      obtain ⟨a, vs, rfl, rd, rs⟩ := r1.inT
      exact ⟨a, vs, _, rfl, .inr rd.sq, rs.length, rs.dp (sortOk_lay hz), hz, fun p hp => fin rs q hp⟩
    · cases e
  · cases e

/-! ### isinstance -/
inductive Ty where
  | int | bool | str | list | tuple
def Ty.nm : Ty → String
  | .int => "int" | .bool => "bool" | .str => "str" | .list => "list" | .tuple => "tuple"
def tyN : D → Option String
  | .none => some "NoneType" | .bool _ => some "bool" | .int _ => some "int" | .str _ => some "str" | .list _ => some "list" | .tuple _ => some "tuple" | _ => none
def isT : Ty → D → Bool
  | .int, .int _ => true
  | .int, .bool _ => true
  | .bool, .bool _ => true
  | .str, .str _ => true
  | .list, .list _ => true
  | .tuple, .tuple _ => true
  | _, _ => false
theorem kit_is {K : PySem.W.Frag} {d : D} {n : String} (t : Ty) (e : tyN d = some n) : PySem.W.kitOne K (.type n) (.type t.nm) = some (isT t d) := by
  cases d <;> first | cases e | skip
  all_goals (cases t <;> first | exact kit_ty (r := true) (by decide +kernel) | exact kit_ty (r := false) (by decide +kernel))
theorem kit_is2 {K : PySem.W.Frag} {d : D} {n : String} (t u : Ty) (e : tyN d = some n) : PySem.W.kitAny K (.type n) [.type t.nm, .type u.nm] = some (isT t d || isT u d) := by
  cases h : isT t d with
  | true => exact kitAny_cons (kit_is t e) (fun z => by rw [h] at z; cases z) fun _ => rfl
  | false =>
    refine kitAny_cons (kit_is t e) (fun _ => ?_) fun z => by rw [h] at z; cases z
    cases h2 : isT u d with
    | true => exact kitAny_cons (kit_is u e) (fun z => by rw [h2] at z; cases z) fun _ => rfl
    | false => exact kitAny_cons (kit_is u e) (fun _ => kitAny_nil) fun z => by rw [h2] at z; cases z
theorem tyx_of {K : PySem.W.Frag} {H : Hp} {M : Mset} {v : V} {d : D} {n : String} (r : VW K H M v d) (e : tyN d = some n) : TyX K H v (.type n) := by
  cases d with
  | none => cases e; cases r.inN; exact .base .non
  | bool b => cases e; cases r.inB; exact .base (.bl b)
  | int b => cases e; cases r.inI; exact .base (.int b)
  | str b => cases e; cases r.inS; exact .base (.str b)
  | list b =>
    cases e
    obtain ⟨a, vs, rfl, h, rs⟩ := r.inL
    rcases h with h | ⟨o, h⟩
    · exact .base (.lst h)
    · exact .base (.frz h)
  | tuple b =>
    cases e
    obtain ⟨a, vs, rfl, h, rs⟩ := r.inT
    rcases h with ⟨h | ⟨o, h⟩, _⟩ | ⟨o, its, n, h1, h2, _⟩
    · exact .base (.tup h)
    · exact .fTuple h
    · exact .kTuple h1 h2
  | dict b => cases e
def dIsi (t : Ty) (d : D) : Option Sv := (tyN d).map fun _ => .imm (.bool (isT t d))
def dIsi2 (t u : Ty) (d : D) : Option Sv := (tyN d).map fun _ => .imm (.bool (isT t d || isT u d))
variable {a b : Expr} {ma : ME} {pos : Pos}
theorem tC_two {ta : TE} {v : V} {σ : St} {H : Hp} {Q : List V → Hp → Prop} (h : ta σ H fun x H1 => Q [x, v] H1) : tCons ta (tCons (tC v) tNil) σ H Q := h
theorem de_isi {t : Ty} {x : Str} {p : Pos} (hg : Gl X x) (hm : X.mg x = none) (hv : bootBuiltins x = some (.builtin "isinstance")) (ha : DE X a ma) (ht : PE X b (tC (.ty t.nm)))
    (hn : x ≠ "__name__" := by decide) (hd : (x == ("__debug__" : Str)) = false := by decide) (he : starEach [a, b] X.env = (false, eval a X.env) :: starEach [b] X.env := by rfl) (he2 : starEach [b] X.env = (false, eval b X.env) :: starEach [] X.env := by rfl) (hpl : (backTo pos (starEach [b] X.env)).any (·.1) = false := by rfl) :
    DE X (.Call (.Name x p) [a, b] [] pos) (un (dIsi t) ma) :=
  PE.imp (pe_callB call_isi hg hm hv (pa_cons ha (pa_cons ht pa_nil he2) he) hn hd he hpl) fun σ H Q h => tC_two (tE_un (r := fun v H Q => rIsi X.K [v, .ty t.nm] H Q) (by
    intro H M O π ρ σ v1 d1 res Q h r1 e q
    obtain ⟨n, e1, rfl⟩ := Option.map_eq_some_iff.mp e
    exact ⟨_, _, _, _, _, rfl, .ty _, tyx_of r1 e1, kit_is t e1, Post.now q h (.bl _)⟩) h)
/-- isinstance(x, (t, u)): the tuple is laid behind x -/
theorem de_isi2 {t u : Ty} {x : Str} {p p2 : Pos} {b1 b2 : Expr} {k : Nat} (hg : Gl X x) (hm : X.mg x = none) (hv : bootBuiltins x = some (.builtin "isinstance")) (ha : DE X a ma) (h1 : PE X b1 (tC (.ty t.nm))) (h2 : PE X b2 (tC (.ty u.nm)))
    (hn : x ≠ "__name__" := by decide) (hd : (x == ("__debug__" : Str)) = false := by decide) (he : starEach [a, .Tuple [b1, b2] k p2] X.env = (false, eval a X.env) :: starEach [.Tuple [b1, b2] k p2] X.env := by rfl)
    (he2 : starEach [.Tuple [b1, b2] k p2] X.env = (false, eval (.Tuple [b1, b2] k p2) X.env) :: starEach [] X.env := by rfl) (he3 : starEach [b1, b2] X.env = (false, eval b1 X.env) :: starEach [b2] X.env := by rfl) (he4 : starEach [b2] X.env = (false, eval b2 X.env) :: starEach [] X.env := by rfl)
    (hpl : (backTo pos (starEach [.Tuple [b1, b2] k p2] X.env)).any (·.1) = false := by rfl) :
    DE X (.Call (.Name x p) [a, .Tuple [b1, b2] k p2] [] pos) (un (dIsi2 t u) ma) :=
  PE.imp (pe_callB call_isiT hg hm hv (pa_cons ha (pa_cons (pe_tup (pa_cons h1 (pa_cons h2 pa_nil he4) he3)) pa_nil he2) he) hn hd he hpl) fun σ H Q h =>
    tE_un (r := fun v H Q => 2 ≤ sizeLine ∧ ∀ p, H p = none → rIsiT X.K [v, .ref p] (upd H p (.tup [.ty t.nm, .ty u.nm])) Q) (by
      intro H M O π ρ σ v1 d1 res Q h r1 e q
      obtain ⟨n, e1, rfl⟩ := Option.map_eq_some_iff.mp e
      refine ⟨by decide, fun p hp => ?_⟩
      have r1' : VW X.K (upd H p (.tup [.ty t.nm, .ty u.nm])) M v1 d1 := by
        cases d1 with
        | list ds =>
          obtain ⟨a, vs, e, hr, rs⟩ := r1.inL
          refine ⟨a, vs, e, ?_, rs.tr (alloc_tr h hp)⟩
          rcases hr with hr | ⟨o, hr⟩
          · exact .inl (by rw [upd_ne (fun z => by rw [z, hp] at hr; cases hr)]; exact hr)
          · exact .inr ⟨o, by rw [upd_ne (fun z => by rw [z, hp] at hr; cases hr)]; exact hr⟩
        | _ => exact Rep.tr (alloc_tr h hp) r1
      exact ⟨v1, p, _, _, _, _, rfl, upd_same, .cons (.ty _) (.cons (.ty _) .nil), tyx_of r1' e1, kit_is2 t u e1, q _ _ M (.alloc h hp) (h.alloc hp) (.bl _)⟩) h
end
end Vi

namespace Vi
open PySem PySem.Spec PyProof.Rows L2

inductive Fl where
  | next | brk | cont
  | ret (r : Sv)
abbrev MS := Fm → Option (Fl × Fm)
/-- what a def hands back -/
def RV (K : PySem.W.Frag) (H : Hp) (M O : Mset) (ρ : Fm) (σ : St) : Sv → V → Prop
  | .imm d, v => Rep K H M v d
  | .own b ds, v => ∃ p vs, v = .ref p ∧ H p = some (cell b p vs ds) ∧ M p ∧ ¬ O p ∧ Reps K H M vs ds ∧ ∀ (i : Nat) (es : List D), ρ[i]? = some (some (.own .par es)) → σ[i]? ≠ some (some (.ref p))
def SPost (K : PySem.W.Frag) (H : Hp) (M O : Mset) (π : Nat → Option Addr) (D : Ends) (ρ' : Fm) : Fl → Prop
  | .next => ∀ σ' H' M', Ext O H M H' M' → SR K H' M' O π ρ' σ' → D.nx σ' H'
  | .brk => ∀ σ' H' M', Ext O H M H' M' → SR K H' M' O π ρ' σ' → D.bk σ' H'
  | .cont => ∀ σ' H' M', Ext O H M H' M' → SR K H' M' O π ρ' σ' → D.ct σ' H'
  | .ret r => ∀ v σ' H' M', Ext O H M H' M' → SR K H' M' O π ρ' σ' → RV K H' M' O ρ' σ' r v → D.rt v H'
def tS (K : PySem.W.Frag) (m : MS) : TS := fun D σ H => ∃ ρ M O π fl ρ', SR K H M O π ρ σ ∧ m ρ = some (fl, ρ') ∧ SPost K H M O π D ρ' fl
def DS (X : Cx) (s : Stmt) (m : MS) : Prop := PS X s (tS X.K m)
def DSs (X : Cx) (s : List Stmt) (m : MS) : Prop := PSs X s (tS X.K m)
theorem SPost.later {K : PySem.W.Frag} {H H1 : Hp} {M M1 O O1 : Mset} {π : Nat → Option Addr} {D : Ends} {ρ' : Fm} {fl : Fl} (q : SPost K H M O π D ρ' fl) (x : Ext O H M H1 M1) : SPost K H1 M1 O π D ρ' fl := by
  cases fl with
  | next => exact fun σ' H' M' x' => q σ' H' M' (x.trans x')
  | brk => exact fun σ' H' M' x' => q σ' H' M' (x.trans x')
  | cont => exact fun σ' H' M' x' => q σ' H' M' (x.trans x')
  | ret r => exact fun v σ' H' M' x' => q v σ' H' M' (x.trans x')

/-! ### states behind a store -/
section
variable {K : PySem.W.Frag} {H H' : Hp} {M M' O O' : Mset} {π : Nat → Option Addr} {ρ ρ' : Fm} {σ : St} {pr : PR} {v : V} {d : D} {i : Nat}
theorem SR.setImm (h : SR K H M O π ρ σ) (r : Rep K H M v d) : SR K H M O π (ρ.set i (some (.imm d))) (σ.set i (some v)) := by
  refine ⟨by rw [List.length_set, List.length_set]; exact h.len, h.sub, h.live, fun j e f => ?_, fun j b es f => ?_, fun j k b c es fs x hjk f g => ?_⟩
  · rcases get_set f with ⟨hj, g⟩ | ⟨hj, f⟩
    · subst hj
      have hl : j < ρ.length := by
        have := (List.getElem?_eq_some_iff.mp f).1
        rwa [List.length_set] at this
      cases g
      exact ⟨v, by rw [List.getElem?_set_self (by rw [← h.len]; exact hl)], r⟩
    · rw [List.getElem?_set_ne (Ne.symm hj)]; exact h.imm j e f
  · rcases get_set f with ⟨_, g⟩ | ⟨hj, f⟩
    · cases g
    · rw [List.getElem?_set_ne (Ne.symm hj)]; exact h.own j b es f
  · rcases get_set f with ⟨_, z⟩ | ⟨hj, f⟩
    · cases z
    · rcases get_set g with ⟨_, z⟩ | ⟨hk, g⟩
      · cases z
      · rw [List.getElem?_set_ne (Ne.symm hj), List.getElem?_set_ne (Ne.symm hk)]; exact h.uniq j k b c es fs x hjk f g
theorem SR.setOwnC {p : Addr} {vs : List V} {ds : List D} {b : Kd} (h : SR K H M O π ρ σ) (hb : b ≠ .par) (e1 : H p = some (cell b p vs ds)) (e2 : M p) (e3 : ¬ O p) (r : Reps K H M vs ds) (ha : Apart ρ σ p) : SR K H M O π (ρ.set i (some (.own b ds))) (σ.set i (some (.ref p))) := by
  refine ⟨by rw [List.length_set, List.length_set]; exact h.len, h.sub, h.live, fun j e f => ?_, fun j b es f => ?_, fun j k b c es fs x hjk f g => ?_⟩
  · rcases get_set f with ⟨_, g⟩ | ⟨hj, f⟩
    · cases g
    · rw [List.getElem?_set_ne (Ne.symm hj)]; exact h.imm j e f
  · rcases get_set f with ⟨hj, g⟩ | ⟨hj, f⟩
    · subst hj
      have hl : j < ρ.length := by
        have := (List.getElem?_eq_some_iff.mp f).1
        rwa [List.length_set] at this
      cases g
      exact ⟨p, vs, by rw [List.getElem?_set_self (by rw [← h.len]; exact hl)], e1, e2, e3, r, fun z => absurd z hb⟩
    · rw [List.getElem?_set_ne (Ne.symm hj)]; exact h.own j b es f
  · rcases get_set f with ⟨hj, z⟩ | ⟨hj, f'⟩
    · cases z
      rcases get_set g with ⟨hk, z⟩ | ⟨hk, g'⟩
      · exact absurd (hj.trans hk.symm) hjk
      · subst hj
        intro q q2
        have hl : j < ρ.length := by
          have := (List.getElem?_eq_some_iff.mp f).1
          rwa [List.length_set] at this
        rw [List.getElem?_set_self (by rw [← h.len]; exact hl)] at q
        cases q
        rw [List.getElem?_set_ne (Ne.symm hk)] at q2
        exact ha k c fs g' q2
    · rcases get_set g with ⟨hk, z⟩ | ⟨hk, g'⟩
      · cases z
        subst hk
        rw [List.getElem?_set_ne (Ne.symm hj)]
        intro q q2
        have hl : k < ρ.length := by
          have := (List.getElem?_eq_some_iff.mp g).1
          rwa [List.length_set] at this
        rw [List.getElem?_set_self (by rw [← h.len]; exact hl)] at q2
        cases q2
        exact ha j b es f' q
      · rw [List.getElem?_set_ne (Ne.symm hj), List.getElem?_set_ne (Ne.symm hk)]; exact h.uniq j k b c es fs x hjk f' g'
theorem SR.setOwn {p : Addr} {vs : List V} {ds : List D} (h : SR K H M O π ρ σ) (e1 : H p = some (.lst vs)) (e2 : M p) (e3 : ¬ O p) (r : Reps K H M vs ds) (ha : Apart ρ σ p) : SR K H M O π (ρ.set i (some (.own .loc ds))) (σ.set i (some (.ref p))) := h.setOwnC (b := .loc) (fun z => by cases z) e1 e2 e3 r ha
theorem get_set_same {α : Type} {l : List α} {i : Nat} {x y : α} (h : l[i]? = some y) : (l.set i x)[i]? = some x := by
  rw [List.getElem?_set_self (List.getElem?_eq_some_iff.mp h).1]
/-- the list that a name owns is written -/
theorem SR.writeC {a : Addr} {b : Kd} {ws : List V} {ds es : List D} (h : SR K H M O π ρ σ) (e : ρ[i]? = some (some (.own b ds))) (e1 : σ[i]? = some (some (.ref a))) (r : Reps K H M ws es) :
    SR K (upd H a (cell b a ws es)) M O π (ρ.set i (some (.own b es))) σ ∧ Ext O H M (upd H a (cell b a ws es)) M ∧ ∀ x u, Rd H x u → ¬ M x → Rd (upd H a (cell b a ws es)) x u ∧ ¬ M x := by
  obtain ⟨a', vs', f1, f2, f3, f4, f5, f6⟩ := h.own i b ds e
  rw [e1] at f1; cases f1
  have t : ∀ x u, Rd H x u → ¬ M x → Rd (upd H a (cell b a ws es)) x u ∧ ¬ M x := fun x u q n => by
    have ne : x ≠ a := fun z => n (z ▸ f3)
    refine ⟨?_, n⟩
    rcases q with q | ⟨o, q⟩
    · exact .inl (by rw [upd_ne ne]; exact q)
    · exact .inr ⟨o, by rw [upd_ne ne]; exact q⟩
  refine ⟨⟨by rw [List.length_set]; exact h.len, h.sub, fun x q => ?_, fun j d f => ?_, fun j c fs f => ?_, fun j k b' c fs gs x hjk f g => ?_⟩, ⟨fun x o q z => ?_, h.sub, fun x q => .inl q⟩, t⟩
  · by_cases hx : x = a
    · subst hx; rw [upd_same]; intro z; exact absurd z (by simp)
    · rw [upd_ne hx]; exact h.live x q
  · rcases get_set f with ⟨_, z⟩ | ⟨hj, f⟩
    · cases z
    · obtain ⟨w, g1, g2⟩ := h.imm j d f
      exact ⟨w, g1, g2.tr t⟩
  · rcases get_set f with ⟨hj, z⟩ | ⟨hj, f⟩
    · cases z
      subst hj
      exact ⟨a, ws, e1, upd_same, f3, f4, r.tr t, f6⟩
    · obtain ⟨x, us, g1, g2, g3, g4, g5, g6⟩ := h.own j c fs f
      have ne : x ≠ a := fun z => by
        subst z
        exact h.uniq i j _ _ _ _ x (Ne.symm hj) e f e1 g1
      exact ⟨x, us, g1, by rw [upd_ne ne]; exact g2, g3, g4, g5.tr t, g6⟩
  · rcases get_set f with ⟨hj, z⟩ | ⟨hj, f'⟩
    · cases z
      rcases get_set g with ⟨hk, z⟩ | ⟨hk, g'⟩
      · exact absurd (hj.trans hk.symm) hjk
      · subst hj; exact h.uniq j k _ _ _ _ x hjk e g'
    · rcases get_set g with ⟨hk, z⟩ | ⟨hk, g'⟩
      · cases z; subst hk; exact h.uniq j k _ _ _ _ x hjk f' e
      · exact h.uniq j k _ _ _ _ x hjk f' g'
  · refine (upd_ne (fun hx => ?_)).trans q
    subst hx
    exact z.elim f4 fun n => n f3
theorem SR.write {a : Addr} {b : Kd} {ws : List V} {ds es : List D} (h : SR K H M O π ρ σ) (e : ρ[i]? = some (some (.own b ds))) (hb : b.isL = true) (e1 : σ[i]? = some (some (.ref a))) (r : Reps K H M ws es) :
    SR K (upd H a (.lst ws)) M O π (ρ.set i (some (.own b es))) σ ∧ Ext O H M (upd H a (.lst ws)) M ∧ ∀ x u, Rd H x u → ¬ M x → Rd (upd H a (.lst ws)) x u ∧ ¬ M x := by
  have q := h.writeC e e1 r
  rw [cell_lst hb] at q
  exact q
/-- a name's own list -/
theorem isL_of {b : Kd} (h : b = .dic → False) : b.isL = true := by cases b <;> first | rfl | exact absurd rfl h
theorem SR.ownL {b : Kd} {ds : List D} (h : SR K H M O π ρ σ) (e : ρ[i]? = some (some (.own b ds))) (hb : b.isL = true) : ∃ a vs, σ[i]? = some (some (.ref a)) ∧ H a = some (.lst vs) ∧ M a ∧ ¬ O a ∧ Reps K H M vs ds ∧ (b = .par → π i = some a) := by
  have q := h.own i b ds e
  simp only [cell_lst hb] at q
  exact q
/-- a value that a name is to hold -/
def take (ρ : Fm) : PR → Option (Sv × Fm)
  | .val (.imm d) => some (.imm d, ρ)
  | .val (.own .dic ds) => some (.own .dic ds, ρ)
  | .val (.own _ ds) => some (.own .loc ds, ρ)
  | .slot j => match frz ρ (.slot j) with
    | some (d, ρ1) => some (.imm d, ρ1)
    | none => none
def put (i : Nat) (pr : PR) (ρ : Fm) : Option Fm := match take ρ pr with
  | some (sv, ρ1) => some (ρ1.set i (some sv))
  | none => none
theorem put_ok (h : SR K H M O π ρ σ) (r : RP K H M O ρ σ pr v) (e : put i pr ρ = some ρ') : ∃ M', Ext O H M H M' ∧ SR K H M' O π ρ' (σ.set i (some v)) := by
  unfold put at e
  match pr, v, r with
  | .val (.imm d), v, r =>
    cases e
    exact ⟨M, .refl h, h.setImm r⟩
  | .val (.own b ds), v, ⟨p, vs, e1, e2, e3, e4, e5, e6⟩ =>
    subst e1
    cases b with
    | dic => cases e; exact ⟨M, .refl h, h.setOwnC (fun z => by cases z) e2 e3 e4 e5 e6⟩
    | loc => cases e; exact ⟨M, .refl h, h.setOwn e2 e3 e4 e5 e6⟩
    | par => cases e; exact ⟨M, .refl h, h.setOwn e2 e3 e4 e5 e6⟩
  | .slot j, v, r =>
    unfold take at e
    simp only at e
    cases ef : frz ρ (.slot j) with
    | none => rw [ef] at e; cases e
    | some dρ =>
      obtain ⟨d, ρ1⟩ := dρ
      rw [ef] at e
      cases e
      obtain ⟨M', x, s, rr⟩ := frz_ok h r ef
      exact ⟨M', x, s.setImm rr⟩
def give (ρ : Fm) : PR → Option Sv
  | .val s => some s
  | .slot i => match ρ[i]? with
    | some (some (.imm d)) => some (.imm d)
    | some (some (.own .loc ds)) => some (.own .loc ds)
    | some (some (.own .dic ds)) => some (.own .dic ds)
    | _ => none
theorem give_ok {r : Sv} (h : SR K H M O π ρ σ) (q : RP K H M O ρ σ pr v) (e : give ρ pr = some r) : RV K H M O ρ σ r v := by
  match pr, v, q with
  | .val (.imm d), v, q => cases e; exact q
  | .val (.own b ds), v, ⟨p, vs, e1, e2, e3, e4, e5, e6⟩ => cases e; exact ⟨p, vs, e1, e2, e3, e4, e5, fun i es f => e6 i .par es f⟩
  | .slot i, v, q =>
    have q' : σ[i]? = some (some v) := q
    unfold give at e
    simp only at e
    split at e
    · rename_i d hs
      cases e
      obtain ⟨w, f1, f2⟩ := h.imm i _ hs
      rw [q'] at f1; cases f1; exact f2
    · rename_i ds hs
      cases e
      obtain ⟨a, vs, f1, f2, f3, f4, f5, f6⟩ := h.own i _ ds hs
      rw [q'] at f1; cases f1
      exact ⟨a, vs, rfl, f2, f3, f4, f5, fun j es f g => by
        by_cases hij : i = j
        · subst hij; rw [hs] at f; cases f
        · exact h.uniq i j _ _ _ _ a hij hs f q' g⟩
    · rename_i ds hs
      cases e
      obtain ⟨a, vs, f1, f2, f3, f4, f5, f6⟩ := h.own i _ ds hs
      rw [q'] at f1; cases f1
      exact ⟨a, vs, rfl, f2, f3, f4, f5, fun j es f g => by
        by_cases hij : i = j
        · subst hij; rw [hs] at f; cases f
        · exact h.uniq i j _ _ _ _ a hij hs f q' g⟩
    · cases e
end

section
variable {X : Cx} {st : Stmt} {rest sa sb : List Stmt} {e : Expr} {me : ME} {m n : MS} {mt : MT} {pos : Pos}
/-! ### blocks -/
def mNext : MS := fun ρ => some (.next, ρ)
def mSeq (m n : MS) : MS := fun ρ => match m ρ with
  | some (.next, ρ1) => n ρ1
  | some (.brk, ρ1) => some (.brk, ρ1)
  | some (.cont, ρ1) => some (.cont, ρ1)
  | some (.ret r, ρ1) => some (.ret r, ρ1)
  | none => none
theorem dss_nil : DSs X [] mNext := PSs.imp pss_nil fun D σ H ⟨ρ, M, O, π, fl, ρ', h, e, q⟩ => by
  cases e
  exact q σ H M (.refl h) h
theorem dss_one (h : DS X st m) : DSs X [st] m := pss_one h
theorem dss_cons (h1 : DS X st m) (h2 : DSs X rest n) : DSs X (st :: rest) (mSeq m n) := PSs.imp (pss_cons h1 h2) fun D σ H ⟨ρ, M, O, π, fl, ρ', h, e, q⟩ => by
  unfold mSeq at e
  split at e
  · rename_i ρ1 e1
    exact ⟨ρ, M, O, π, .next, ρ1, h, e1, fun σ1 H1 M1 x1 s1 => ⟨ρ1, M1, O, π, fl, ρ', s1, e, q.later (O1 := O) x1⟩⟩
  · rename_i ρ1 e1
    cases e
    exact ⟨ρ, M, O, π, .brk, _, h, e1, q⟩
  · rename_i ρ1 e1
    cases e
    exact ⟨ρ, M, O, π, .cont, _, h, e1, q⟩
  · rename_i r ρ1 e1
    cases e
    exact ⟨ρ, M, O, π, .ret r, _, h, e1, q⟩
  · cases e
def mBrk : MS := fun ρ => some (.brk, ρ)
def mCont : MS := fun ρ => some (.cont, ρ)
theorem ds_pass : DS X (.Pass pos) mNext := PS.imp ps_pass fun D σ H ⟨ρ, M, O, π, fl, ρ', h, e, q⟩ => by
  cases e
  exact q σ H M (.refl h) h
theorem ds_brk : DS X (.Break pos) mBrk := PS.imp ps_break fun D σ H ⟨ρ, M, O, π, fl, ρ', h, e, q⟩ => by
  cases e
  exact q σ H M (.refl h) h
theorem ds_cont : DS X (.Continue pos) mCont := PS.imp ps_continue fun D σ H ⟨ρ, M, O, π, fl, ρ', h, e, q⟩ => by
  cases e
  exact q σ H M (.refl h) h
/-- a raise (or whatever is never come to) -/
def mNever : MS := fun _ => none
theorem ds_never : DS X st mNever := PS.imp ps_never fun D σ H ⟨ρ, M, O, π, fl, ρ', h, e, q⟩ => by cases e
def mIfS (c : MT) (m n : MS) : MS := fun ρ => match c ρ with
  | some (true, ρ1) => m ρ1
  | some (false, ρ1) => n ρ1
  | none => none
theorem ds_if {c : Expr} (hc : DT X c mt) (ha : DSs X sa m) (hb : DSs X sb n) : DS X (.If c sa sb pos) (mIfS mt m n) := PS.imp (ps_if hc ha hb) fun D σ H ⟨ρ, M, O, π, fl, ρ', h, e, q⟩ => by
  unfold mIfS at e
  split at e
  · rename_i ρ1 e1
    exact ⟨ρ, M, O, π, true, ρ1, h, e1, fun H1 M1 x1 s1 => iteT ⟨ρ1, M1, O, π, fl, ρ', s1, e, q.later (O1 := O) x1⟩⟩
  · rename_i ρ1 e1
    exact ⟨ρ, M, O, π, false, ρ1, h, e1, fun H1 M1 x1 s1 => iteF ⟨ρ1, M1, O, π, fl, ρ', s1, e, q.later (O1 := O) x1⟩⟩
  · cases e
def mRet (me : ME) : MS := fun ρ => match me ρ with
  | some (pr, ρ1) => match give ρ1 pr with
    | some r => some (.ret r, ρ1)
    | none => none
  | none => none
theorem ds_ret (he : DE X e me) : DS X (.Return (some e) pos) (mRet me) := PS.imp (ps_ret he) fun D σ H ⟨ρ, M, O, π, fl, ρ', h, e, q⟩ => by
  unfold mRet at e
  split at e
  · rename_i pr ρ1 e1
    split at e
    · rename_i r e2
      cases e
      exact ⟨ρ, M, O, π, pr, _, h, e1, fun v H1 M1 x1 s1 r1 => q v σ H1 M1 x1 s1 (give_ok s1 r1 e2)⟩
    · cases e
  · cases e
def mRetN : MS := fun ρ => some (.ret (.imm .none), ρ)
theorem ds_retN : DS X (.Return none pos) mRetN := PS.imp ps_retN fun D σ H ⟨ρ, M, O, π, fl, ρ', h, e, q⟩ => by
  cases e
  exact q .non σ H M (.refl h) h .non
/-- x = e -/
def mSet (i : Nat) (me : ME) : MS := fun ρ => match me ρ with
  | some (pr, ρ1) => match put i pr ρ1 with
    | some ρ2 => some (.next, ρ2)
    | none => none
  | none => none
theorem ds_set {i : Nat} (h : ∀ te, PE X e te → PS X st (tAsg te (gName i))) (he : DE X e me) : DS X st (mSet i me) := PS.imp (h _ he) fun D σ H ⟨ρ, M, O, π, fl, ρ', h, e, q⟩ => by
  unfold mSet at e
  split at e
  · rename_i pr ρ1 e1
    split at e
    · rename_i ρ2 e2
      cases e
      refine ⟨ρ, M, O, π, pr, ρ1, h, e1, fun v H1 M1 x1 s1 r1 => ?_⟩
      obtain ⟨M2, x2, s2⟩ := put_ok s1 r1 e2
      exact q _ H1 M2 (x1.trans x2) s2
    · cases e
  · cases e
/-- an expression whose value is dropped -/
def mDrop (me : ME) : MS := fun ρ => match me ρ with
  | some (_, ρ1) => some (.next, ρ1)
  | none => none
theorem ds_expr (he : DE X e me) (hs : swapsWith e none pos.line X.env = pure false := by rfl) : DS X (.Expr e pos) (mDrop me) := PS.imp (ps_expr he hs) fun D σ H ⟨ρ, M, O, π, fl, ρ', h, e, q⟩ => by
  unfold mDrop at e
  split at e
  · rename_i pr ρ1 e1
    cases e
    exact ⟨ρ, M, O, π, pr, _, h, e1, fun v H1 M1 x1 s1 r1 => q σ H1 M1 x1 s1⟩
  · cases e
theorem ds_doc {x j pos'} : DS X (.Expr (.Constant (.str x) j pos) pos') mNext := PS.imp ps_doc fun D σ H ⟨ρ, M, O, π, fl, ρ', h, e, q⟩ => by
  cases e
  exact q σ H M (.refl h) h

/-! ### methods that change a name's list -/
/-- x.append(e), as an expression -/
def mApp (i : Nat) (me : ME) : ME := fun ρ => match ρ[i]? with
  | some (some (.own .dic _)) => none
  | some (some (.own _ _)) => match me ρ with
    | some (pr, ρ1) => match frz ρ1 pr with
      | some (d, ρ2) => match ρ2[i]? with
        | some (some (.own .dic _)) => none
        | some (some (.own b ds)) => if fits (ds.length + 1) = true then some (.val (.imm .none), ρ2.set i (some (.own b (ds ++ [d])))) else none
        | _ => none
      | none => none
    | none => none
  | _ => none
theorem de_app {i : Nat} (h : ∀ t, PA X [e] t → PE X st_e (tBM X.K "list" rAppend (tVar i) t)) (he : DE X e me) (hs : starEach (e :: []) X.env = (false, eval e X.env) :: starEach [] X.env := by rfl) : DE X st_e (mApp i me) :=
  PE.imp (h _ (pa_cons he pa_nil hs)) fun σ H Q ⟨ρ, M, O, π, fl, ρ', h, e, q⟩ => by
    unfold mApp at e
    split at e
    · cases e
    · rename_i b0 ds0 hne0 e0
      obtain ⟨a, vs, f1, f2, f3, f4, f5, f6⟩ := h.ownL e0 (isL_of hne0)
      refine ⟨.ref a, f1, .inl ⟨rfl, vs, .inl (.inl f2)⟩, ?_⟩
      split at e
      · rename_i pr ρ1 e1
        split at e
        · rename_i d ρ2 e2
          split at e
          · cases e
          · rename_i b ds hne3 e3
            split at e
            · rename_i hz
              cases e
              refine ⟨ρ, M, O, π, pr, ρ1, h, e1, fun v H1 M1 x1 s1 r1 => ?_⟩
              obtain ⟨M2, x2, s2, r2⟩ := frz_ok s1 r1 e2
              obtain ⟨a', ws, g1, g2, g3, g4, g5, g6⟩ := s2.ownL e3 (isL_of hne3)
              rw [f1] at g1; cases g1
              obtain ⟨s3, x3, t3⟩ := s2.write (ws := ws ++ [v]) (es := ds ++ [d]) e3 (isL_of hne3) f1 (g5.append (.cons r2 .nil))
              exact ⟨a, ws, v, rfl, rfl, g2, by have := fits_le hz; rw [g5.length]; omega, q _ _ M2 ((x1.trans x2).trans x3) s3 .non⟩
            · cases e
          · cases e
        · cases e
      · cases e
    · cases e
/-- x.pop(k) -/
def mPopAt (i : Nat) (me : ME) : ME := fun ρ => match ρ[i]? with
  | some (some (.own .dic _)) => none
  | some (some (.own _ _)) => match me ρ with
    | some (pr, ρ1) => match peek ρ1 pr with
      | some (.int k) => match ρ1[i]? with
        | some (some (.own .dic _)) => none
        | some (some (.own b ds)) => match seqIndex? k ds.length with
          | some j => match ds[j]? with
            | some d => if decide (-(2 ^ 63) ≤ k ∧ k < 2 ^ 63) = true then some (.val (.imm d), ρ1.set i (some (.own b (ds.eraseIdx j)))) else none
            | none => none
          | none => none
        | _ => none
      | _ => none
    | none => none
  | _ => none
theorem de_popAt {i : Nat} (h : ∀ t, PA X [e] t → PE X st_e (tBM X.K "list" rPopAt (tVar i) t)) (he : DE X e me) (hs : starEach (e :: []) X.env = (false, eval e X.env) :: starEach [] X.env := by rfl) : DE X st_e (mPopAt i me) :=
  PE.imp (h _ (pa_cons he pa_nil hs)) fun σ H Q ⟨ρ, M, O, π, fl, ρ', h, e, q⟩ => by
    unfold mPopAt at e
    split at e
    · cases e
    · rename_i b0 ds0 hne0 e0
      obtain ⟨a, vs, f1, f2, f3, f4, f5, f6⟩ := h.ownL e0 (isL_of hne0)
      refine ⟨.ref a, f1, .inl ⟨rfl, vs, .inl (.inl f2)⟩, ?_⟩
      split at e
      · rename_i pr ρ1 e1
        split at e
        · rename_i k e2
          split at e
          · cases e
          · rename_i b ds hne3 e3
            split at e
            · rename_i j ej
              split at e
              · rename_i d ed
                split at e
                · rename_i hz
                  cases e
                  have hz' := of_decide_eq_true hz
                  refine ⟨ρ, M, O, π, pr, ρ1, h, e1, fun v H1 M1 x1 s1 r1 => ?_⟩
                  obtain ⟨a', ws, g1, g2, g3, g4, g5, g6⟩ := s1.ownL e3 (isL_of hne3)
                  rw [f1] at g1; cases g1
                  obtain ⟨w, hw, rw'⟩ := g5.get ed
                  obtain ⟨s3, x3, t3⟩ := s1.write (ws := ws.eraseIdx j) (es := ds.eraseIdx j) e3 (isL_of hne3) f1 (g5.erase j)
                  exact ⟨a, ws, k, j, w, rfl, by rw [(peek_vw s1 r1 e2).inI], g2, hz'.1, hz'.2, by rw [g5.length]; exact ej, hw, q _ _ M1 (x1.trans x3) s3 (rw'.tr t3)⟩
                · cases e
              · cases e
            · cases e
          · cases e
        · cases e
      · cases e
    · cases e
/-- x[k] = e -/
def mStore (i : Nat) (mk me : ME) : MS := fun ρ => match me ρ with
  | some (pr, ρ1) => match frz ρ1 pr with
    | some (d, ρ2) => match ρ2[i]? with
      | some (some (.own .dic _)) => none
      | some (some (.own _ _)) => match mk ρ2 with
        | some (pk, ρ3) => match peek ρ3 pk with
          | some (.int k) => match ρ3[i]? with
            | some (some (.own .dic _)) => none
            | some (some (.own b ds)) => match ixN ds.length k with
              | some j => some (.next, ρ3.set i (some (.own b (ds.set j d))))
              | none => none
            | _ => none
          | _ => none
        | none => none
      | _ => none
    | none => none
  | none => none
theorem ds_store {i : Nat} {k : Expr} {mk : ME} (h : ∀ te tk, PE X e te → PE X k tk → PS X st (tAsg te (gSub (tVar i) tk rSetL))) (he : DE X e me) (hk : DE X k mk) : DS X st (mStore i mk me) :=
  PS.imp (h _ _ he hk) fun D σ H ⟨ρ, M, O, π, fl, ρ', h, e, q⟩ => by
    unfold mStore at e
    split at e
    · rename_i pr ρ1 e1
      split at e
      · rename_i d ρ2 e2
        split at e
        · cases e
        · rename_i b0 ds0 hne0 e0
          split at e
          · rename_i pk ρ3 e3
            split at e
            · rename_i k e4
              split at e
              · cases e
              · rename_i b ds hne5 e5
                split at e
                · rename_i j ej
                  cases e
                  refine ⟨ρ, M, O, π, pr, ρ1, h, e1, fun v H1 M1 x1 s1 r1 => ?_⟩
                  obtain ⟨M2, x2, s2, r2⟩ := frz_ok s1 r1 e2
                  obtain ⟨a, vs, f1, f2, f3, f4, f5, f6⟩ := s2.ownL e0 (isL_of hne0)
                  refine ⟨.ref a, f1, ρ2, M2, O, π, pk, ρ3, s2, e3, fun w H3 M3 x3 s3 r3 => ?_⟩
                  obtain ⟨a', ws, g1, g2, g3, g4, g5, g6⟩ := s3.ownL e5 (isL_of hne5)
                  rw [f1] at g1; cases g1
                  obtain ⟨s4, x4, t4⟩ := s3.write (ws := ws.set j v) (es := ds.set j d) e5 (isL_of hne5) f1 (g5.set j (r2.tr x3.tr))
                  exact ⟨a, ws, k, j, rfl, (peek_vw s3 r3 e4).inI, g2, by rw [g5.length]; exact ej, q _ _ M3 (((x1.trans x2).trans x3).trans x4) s4⟩
                · cases e
              · cases e
            · cases e
          · cases e
        · cases e
      · cases e
    · cases e
end
end Vi

namespace Vi
open PySem PySem.Spec PyProof.Rows L2

/-- what was fixed stays -/
abbrev Lat (H0 : Hp) (M0 : Mset) (H : Hp) (M : Mset) : Prop := ∀ a u, Rd H0 a u → ¬ M0 a → Rd H a u ∧ ¬ M a
theorem Lat.trans {H0 H1 H2 : Hp} {M0 M1 M2 : Mset} (a : Lat H0 M0 H1 M1) (b : Lat H1 M1 H2 M2) : Lat H0 M0 H2 M2 := fun x u h n => b x u (a x u h n).1 (a x u h n).2

/-! ### targets -/
abbrev MG := D → Fm → Option Fm
def tG (K : PySem.W.Frag) (m : MG) (ts : List Nat) : TG := fun v σ H Q => ∃ ρ M O π d ρ', SR K H M O π ρ σ ∧ Rep K H M v d ∧ m d ρ = some ρ' ∧ ∀ σ', SR K H M O π ρ' σ' → (∀ j, j ∉ ts → σ'[j]? = σ[j]?) → σ'.length = σ.length → Q σ' H
def DG (X : Cx) (tg : Expr) (m : MG) (ts : List Nat) : Prop := PG X tg (tG X.K m ts)
theorem _root_.L2.PG.imp {X : Cx} {e : Expr} {t t' : TG} (h : PG X e t) (i : ∀ v σ H Q, t' v σ H Q → t v σ H Q) : PG X e t' := ⟨fun pins s σ H v u Q I r q => h.run pins s σ H v u Q I r (i v σ H Q q)⟩
theorem _root_.L2.PGs.imp {X : Cx} {e : List Expr} {t t' : TGs} (h : PGs X e t) (i : ∀ v σ H Q, t' v σ H Q → t v σ H Q) : PGs X e t' := ⟨fun pins s σ H v u Q I r q => h.run pins s σ H v u Q I r (i v σ H Q q)⟩
def mN (i : Nat) : MG := fun d ρ => some (ρ.set i (some (.imm d)))
section
variable {X : Cx} {tg e : Expr} {es : List Expr} {pos : Pos}
theorem dg_name {i : Nat} (h : PG X e (gName i)) : DG X e (mN i) [i] := PG.imp h fun v σ H Q ⟨ρ, M, O, π, d, ρ', hs, r, e, q⟩ => by
  cases e
  exact q _ (hs.setImm r) (fun j hj => List.getElem?_set_ne (fun z => hj (by simp [z]))) (List.length_set ..)
abbrev MGs := List D → Fm → Option Fm
def tGs (K : PySem.W.Frag) (m : MGs) (ts : List Nat) : TGs := fun vs σ H Q => ∃ ρ M O π ds ρ', SR K H M O π ρ σ ∧ Reps K H M vs ds ∧ m ds ρ = some ρ' ∧ ∀ σ', SR K H M O π ρ' σ' → (∀ j, j ∉ ts → σ'[j]? = σ[j]?) → σ'.length = σ.length → Q σ' H
def DGs (X : Cx) (tg : List Expr) (m : MGs) (ts : List Nat) : Prop := PGs X tg (tGs X.K m ts)
def mGnil : MGs := fun ds ρ => match ds with
  | [] => some ρ
  | _ :: _ => none
def mGcons (m : MG) (n : MGs) : MGs := fun ds ρ => match ds with
  | [] => none
  | d :: ds => match m d ρ with
    | some ρ1 => n ds ρ1
    | none => none
theorem dgs_nil : DGs X [] mGnil [] := PGs.imp pgs_nil fun vs σ H Q ⟨ρ, M, O, π, ds, ρ', hs, r, e, q⟩ => by
  unfold mGnil at e
  split at e
  · cases e
    cases r
    exact ⟨rfl, q σ hs (fun _ _ => rfl) rfl⟩
  · cases e
theorem dgs_cons {m : MG} {n : MGs} {ts us : List Nat} (h1 : DG X e m ts) (h2 : DGs X es n us) (hs : (assignEach (e :: es) X.env).map (·.2) = assign e X.env :: (assignEach es X.env).map (·.2) := by rfl) : DGs X (e :: es) (mGcons m n) (ts ++ us) :=
  PGs.imp (pgs_cons h1 h2 hs) fun vs σ H Q ⟨ρ, M, O, π, ds, ρ', hs, r, e, q⟩ => by
    unfold mGcons at e
    split at e
    · cases e
    · rename_i d ds
      cases r with
      | @cons v vs d ds rv rr =>
        split at e
        · rename_i ρ1 e1
          refine ⟨v, vs, rfl, ρ, M, O, π, d, ρ1, hs, rv, e1, fun σ1 s1 f1 l1 => ⟨ρ1, M, O, π, ds, ρ', s1, rr, e, fun σ2 s2 f2 l2 => q σ2 s2 (fun j hj => ?_) (l2.trans l1)⟩⟩
          rw [List.mem_append, not_or] at hj
          rw [f2 j hj.2, f1 j hj.1]
        · cases e
def mGtup (k : Nat) (n : MGs) : MG := fun d ρ => match d with
  | .tuple ds => if ds.length = k then n ds ρ else none
  | _ => none
theorem dg_tup {k : Nat} {n : MGs} {ts : List Nat} {kk : Nat} (hc : X.calm = true) (h : DGs X es n ts) (hn : (assignEach es X.env).length = k := by rfl) (hst : (assignEach es X.env).findIdx? (·.1) = none := by rfl) : DG X (.Tuple es kk pos) (mGtup k n) ts :=
  PG.imp (pg_tup hc h hn hst) fun v σ H Q ⟨ρ, M, O, π, d, ρ', hs, r, e, q⟩ => by
    unfold mGtup at e
    split at e
    · rename_i ds
      split at e
      · rename_i hl
        cases r with
        | tup ht rr => exact ⟨_, _, rfl, ht.sq, by rw [rr.length]; exact hl, ρ, M, O, π, ds, ρ', hs, rr, e, q⟩
      · cases e
    · cases e

/-! ### what is walked -/
def YD (K : PySem.W.Frag) (H : Hp) (M : Mset) (x : V) (H' : Hp) (d : D) : Prop :=
  (H' = H ∧ Rep K H M x d) ∨ ∃ T vs es, x = .ref T ∧ H T = none ∧ H' = upd H T (.tup vs) ∧ d = .tuple es ∧ Reps K H M vs es
structure Src (K : PySem.W.Frag) (J : It) (ds : List D) (H0 : Hp) (M0 : Mset) : Prop where
  go : ∀ H M, Lat H0 M0 H M → ∀ i, i < ds.length → J.go i H
  stop : ∀ H M, Lat H0 M0 H M → J.stop ds.length H
  yld : ∀ H M, Lat H0 M0 H M → ∀ (i : Nat) d x H', ds[i]? = some d → J.yld i H x H' → YD K H M x H' d
theorem YD.ok {K : PySem.W.Frag} {H : Hp} {M O : Mset} {π : Nat → Option Addr} {ρ : Fm} {σ : St} {x : V} {H' : Hp} {d : D} (y : YD K H M x H' d) (h : SR K H M O π ρ σ) : SR K H' M O π ρ σ ∧ Ext O H M H' M ∧ Rep K H' M x d := by
  rcases y with ⟨rfl, r⟩ | ⟨T, vs, es, rfl, hT, rfl, rfl, r⟩
  · exact ⟨h, .refl h, r⟩
  · exact ⟨h.alloc hT, .alloc h hT, .tup (.inl ⟨.inl upd_same, fun z => h.live T z hT⟩) (r.tr (alloc_tr h hT))⟩
abbrev MI := Fm → Option (List D × Fm)
def tI (K : PySem.W.Frag) (m : MI) : TI := fun σ H R => ∃ ρ M O π ds ρ', SR K H M O π ρ σ ∧ m ρ = some (ds, ρ') ∧ ∀ J H' M', Ext O H M H' M' → SR K H' M' O π ρ' σ → Src K J ds H' M' → R J H'
def DI (X : Cx) (tg iter : Expr) (m : MI) : Prop := PI X tg iter (tI X.K m)
theorem _root_.L2.PI.imp {X : Cx} {tg e : Expr} {t t' : TI} (h : PI X tg e t) (i : ∀ σ H Q, t' σ H Q → t σ H Q) : PI X tg e t' := ⟨fun pins s σ H Q I q => h.run pins s σ H Q I (i σ H Q q)⟩
def iSeq (K : PySem.W.Frag) (tl : TE) : TI := fun σ H R => tl σ H fun x H1 => ∃ a, x = .ref a ∧ (((∃ xs, SqL K H1 a xs) ∧ R (Itl K a) H1) ∨ ((∃ xs, SqT K H1 a xs) ∧ R (Itt K a) H1))
theorem pi_seq {l : Expr} {tl : TE} (hl : PE X l tl) : PI X tg l (iSeq X.K tl) := by
  refine ⟨fun pins s σ H R I h => ?_⟩
  refine thn (hl.run pins s σ H _ I h) fun v s1 ⟨x, H1, I1, r1, q1⟩ => ?_
  obtain ⟨a, e, q1⟩ := q1
  subst e
  cases r1
  rcases q1 with ⟨⟨xs, hq⟩, q⟩ | ⟨⟨xs, hq⟩, q⟩
  · obtain ⟨its, rv, p, hz⟩ := I1.list hq
    refine wpAny_pyIter_list p.isList ?_
    refine ⟨s1.heap.objs.size, [s1.heap.objs.size], _, _, H1, rfl, I1.kept (t' := s1.toks) fun b o e => Heap.get?_push_of_some _ e, turn_list a _, ⟨_, Heap.get?_push_size _ rfl, rfl, rfl⟩, fun b hb => ?_, q⟩
    have e : b = s1.heap.objs.size := by simpa using hb
    subst e
    exact I1.fpOk (Nat.le_refl _) (I1.hok.fresh (Nat.le_refl _))
  · obtain ⟨its, rv, p, hz⟩ := I1.tuple hq
    refine wpAny_pyIter_tuple (show s1.heap.IsTuple a its.toArray from p) ?_
    refine ⟨s1.heap.objs.size, [s1.heap.objs.size], _, _, H1, rfl, I1.kept (t' := s1.toks) fun b o e => Heap.get?_push_of_some _ e, turn_tuple a _, ⟨_, Heap.get?_push_size _ rfl, rfl, rfl⟩, fun b hb => ?_, q⟩
    have e : b = s1.heap.objs.size := by simpa using hb
    subst e
    exact I1.fpOk (Nat.le_refl _) (I1.hok.fresh (Nat.le_refl _))
theorem src_list {K : PySem.W.Frag} {H0 : Hp} {M0 : Mset} {a : Addr} {vs : List V} {ds : List D} (h : Rd H0 a (.lst vs)) (n : ¬ M0 a) (r : Reps K H0 M0 vs ds) : Src K (Itl K a) ds H0 M0 where
  go := fun H M l i hi => walk_list.goes i H (by rw [r.length]; exact hi) (.inl (l a _ h n).1)
  stop := fun H M l => by rw [← r.length]; exact walk_list.stops H (.inl (l a _ h n).1)
  yld := fun H M l i d x H' ed y => by
    obtain ⟨v, hv, rv⟩ := r.get ed
    obtain ⟨e1, e2⟩ := walk_list.yields i H x H' (by rw [r.length]; exact (List.getElem?_eq_some_iff.mp ed).1) (.inl (l a _ h n).1) y
    rw [hv] at e2; cases e2
    exact .inl ⟨e1, rv.tr l⟩
theorem tupAt_lat {K : PySem.W.Frag} {H0 H : Hp} {M0 M : Mset} {a : Addr} {vs : List V} (h : TupAt K H0 M0 a vs) (l : Lat H0 M0 H M) : SqT K H a vs := by
  rcases h with ⟨h, n⟩ | h
  · exact .inl (l a _ h n).1
  · exact .inr h
theorem src_tup {K : PySem.W.Frag} {H0 : Hp} {M0 : Mset} {a : Addr} {vs : List V} {ds : List D} (h : TupAt K H0 M0 a vs) (r : Reps K H0 M0 vs ds) : Src K (Itt K a) ds H0 M0 where
  go := fun H M l i hi => walk_tup.goes i H (by rw [r.length]; exact hi) (tupAt_lat h l)
  stop := fun H M l => by rw [← r.length]; exact walk_tup.stops H (tupAt_lat h l)
  yld := fun H M l i d x H' ed y => by
    obtain ⟨v, hv, rv⟩ := r.get ed
    obtain ⟨e1, e2⟩ := walk_tup.yields i H x H' (by rw [r.length]; exact (List.getElem?_eq_some_iff.mp ed).1) (tupAt_lat h l) y
    rw [hv] at e2; cases e2
    exact .inl ⟨e1, rv.tr l⟩
def itemsOf : D → Option (List D)
  | .list ds => some ds
  | .tuple ds => some ds
  | _ => none
def mISeq (me : ME) : MI := fun ρ => match me ρ with
  | some (pr, ρ1) => match frz ρ1 pr with
    | some (d, ρ2) => match itemsOf d with
      | some ds => some (ds, ρ2)
      | none => none
    | none => none
  | none => none
theorem di_seq {me : ME} (he : DE X e me) : DI X tg e (mISeq me) := PI.imp (pi_seq he) fun σ H R ⟨ρ, M, O, π, ds, ρ', h, e, q⟩ => by
  unfold mISeq at e
  split at e
  · rename_i pr ρ1 e1
    split at e
    · rename_i d ρ2 e2
      split at e
      · rename_i ds' e3
        cases e
        refine ⟨ρ, M, O, π, pr, ρ1, h, e1, fun v H1 M1 x1 s1 r1 => ?_⟩
        obtain ⟨M2, x2, s2, r2⟩ := frz_ok s1 r1 e2
        unfold itemsOf at e3
        split at e3
        · cases e3
          cases r2 with
          | lst hr n rr => exact ⟨_, rfl, .inl ⟨⟨_, .inl hr⟩, q _ H1 M2 (x1.trans x2) s2 (src_list hr n rr)⟩⟩
        · cases e3
          cases r2 with
          | tup ht rr => exact ⟨_, rfl, .inr ⟨⟨_, ht.sq⟩, q _ H1 M2 (x1.trans x2) s2 (src_tup ht rr)⟩⟩
        · cases e3
      · cases e
    · cases e
  · cases e
/-- range -/
def rngD (lo : Int) (n : Nat) : List D := (List.range n).map fun k => .int (lo + (k : Nat))
theorem rngD_len (lo : Int) (n : Nat) : (rngD lo n).length = n := by unfold rngD; simp
theorem src_rng {K : PySem.W.Frag} {H0 : Hp} {M0 : Mset} {lo : Int} {n : Nat} : Src K (Itr lo n) (rngD lo n) H0 M0 where
  go := fun H M l i hi => by rw [rngD_len] at hi; exact hi
  stop := fun H M l => by rw [rngD_len]; exact Nat.le_refl _
  yld := fun H M l i d x H' ed y => by
    obtain ⟨e1, e2⟩ := y
    subst e2
    refine .inl ⟨e1, ?_⟩
    unfold rngD at ed
    rw [List.getElem?_map] at ed
    obtain ⟨k, ek, rfl⟩ := Option.map_eq_some_iff.mp ed
    have hk : k = i := by
      obtain ⟨h1, h2⟩ := List.getElem?_eq_some_iff.mp ek
      simpa using h2.symm
    subst hk
    exact .int _
def rngOk (i : Int) : Bool := decide (-(2 ^ 62) ≤ i ∧ i < 2 ^ 62)
def mIRng1 (ma : MA) : MI := fun ρ => match ma ρ with
  | some ([.int j], ρ1) => if rngOk j = true then some (rngD 0 j.toNat, ρ1) else none
  | _ => none
def mIRng2 (ma : MA) : MI := fun ρ => match ma ρ with
  | some ([.int i, .int j], ρ1) => if (rngOk i && rngOk j) = true then some (rngD i (j - i).toNat, ρ1) else none
  | _ => none
theorem di_rng1 {a : Expr} {ma : MA} {p : Pos} (hg : Gl X "range") (hm : X.mg "range" = none) (ha : DA X [a] ma) (hs : starEach [a] X.env = [(false, eval a X.env)] := by rfl) : DI X tg (.Call (.Name "range" p) [a] [] pos) (mIRng1 ma) :=
  PI.imp (pi_range1 hg hm ha hs) fun σ H R ⟨ρ, M, O, π, ds, ρ', h, e, q⟩ => by
    unfold mIRng1 at e
    split at e
    · rename_i j ρ1 e1
      split at e
      · rename_i hz
        cases e
        have hz' := of_decide_eq_true hz
        refine ⟨ρ, M, O, π, _, _, h, e1, fun vs H1 M1 x1 s1 r1 => ?_⟩
        cases r1 with
        | cons rv rr =>
          cases rr
          cases rv
          exact ⟨j, rfl, hz'.1, hz'.2, q _ H1 M1 x1 s1 src_rng⟩
      · cases e
    · cases e
theorem di_rng2 {a b : Expr} {ma : MA} {p : Pos} (hg : Gl X "range") (hm : X.mg "range" = none) (ha : DA X [a, b] ma) (hs : starEach [a, b] X.env = [(false, eval a X.env), (false, eval b X.env)] := by rfl) (hs2 : starEach [b] X.env = [(false, eval b X.env)] := by rfl) : DI X tg (.Call (.Name "range" p) [a, b] [] pos) (mIRng2 ma) :=
  PI.imp (pi_range2 hg hm ha hs hs2) fun σ H R ⟨ρ, M, O, π, ds, ρ', h, e, q⟩ => by
    unfold mIRng2 at e
    split at e
    · rename_i i j ρ1 e1
      split at e
      · rename_i hz
        cases e
        rw [Bool.and_eq_true] at hz
        have hz1 := of_decide_eq_true hz.1
        have hz2 := of_decide_eq_true hz.2
        refine ⟨ρ, M, O, π, _, _, h, e1, fun vs H1 M1 x1 s1 r1 => ?_⟩
        cases r1 with
        | cons rv rr =>
          cases rr with
          | cons rw' rr =>
            cases rr
            cases rv
            cases rw'
            exact ⟨i, j, rfl, ⟨hz1.1, hz1.2, hz2.1, hz2.2⟩, q _ H1 M1 x1 s1 src_rng⟩
      · cases e
    · cases e
/-- zip, enumerate -/
def zipD : List D → List D → List D
  | x :: xs, y :: ys => .tuple [x, y] :: zipD xs ys
  | _, _ => []
theorem zipD_len : ∀ xs ys : List D, (zipD xs ys).length = min xs.length ys.length
  | [], _ => by simp [zipD]
  | _ :: _, [] => by simp [zipD]
  | x :: xs, y :: ys => by
    show (zipD xs ys).length + 1 = min (xs.length + 1) (ys.length + 1)
    rw [zipD_len xs ys]; omega
theorem zipD_get : ∀ {xs ys : List D} {i : Nat} {d : D}, (zipD xs ys)[i]? = some d → ∃ x y, xs[i]? = some x ∧ ys[i]? = some y ∧ d = .tuple [x, y]
  | [], _, _, _, h => by simp [zipD] at h
  | _ :: _, [], _, _, h => by simp [zipD] at h
  | x :: xs, y :: ys, 0, d, h => ⟨x, y, rfl, rfl, (Option.some.inj (show some (PyData.tuple [x, y]) = some d from h)).symm⟩
  | x :: xs, y :: ys, i + 1, d, h => by
    obtain ⟨a, b, h1, h2, h3⟩ := zipD_get (xs := xs) (ys := ys) (i := i) (d := d) (by simpa [zipD] using h)
    exact ⟨a, b, by simpa using h1, by simpa using h2, h3⟩
theorem yd_pair {K : PySem.W.Frag} {H : Hp} {M : Mset} {x : V} {H' : Hp} {f g : Nat → Option V} {i : Nat} {a b : D} {va vb : V} (y : YPair f g i H x H') (ha : f i = some va) (hb : g i = some vb) (ra : Rep K H M va a) (rb : Rep K H M vb b) : YD K H M x H' (.tuple [a, b]) := by
  obtain ⟨T, p, q, rfl, hT, rfl, h1, h2⟩ := y
  rw [ha] at h1; cases h1
  rw [hb] at h2; cases h2
  exact .inr ⟨T, _, _, rfl, hT, rfl, rfl, .cons ra (.cons rb .nil)⟩
theorem src_zipL {K : PySem.W.Frag} {H0 : Hp} {M0 : Mset} {a b : Addr} {vs ws : List V} {xs ys : List D} (h : Rd H0 a (.lst vs)) (n : ¬ M0 a) (r : Reps K H0 M0 vs xs) (h2 : Rd H0 b (.lst ws)) (n2 : ¬ M0 b) (r2 : Reps K H0 M0 ws ys) : Src K (Itz K a b) (zipD xs ys) H0 M0 := by
  have W := walk_zip (K := K) (a := a) (b := b) (xs := vs) (ys := ws) rfl
  have G : ∀ {H : Hp} {M : Mset}, Lat H0 M0 H M → SqL K H a vs ∧ SqL K H b ws := fun l => ⟨.inl (l a _ h n).1, .inl (l b _ h2 n2).1⟩
  refine ⟨fun H M l i hi => W.goes i H (by rw [r.length, r2.length, ← zipD_len]; exact hi) (G l), fun H M l => by rw [zipD_len, ← r.length, ← r2.length]; exact W.stops H (G l), fun H M l i d x H' ed y => ?_⟩
  obtain ⟨p, q, e1, e2, rfl⟩ := zipD_get ed
  obtain ⟨v, hv, rv⟩ := r.get e1
  obtain ⟨w, hw, rw'⟩ := r2.get e2
  exact yd_pair (W.yields i H x H' (by rw [r.length, r2.length, ← zipD_len]; exact (List.getElem?_eq_some_iff.mp ed).1) (G l) y) hv hw (rv.tr l) (rw'.tr l)
theorem src_zipT {K : PySem.W.Frag} {H0 : Hp} {M0 : Mset} {a b : Addr} {vs ws : List V} {xs ys : List D} (h : TupAt K H0 M0 a vs) (r : Reps K H0 M0 vs xs) (h2 : TupAt K H0 M0 b ws) (r2 : Reps K H0 M0 ws ys) : Src K (RZ.ItzT K a b) (zipD xs ys) H0 M0 := by
  refine ⟨fun H M l i hi => ?_, fun H M l => ⟨vs, ws, tupAt_lat h l, tupAt_lat h2 l, ?_⟩, fun H M l i d x H' ed y => ?_⟩
  · rw [zipD_len, ← r.length, ← r2.length] at hi
    have h1 : i < vs.length := by omega
    have h3 : i < ws.length := by omega
    exact ⟨vs, ws, vs[i], ws[i], tupAt_lat h l, tupAt_lat h2 l, by simp [h1], by simp [h3]⟩
  · rw [zipD_len, ← r.length, ← r2.length]; omega
  · obtain ⟨p, q, e1, e2, rfl⟩ := zipD_get ed
    obtain ⟨v, hv, rv⟩ := r.get e1
    obtain ⟨w, hw, rw'⟩ := r2.get e2
    obtain ⟨T, vx, vy, rfl, hT, rfl, f1, f2⟩ := y
    have g1 := f1 vs (tupAt_lat h l)
    have g2 := f2 ws (tupAt_lat h2 l)
    rw [hv] at g1; cases g1
    rw [hw] at g2; cases g2
    exact .inr ⟨T, _, _, rfl, hT, rfl, rfl, .cons (rv.tr l) (.cons (rw'.tr l) .nil)⟩
def mIZip (ma : MA) : MI := fun ρ => match ma ρ with
  | some ([.list xs, .list ys], ρ1) => some (zipD xs ys, ρ1)
  | some ([.tuple xs, .tuple ys], ρ1) => some (zipD xs ys, ρ1)
  | _ => none
theorem di_zip {a b : Expr} {ma : MA} {p tpos : Pos} {elts : List Expr} {kk : Nat} (hg : Gl X "zip") (hm : X.mg "zip" = none) (ha : DA X [a, b] ma)
    (hs : starEach [a, b] X.env = (false, eval a X.env) :: starEach [b] X.env := by rfl) (hpl : (backTo pos (starEach [b] X.env)).any (·.1) = false := by rfl) : DI X (.Tuple elts kk tpos) (.Call (.Name "zip" p) [a, b] [] pos) (mIZip ma) :=
  PI.imp (RZ.pi_zipA hg hm ha hs hpl) fun σ H R ⟨ρ, M, O, π, ds, ρ', h, e, q⟩ => by
    unfold mIZip at e
    split at e
    · rename_i xs ys ρ1 e1
      cases e
      refine ⟨ρ, M, O, π, _, _, h, e1, fun vs H1 M1 x1 s1 r1 => ?_⟩
      cases r1 with
      | cons rv rr =>
        cases rr with
        | cons rw' rr =>
          cases rr
          cases rv with
          | lst hr n rr => cases rw' with
            | lst hr2 n2 rr2 => exact ⟨_, _, _, _, rfl, .inl ⟨.inl hr, .inl hr2, q _ H1 M1 x1 s1 (src_zipL hr n rr hr2 n2 rr2)⟩⟩
    · rename_i xs ys ρ1 e1
      cases e
      refine ⟨ρ, M, O, π, _, _, h, e1, fun vs H1 M1 x1 s1 r1 => ?_⟩
      cases r1 with
      | cons rv rr =>
        cases rr with
        | cons rw' rr =>
          cases rr
          cases rv with
          | tup hr rr => cases rw' with
            | tup hr2 rr2 => exact ⟨_, _, _, _, rfl, .inr ⟨hr.sq, hr2.sq, q _ H1 M1 x1 s1 (src_zipT hr rr hr2 rr2)⟩⟩
    · cases e
def enumD (k : Nat) : List D → List D
  | [] => []
  | x :: xs => .tuple [.int (k : Nat), x] :: enumD (k + 1) xs
theorem enumD_len : ∀ (k : Nat) (xs : List D), (enumD k xs).length = xs.length
  | _, [] => rfl
  | k, x :: xs => by show (enumD (k + 1) xs).length + 1 = _; rw [enumD_len (k + 1) xs]; rfl
theorem enumD_get : ∀ {k : Nat} {xs : List D} {i : Nat} {d : D}, (enumD k xs)[i]? = some d → ∃ x, xs[i]? = some x ∧ d = .tuple [.int ((k + i : Nat) : Int), x]
  | _, [], _, _, h => by simp [enumD] at h
  | k, x :: xs, 0, d, h => ⟨x, rfl, (Option.some.inj (show some (PyData.tuple [.int (k : Nat), x]) = some d from h)).symm⟩
  | k, x :: xs, i + 1, d, h => by
    obtain ⟨a, h1, h2⟩ := enumD_get (k := k + 1) (xs := xs) (i := i) (d := d) (by simpa [enumD] using h)
    exact ⟨a, by simpa using h1, by rw [h2, show k + 1 + i = k + (i + 1) by omega]⟩
theorem src_enumL {K : PySem.W.Frag} {H0 : Hp} {M0 : Mset} {a : Addr} {vs : List V} {xs : List D} (h : Rd H0 a (.lst vs)) (n : ¬ M0 a) (r : Reps K H0 M0 vs xs) : Src K (Ite K a) (enumD 0 xs) H0 M0 := by
  have W := walk_enum (K := K) (a := a) (xs := vs)
  refine ⟨fun H M l i hi => W.goes i H (by rw [r.length, ← enumD_len 0]; exact hi) (.inl (l a _ h n).1), fun H M l => by rw [enumD_len, ← r.length]; exact W.stops H (.inl (l a _ h n).1), fun H M l i d x H' ed y => ?_⟩
  obtain ⟨p, e1, rfl⟩ := enumD_get ed
  obtain ⟨v, hv, rv⟩ := r.get e1
  rw [Nat.zero_add]
  exact yd_pair (W.yields i H x H' (by rw [r.length, ← enumD_len 0]; exact (List.getElem?_eq_some_iff.mp ed).1) (.inl (l a _ h n).1) y) rfl hv (.int _) (rv.tr l)
end

/-! ### for, while -/
section
variable {X : Cx} {tg iter c : Expr} {body : List Stmt} {pos : Pos} {mi : MI} {mg : MG} {mb : MS} {mt : MT} {ts : List Nat}
def loop (mg : MG) (mb : MS) : List D → Fm → Option (Fl × Fm)
  | [], ρ => some (.next, ρ)
  | d :: ds, ρ => match mg d ρ with
    | some ρ1 => match mb ρ1 with
      | some (.next, ρ2) => loop mg mb ds ρ2
      | some (.cont, ρ2) => loop mg mb ds ρ2
      | some (.brk, ρ2) => some (.next, ρ2)
      | some (.ret r, ρ2) => some (.ret r, ρ2)
      | none => none
    | none => none
def mFor (mi : MI) (mg : MG) (mb : MS) : MS := fun ρ => match mi ρ with
  | some (ds, ρ1) => loop mg mb ds ρ1
  | none => none
theorem ds_for (hp : PassesOwn (model X.prog X.w) X.A X.env X.xe) (hc : X.calm = true) (hi : DI X tg iter mi) (hg : DG X tg mg ts) (hb : DSs X body mb) (hs : ∀ x, foldedSetIterable iter X.env x = pure x := by intro _; rfl) : DS X (.For tg iter body [] pos) (mFor mi mg mb) :=
  PS.imp (ps_for hp hc hi hg hb hs) fun D σ H ⟨ρ, M, O, π, fl, ρ', h, e, q⟩ => by
    unfold mFor at e
    split at e
    · rename_i ds ρ1 e1
      refine ⟨ρ, M, O, π, ds, ρ1, h, e1, fun J H1 M1 x1 s1 src => ?_⟩
      have q1 := q.later (O1 := O) x1
      refine ⟨fun i m σ2 H2 => m = ds.length - i ∧ i ≤ ds.length ∧ ∃ ρ2 M2, SR X.K H2 M2 O π ρ2 σ2 ∧ Ext O H1 M1 H2 M2 ∧ loop mg mb (ds.drop i) ρ2 = some (fl, ρ'), ⟨_, rfl, Nat.zero_le _, ρ1, M1, s1, .refl s1, e⟩, ?_⟩
      rintro i m σ2 H2 ⟨rfl, hi2, ρ2, M2, s2, x2, e2⟩
      by_cases hlt : i < ds.length
      · rw [List.drop_eq_getElem_cons hlt] at e2
        have hd : ds[i]? = some ds[i] := List.getElem?_eq_getElem hlt
        refine .inr ⟨src.go H2 M2 x2.tr i hlt, fun σ3 H3 => ds.length - (i + 1) = ds.length - (i + 1) ∧ i + 1 ≤ ds.length ∧ ∃ ρ3 M3, SR X.K H3 M3 O π ρ3 σ3 ∧ Ext O H1 M1 H3 M3 ∧ loop mg mb (ds.drop (i + 1)) ρ3 = some (fl, ρ'), fun σ3 H3 w => ⟨_, by omega, w⟩, fun x H3 y => ?_⟩
        obtain ⟨s3, x3, r3⟩ := (src.yld H2 M2 x2.tr i _ x H3 hd y).ok s2
        unfold loop at e2
        split at e2
        · rename_i ρ3 e3
          refine ⟨ρ2, M2, O, π, _, ρ3, s3, r3, e3, fun σ4 s4 _ _ => ?_⟩
          have x23 := x2.trans x3
          split at e2
          · rename_i ρ5 e5
            exact ⟨ρ3, M2, O, π, .next, ρ5, s4, e5, fun σ5 H5 M5 x5 s5 => ⟨rfl, hlt, ρ5, M5, s5, x23.trans x5, e2⟩⟩
          · rename_i ρ5 e5
            exact ⟨ρ3, M2, O, π, .cont, ρ5, s4, e5, fun σ5 H5 M5 x5 s5 => ⟨rfl, hlt, ρ5, M5, s5, x23.trans x5, e2⟩⟩
          · rename_i ρ5 e5
            cases e2
            exact ⟨ρ3, M2, O, π, .brk, _, s4, e5, fun σ5 H5 M5 x5 s5 => q1 σ5 H5 M5 (x23.trans x5) s5⟩
          · rename_i r ρ5 e5
            cases e2
            exact ⟨ρ3, M2, O, π, .ret r, _, s4, e5, fun v σ5 H5 M5 x5 s5 rv => q1 v σ5 H5 M5 (x23.trans x5) s5 rv⟩
          · cases e2
        · cases e2
      · have ei : i = ds.length := by omega
        subst ei
        rw [List.drop_length] at e2
        cases e2
        exact .inl ⟨src.stop H2 M2 x2.tr, q1 σ2 H2 M2 x2 s2⟩
    · cases e
def whl (mt : MT) (mb : MS) : Nat → Fm → Option (Fl × Fm)
  | 0, _ => none
  | n + 1, ρ => match mt ρ with
    | some (false, ρ1) => some (.next, ρ1)
    | some (true, ρ1) => match mb ρ1 with
      | some (.next, ρ2) => whl mt mb n ρ2
      | some (.cont, ρ2) => whl mt mb n ρ2
      | some (.brk, ρ2) => some (.next, ρ2)
      | some (.ret r, ρ2) => some (.ret r, ρ2)
      | none => none
    | none => none
theorem ds_while {n : Nat} (hp : PassesOwn (model X.prog X.w) X.A X.env X.xe) (hc : DT X c mt) (hb : DSs X body mb) : DS X (.While c body [] pos) (whl mt mb n) :=
  PS.imp (ps_while hp hc hb) fun D σ H ⟨ρ, M, O, π, fl, ρ', h, e, q⟩ => by
    refine ⟨fun m σ2 H2 => ∃ ρ2 M2, SR X.K H2 M2 O π ρ2 σ2 ∧ Ext O H M H2 M2 ∧ whl mt mb m ρ2 = some (fl, ρ'), ⟨n, ρ, M, h, .refl h, e⟩, ?_⟩
    rintro m σ2 H2 ⟨ρ2, M2, s2, x2, e2⟩
    cases m with
    | zero => cases e2
    | succ m =>
      unfold whl at e2
      split at e2
      · rename_i ρ3 e3
        cases e2
        exact ⟨ρ2, M2, O, π, false, _, s2, e3, fun H3 M3 x3 s3 => iteF (q σ2 H3 M3 (x2.trans x3) s3)⟩
      · rename_i ρ3 e3
        refine ⟨ρ2, M2, O, π, true, ρ3, s2, e3, fun H3 M3 x3 s3 => iteT ?_⟩
        have x23 := x2.trans x3
        refine ⟨fun σ5 H5 => ∃ ρ5 M5, SR X.K H5 M5 O π ρ5 σ5 ∧ Ext O H M H5 M5 ∧ whl mt mb m ρ5 = some (fl, ρ'), fun σ5 H5 w => ⟨m, Nat.lt_succ_self m, w⟩, ?_⟩
        split at e2
        · rename_i ρ5 e5
          exact ⟨ρ3, M3, O, π, .next, ρ5, s3, e5, fun σ5 H5 M5 x5 s5 => ⟨ρ5, M5, s5, x23.trans x5, e2⟩⟩
        · rename_i ρ5 e5
          exact ⟨ρ3, M3, O, π, .cont, ρ5, s3, e5, fun σ5 H5 M5 x5 s5 => ⟨ρ5, M5, s5, x23.trans x5, e2⟩⟩
        · rename_i ρ5 e5
          cases e2
          exact ⟨ρ3, M3, O, π, .brk, _, s3, e5, fun σ5 H5 M5 x5 s5 => q σ5 H5 M5 (x23.trans x5) s5⟩
        · rename_i r ρ5 e5
          cases e2
          exact ⟨ρ3, M3, O, π, .ret r, _, s3, e5, fun v σ5 H5 M5 x5 s5 rv => q v σ5 H5 M5 (x23.trans x5) s5 rv⟩
        · cases e2
      · cases e2
end
end Vi

namespace Vi
open PySem PySem.Spec PyProof.Rows L2

/-! ### slots forgotten and brought back -/
section
variable {α : Type}
def wipeA (l : List (Option α)) : List Nat → List (Option α)
  | [] => l
  | v :: vs => (wipeA l vs).set v none
theorem wipeA_len (l : List (Option α)) : ∀ vs, (wipeA l vs).length = l.length
  | [] => rfl
  | v :: vs => by unfold wipeA; rw [List.length_set, wipeA_len l vs]
theorem wipeA_out {l : List (Option α)} {i : Nat} : ∀ {vs : List Nat}, i ∉ vs → (wipeA l vs)[i]? = l[i]?
  | [], _ => rfl
  | v :: vs, h => by
    rw [List.mem_cons, not_or] at h
    unfold wipeA
    rw [List.getElem?_set_ne (Ne.symm h.1), wipeA_out h.2]
theorem wipeA_in {l : List (Option α)} {i : Nat} : ∀ {vs : List Nat}, i ∈ vs → i < l.length → (wipeA l vs)[i]? = some none
  | [], h, _ => by cases h
  | v :: vs, h, hl => by
    unfold wipeA
    by_cases e : v = i
    · subst e
      rw [List.getElem?_set_self (by rw [wipeA_len]; exact hl)]
    · rw [List.getElem?_set_ne e]
      rcases List.mem_cons.mp h with z | z
      · exact absurd z.symm e
      · exact wipeA_in z hl
theorem wipeA_some {l : List (Option α)} {i : Nat} {x : α} {vs : List Nat} (h : (wipeA l vs)[i]? = some (some x)) : l[i]? = some (some x) ∧ i ∉ vs := by
  by_cases hi : i ∈ vs
  · by_cases hl : i < l.length
    · rw [wipeA_in hi hl] at h; cases h
    · rw [List.getElem?_eq_none (by rw [wipeA_len]; omega)] at h; cases h
  · rw [wipeA_out hi] at h; exact ⟨h, hi⟩
theorem wipeA_ext {l l' : List (Option α)} {vs : List Nat} (h : ∀ j, j ∉ vs → l[j]? = l'[j]?) (hl : l.length = l'.length) : wipeA l vs = wipeA l' vs := by
  apply List.ext_getElem?
  intro i
  by_cases hi : i ∈ vs
  · by_cases hn : i < l.length
    · rw [wipeA_in hi hn, wipeA_in hi (by omega)]
    · rw [List.getElem?_eq_none (by rw [wipeA_len]; omega), List.getElem?_eq_none (by rw [wipeA_len]; omega)]
  · rw [wipeA_out hi, wipeA_out hi, h i hi]
theorem wipe_eq (σ : St) : ∀ vs, wipe σ vs = wipeA σ vs
  | [] => rfl
  | v :: vs => by unfold wipe wipeA; rw [wipe_eq σ vs]
def restA (l l1 : List (Option α)) : List Nat → List (Option α)
  | [] => l
  | v :: vs => (restA l l1 vs).set v ((l1[v]?).getD none)
theorem restA_len (l l1 : List (Option α)) : ∀ vs, (restA l l1 vs).length = l.length
  | [] => rfl
  | v :: vs => by unfold restA; rw [List.length_set, restA_len l l1 vs]
theorem restA_out {l l1 : List (Option α)} {i : Nat} : ∀ {vs : List Nat}, i ∉ vs → (restA l l1 vs)[i]? = l[i]?
  | [], _ => rfl
  | v :: vs, h => by
    rw [List.mem_cons, not_or] at h
    unfold restA
    rw [List.getElem?_set_ne (Ne.symm h.1), restA_out h.2]
theorem restA_in {l l1 : List (Option α)} {i : Nat} : ∀ {vs : List Nat}, i ∈ vs → i < l.length → (restA l l1 vs)[i]? = some ((l1[i]?).getD none)
  | [], h, _ => by cases h
  | v :: vs, h, hl => by
    unfold restA
    by_cases e : v = i
    · subst e
      rw [List.getElem?_set_self (by rw [restA_len]; exact hl)]
    · rw [List.getElem?_set_ne e]
      rcases List.mem_cons.mp h with z | z
      · exact absurd z.symm e
      · exact restA_in z hl
end
section
variable {K : PySem.W.Frag} {H H' H1 : Hp} {M M' M1 O O' : Mset} {π : Nat → Option Addr} {ρ ρ1 ρ2 : Fm} {σ : St} {vs : List Nat} {p : Addr}
theorem SR.wipe (h : SR K H M O π ρ σ) (vs : List Nat) : SR K H M O π (wipeA ρ vs) (wipeA σ vs) := by
  refine ⟨by rw [wipeA_len, wipeA_len]; exact h.len, h.sub, h.live, fun i d e => ?_, fun i b ds e => ?_, fun i j b c ds es a hij e f g => ?_⟩
  · obtain ⟨e1, n⟩ := wipeA_some e
    rw [wipeA_out n]; exact h.imm i d e1
  · obtain ⟨e1, n⟩ := wipeA_some e
    rw [wipeA_out n]; exact h.own i b ds e1
  · obtain ⟨e1, n⟩ := wipeA_some e
    obtain ⟨f1, n2⟩ := wipeA_some f
    rw [wipeA_out n] at g
    rw [wipeA_out n2]; exact h.uniq i j b c ds es a hij e1 f1 g
def vsOk (ρ : Fm) (vs : List Nat) : Bool := vs.all fun i => match ρ[i]? with
  | some (some (.own _ _)) => false
  | _ => true
theorem vsOk_own (h : vsOk ρ vs = true) {i : Nat} (hi : i ∈ vs) {b : Kd} {ds : List D} (e : ρ[i]? = some (some (.own b ds))) : False := by
  have := List.all_eq_true.mp h i hi
  rw [e] at this
  cases this
theorem SR.unwipe (h1 : SR K H1 M1 O π ρ1 σ) (ok : vsOk ρ1 vs = true) (h2 : SR K H M O π ρ2 (wipeA σ vs)) (l : Lat H1 M1 H M) : SR K H M O π (restA ρ2 ρ1 vs) σ := by
  have len : ρ2.length = σ.length := by rw [h2.len, wipeA_len]
  have get : ∀ {i : Nat} {s : Sv}, (restA ρ2 ρ1 vs)[i]? = some (some s) → (i ∈ vs ∧ ρ1[i]? = some (some s)) ∨ (i ∉ vs ∧ ρ2[i]? = some (some s)) := fun {i s} e => by
    by_cases hi : i ∈ vs
    · by_cases hl : i < ρ2.length
      · rw [restA_in hi hl] at e
        refine .inl ⟨hi, ?_⟩
        cases q : ρ1[i]? with
        | none => rw [q] at e; cases e
        | some x => rw [q] at e; exact e
      · rw [List.getElem?_eq_none (by rw [restA_len]; omega)] at e; cases e
    · rw [restA_out hi] at e; exact .inr ⟨hi, e⟩
  refine ⟨by rw [restA_len]; exact len, h2.sub, h2.live, fun i d e => ?_, fun i b ds e => ?_, fun i j b c ds es a hij e f g => ?_⟩
  · rcases get e with ⟨hi, e⟩ | ⟨hi, e⟩
    · obtain ⟨v, f1, f2⟩ := h1.imm i d e
      exact ⟨v, f1, f2.tr l⟩
    · obtain ⟨v, f1, f2⟩ := h2.imm i d e
      rw [wipeA_out hi] at f1
      exact ⟨v, f1, f2⟩
  · rcases get e with ⟨hi, e⟩ | ⟨hi, e⟩
    · exact (vsOk_own ok hi e).elim
    · obtain ⟨x, vs', f1, f2⟩ := h2.own i b ds e
      rw [wipeA_out hi] at f1
      exact ⟨x, vs', f1, f2⟩
  · rcases get e with ⟨hi, e⟩ | ⟨hi, e⟩
    · exact (vsOk_own ok hi e).elim
    · rcases get f with ⟨hj, f⟩ | ⟨hj, f⟩
      · exact (vsOk_own ok hj f).elim
      · have := h2.uniq i j b c ds es a hij e f (by rw [wipeA_out hi]; exact g)
        rw [wipeA_out hj] at this
        exact this
/-- a held list is written -/
theorem upd_lat {o : HO} (hM : M p) : Lat H M (upd H p o) M := fun a u q n => by
  have ne : a ≠ p := fun z => n (z ▸ hM)
  refine ⟨?_, n⟩
  rcases q with q | ⟨o', q⟩
  · exact .inl (by rw [upd_ne ne]; exact q)
  · exact .inr ⟨o', by rw [upd_ne ne]; exact q⟩
theorem SR.writeO {o : HO} (h : SR K H M O π ρ σ) (hM : M p) (hO : O p) : SR K (upd H p o) M O π ρ σ := by
  refine ⟨h.len, h.sub, fun a q => ?_, fun i d e => ?_, fun i b ds e => ?_, h.uniq⟩
  · by_cases ha : a = p
    · subst ha; rw [upd_same]; intro z; cases z
    · rw [upd_ne ha]; exact h.live a q
  · obtain ⟨v, e1, r⟩ := h.imm i d e
    exact ⟨v, e1, r.tr (upd_lat hM)⟩
  · obtain ⟨a, ws, e1, e2, e3, e4, r, e5⟩ := h.own i b ds e
    exact ⟨a, ws, e1, by rw [upd_ne (fun z => e4 (by rw [z]; exact hO))]; exact e2, e3, e4, r.tr (upd_lat hM), e5⟩
theorem Ext.updM {o : HO} (x : Ext O H1 M1 H M) (hM : M1 p) (hO : ¬ O p) : Ext O H1 M1 (upd H p o) M :=
  ⟨fun a u e q => by rw [upd_ne (fun z => by subst z; exact q.elim hO fun n => n hM)]; exact x.keep a u e q, x.sub, x.new⟩
end

/-! ### comprehensions -/
section
variable {mg : MG} {mt : MT} {me : ME} {vs ts : List Nat}
def cloop (mg : MG) (mt : MT) (me : ME) (vs : List Nat) : List D → Fm → Option (List D × Fm)
  | [], ρ => some ([], ρ)
  | d :: ds, ρ => match mg d ρ with
    | some ρ1 => match mt ρ1 with
      | some (true, ρ2) => match me ρ2 with
        | some (pr, ρ3) => match frz ρ3 pr with
          | some (e, ρ4) => match cloop mg mt me vs ds (wipeA ρ4 vs) with
            | some (es, ρ5) => some (e :: es, ρ5)
            | none => none
          | none => none
        | none => none
      | some (false, ρ2) => cloop mg mt me vs ds (wipeA ρ2 vs)
      | none => none
    | none => none
theorem cread {K : PySem.W.Frag} (hts : ∀ i ∈ ts, i ∈ vs) {J : It} {ds : List D} {H0 Hs : Hp} {M0 Ms O : Mset} {π : Nat → Option Addr} {σ : St} {Dd : Addr} {ρa ρ2 : Fm} {es ea : List D} {acc : List V} {Qd : Hp → Prop}
    (src : Src K J ds H0 M0) (l : Lat H0 M0 Hs Ms) (s : SR K Hs Ms (wth O Dd) π ρa (wipeA σ vs)) (hO : ¬ O Dd) (hA : Hs Dd = some (.lst acc)) (hR : Reps K Hs Ms acc ea) (hz : ea.length + es.length ≤ sizeLine)
    (e : cloop mg mt me vs ds ρa = some (es, ρ2)) (hq : ∀ H M acc', Ext O Hs Ms H M → SR K H M (wth O Dd) π ρ2 (wipeA σ vs) → H Dd = some (.lst acc') → Reps K H M acc' (ea ++ es) → Qd H) :
    ∃ W : Nat → Nat → Hp → Prop, (∃ m, W 0 m Hs) ∧ ∀ i m H, W i m H →
      (J.stop i H ∧ Qd H) ∨ (J.go i H ∧ ∃ Nx : Hp → Prop, (∀ H', Nx H' → ∃ m', m' < m ∧ W (i + 1) m' H') ∧ ∀ x H', J.yld i H x H' → tG K mg ts x (wipe σ vs) H' fun σ2 H2 => wipe σ2 vs = wipe σ vs ∧ tT K mt σ2 H2 fun b H3 =>
        if b = true then tE K me σ2 H3 fun y H4 => ∃ acc, H4 Dd = some (.lst acc) ∧ acc.length < sizeLine ∧ Nx (upd H4 Dd (.lst (acc ++ [y]))) else Nx H3) := by
  have hMs : Ms Dd := s.sub Dd (.inr rfl)
  have less : ∀ a, O a → wth O Dd a := fun a q => .inl q
  refine ⟨fun i m H => m = ds.length - i ∧ i ≤ ds.length ∧ ∃ ρb M acc' eb es', SR K H M (wth O Dd) π ρb (wipeA σ vs) ∧ Ext O Hs Ms H M ∧ H Dd = some (.lst acc') ∧ Reps K H M acc' eb ∧ cloop mg mt me vs (ds.drop i) ρb = some (es', ρ2) ∧ ea ++ es = eb ++ es',
    ⟨_, rfl, Nat.zero_le _, ρa, Ms, acc, ea, es, s, .refl (s.less less), hA, hR, e, rfl⟩, ?_⟩
  rintro i m H ⟨rfl, hi, ρb, M, acc', eb, es', sb, xb, hAb, hRb, eb', eq⟩
  have lb : Lat H0 M0 H M := l.trans xb.tr
  by_cases hlt : i < ds.length
  · rw [List.drop_eq_getElem_cons hlt] at eb'
    have hd : ds[i]? = some ds[i] := List.getElem?_eq_getElem hlt
    refine .inr ⟨src.go H M lb i hlt, fun H' => ds.length - (i + 1) = ds.length - (i + 1) ∧ i + 1 ≤ ds.length ∧ ∃ ρb M acc' eb es', SR K H' M (wth O Dd) π ρb (wipeA σ vs) ∧ Ext O Hs Ms H' M ∧ H' Dd = some (.lst acc') ∧ Reps K H' M acc' eb ∧ cloop mg mt me vs (ds.drop (i + 1)) ρb = some (es', ρ2) ∧ ea ++ es = eb ++ es', fun H' w => ⟨_, by omega, w⟩, fun x H3 y => ?_⟩
    obtain ⟨s3, x3, r3⟩ := (src.yld H M lb i _ x H3 hd y).ok sb
    unfold cloop at eb'
    split at eb'
    · rename_i ρ3 e3
      rw [wipe_eq]
      refine ⟨ρb, M, wth O Dd, π, _, ρ3, s3, r3, e3, fun σ4 s4 fr ln => ?_⟩
      have hw : wipeA σ4 vs = wipeA σ vs := wipeA_ext (fun j hj => by rw [fr j (fun z => hj (hts j z)), wipeA_out hj]) (by rw [ln, wipeA_len])
      refine ⟨by rw [wipe_eq]; exact hw, ?_⟩
      split at eb'
      · rename_i ρ4 e4
        refine ⟨ρ3, M, wth O Dd, π, true, ρ4, s4, e4, fun H5 M5 x5 s5 => iteT ?_⟩
        split at eb'
        · rename_i pr ρ5 e5
          split at eb'
          · rename_i ee ρ6 e6
            split at eb'
            · rename_i es2 ρ7 e7
              cases eb'
              refine ⟨ρ4, M5, wth O Dd, π, pr, ρ5, s5, e5, fun v H6 M6 x6 s6 r6 => ?_⟩
              obtain ⟨M7, x7, s7, r7⟩ := frz_ok s6 r6 e6
              have xx : Ext (wth O Dd) H M H6 M7 := ((x3.trans x5).trans x6).trans x7
              have hA6 : H6 Dd = some (.lst acc') := xx.keep Dd _ hAb (.inl (.inr rfl))
              have hM7 : M7 Dd := s7.sub Dd (.inr rfl)
              have hl : acc'.length < sizeLine := by
                rw [hRb.length]
                have := congrArg List.length eq
                rw [List.length_append, List.length_append, List.length_cons] at this
                omega
              refine ⟨acc', hA6, hl, rfl, hlt, wipeA ρ6 vs, M7, acc' ++ [v], eb ++ [ee], es2, ?_, (xb.trans (xx.less less)).updM hMs hO, upd_same, ((hRb.tr xx.tr).append (.cons r7 .nil)).tr (upd_lat hM7), e7, ?_⟩
              · rw [← hw]; exact (s7.writeO hM7 (.inr rfl)).wipe vs
              · rw [eq, List.append_assoc]; rfl
            · cases eb'
          · cases eb'
        · cases eb'
      · rename_i ρ4 e4
        refine ⟨ρ3, M, wth O Dd, π, false, ρ4, s4, e4, fun H5 M5 x5 s5 => iteF ?_⟩
        have xx : Ext (wth O Dd) H M H5 M5 := x3.trans x5
        refine ⟨rfl, hlt, wipeA ρ4 vs, M5, acc', eb, es', ?_, xb.trans (xx.less less), xx.keep Dd _ hAb (.inl (.inr rfl)), hRb.tr xx.tr, eb', eq⟩
        rw [← hw]; exact s5.wipe vs
      · cases eb'
    · cases eb'
  · have ei : i = ds.length := by omega
    subst ei
    rw [List.drop_length] at eb'
    cases eb'
    rw [List.append_nil] at eq
    exact .inl ⟨src.stop H M lb, hq H M acc' xb sb hAb (by rw [eq]; exact hRb)⟩
def mComp (mi : MI) (mg : MG) (mt : MT) (me : ME) (vs : List Nat) : ME := fun ρ => match mi ρ with
  | some (ds, ρ1) => if vsOk ρ1 vs = true then match cloop mg mt me vs ds (wipeA ρ1 vs) with
    | some (es, ρ2) => if fits es.length = true then some (.val (.own .loc es), restA ρ2 ρ1 vs) else none
    | none => none
    else none
  | none => none
theorem comp_start {K : PySem.W.Frag} {H1 : Hp} {M1 O : Mset} {π : Nat → Option Addr} {ρ1 : Fm} {σ : St} {Dd : Addr} (s1 : SR K H1 M1 O π ρ1 σ) (hD : H1 Dd = none) (vs : List Nat) : SR K (upd H1 Dd (.lst [])) (wth M1 Dd) (wth O Dd) π (wipeA ρ1 vs) (wipeA σ vs) := by
  refine ((s1.allocOwn hD).wipe vs).more (fun a q => q.elim (fun z => .inl (s1.sub a z)) fun z => .inr z) fun i b ds a e1 e2 z => ?_
  obtain ⟨e3, hn⟩ := wipeA_some e1
  rw [wipeA_out hn] at e2
  obtain ⟨a', ws, f1, f2, f3, f4, _⟩ := s1.own i b ds e3
  rw [e2] at f1; cases f1
  rcases z with z | z
  · exact f4 z
  · rw [z, hD] at f2; cases f2
theorem comp_end {K : PySem.W.Frag} {H1 H : Hp} {M1 M O : Mset} {π : Nat → Option Addr} {ρ1 ρ2 : Fm} {σ : St} {Dd : Addr} {acc : List V} {es : List D} (s1 : SR K H1 M1 O π ρ1 σ) (hD : H1 Dd = none) (ok : vsOk ρ1 vs = true) (x : Ext O (upd H1 Dd (.lst [])) (wth M1 Dd) H M) (s : SR K H M (wth O Dd) π ρ2 (wipeA σ vs))
    (hA : H Dd = some (.lst acc)) (hR : Reps K H M acc es) : Ext O H1 M1 H M ∧ SR K H M O π (restA ρ2 ρ1 vs) σ ∧ RP K H M O (restA ρ2 ρ1 vs) σ (.val (.own .loc es)) (.ref Dd) := by
  have less : ∀ a, O a → wth O Dd a := fun a q => .inl q
  have x1 : Ext O H1 M1 H M := (Ext.allocOwn s1 hD).trans x
  have hO : ¬ O Dd := fun z => s1.live Dd (s1.sub Dd z) hD
  refine ⟨x1, s1.unwipe ok (s.less less) x1.tr, Dd, acc, rfl, hA, s.sub Dd (.inr rfl), hO, hR, fun i b ds e1 e2 => ?_⟩
  by_cases hi : i ∈ vs
  · by_cases hl : i < ρ2.length
    · rw [restA_in hi hl] at e1
      cases q : ρ1[i]? with
      | none => rw [q] at e1; cases e1
      | some z => rw [q] at e1; exact vsOk_own ok hi (q.trans e1)
    · rw [List.getElem?_eq_none (by rw [restA_len]; omega)] at e1; cases e1
  · rw [restA_out hi] at e1
    obtain ⟨a', ws, f1, f2, f3, f4, _⟩ := s.own i b ds e1
    rw [wipeA_out hi, e2] at f1; cases f1
    exact f4 (.inr rfl)
theorem lc_read {K : PySem.W.Frag} {mi : MI} (hts : ∀ i ∈ ts, i ∈ vs) {σ : St} {H : Hp} {Q : VK} (h : tE K (mComp mi mg mt me vs) σ H Q) : tLc (tI K mi) (tG K mg ts) (tT K mt) (tE K me) vs σ H Q := by
  obtain ⟨ρ, M, O, π, pr, ρ', h, e, q⟩ := h
  unfold mComp at e
  split at e
  · rename_i ds ρ1 e1
    split at e
    · rename_i ok
      split at e
      · rename_i es ρ2 e2
        split at e
        · rename_i hz
          cases e
          refine ⟨ρ, M, O, π, ds, ρ1, h, e1, fun J H1 M1 x1 s1 src Dd hD => ?_⟩
          have hO : ¬ O Dd := fun z => s1.live Dd (s1.sub Dd z) hD
          refine cread (ea := []) hts src (alloc_tr_own s1 hD) (comp_start s1 hD vs) hO upd_same .nil (by have := fits_le hz; simpa using this) e2 fun H2 M2 acc x2 s2 hA hR => ?_
          obtain ⟨y1, y2, y3⟩ := comp_end s1 hD ok x2 s2 hA hR
          exact q _ H2 M2 (x1.trans y1) y2 y3
        · cases e
      · cases e
    · cases e
  · cases e
/-! two clauses -/
variable {mi1 : MI} {mg1 : MG} {mt1 : MT} {vs1 ts1 : List Nat}
def c2loop (mg : MG) (mt : MT) (mi1 : MI) (mg1 : MG) (mt1 : MT) (me : ME) (vs vs1 : List Nat) : List D → Fm → Option (List D × Fm)
  | [], ρ => some ([], ρ)
  | d :: ds, ρ => match mg d ρ with
    | some ρ1 => match mt ρ1 with
      | some (true, ρ2) => match mi1 ρ2 with
        | some (ds1, ρ3) => match cloop mg1 mt1 me vs1 ds1 (wipeA ρ3 vs1) with
          | some (es1, ρ4) => match c2loop mg mt mi1 mg1 mt1 me vs vs1 ds (wipeA ρ4 vs) with
            | some (es, ρ5) => some (es1 ++ es, ρ5)
            | none => none
          | none => none
        | none => none
      | some (false, ρ2) => c2loop mg mt mi1 mg1 mt1 me vs vs1 ds (wipeA ρ2 vs)
      | none => none
    | none => none
def mComp2 (mi : MI) (mg : MG) (mt : MT) (mi1 : MI) (mg1 : MG) (mt1 : MT) (me : ME) (vs vs1 : List Nat) : ME := fun ρ => match mi ρ with
  | some (ds, ρ1) => if vsOk ρ1 vs = true then match c2loop mg mt mi1 mg1 mt1 me vs vs1 ds (wipeA ρ1 vs) with
    | some (es, ρ2) => if fits es.length = true then some (.val (.own .loc es), restA ρ2 ρ1 vs) else none
    | none => none
    else none
  | none => none
theorem lc2_read {K : PySem.W.Frag} {mi : MI} (hts : ∀ i ∈ ts, i ∈ vs) (hts1 : ∀ i ∈ ts1, i ∈ vs1) (hv : ∀ i ∈ vs1, i ∈ vs) {σ : St} {H : Hp} {Q : VK} (h : tE K (mComp2 mi mg mt mi1 mg1 mt1 me vs vs1) σ H Q) :
    tLc2 (tI K mi) (tG K mg ts) (tT K mt) (tI K mi1) (tG K mg1 ts1) (tT K mt1) (tE K me) vs vs1 σ H Q := by
  obtain ⟨ρ, M, O, π, pr, ρ', h, e, q⟩ := h
  unfold mComp2 at e
  split at e
  · rename_i ds ρ1 e1
    split at e
    · rename_i ok
      split at e
      · rename_i es ρ2 e2
        split at e
        · rename_i hz
          cases e
          refine ⟨ρ, M, O, π, ds, ρ1, h, e1, fun J H1 M1 x1 s1 src Dd hD => ?_⟩
          have hO : ¬ O Dd := fun z => s1.live Dd (s1.sub Dd z) hD
          have less : ∀ a, O a → wth O Dd a := fun a q => .inl q
          have s := comp_start s1 hD vs
          have hMs : wth M1 Dd Dd := .inr rfl
          refine ⟨fun i m H => m = ds.length - i ∧ i ≤ ds.length ∧ ∃ ρb M acc' eb es', SR K H M (wth O Dd) π ρb (wipeA σ vs) ∧ Ext O (upd H1 Dd (.lst [])) (wth M1 Dd) H M ∧ H Dd = some (.lst acc') ∧ Reps K H M acc' eb ∧ c2loop mg mt mi1 mg1 mt1 me vs vs1 (ds.drop i) ρb = some (es', ρ2) ∧ es = eb ++ es',
            ⟨_, rfl, Nat.zero_le _, _, _, [], [], es, s, .refl (s.less less), upd_same, .nil, e2, rfl⟩, ?_⟩
          rintro i m H ⟨rfl, hi, ρb, M, acc', eb, es', sb, xb, hAb, hRb, eb', eq⟩
          have lb : Lat H1 M1 H M := Lat.trans (alloc_tr_own s1 hD) xb.tr
          by_cases hlt : i < ds.length
          · rw [List.drop_eq_getElem_cons hlt] at eb'
            have hd : ds[i]? = some ds[i] := List.getElem?_eq_getElem hlt
            refine .inr ⟨src.go H M lb i hlt, fun H' => ds.length - (i + 1) = ds.length - (i + 1) ∧ i + 1 ≤ ds.length ∧ ∃ ρb M acc' eb es', SR K H' M (wth O Dd) π ρb (wipeA σ vs) ∧ Ext O (upd H1 Dd (.lst [])) (wth M1 Dd) H' M ∧ H' Dd = some (.lst acc') ∧ Reps K H' M acc' eb ∧ c2loop mg mt mi1 mg1 mt1 me vs vs1 (ds.drop (i + 1)) ρb = some (es', ρ2) ∧ es = eb ++ es', fun H' w => ⟨_, by omega, w⟩, fun x H3 y => ?_⟩
            obtain ⟨s3, x3, r3⟩ := (src.yld H M lb i _ x H3 hd y).ok sb
            unfold c2loop at eb'
            split at eb'
            · rename_i ρ3 e3
              rw [wipe_eq]
              refine ⟨ρb, M, wth O Dd, π, _, ρ3, s3, r3, e3, fun σ4 s4 fr ln => ?_⟩
              have hw : wipeA σ4 vs = wipeA σ vs := wipeA_ext (fun j hj => by rw [fr j (fun z => hj (hts j z)), wipeA_out hj]) (by rw [ln, wipeA_len])
              refine ⟨by rw [wipe_eq]; exact hw, ?_⟩
              split at eb'
              · rename_i ρ4 e4
                refine ⟨ρ3, M, wth O Dd, π, true, ρ4, s4, e4, fun H5 M5 x5 s5 => iteT ?_⟩
                split at eb'
                · rename_i ds1 ρ5 e5
                  split at eb'
                  · rename_i es1 ρ6 e6
                    split at eb'
                    · rename_i es2 ρ7 e7
                      cases eb'
                      refine ⟨ρ4, M5, wth O Dd, π, ds1, ρ5, s5, e5, fun J1 H6 M6 x6 s6 src1 => ?_⟩
                      have xx : Ext (wth O Dd) H M H6 M6 := (x3.trans x5).trans x6
                      have hA6 : H6 Dd = some (.lst acc') := xx.keep Dd _ hAb (.inl (.inr rfl))
                      have hl : eb.length + es1.length ≤ sizeLine := by
                        have h1 := fits_le hz
                        have := congrArg List.length eq
                        rw [List.length_append, List.length_append] at this
                        omega
                      refine cread hts1 src1 (fun _ _ h n => ⟨h, n⟩) (s6.wipe vs1) hO hA6 (hRb.tr xx.tr) hl e6 fun H8 M8 acc8 x8 s8 hA8 hR8 => ?_
                      refine ⟨rfl, hlt, wipeA ρ6 vs, M8, acc8, eb ++ es1, es2, ?_, (xb.trans (xx.less less)).trans x8, hA8, hR8, e7, by rw [eq, List.append_assoc]⟩
                      have hw2 : wipeA (wipeA σ4 vs1) vs = wipeA σ vs := by
                        rw [← hw]
                        exact wipeA_ext (fun j hj => wipeA_out fun z => hj (hv j z)) (wipeA_len _ _)
                      rw [← hw2]
                      exact s8.wipe vs
                    · cases eb'
                  · cases eb'
                · cases eb'
              · rename_i ρ4 e4
                refine ⟨ρ3, M, wth O Dd, π, false, ρ4, s4, e4, fun H5 M5 x5 s5 => iteF ?_⟩
                have xx : Ext (wth O Dd) H M H5 M5 := x3.trans x5
                refine ⟨rfl, hlt, wipeA ρ4 vs, M5, acc', eb, es', ?_, xb.trans (xx.less less), xx.keep Dd _ hAb (.inl (.inr rfl)), hRb.tr xx.tr, eb', eq⟩
                rw [← hw]; exact s5.wipe vs
              · cases eb'
            · cases eb'
          · have ei : i = ds.length := by omega
            subst ei
            rw [List.drop_length] at eb'
            cases eb'
            rw [List.append_nil] at eq
            obtain ⟨y1, y2, y3⟩ := comp_end s1 hD ok xb sb hAb (by rw [← eq] at hRb; exact hRb)
            exact .inl ⟨src.stop H M lb, q _ H M (x1.trans y1) y2 y3⟩
        · cases e
      · cases e
    · cases e
  · cases e
end
section
variable {X : Cx} {elt tg iter tg1 iter1 : Expr} {ifs ifs1 : List Expr} {scope : Scope} {own : List (Str × Nat)} {pos : Pos} {mi mi1 : MI} {mg mg1 : MG} {mt mt1 : MT} {me : ME} {ts ts1 vs1 : List Nat}
def DTs (X : Cx) (es : List Expr) (m : MT) : Prop := PTs X es (tT X.K m)
def mYes : MT := fun ρ => some (true, ρ)
theorem dts_nil : DTs X [] mYes := ⟨fun pins s σ H Q I ⟨ρ, M, O, π, b, ρ', h, e, q⟩ => by
  cases e
  exact pts_nil.run pins s σ H Q I (q H M (.refl h) h)⟩
theorem dts_one {c : Expr} (h : DT X c mt) : DTs X [c] mt := pts_one h
/-- a block's context -/
abbrev Bk (X : Cx) (scope : Scope) (P : Cx → Prop) : Prop := ∀ (s : Shared) (H : Hp) (C : Addr) (cl : List (Str × Addr)) (fp : List Addr), P (X.blk s H scope (compEnvC scope cl C X.env) fp)
theorem de_lc (hc : X.calm = true) (hN : X.N.Nodup) (hi : DI X tg iter mi) (ok : BlkOk X.N X.env.scope scope own) (hg : Bk X scope fun Y => DG Y tg mg ts) (ht : Bk X scope fun Y => DTs Y ifs mt) (he : Bk X scope fun Y => DE Y elt me)
    (hts : ∀ i ∈ ts, i ∈ own.map (·.2)) (hs : ∀ x, foldedSetIterable iter X.env x = pure x := by intro _; rfl) : DE X (.ListComp elt [⟨tg, iter, ifs, 0⟩] scope pos) (mComp mi mg mt me (own.map (·.2))) :=
  PE.imp (pe_lc (wi := tI X.K mi) (g := tG X.K mg ts) (tt := tT X.K mt) (te := tE X.K me) hc hN hi ok hg ht he hs) fun σ H Q h => lc_read hts h
theorem ds_setLc {i : Nat} {y : Str} {py spos : Pos} (hc : X.calm = true) (hN : X.N.Nodup) (hy : X.N[i]? = some y) (hyl : X.env.scope.names.lookup y = some .local)
    (hsw : swapsWith (.ListComp elt [⟨tg, iter, ifs, 0⟩] scope pos) (some (.Name y py)) spos.line X.env = pure true) (hi : DI X tg iter mi) (ok : BlkOk X.N X.env.scope scope own) (hg : Bk X scope fun Y => DG Y tg mg ts) (ht : Bk X scope fun Y => DTs Y ifs mt) (he : Bk X scope fun Y => DE Y elt me)
    (hts : ∀ i ∈ ts, i ∈ own.map (·.2)) (hs : ∀ x, foldedSetIterable iter X.env x = pure x := by intro _; rfl) : DS X (.Assign [.Name y py] (.ListComp elt [⟨tg, iter, ifs, 0⟩] scope pos) spos) (mSet i (mComp mi mg mt me (own.map (·.2)))) :=
  PS.imp (ps_setLc (wi := tI X.K mi) (g := tG X.K mg ts) (tt := tT X.K mt) (te := tE X.K me) hc hN hy hyl hsw hi ok hg ht he hs) fun D σ H ⟨ρ, M, O, π, fl, ρ', h, e, q⟩ => by
    unfold mSet at e
    split at e
    · rename_i pr ρ1 e1
      split at e
      · rename_i ρ2 e2
        cases e
        refine lc_read (K := X.K) hts ⟨ρ, M, O, π, pr, ρ1, h, e1, fun v H1 M1 x1 s1 r1 => ?_⟩
        obtain ⟨M2, x2, s2⟩ := put_ok s1 r1 e2
        exact q _ H1 M2 (x1.trans x2) s2
      · cases e
    · cases e
theorem de_lc2 (hc : X.calm = true) (hN : X.N.Nodup) (hi : DI X tg iter mi) (ok : BlkOk X.N X.env.scope scope own) (hv : ∀ i ∈ vs1, i ∈ own.map (·.2)) (hg : Bk X scope fun Y => DG Y tg mg ts) (ht : Bk X scope fun Y => DTs Y ifs mt) (hi1 : Bk X scope fun Y => DI Y tg1 iter1 mi1) (hg1 : Bk X scope fun Y => DG Y tg1 mg1 ts1) (ht1 : Bk X scope fun Y => DTs Y ifs1 mt1) (he : Bk X scope fun Y => DE Y elt me)
    (hts : ∀ i ∈ ts, i ∈ own.map (·.2)) (hts1 : ∀ i ∈ ts1, i ∈ vs1) (hs : ∀ x, foldedSetIterable iter X.env x = pure x := by intro _; rfl) (hs1 : ∀ env x, foldedSetIterable iter1 env x = pure x := by intro _ _; rfl) :
    DE X (.ListComp elt [⟨tg, iter, ifs, 0⟩, ⟨tg1, iter1, ifs1, 0⟩] scope pos) (mComp2 mi mg mt mi1 mg1 mt1 me (own.map (·.2)) vs1) :=
  PE.imp (pe_lc2 (wi := tI X.K mi) (g := tG X.K mg ts) (tt := tT X.K mt) (wi1 := tI X.K mi1) (g1 := tG X.K mg1 ts1) (tt1 := tT X.K mt1) (te := tE X.K me) hc hN hi ok hv hg ht hi1 hg1 ht1 he hs hs1) fun σ H Q h => lc2_read hts hts1 hv h
theorem ds_setLc2 {i : Nat} {y : Str} {py spos : Pos} (hc : X.calm = true) (hN : X.N.Nodup) (hy : X.N[i]? = some y) (hyl : X.env.scope.names.lookup y = some .local)
    (hsw : swapsWith (.ListComp elt [⟨tg, iter, ifs, 0⟩, ⟨tg1, iter1, ifs1, 0⟩] scope pos) (some (.Name y py)) spos.line X.env = pure true) (hi : DI X tg iter mi) (ok : BlkOk X.N X.env.scope scope own) (hv : ∀ i ∈ vs1, i ∈ own.map (·.2)) (hg : Bk X scope fun Y => DG Y tg mg ts) (ht : Bk X scope fun Y => DTs Y ifs mt) (hi1 : Bk X scope fun Y => DI Y tg1 iter1 mi1) (hg1 : Bk X scope fun Y => DG Y tg1 mg1 ts1) (ht1 : Bk X scope fun Y => DTs Y ifs1 mt1) (he : Bk X scope fun Y => DE Y elt me)
    (hts : ∀ i ∈ ts, i ∈ own.map (·.2)) (hts1 : ∀ i ∈ ts1, i ∈ vs1) (hs : ∀ x, foldedSetIterable iter X.env x = pure x := by intro _; rfl) (hs1 : ∀ env x, foldedSetIterable iter1 env x = pure x := by intro _ _; rfl) :
    DS X (.Assign [.Name y py] (.ListComp elt [⟨tg, iter, ifs, 0⟩, ⟨tg1, iter1, ifs1, 0⟩] scope pos) spos) (mSet i (mComp2 mi mg mt mi1 mg1 mt1 me (own.map (·.2)) vs1)) :=
  PS.imp (ps_setLc2 (wi := tI X.K mi) (g := tG X.K mg ts) (tt := tT X.K mt) (wi1 := tI X.K mi1) (g1 := tG X.K mg1 ts1) (tt1 := tT X.K mt1) (te := tE X.K me) hc hN hy hyl hsw hi ok hv hg ht hi1 hg1 ht1 he hs hs1) fun D σ H ⟨ρ, M, O, π, fl, ρ', h, e, q⟩ => by
    unfold mSet at e
    split at e
    · rename_i pr ρ1 e1
      split at e
      · rename_i ρ2 e2
        cases e
        refine lc2_read (K := X.K) hts hts1 hv ⟨ρ, M, O, π, pr, ρ1, h, e1, fun v H1 M1 x1 s1 r1 => ?_⟩
        obtain ⟨M2, x2, s2⟩ := put_ok s1 r1 e2
        exact q _ H1 M2 (x1.trans x2) s2
      · cases e
    · cases e
end
end Vi

namespace Vi
open PySem PySem.Spec PyProof.Rows L2

/-! ### what a def does, over data -/
/-- the names' values, what is handed back and the lists that were handed in to be changed -/
abbrev Out := Sv × List (Option (List D))
abbrev Fn := List Sv → Option Out
def outsOf : List Sv → Fm → Option (List (Option (List D)))
  | [], _ => some []
  | .imm _ :: as, _ :: ρ => match outsOf as ρ with
    | some os => some (none :: os)
    | none => none
  | .own _ _ :: as, some (.own .par ds) :: ρ => match outsOf as ρ with
    | some os => some (some ds :: os)
    | none => none
  | _, _ => none
def pinned : List Sv → Bool
  | [] => true
  | .imm _ :: as => pinned as
  | .own .par _ :: as => pinned as
  | .own _ _ :: _ => false
/-- nN: how many names, np: how many parameters -/
def mFn (nN np : Nat) (body : MS) : Fn := fun args =>
  if args.length = np then match body (args.map some ++ List.replicate (nN - np) none) with
    | some (.ret r, ρ) => match outsOf args ρ with
      | some os => some (r, os)
      | none => none
    | some (.next, ρ) => match outsOf args ρ with
      | some os => some (.imm .none, os)
      | none => none
    | _ => none
  else none
def OutR (K : PySem.W.Frag) (H : Hp) (M : Mset) (π : Nat → Option Addr) (os : List (Option (List D))) : Prop :=
  ∀ (i : Nat) (ds : List D), os[i]? = some (some ds) → ∃ a ws, π i = some a ∧ H a = some (.lst ws) ∧ M a ∧ Reps K H M ws ds
def RetR (K : PySem.W.Frag) (H : Hp) (M O : Mset) (π : Nat → Option Addr) (os : List (Option (List D))) : Sv → V → Prop
  | .imm d, v => Rep K H M v d
  | .own b ds, v => ∃ p vs, v = .ref p ∧ H p = some (cell b p vs ds) ∧ M p ∧ ¬ O p ∧ Reps K H M vs ds ∧ ∀ (i : Nat) (es : List D), os[i]? = some (some es) → π i ≠ some p
def spD (K : PySem.W.Frag) (n : Nat) (f : Fn) : Sp := fun vs H Q _ => ∃ M O π args r os, vs.length = n ∧ SR K H M O π (args.map some) (vs.map some) ∧ f args = some (r, os) ∧
  ∀ v H' M', (∀ a, M' a → H' a ≠ none) → Ext O H M H' M' → OutR K H' M' π os → RetR K H' M' O π os r v → Q v H'
theorem outs_len : ∀ {as : List Sv} {ρ : Fm} {os : List (Option (List D))}, outsOf as ρ = some os → os.length = as.length
  | [], _, _, e => by cases e; rfl
  | .imm _ :: as, [], _, e => by cases e
  | .imm d :: as, x :: ρ, os, e => by
    unfold outsOf at e
    split at e
    · rename_i o e1
      cases e
      rw [List.length_cons, List.length_cons, outs_len e1]
    · cases e
  | .own _ _ :: as, [], _, e => by cases e
  | .own _ _ :: as, none :: ρ, _, e => by cases e
  | .own _ _ :: as, some (.imm _) :: ρ, _, e => by cases e
  | .own _ _ :: as, some (.own .loc _) :: ρ, _, e => by cases e
  | .own _ _ :: as, some (.own .par ds) :: ρ, os, e => by
    unfold outsOf at e
    split at e
    · rename_i o e1
      cases e
      rw [List.length_cons, List.length_cons, outs_len e1]
    · cases e
theorem outs_get : ∀ {as : List Sv} {ρ : Fm} {os : List (Option (List D))} {i : Nat} {ds : List D}, outsOf as ρ = some os → os[i]? = some (some ds) → ρ[i]? = some (some (.own .par ds)) ∧ ∃ b es, as[i]? = some (.own b es)
  | [], _, _, _, _, e, h => by cases e; simp at h
  | .imm _ :: as, [], _, _, _, e, h => by cases e
  | .imm d :: as, x :: ρ, os, i, ds, e, h => by
    unfold outsOf at e
    split at e
    · rename_i o e1
      cases e
      cases i with
      | zero => simp at h
      | succ i =>
        obtain ⟨h1, h2⟩ := outs_get e1 (by simpa using h)
        exact ⟨by simpa using h1, by simpa using h2⟩
    · cases e
  | .own _ _ :: as, [], _, _, _, e, h => by cases e
  | .own _ _ :: as, none :: ρ, _, _, _, e, h => by cases e
  | .own _ _ :: as, some (.imm _) :: ρ, _, _, _, e, h => by cases e
  | .own _ _ :: as, some (.own .loc _) :: ρ, _, _, _, e, h => by cases e
  | .own b es :: as, some (.own .par ds') :: ρ, os, i, ds, e, h => by
    unfold outsOf at e
    split at e
    · rename_i o e1
      cases e
      cases i with
      | zero =>
        simp at h
        subst h
        exact ⟨rfl, b, es, rfl⟩
      | succ i =>
        obtain ⟨h1, h2⟩ := outs_get e1 (by simpa using h)
        exact ⟨by simpa using h1, by simpa using h2⟩
    · cases e
/-- an own parameter is handed out -/
theorem outs_own : ∀ {as : List Sv} {ρ : Fm} {os : List (Option (List D))} {i : Nat} {b : Kd} {es : List D}, outsOf as ρ = some os → as[i]? = some (.own b es) → ∃ ds, os[i]? = some (some ds)
  | [], _, _, _, _, _, e, h => by simp at h
  | .imm _ :: as, [], _, _, _, _, e, h => by cases e
  | .imm d :: as, x :: ρ, os, i, _, _, e, h => by
    unfold outsOf at e
    split at e
    · rename_i o e1
      cases e
      cases i with
      | zero => simp at h
      | succ i => obtain ⟨ds, h1⟩ := outs_own e1 (by simpa using h); exact ⟨ds, by simpa using h1⟩
    · cases e
  | .own _ _ :: as, [], _, _, _, _, e, h => by cases e
  | .own _ _ :: as, none :: ρ, _, _, _, _, e, h => by cases e
  | .own _ _ :: as, some (.imm _) :: ρ, _, _, _, _, e, h => by cases e
  | .own _ _ :: as, some (.own .loc _) :: ρ, _, _, _, _, e, h => by cases e
  | .own b es :: as, some (.own .par ds') :: ρ, os, i, _, _, e, h => by
    unfold outsOf at e
    split at e
    · rename_i o e1
      cases e
      cases i with
      | zero => exact ⟨ds', rfl⟩
      | succ i => obtain ⟨ds, h1⟩ := outs_own e1 (by simpa using h); exact ⟨ds, by simpa using h1⟩
    · cases e

section
variable {P : Program} {w : World} {K : PySem.W.Frag} {mg : Str → Option Value} {base : Heap}
theorem SR.pad {H : Hp} {M O : Mset} {π : Nat → Option Addr} {as : List Sv} {vs : List V} (h : SR K H M O π (as.map some) (vs.map some)) (n : Nat) : SR K H M O π (as.map some ++ List.replicate n none) (vs.map some ++ List.replicate n none) := by
  have len : as.length = vs.length := by have := h.len; simpa using this
  have get : ∀ {i : Nat} {s : Sv}, (as.map some ++ List.replicate n none)[i]? = some (some s) → (as.map some)[i]? = some (some s) ∧ i < vs.length := fun {i s} e => by
    by_cases hi : i < as.length
    · rw [List.getElem?_append_left (by simpa using hi)] at e
      exact ⟨e, by omega⟩
    · rw [List.getElem?_append_right (by simpa using hi), List.getElem?_replicate] at e
      split at e <;> cases e
  have up : ∀ {i : Nat}, i < vs.length → (vs.map some ++ List.replicate n none)[i]? = (vs.map some)[i]? := fun {i} hi => List.getElem?_append_left (by simpa using hi)
  refine ⟨by rw [List.length_append, List.length_append, h.len]; simp, h.sub, h.live, fun i d e => ?_, fun i b ds e => ?_, fun i j b c ds es a hij e f g => ?_⟩
  · obtain ⟨e1, hi⟩ := get e
    rw [up hi]; exact h.imm i d e1
  · obtain ⟨e1, hi⟩ := get e
    rw [up hi]; exact h.own i b ds e1
  · obtain ⟨e1, hi⟩ := get e
    obtain ⟨f1, hj⟩ := get f
    rw [up hi] at g
    rw [up hj]; exact h.uniq i j b c ds es a hij e1 f1 g
/-- THE RULE for a def -/
theorem fn_ok {x qual : Str} {st : Stmt} {f : Addr} {fd : FuncData} {N ps : List Str} {k : Nat} {body : MS} (F : Fun K x qual st f fd) (S : FnScope N ps (defScope st))
    (hb : ∀ (cdv : Value) (A : Around) (outer : List Env) (s : Shared) (H : Hp) (E : XK), Room k (A.deeper (envOfC qual (defScope st) s.heap.objs.size f cdv)) → DSs (cxOf CX0 P w K mg base N qual (defScope st) f cdv A outer s H E).nox (defBody st) body) :
    FnOk P w K mg base CX0 (k + 1) f fd ps (spD K ps.length (mFn N.length ps.length body)) := by
  refine F.ok S (fun vs H Q E h => ?_) (fun cdv A outer s H vs Q E hr h => ?_)
  · obtain ⟨M, O, π, args, r, os, hl, _⟩ := h
    exact hl
  · obtain ⟨M, O, π, args, r, os, hl, hs, e, q⟩ := h
    have hal : args.length = vs.length := by have := hs.len; simpa using this
    refine ⟨_, hb cdv A outer s H E hr, ?_⟩
    unfold mFn at e
    have start_eq : L2.start N vs = vs.map some ++ List.replicate (N.length - ps.length) none := by unfold L2.start; rw [hl]
    have fin : ∀ {σ' : St} {ρ' : Fm} {H' : Hp} {M' : Mset} {rr : Sv} {v : V}, Ext O H M H' M' → SR K H' M' O π ρ' σ' → RV K H' M' O ρ' σ' rr v → outsOf args ρ' = some os → rr = r → Q v H' := fun {σ' ρ' H' M' rr v} x s r1 eo er => by
      subst er
      refine q v H' M' s.live x (fun i ds ei => ?_) ?_
      · obtain ⟨e1, _⟩ := outs_get eo ei
        obtain ⟨a, ws, f1, f2, f3, f4, f5, f6⟩ := s.own i .par ds e1
        exact ⟨a, ws, f6 rfl, f2, f3, f5⟩
      · cases rr with
        | imm d => exact r1
        | own b ds =>
          obtain ⟨p, ws, g1, g2, g3, g4, g5, g6⟩ := r1
          refine ⟨p, ws, g1, g2, g3, g4, g5, fun i es ei hp => ?_⟩
          obtain ⟨e1, _⟩ := outs_get eo ei
          obtain ⟨a, us, f1, f2, f3, f4, f5, f6⟩ := s.own i .par es e1
          rw [f6 rfl] at hp; cases hp
          exact g6 i es e1 f1
    split at e
    · rename_i hn
      split at e
      · rename_i r' ρ' e1
        split at e
        · rename_i os' e2
          cases e
          refine ⟨_, M, O, π, .ret r, ρ', by rw [start_eq]; exact hs.pad _, e1, fun v σ' H' M' x s r1 => fin x s r1 e2 rfl⟩
        · cases e
      · rename_i ρ' e1
        split at e
        · rename_i os' e2
          cases e
          refine ⟨_, M, O, π, .next, ρ', by rw [start_eq]; exact hs.pad _, e1, fun σ' H' M' x s => fin (rr := .imm .none) x s .non e2 rfl⟩
        · cases e
      · cases e
    · cases e
end

/-! ### calls -/
/-- an argument: a value, or a name's own list that the callee may change -/
inductive AR where
  | v (d : D)
  | s (i : Nat)
abbrev MR := Fm → Option (List AR × Fm)
def ARep (K : PySem.W.Frag) (H : Hp) (M : Mset) (σ : St) : AR → V → Prop
  | .v d, v => Rep K H M v d
  | .s i, v => σ[i]? = some (some v)
abbrev AReps (K : PySem.W.Frag) (H : Hp) (M : Mset) (σ : St) : List V → List AR → Prop := Paired fun v a => ARep K H M σ a v
def tR (K : PySem.W.Frag) (m : MR) : TA := fun σ H Q => ∃ ρ M O π as ρ', SR K H M O π ρ σ ∧ m ρ = some (as, ρ') ∧ ∀ vs H' M', Ext O H M H' M' → SR K H' M' O π ρ' σ → AReps K H' M' σ vs as → Q vs H'
def DR (X : Cx) (es : List Expr) (m : MR) : Prop := PA X es (tR X.K m)
def rNil : MR := fun ρ => some ([], ρ)
def rVal (me : ME) (n : MR) : MR := fun ρ => match me ρ with
  | some (pr, ρ1) => match frz ρ1 pr with
    | some (d, ρ2) => match n ρ2 with
      | some (as, ρ3) => some (.v d :: as, ρ3)
      | none => none
    | none => none
  | none => none
def rSlot (i : Nat) (n : MR) : MR := fun ρ => match ρ[i]? with
  | some (some (.own _ _)) => match n ρ with
    | some (as, ρ3) => some (.s i :: as, ρ3)
    | none => none
  | _ => none
section
variable {X : Cx} {e : Expr} {es : List Expr} {me : ME} {n : MR}
theorem ARep.tr {K : PySem.W.Frag} {H H' : Hp} {M M' : Mset} {σ : St} {a : AR} {v : V} (l : Lat H M H' M') (r : ARep K H M σ a v) : ARep K H' M' σ a v := by
  cases a with
  | v d => exact Rep.tr l r
  | s i => exact r
theorem dr_nil : DR X [] rNil := PA.imp pa_nil fun σ H Q ⟨ρ, M, O, π, ds, ρ', h, e, q⟩ => by
  cases e
  exact q [] H M (.refl h) h .nil
theorem dr_val (he : DE X e me) (hes : DR X es n) (hs : starEach (e :: es) X.env = (false, eval e X.env) :: starEach es X.env := by rfl) : DR X (e :: es) (rVal me n) :=
  PA.imp (pa_cons he hes hs) fun σ H Q ⟨ρ, M, O, π, ds, ρ', h, e, q⟩ => by
    unfold rVal at e
    split at e
    · rename_i pr ρ1 e1
      split at e
      · rename_i d ρ2 e2
        split at e
        · rename_i as ρ3 e3
          cases e
          refine ⟨ρ, M, O, π, pr, ρ1, h, e1, fun v H1 M1 x1 s1 r1 => ?_⟩
          obtain ⟨M2, x2, s2, r2⟩ := frz_ok s1 r1 e2
          exact ⟨ρ2, M2, O, π, as, _, s2, e3, fun vs H3 M3 x3 s3 r3 => q (v :: vs) H3 M3 ((x1.trans x2).trans x3) s3 (.cons (r2.tr x3.tr) r3)⟩
        · cases e
      · cases e
    · cases e
theorem dr_slot {i : Nat} (he : PE X e (tVar i)) (hes : DR X es n) (hs : starEach (e :: es) X.env = (false, eval e X.env) :: starEach es X.env := by rfl) : DR X (e :: es) (rSlot i n) :=
  PA.imp (pa_cons he hes hs) fun σ H Q ⟨ρ, M, O, π, ds, ρ', h, e, q⟩ => by
    unfold rSlot at e
    split at e
    · rename_i b0 ds0 e0
      split at e
      · rename_i as ρ3 e3
        cases e
        obtain ⟨a, vs, f1, _⟩ := h.own i b0 ds0 e0
        exact ⟨_, f1, ρ, M, O, π, as, _, h, e3, fun vs H3 M3 x3 s3 r3 => q _ H3 M3 x3 s3 (.cons f1 r3)⟩
      · cases e
    · cases e
/-- the arguments as the callee sees them -/
def argsOf (ρ : Fm) : List AR → Option (List Sv)
  | [] => some []
  | .v d :: as => match argsOf ρ as with
    | some xs => some (.imm d :: xs)
    | none => none
  | .s i :: as => match ρ[i]? with
    | some (some (.own .dic _)) => none
    | some (some (.own _ ds)) => match argsOf ρ as with
      | some xs => some (.own .par ds :: xs)
      | none => none
    | _ => none
def slotsOf : List AR → List Nat
  | [] => []
  | .v _ :: as => slotsOf as
  | .s i :: as => i :: slotsOf as
def nodupB : List Nat → Bool
  | [] => true
  | i :: is => !is.contains i && nodupB is
/-- the callee's changes -/
def backTo (ρ : Fm) : List AR → List (Option (List D)) → Option Fm
  | [], [] => some ρ
  | .v _ :: as, _ :: os => backTo ρ as os
  | .s i :: as, some ds :: os => match ρ[i]? with
    | some (some (.own .dic _)) => none
    | some (some (.own b _)) => backTo (ρ.set i (some (.own b ds))) as os
    | _ => none
  | _, _ => none
def mCall (f : Fn) (mr : MR) : ME := fun ρ => match mr ρ with
  | some (as, ρ1) => if nodupB (slotsOf as) = true then match argsOf ρ1 as with
    | some args => match f args with
      | some (r, os) => match backTo ρ1 as os with
        | some ρ2 => some (.val r, ρ2)
        | none => none
      | none => none
    | none => none
    else none
  | none => none
end
section
variable {K : PySem.W.Frag} {H H' : Hp} {M M' O : Mset} {π : Nat → Option Addr} {ρ ρ' : Fm} {σ : St} {as : List AR} {vs : List V} {args : List Sv} {os : List (Option (List D))}
theorem args_len : ∀ {as : List AR} {args : List Sv}, argsOf ρ as = some args → args.length = as.length
  | [], _, e => by cases e; rfl
  | .v d :: as, _, e => by
    unfold argsOf at e
    split at e
    · rename_i xs e1
      cases e; rw [List.length_cons, List.length_cons, args_len e1]
    · cases e
  | .s i :: as, _, e => by
    unfold argsOf at e
    split at e
    · cases e
    · split at e
      · rename_i xs e1
        cases e; rw [List.length_cons, List.length_cons, args_len e1]
      · cases e
    · cases e
theorem args_get : ∀ {as : List AR} {args : List Sv} {j : Nat} {s : Sv}, argsOf ρ as = some args → args[j]? = some s → (∃ d, as[j]? = some (.v d) ∧ s = .imm d) ∨ ∃ i b ds, as[j]? = some (.s i) ∧ ρ[i]? = some (some (.own b ds)) ∧ b.isL = true ∧ s = .own .par ds
  | [], _, _, _, e, h => by cases e; simp at h
  | .v d :: as, _, j, s, e, h => by
    unfold argsOf at e
    split at e
    · rename_i xs e1
      cases e
      cases j with
      | zero => simp at h; exact .inl ⟨d, rfl, h.symm⟩
      | succ j => simpa using args_get e1 (by simpa using h)
    · cases e
  | .s i :: as, _, j, s, e, h => by
    unfold argsOf at e
    split at e
    · cases e
    · rename_i b ds hbn hb
      split at e
      · rename_i xs e1
        cases e
        cases j with
        | zero => simp at h; exact .inr ⟨i, b, ds, rfl, hb, isL_of hbn, h.symm⟩
        | succ j => simpa using args_get e1 (by simpa using h)
      · cases e
    · cases e
theorem slots_mem : ∀ {as : List AR} {j i : Nat}, as[j]? = some (.s i) → i ∈ slotsOf as
  | [], _, _, h => by simp at h
  | .v _ :: as, 0, _, h => by simp at h
  | .v _ :: as, j + 1, i, h => slots_mem (as := as) (j := j) (by simpa using h)
  | .s k :: as, 0, i, h => by simp at h; subst h; exact List.mem_cons_self ..
  | .s k :: as, j + 1, i, h => List.mem_cons_of_mem _ (slots_mem (as := as) (j := j) (by simpa using h))
theorem slots_at : ∀ {as : List AR} {i : Nat}, i ∈ slotsOf as → ∃ (j : Nat), as[j]? = some (AR.s i)
  | [], _, h => by cases h
  | .v _ :: as, i, h => by obtain ⟨j, e⟩ := slots_at (as := as) h; exact ⟨j + 1, by simpa using e⟩
  | .s k :: as, i, h => by
    rcases List.mem_cons.mp h with rfl | h
    · exact ⟨0, rfl⟩
    · obtain ⟨j, e⟩ := slots_at (as := as) h; exact ⟨j + 1, by simpa using e⟩
theorem slots_inj : ∀ {as : List AR} {j k i : Nat}, nodupB (slotsOf as) = true → as[j]? = some (.s i) → as[k]? = some (.s i) → j = k
  | [], _, _, _, _, h, _ => by simp at h
  | .v _ :: as, 0, _, _, _, h, _ => by simp at h
  | .v _ :: as, _ + 1, 0, _, _, _, h => by simp at h
  | .v _ :: as, j + 1, k + 1, i, n, h, g => by rw [slots_inj (as := as) (j := j) (k := k) n (by simpa using h) (by simpa using g)]
  | .s m :: as, 0, 0, _, _, _, _ => rfl
  | .s m :: as, 0, k + 1, i, n, h, g => by
    simp at h; subst h
    have : m ∈ slotsOf as := slots_mem (j := k) (by simpa using g)
    unfold slotsOf nodupB at n
    rw [Bool.and_eq_true] at n
    simp [this] at n
  | .s m :: as, j + 1, 0, i, n, h, g => by
    simp at g; subst g
    have : m ∈ slotsOf as := slots_mem (j := j) (by simpa using h)
    unfold slotsOf nodupB at n
    rw [Bool.and_eq_true] at n
    simp [this] at n
  | .s m :: as, j + 1, k + 1, i, n, h, g => by
    unfold slotsOf nodupB at n
    rw [Bool.and_eq_true] at n
    rw [slots_inj (as := as) (j := j) (k := k) n.2 (by simpa using h) (by simpa using g)]
theorem paired_get {α β : Type} {F : α → β → Prop} : ∀ {xs : List α} {ys : List β} {i : Nat} {y : β}, Paired F xs ys → ys[i]? = some y → ∃ x, xs[i]? = some x ∧ F x y
  | _, _, _, _, .nil, e => by simp at e
  | _, _, 0, y, .cons r _, e => by simp at e; subst e; exact ⟨_, rfl, r⟩
  | _, _, i + 1, y, .cons _ t, e => by
    obtain ⟨x, h1, h2⟩ := paired_get (i := i) t (by simpa using e)
    exact ⟨x, by simpa using h1, h2⟩
/-- what the callee may not touch -/
def calO (M : Mset) (σ : St) (is : List Nat) : Mset := fun a => M a ∧ ∀ i ∈ is, σ[i]? ≠ some (some (.ref a))
def calP (vs : List V) : Nat → Option Addr := fun j => match vs[j]? with
  | some (.ref a) => some a
  | _ => none
theorem call_start (h : SR K H M O π ρ σ) (r : AReps K H M σ vs as) (n : nodupB (slotsOf as) = true) (e : argsOf ρ as = some args) : SR K H M (calO M σ (slotsOf as)) (calP vs) (args.map some) (vs.map some) := by
  have hl : args.length = vs.length := by rw [args_len e]; exact (Paired.length r).symm
  have get : ∀ {j : Nat} {s : Sv}, (args.map some)[j]? = some (some s) → args[j]? = some s := fun {j s} q => by
    rw [List.getElem?_map] at q
    obtain ⟨x, h1, h2⟩ := Option.map_eq_some_iff.mp q
    cases h2; exact h1
  have own : ∀ {j : Nat} {c : Kd} {ds : List D}, (args.map some)[j]? = some (some (.own c ds)) → ∃ i b a ws, as[j]? = some (.s i) ∧ ρ[i]? = some (some (.own b ds)) ∧ c = .par ∧ vs[j]? = some (.ref a) ∧ σ[i]? = some (some (.ref a)) ∧ H a = some (.lst ws) ∧ M a ∧ ¬ O a ∧ Reps K H M ws ds := fun {j c ds} q => by
    rcases args_get e (get q) with ⟨d, _, z⟩ | ⟨i, b, ds', e1, e2, hL, z⟩
    · cases z
    · cases z
      obtain ⟨v, e3, e4⟩ := paired_get r e1
      obtain ⟨a, ws, f1, f2, f3, f4, f5, _⟩ := h.ownL e2 hL
      have e4' : σ[i]? = some (some v) := e4
      rw [f1] at e4'; cases e4'
      exact ⟨i, b, a, ws, e1, e2, rfl, e3, f1, f2, f3, f4, f5⟩
  have up : ∀ {j : Nat} {v : V}, vs[j]? = some v → (vs.map some)[j]? = some (some v) := fun q => by rw [List.getElem?_map, q]; rfl
  refine ⟨by rw [List.length_map, List.length_map, hl], fun a q => q.1, h.live, fun j d q => ?_, fun j c ds q => ?_, fun j k c c' ds es a hjk q q2 q3 q4 => ?_⟩
  · rcases args_get e (get q) with ⟨d', e1, z⟩ | ⟨i, b, ds', e1, e2, hL, z⟩
    · cases z
      obtain ⟨v, e3, e4⟩ := paired_get r e1
      exact ⟨v, up e3, e4⟩
    · cases z
  · obtain ⟨i, b, a, ws, e1, e2, e3, e4, f1, f2, f3, f4, f5⟩ := own q
    subst e3
    refine ⟨a, ws, up e4, f2, f3, fun z => z.2 i (slots_mem e1) f1, f5, fun _ => ?_⟩
    unfold calP
    rw [e4]
  · obtain ⟨i, b, a1, ws, e1, e2, e3, e4, f1, f2, f3, f4, f5⟩ := own q
    obtain ⟨i', b', a2, ws', e1', e2', e3', e4', f1', f2', f3', f4', f5'⟩ := own q2
    rw [up e4] at q3; cases q3
    rw [up e4'] at q4; cases q4
    have hi : i ≠ i' := fun z => by
      subst z
      exact hjk (slots_inj n e1 e1')
    exact h.uniq i i' b b' ds es a hi e2 e2' f1 f1'
/-- the names behind the callee's changes -/
theorem back_get : ∀ {as : List AR} {os : List (Option (List D))} {ρ ρ' : Fm}, nodupB (slotsOf as) = true → backTo ρ as os = some ρ' → ρ'.length = ρ.length ∧ (∀ (i : Nat), i ∉ slotsOf as → ρ'[i]? = ρ[i]?) ∧
    ∀ (i : Nat), i ∈ slotsOf as → ∃ (j : Nat) (b : Kd) (ds es : List D), as[j]? = some (AR.s i) ∧ os[j]? = some (some ds) ∧ ρ[i]? = some (some (.own b es)) ∧ ρ'[i]? = some (some (.own b ds)) ∧ b.isL = true
  | [], [], ρ, ρ', _, e => by
    cases e
    exact ⟨rfl, fun _ _ => rfl, fun i hi => by cases hi⟩
  | [], _ :: _, _, _, _, e => by cases e
  | .v _ :: as, [], _, _, _, e => by cases e
  | .v _ :: as, o :: os, ρ, ρ', n, e => by
    obtain ⟨h1, h2, h3⟩ := back_get (as := as) (os := os) n e
    refine ⟨h1, h2, fun i hi => ?_⟩
    obtain ⟨j, b, ds, es, g1, g2, g3, g4⟩ := h3 i hi
    exact ⟨j + 1, b, ds, es, by simpa using g1, by simpa using g2, g3, g4⟩
  | .s _ :: as, [], _, _, _, e => by cases e
  | .s _ :: as, none :: os, _, _, _, e => by cases e
  | .s m :: as, some ds :: os, ρ, ρ', n, e => by
    unfold backTo at e
    split at e
    · cases e
    · rename_i b es hbn hb
      unfold slotsOf nodupB at n
      rw [Bool.and_eq_true] at n
      have nm : m ∉ slotsOf as := fun z => by have := n.1; simp [z] at this
      obtain ⟨h1, h2, h3⟩ := back_get (as := as) (os := os) n.2 e
      refine ⟨by rw [h1, List.length_set], fun i hi => ?_, fun i hi => ?_⟩
      · unfold slotsOf at hi
        rw [List.mem_cons, not_or] at hi
        rw [h2 i hi.2, List.getElem?_set_ne (Ne.symm hi.1)]
      · unfold slotsOf at hi
        rcases List.mem_cons.mp hi with rfl | hi
        · exact ⟨0, b, ds, es, rfl, rfl, hb, by rw [h2 i nm]; exact get_set_same hb, isL_of hbn⟩
        · obtain ⟨j, b', ds', es', g1, g2, g3, g4, gL⟩ := h3 i hi
          have hne : i ≠ m := fun z => nm (z ▸ hi)
          rw [List.getElem?_set_ne (Ne.symm hne)] at g3
          exact ⟨j + 1, b', ds', es', by simpa using g1, by simpa using g2, g3, g4, gL⟩
    · cases e
theorem call_end (h : SR K H M O π ρ σ) (r : AReps K H M σ vs as) (n : nodupB (slotsOf as) = true) (eb : backTo ρ as os = some ρ') (lv : ∀ a, M' a → H' a ≠ none) (x : Ext (calO M σ (slotsOf as)) H M H' M') (ho : OutR K H' M' (calP vs) os) :
    Ext O H M H' M' ∧ SR K H' M' O π ρ' σ := by
  obtain ⟨b1, b2, b3⟩ := back_get n eb
  have sub : ∀ a, O a → calO M σ (slotsOf as) a := fun a q => ⟨h.sub a q, fun i hi z => by
    obtain ⟨j, b, ds, es, g1, g2, g3, g4, gL⟩ := b3 i hi
    obtain ⟨a', ws, f1, f2, f3, f4, _⟩ := h.own i b es g3
    rw [z] at f1; cases f1
    exact f4 q⟩
  have same : ∀ {i : Nat} {s : Sv}, ρ'[i]? = some (some s) → i ∉ slotsOf as → ρ[i]? = some (some s) := fun e hi => by rw [b2 _ hi] at e; exact e
  have ow : ∀ {i : Nat} {b : Kd} {ds : List D}, ρ'[i]? = some (some (.own b ds)) → ∃ es, ρ[i]? = some (some (.own b es)) := fun {i b ds} e => by
    by_cases hi : i ∈ slotsOf as
    · obtain ⟨j, b', ds', es, g1, g2, g3, g4, gL⟩ := b3 i hi
      rw [e] at g4; cases g4
      exact ⟨es, g3⟩
    · exact ⟨ds, same e hi⟩
  refine ⟨x.less sub, ⟨by rw [b1]; exact h.len, fun a q => x.sub a (sub a q), lv, fun i d e => ?_, fun i b ds e => ?_, fun i j b c ds es a hij e f g => ?_⟩⟩
  · by_cases hi : i ∈ slotsOf as
    · obtain ⟨j, b', ds', es, g1, g2, g3, g4, gL⟩ := b3 i hi
      rw [e] at g4; cases g4
    · obtain ⟨v, e1, rr⟩ := h.imm i d (same e hi)
      exact ⟨v, e1, rr.tr x.tr⟩
  · by_cases hi : i ∈ slotsOf as
    · obtain ⟨j, b', ds', es, g1, g2, g3, g4, gL⟩ := b3 i hi
      rw [e] at g4; cases g4
      obtain ⟨a, ws, f1, f2, f3, f4, f5, f6⟩ := h.ownL g3 gL
      obtain ⟨v, e3, e4⟩ := paired_get r g1
      have e4' : σ[i]? = some (some v) := e4
      rw [f1] at e4'; cases e4'
      obtain ⟨a', us, p1, p2, p3, p4⟩ := ho j ds g2
      unfold calP at p1
      rw [e3] at p1
      cases p1
      exact ⟨a, us, f1, p2.trans (congrArg some (cell_lst gL).symm), p3, f4, p4, f6⟩
    · have e0 := same e hi
      obtain ⟨a, ws, f1, f2, f3, f4, f5, f6⟩ := h.own i b ds e0
      have ha : calO M σ (slotsOf as) a := ⟨f3, fun k hk z => by
        obtain ⟨j, b', ds', es, g1, g2, g3, g4, gL⟩ := b3 k hk
        exact h.uniq i k _ _ _ _ a (fun q => hi (q ▸ hk)) e0 g3 f1 z⟩
      exact ⟨a, ws, f1, x.keep a _ f2 (.inl ha), x.sub a ha, f4, f5.tr x.tr, f6⟩
  · obtain ⟨ds', e1⟩ := ow e
    obtain ⟨es', f1⟩ := ow f
    exact h.uniq i j b c ds' es' a hij e1 f1 g
/-- what comes back -/
theorem call_ret {rr : Sv} {v : V} (h : SR K H M O π ρ σ) (r : AReps K H M σ vs as) (n : nodupB (slotsOf as) = true) (eb : backTo ρ as os = some ρ') (x : Ext (calO M σ (slotsOf as)) H M H' M') (ho : OutR K H' M' (calP vs) os) (q : RetR K H' M' (calO M σ (slotsOf as)) (calP vs) os rr v) :
    RP K H' M' O ρ' σ (.val rr) v := by
  cases rr with
  | imm d => exact q
  | own b0 ds0 =>
    obtain ⟨p, ws, e1, e2, e3, e4, e5, e6⟩ := q
    obtain ⟨b1, b2, b3⟩ := back_get n eb
    refine ⟨p, ws, e1, e2, e3, fun z => e4 ⟨h.sub p z, fun i hi y => ?_⟩, e5, fun i b ds e y => ?_⟩
    · obtain ⟨j, b, ds, es, g1, g2, g3, g4, gL⟩ := b3 i hi
      obtain ⟨a', ws', f1, f2, f3, f4, _⟩ := h.own i b es g3
      rw [y] at f1; cases f1
      exact f4 z
    · by_cases hi : i ∈ slotsOf as
      · obtain ⟨j, b', ds', es, g1, g2, g3, g4, gL⟩ := b3 i hi
        obtain ⟨v', e7, e8⟩ := paired_get r g1
        have e8' : σ[i]? = some (some v') := e8
        rw [y] at e8'; cases e8'
        exact e6 j ds' g2 (by unfold calP; rw [e7])
      · rw [b2 i hi] at e
        obtain ⟨a, us, f1, f2, f3, f4, f5, f6⟩ := h.own i b ds e
        rw [y] at f1; cases f1
        exact e4 ⟨f3, fun k hk z => by
          obtain ⟨j, b', ds', es, g1, g2, g3, g4, gL⟩ := b3 k hk
          exact h.uniq i k _ _ _ _ p (fun q => hi (q ▸ hk)) e g3 y z⟩
end
section
variable {X : Cx} {e : Expr} {es : List Expr} {me : ME} {mr : MR} {k np : Nat} {f : Addr} {fd : FuncData} {ps : List Str} {g : Fn} {x : Str} {p pos : Pos}
theorem tR_call {σ : St} {H : Hp} {Q : VK} (hn : ∀ ρ as ρ', mr ρ = some (as, ρ') → as.length = np) (h : tE X.K (mCall g mr) σ H Q) : tR X.K mr σ H fun vs H1 => spD X.K np g vs H1 Q E0 := by
  obtain ⟨ρ, M, O, π, pr, ρ', h, e, q⟩ := h
  unfold mCall at e
  split at e
  · rename_i as ρ1 e1
    split at e
    · rename_i n
      split at e
      · rename_i args e2
        split at e
        · rename_i r os e3
          split at e
          · rename_i ρ2 e4
            cases e
            refine ⟨ρ, M, O, π, as, ρ1, h, e1, fun vs H1 M1 x1 s1 r1 => ?_⟩
            refine ⟨M1, _, _, args, r, os, by rw [Paired.length r1]; exact hn _ _ _ e1, call_start s1 r1 n e2, e3, fun v H2 M2 lv x2 ho rr => ?_⟩
            obtain ⟨x3, s3⟩ := call_end s1 r1 n e4 lv x2 ho
            exact q v H2 M2 (x1.trans x3) s3 (call_ret s1 r1 n e4 x2 ho rr)
          · cases e
        · cases e
      · cases e
    · cases e
  · cases e
/-- f(e, ..) -/
theorem de_call (F : FnOk X.prog X.w X.K X.mg X.base CX0 k f fd ps (spD X.K ps.length g)) (hr : Room k X.A) (hg : Gl X x) (hm : X.mg x = some (.ref f)) (hk : PySem.W.keepIn X.K (.ref f) = true) (hb : Binds X.K fd ps [])
    (ha : DR X (e :: es) mr) (hn : ∀ ρ as ρ', mr ρ = some (as, ρ') → as.length = ps.length) (hdb : (x == ("__debug__" : Str)) = false := by decide) (he : starEach (e :: es) X.env = (false, eval e X.env) :: starEach es X.env := by rfl) (hpl : (PySem.backTo pos (starEach es X.env)).any (·.1) = false := by rfl) :
    DE X (.Call (.Name x p) (e :: es) [] pos) (mCall g mr) :=
  PE.imp (pe_call F hr hg hm hk hb .nil pass0 ha hdb he hpl) fun σ H Q h => by
    have := tR_call (X := X) hn h
    obtain ⟨ρ, M, O, π, as, ρ', h, e, q⟩ := this
    exact ⟨ρ, M, O, π, as, ρ', h, e, fun vs H' M' x s r => by show spD X.K ps.length g (vs ++ []) H' Q E0; rw [List.append_nil]; exact q vs H' M' x s r⟩
theorem de_call0 (F : FnOk X.prog X.w X.K X.mg X.base CX0 k f fd [] (spD X.K 0 g)) (hr : Room k X.A) (hg : Gl X x) (hm : X.mg x = some (.ref f)) (hk : PySem.W.keepIn X.K (.ref f) = true) (hb : Binds X.K fd [] []) (hdb : (x == ("__debug__" : Str)) = false := by decide) :
    DE X (.Call (.Name x p) [] [] pos) (mCall g rNil) :=
  PE.imp (pe_call0 (dvs := []) F hr hg hm hk hb .nil pass0 hdb) fun σ H Q h => by
    obtain ⟨ρ, M, O, π, as, ρ', h, e, q⟩ := tR_call (X := X) (np := 0) (fun ρ as ρ' e => by cases e; rfl) h
    cases e
    exact q [] H M (.refl h) h .nil
end
end Vi

namespace PySem
open Sem (wp)
open AutoSeq1 (wpAny_loadPart')
theorem vi_meets_enumerate_newT (l : Addr) (items : Array Value) (n : Nat) (dct : Option Addr) (sl : Array (Option Value)) :
    Meets (Builtin.«enumerate.__new__» ⟨[.type "enumerate", .ref l], []⟩) (fun _ R s => s.heap.get? l = some { cls := .type "tuple", dict := dct, data := .seq items n, slots := sl } ∧
      R (.ok (.ret (.ref (s.heap.push { cls := .type "tuple_iterator", data := .fields #[.ref l, .int 0 0] }).objs.size)))
        { s with heap := (s.heap.push { cls := .type "tuple_iterator", data := .fields #[.ref l, .int 0 0] }).push { cls := .type "enumerate", data := .fields #[.none, .bool false, .ref s.heap.objs.size, rawInt 0, .none, .none] } }) :=
  .of_wp fun prog w A R s h => by
    obtain ⟨hp, g, d, tk, os⟩ := s; obtain ⟨hl, h⟩ := h
    have hsub := sub_enumerate
    have hL : Heap.IsTuple (Shared.heap ⟨hp, g, d, tk, os⟩) l items := ⟨_, hl, rfl, n, rfl⟩
    wp_walk using wpAny_loadPart' hl
    refine wpAny_stack_any fun st => wpAny_pure ?_
    split
    · rename_i c _ _ _ _ _
      cases (c == Value.type "enumerate")
      · wp_walk using wpAny_loadPart' hl, wpAny_pyIter_tuple hL
        exact ⟨_, rfl, h⟩
      · wp_walk using wpAny_loadPart' hl, wpAny_pyIter_tuple hL
        exact ⟨_, rfl, h⟩
    · wp_walk using wpAny_loadPart' hl, wpAny_pyIter_tuple hL
      exact ⟨_, rfl, h⟩
theorem vi_call_enumerate_tuple {prog : Program} {w : World} {A : Around} {E : Value → Shared → Prop} {s : Shared} {l : Addr} {items : Array Value} {Q : Value → Shared → Prop} (hL : s.heap.IsTuple l items)
    (h : ∀ h', IsEnum h' (s.heap.objs.size + 1) s.heap.objs.size 0 .none → h'.IsTupleIter s.heap.objs.size l 0 → h'.objs.size = s.heap.objs.size + 2 →
      (∀ b o, s.heap.get? b = some o → h'.get? b = some o) → Q (.ref (s.heap.objs.size + 1)) { s with heap := h' }) :
    wpAny (model prog w) A (call (.type "enumerate") [.ref l]) Q E s := by
  obtain ⟨⟨c, dct, dt, sl⟩, hl, hc, n, hd⟩ := hL
  replace hc : c = .type "tuple" := hc
  replace hd : dt = .seq items n := hd
  subst hc hd
  refine callType_new F.called_enumerate (by decide) (F.typeCall_enumerate_1 _) (F.newCall_enumerate_1 _) (fun obj => F.args_object_init_2 obj _) F.entry_enumerate_new
    (vi_meets_enumerate_newT l items n dct sl) ⟨hl, ?_⟩
  have hz : (s.heap.push { cls := .type "tuple_iterator", data := .fields #[.ref l, .int 0 0] }).objs.size = s.heap.objs.size + 1 := Heap.size_push ..
  show _ ∧ _
  rw [hz]
  have he : IsEnum ((s.heap.push { cls := .type "tuple_iterator", data := .fields #[.ref l, .int 0 0] }).push
      { cls := .type "enumerate", data := .fields #[.none, .bool false, .ref s.heap.objs.size, rawInt 0, .none, .none] }) (s.heap.objs.size + 1) s.heap.objs.size 0 .none := by
    have := Heap.get?_push_size (s.heap.push { cls := .type "tuple_iterator", data := .fields #[.ref l, .int 0 0] })
      (o := { cls := .type "enumerate", data := .fields #[.none, .bool false, .ref s.heap.objs.size, rawInt 0, .none, .none] }) rfl
    rw [hz] at this; exact this
  refine ⟨⟨_, he, rfl⟩, h _ he ⟨_, Heap.get?_push_of_some _ (Heap.get?_push_size _ rfl), rfl, rfl⟩ (by rw [Heap.size_push, hz]) fun b o x => Heap.get?_push_of_some _ (Heap.get?_push_of_some _ x)⟩
end PySem
namespace Vi
open PySem PySem.Spec PyProof.Rows L2
/-! ### enumerate of a tuple -/
def IteT (K : PySem.W.Frag) (a : Addr) : It :=
  ⟨fun i H => ∃ (xs : List V) (x : V), SqT K H a xs ∧ xs[i]? = some x, fun i H v H' => ∃ T x, v = .ref T ∧ H T = none ∧ H' = upd H T (.tup [.int (i : Nat), x]) ∧ ∀ xs, SqT K H a xs → xs[i]? = some x, fun i H => ∃ xs : List V, SqT K H a xs ∧ xs.length ≤ i⟩
theorem turn_enumT {P : Program} {w : World} {K : PySem.W.Frag} {elts : List Expr} {kk : Nat} {tpos : Pos} (a e it : Addr) (hai : a ≠ it) (hae : a ≠ e) :
    Turn P w K (.Tuple elts kk tpos) (IteT K a) [e, it] e (fun i h => (∃ old, IsEnum h e it ((i : Nat) : Int) old) ∧ h.IsTupleIter it a i ∧ e ≠ it) where
  mem := by simp
  obj := fun i h st b hb => by
    obtain ⟨⟨old, he⟩, ⟨o, ho, hc, hd⟩, _⟩ := st
    have e' : b = e ∨ b = it := by simpa using hb
    rcases e' with z | z
    · rw [z]; exact ⟨_, he, fun v q => nomatch q⟩
    · rw [z]; exact ⟨o, ho, fun v q => by rw [hd] at q; cases q⟩
  keep := fun i h h' st k => let ⟨⟨old, he⟩, hi, hne⟩ := st; ⟨⟨old, k e (by simp) _ he⟩, hi.at fun o q => k it (by simp) o q, hne⟩
  item := by
    intro X hP hw hK hc i pins s σ H E I hf st hg
    subst hP hw hK
    obtain ⟨⟨old, he⟩, hit, hne⟩ := st
    obtain ⟨xs, x, hq, hx⟩ := hg
    obtain ⟨its, rv, p, hz⟩ := I.tuple hq
    obtain ⟨u, hu, ru⟩ := rv.get hx
    have hel : e < s.heap.objs.size := Heap.lt_size he
    have hil : it < s.heap.objs.size := by obtain ⟨_, q, _⟩ := hit; exact Heap.lt_size q
    have hlt : i < its.toArray.size := by simpa using (List.getElem?_eq_some_iff.mp hu).1
    refine wpAny_pyNext_enum_itemD (Draws.tuple (A := X.A.in1) (I.ok.hd hc) it a hai its.toArray) he ⟨hit, p⟩ hlt hne (by simp; exact ⟨hne, fun z => hae z.symm⟩) fun y h' tk py ho ⟨hit', _⟩ hT hsz hk => ?_
    have ey : y = u := by
      have h1 : its.toArray[i]? = some y := py
      have h2 : its.toArray[i]? = some u := by simpa using hu
      rw [h2] at h1; exact (Option.some.inj h1).symm
    subst ey
    refine ⟨_, rfl, wpAny_letOwnedTupleGo_enum (s := { s with heap := h', toks := tk + 1 }) ho fun h'' he' sb => ?_⟩
    have hT2 : h''.get? s.heap.objs.size = some { cls := .type "tuple", data := .seq #[.int i tk, y] } := (sb.2 _ (Nat.ne_of_gt hel)).trans hT
    have new : ObjOk X.prog X.w (upd H s.heap.objs.size (.tup [.int (i : Nat), x])) h'' s.heap.objs.size (.tup [.int (i : Nat), x]) :=
      ⟨by show 2 ≤ sizeLine; decide, [.int i tk, y], .cons ⟨_, rfl⟩ (.cons ru .nil), ⟨_, hT2, rfl, _, rfl⟩⟩
    have I1 : Inv X pins σ (upd H s.heap.objs.size (.tup [.int (i : Nat), x])) { s with heap := h'', toks := tk + 1 } :=
      I.turnedNew (ch := [e, it]) (fun b ob hb q => (sb.2 b (fun z => hb (by simp [z]))).trans (hk b ob (fun z => hb (by simp [z])) (fun z => hb (by simp [z])) q)) hf (Nat.le_refl _) new
    refine ⟨.ref s.heap.objs.size, _, I1, rfl, ⟨_, x, rfl, I.hok.fresh (Nat.le_refl _), rfl, fun ys hy => by rw [I.tuple_inj hy hq]; exact hx⟩, ⟨⟨y, ?_⟩, hit'.at fun o q => (sb.2 it (Ne.symm hne)).trans q, hne⟩, fun b hb => ?_⟩
    · have e1 : ((i + 1 : Nat) : Int) = (i : Int) + 1 := by omega
      rw [e1]; exact he'
    · have hb' : b < s.heap.objs.size := by
        have e' : b = e ∨ b = it := by simpa using hb
        rcases e' with z | z
        · rw [z]; exact hel
        · rw [z]; exact hil
      rw [upd_ne (Nat.ne_of_lt hb')]
      exact (hf b hb).1
  done := by
    intro X hP hw hK hc i pins s σ H E I hf st hg
    subst hP hw hK
    obtain ⟨⟨old, he⟩, hit, hne⟩ := st
    obtain ⟨xs, hq, hx⟩ := hg
    obtain ⟨its, rv, p, hz⟩ := I.tuple hq
    obtain ⟨f0, f1, f2, f3, f4, f5⟩ := hf it (by simp)
    have hl := rv.length
    have hT : s.TypeIs (.ref e) "enumerate" := ⟨_, he, rfl⟩
    unfold pyNext
    refine wpAny_bind (wpAny_attempt (wpAny_callSpecial?_slot (name := Str.ofString "__next__") hT F.slot_enumerate_next
      (wpAny_call_entry F.slot_enumerate_next hT F.entry_enumerate_next ?_ (F.args_enumerate_next_1 _))))
    show wpAny _ _ (field (.ref e) 2 >>= _) _ _ _
    refine wpAny_bind (wpAny_field he rfl (x := .ref it) rfl ?_)
    refine wpAny_bind (wpAny_nextOf_tuple_end (I.ok.hd hc) hit p (by simp; omega) fun h' x he' hx' => ?_)
    obtain ⟨o, ho, hc⟩ := hx'
    refine wpAny_bind (wpAny_isInstance (T := "StopIteration") (b := true) ⟨o, ho, hc⟩ isSubtype_stop ?_)
    exact wpAny_pure ⟨rfl, I.turned (t' := s.toks) (fun b o hb q => he' b o hb q) f0 f1 f3 f4 f5⟩
  self := fun A i s Q E st h => let ⟨⟨_, he⟩, _⟩ := st; wpAny_pyIter_enum he h
section
variable {X : Cx}
def iEnumA (K : PySem.W.Frag) (ta : TA) : TI := fun σ H R => ta σ H fun vs H1 => ∃ a xs, vs = [.ref a] ∧ ((SqL K H1 a xs ∧ R (Ite K a) H1) ∨ (SqT K H1 a xs ∧ R (IteT K a) H1))
theorem pi_enumA {e : Expr} {ta : TA} {p pos tpos : Pos} {elts : List Expr} {kk : Nat} (hg : Gl X "enumerate") (hm : X.mg "enumerate" = none) (ha : PA X [e] ta) (hs : starEach [e] X.env = [(false, eval e X.env)] := by rfl) :
    PI X (.Tuple elts kk tpos) (.Call (.Name "enumerate" p) [e] [] pos) (iEnumA X.K ta) := by
  refine ⟨fun pins s σ H R I h => ?_⟩
  refine Call_ (ld_blt I hg hm boot_enumerate (PyProof.Rows.callWith_type1 (thn (ha.run pos pins s σ H _ I h) fun us s1 ⟨vs, H1, I1, r1, q1⟩ => ?_) hs rfl))
  obtain ⟨a, xs, ex, q1⟩ := q1
  subst ex
  cases r1 with
  | cons r rr =>
    cases rr
    cases r
    rcases q1 with ⟨hq, q⟩ | ⟨hq, q⟩
    · obtain ⟨its, rv, p', hz⟩ := I1.list hq
      refine call_enumerate_list p'.isList fun h' he hit hsz hk => wpAny_pyIter_enum he ?_
      have I2 : Inv X pins σ H1 { s1 with heap := h' } := I1.kept (t' := s1.toks) hk
      refine ⟨s1.heap.objs.size + 1, [s1.heap.objs.size + 1, s1.heap.objs.size], _, _, H1, rfl, I2, turn_enum a (s1.heap.objs.size + 1) s1.heap.objs.size, ⟨⟨.none, he⟩, hit, Nat.succ_ne_self _⟩, fun b hb => ?_, q⟩
      have e' : b = s1.heap.objs.size + 1 ∨ b = s1.heap.objs.size := by simpa using hb
      have hle : s1.heap.objs.size ≤ b := by
        rcases e' with z | z
        · rw [z]; exact Nat.le_add_right _ _
        · rw [z]; exact Nat.le_refl _
      exact I1.fpOk hle (I1.hok.fresh hle)
    · obtain ⟨its, rv, p', hz⟩ := I1.tuple hq
      have hat : a < s1.heap.objs.size := p'.lt
      refine vi_call_enumerate_tuple p' fun h' he hit hsz hk => wpAny_pyIter_enum he ?_
      have I2 : Inv X pins σ H1 { s1 with heap := h' } := I1.kept (t' := s1.toks) hk
      refine ⟨s1.heap.objs.size + 1, [s1.heap.objs.size + 1, s1.heap.objs.size], _, _, H1, rfl, I2, turn_enumT a (s1.heap.objs.size + 1) s1.heap.objs.size (Nat.ne_of_lt hat) (Nat.ne_of_lt (Nat.lt_succ_of_lt hat)), ⟨⟨.none, he⟩, hit, Nat.succ_ne_self _⟩, fun b hb => ?_, q⟩
      have e' : b = s1.heap.objs.size + 1 ∨ b = s1.heap.objs.size := by simpa using hb
      have hle : s1.heap.objs.size ≤ b := by
        rcases e' with z | z
        · rw [z]; exact Nat.le_add_right _ _
        · rw [z]; exact Nat.le_refl _
      exact I1.fpOk hle (I1.hok.fresh hle)
theorem src_enumT {K : PySem.W.Frag} {H0 : Hp} {M0 : Mset} {a : Addr} {vs : List V} {xs : List D} (h : TupAt K H0 M0 a vs) (r : Reps K H0 M0 vs xs) : Src K (IteT K a) (enumD 0 xs) H0 M0 := by
  refine ⟨fun H M l i hi => ?_, fun H M l => ⟨vs, tupAt_lat h l, by rw [enumD_len, r.length]; exact Nat.le_refl _⟩, fun H M l i d x H' ed y => ?_⟩
  · rw [enumD_len, ← r.length] at hi
    exact ⟨vs, vs[i], tupAt_lat h l, by simp [hi]⟩
  · obtain ⟨p, e1, rfl⟩ := enumD_get ed
    obtain ⟨v, hv, rv⟩ := r.get e1
    obtain ⟨T, vx, rfl, hT, rfl, f1⟩ := y
    have g1 := f1 vs (tupAt_lat h l)
    rw [hv] at g1; cases g1
    rw [Nat.zero_add]
    exact .inr ⟨T, _, _, rfl, hT, rfl, rfl, .cons (.int _) (.cons (rv.tr l) .nil)⟩
def mIEnum (ma : MA) : MI := fun ρ => match ma ρ with
  | some ([.list xs], ρ1) => some (enumD 0 xs, ρ1)
  | some ([.tuple xs], ρ1) => some (enumD 0 xs, ρ1)
  | _ => none
theorem di_enum {e : Expr} {ma : MA} {p pos tpos : Pos} {elts : List Expr} {kk : Nat} (hg : Gl X "enumerate") (hm : X.mg "enumerate" = none) (ha : DA X [e] ma) (hs : starEach [e] X.env = [(false, eval e X.env)] := by rfl) :
    DI X (.Tuple elts kk tpos) (.Call (.Name "enumerate" p) [e] [] pos) (mIEnum ma) :=
  PI.imp (pi_enumA hg hm ha hs) fun σ H R ⟨ρ, M, O, π, ds, ρ', h, e, q⟩ => by
    unfold mIEnum at e
    split at e
    · rename_i xs ρ1 e1
      cases e
      refine ⟨ρ, M, O, π, _, _, h, e1, fun vs H1 M1 x1 s1 r1 => ?_⟩
      cases r1 with
      | cons rv rr =>
        cases rr
        cases rv with
        | lst hr n rr => exact ⟨_, _, rfl, .inl ⟨.inl hr, q _ H1 M1 x1 s1 (src_enumL hr n rr)⟩⟩
    · rename_i xs ρ1 e1
      cases e
      refine ⟨ρ, M, O, π, _, _, h, e1, fun vs H1 M1 x1 s1 r1 => ?_⟩
      cases r1 with
      | cons rv rr =>
        cases rr
        cases rv with
        | tup hr rr => exact ⟨_, _, rfl, .inr ⟨hr.sq, q _ H1 M1 x1 s1 (src_enumT hr rr)⟩⟩
    · cases e

/-! ### a, b = x, y -/
theorem take_ok {K : PySem.W.Frag} {H : Hp} {M O : Mset} {π : Nat → Option Addr} {ρ ρ' : Fm} {σ : St} {pr : PR} {v : V} {sv : Sv} (h : SR K H M O π ρ σ) (r : RP K H M O ρ σ pr v) (e : take ρ pr = some (sv, ρ')) : ∃ M', Ext O H M H M' ∧ SR K H M' O π ρ' σ ∧ RP K H M' O ρ' σ (.val sv) v := by
  match pr, v, r with
  | .val (.imm d), v, r => cases e; exact ⟨M, .refl h, h, r⟩
  | .val (.own b ds), v, ⟨p, vs, e1, e2, e3, e4, e5, e6⟩ =>
    cases b with
    | dic => cases e; exact ⟨M, .refl h, h, p, vs, e1, e2, e3, e4, e5, e6⟩
    | loc => cases e; exact ⟨M, .refl h, h, p, vs, e1, e2, e3, e4, e5, e6⟩
    | par => cases e; exact ⟨M, .refl h, h, p, vs, e1, e2, e3, e4, e5, e6⟩
  | .slot j, v, r =>
    unfold take at e
    simp only at e
    cases ef : frz ρ (.slot j) with
    | none => rw [ef] at e; cases e
    | some dρ =>
      obtain ⟨d, ρ1⟩ := dρ
      rw [ef] at e
      cases e
      obtain ⟨M', x, s, rr⟩ := frz_ok h r ef
      exact ⟨M', x, s, rr⟩
theorem SR.setVal {K : PySem.W.Frag} {H : Hp} {M O : Mset} {π : Nat → Option Addr} {ρ : Fm} {σ : St} {v : V} {sv : Sv} (h : SR K H M O π ρ σ) (r : RP K H M O ρ σ (.val sv) v) (hp : ∀ ds, sv ≠ .own .par ds) (i : Nat) : SR K H M O π (ρ.set i (some sv)) (σ.set i (some v)) := by
  cases sv with
  | imm d => exact h.setImm r
  | own b ds =>
    obtain ⟨p, vs, rfl, e2, e3, e4, e5, e6⟩ := r
    cases b with
    | par => exact absurd rfl (hp ds)
    | loc => exact h.setOwn e2 e3 e4 e5 e6
    | dic => exact h.setOwnC (fun z => by cases z) e2 e3 e4 e5 e6
theorem RP.set {K : PySem.W.Frag} {H : Hp} {M O : Mset} {ρ : Fm} {σ : St} {v1 v2 : V} {s1 s2 : Sv} {i : Nat} (r1 : RP K H M O ρ σ (.val s1) v1) (r2 : RP K H M (hold O (.val s1) v1) ρ σ (.val s2) v2) (hl : ρ.length = σ.length) : RP K H M O (ρ.set i (some s1)) (σ.set i (some v1)) (.val s2) v2 := by
  cases s2 with
  | imm d => exact r2
  | own b ds =>
    obtain ⟨p, vs, rfl, e2, e3, e4, e5, e6⟩ := r2
    refine ⟨p, vs, rfl, e2, e3, fun z => e4 (hold_le O _ v1 p z), e5, fun j c es f g => ?_⟩
    rcases get_set f with ⟨hj, z⟩ | ⟨hj, f'⟩
    · have hz : s1 = .own c es := (Option.some.inj z).symm
      subst hz
      have hlt : i < ρ.length := by
        subst hj
        have := (List.getElem?_eq_some_iff.mp f).1
        rwa [List.length_set] at this
      obtain ⟨q, ws, e1, _⟩ := r1
      subst e1
      subst hj
      rw [List.getElem?_set_self (by rw [← hl]; exact hlt)] at g
      cases g
      exact e4 (.inr rfl)
    · rw [List.getElem?_set_ne (Ne.symm hj)] at g
      exact e6 j c es f' g
def fine : Sv → Bool
  | .own .par _ => false
  | _ => true
theorem fine_ne {s : Sv} (h : fine s = true) : ∀ ds, s ≠ .own .par ds := fun ds e => by subst e; cases h
def mPar (i j : Nat) (ma mb : ME) : MS := fun ρ => match ma ρ with
  | some (p1, ρ1) => match take ρ1 p1 with
    | some (s1, ρ2) => match mb ρ2 with
      | some (p2, ρ3) => match take ρ3 p2 with
        | some (s2, ρ4) => if (fine s1 && fine s2) = true then some (.next, (ρ4.set i (some s1)).set j (some s2)) else none
        | none => none
      | none => none
    | none => none
  | none => none
theorem ds_par {st : Stmt} {a b : Expr} {ma mb : ME} {i j : Nat} (h : ∀ ta, PA X [a, b] ta → PS X st (tPar i j ta)) (ha : DE X a ma) (hb : DE X b mb) (hs : starEach [a, b] X.env = (false, eval a X.env) :: starEach [b] X.env := by rfl) (hs2 : starEach [b] X.env = (false, eval b X.env) :: starEach [] X.env := by rfl) : DS X st (mPar i j ma mb) :=
  PS.imp (h _ (pa_cons ha (pa_cons hb pa_nil hs2) hs)) fun D σ H ⟨ρ, M, O, π, fl, ρ', h, e, q⟩ => by
    unfold mPar at e
    split at e
    · rename_i p1 ρ1 e1
      split at e
      · rename_i s1 ρ2 e2
        split at e
        · rename_i p2 ρ3 e3
          split at e
          · rename_i s2 ρ4 e4
            split at e
            · rename_i hz
              cases e
              rw [Bool.and_eq_true] at hz
              refine ⟨ρ, M, O, π, p1, ρ1, h, e1, fun v1 H1 M1 x1 t1 r1 => ?_⟩
              obtain ⟨M2, x2, t2, r2⟩ := take_ok t1 r1 e2
              refine ⟨ρ2, M2, Vi.hold O (.val s1) v1, π, p2, ρ3, t2.hold r2, e3, fun v2 H3 M3 x3 t3 r3 => ⟨v1, v2, rfl, ?_⟩⟩
              obtain ⟨M4, x4, t4, r4⟩ := take_ok t3 r3 e4
              have le := hold_le O (.val s1) v1
              have r1' := r2.held (x3.trans x4) t4
              have t5 := (t4.less le).setVal r1' (fine_ne hz.1) i
              have r5 := RP.set (i := i) r1' r4 t4.len
              exact q _ H3 M4 ((x1.trans x2).trans ((x3.trans x4).less le)) (t5.setVal r5 (fine_ne hz.2) j)
            · cases e
          · cases e
        · cases e
      · cases e
    · cases e
/-- targets of a value that is a tuple -/
def mAsgG (me : ME) (mg : MG) : MS := fun ρ => match me ρ with
  | some (pr, ρ1) => match frz ρ1 pr with
    | some (d, ρ2) => match mg d ρ2 with
      | some ρ3 => some (.next, ρ3)
      | none => none
    | none => none
  | none => none
theorem ds_asgG {st : Stmt} {e tg : Expr} {me : ME} {mg : MG} {ts : List Nat} (h : ∀ te g, PE X e te → PG X tg g → PS X st (tAsg te g)) (he : DE X e me) (hg : DG X tg mg ts) : DS X st (mAsgG me mg) :=
  PS.imp (h _ _ he hg) fun D σ H ⟨ρ, M, O, π, fl, ρ', h, e, q⟩ => by
    unfold mAsgG at e
    split at e
    · rename_i pr ρ1 e1
      split at e
      · rename_i d ρ2 e2
        split at e
        · rename_i ρ3 e3
          cases e
          refine ⟨ρ, M, O, π, pr, ρ1, h, e1, fun v H1 M1 x1 s1 r1 => ?_⟩
          obtain ⟨M2, x2, s2, r2⟩ := frz_ok s1 r1 e2
          exact ⟨ρ2, M2, O, π, d, _, s2, r2, e3, fun σ' s3 _ _ => q σ' H1 M2 (x1.trans x2) s3⟩
        · cases e
      · cases e
    · cases e

/-! ### calls by keyword -/
theorem pe_callK0 {CX : CXT} {k : Nat} {f : Addr} {fd : FuncData} {ps ks : List Str} {sp : Sp} {E : XK} {x : Str} {p pos : Pos} {kws : List Keyword} {tk : TA} {g : List Value → List Value → List Value} {gV : List V → List V → List V}
    (F : FnOk X.prog X.w X.K X.mg X.base CX k f fd ps sp) (hr : Room k X.A) (hg : Gl X x) (hm : X.mg x = some (.ref f)) (hk : PySem.W.keepIn X.K (.ref f) = true) (hb : KBinds X.K fd ps ks g gV) (hx : Passes CX X E)
    (hkw : PK X kws tk) (hall : (backToKw pos (keywordEach kws X.env)).all (·.1.isSome) = true := by rfl) (hks : (backToKw pos (keywordEach kws X.env)).filterMap (·.1) = ks := by rfl)
    (hdb : (x == ("__debug__" : Str)) = false := by decide) (hpl : ((PySem.backTo pos (starEach [] X.env)).any (·.1) || (backToKw pos (keywordEach kws X.env)).any (·.1.isNone)) = false := by rfl) :
    PE X (.Call (.Name x p) [] kws pos) (tCallK sp gV E tNil tk) := by
  refine ⟨fun pins s σ H Q I h => ?_⟩
  refine wpAny_Call_Name_kw (ld_glob I hg hm ?_ hdb)
  refine PySem.W.callWith_KW0 (h₀ := X.base) I.ok.mod.kin hk hall (thn (hkw.run pos pins s σ H _ I h) fun ws s2 ⟨zs, H2, I2, rz, q2⟩ => ⟨I2.kIn, ?_⟩) hpl
  rw [hks]
  exact run_fnk (us := []) (vs := []) F hr hb hx I2 .nil rz q2
/-- the arguments in the parameters' order -/
def perm {α : Type} (n1 n2 : Nat) (is : List Nat) (us ws : List α) : List α := if us.length = n1 ∧ ws.length = n2 then is.filterMap fun i => (us ++ ws)[i]? else []
theorem perm_rel {α β : Type} {F : α → β → Prop} (n1 n2 : Nat) (is : List Nat) {vs : List α} {us : List β} {zs : List α} {ws : List β} (r : Paired F vs us) (s : Paired F zs ws) : Paired F (perm n1 n2 is vs zs) (perm n1 n2 is us ws) := by
  have ap : ∀ {vs : List α} {us : List β} {zs : List α} {ws : List β}, Paired F vs us → Paired F zs ws → Paired F (vs ++ zs) (us ++ ws) := fun {vs us zs ws} r s => by
    induction r with
    | nil => exact s
    | cons h t ih => exact .cons h ih
  have get : ∀ {xs : List α} {ys : List β} (i : Nat), Paired F xs ys → (xs[i]? = none ∧ ys[i]? = none) ∨ ∃ x y, xs[i]? = some x ∧ ys[i]? = some y ∧ F x y := fun {xs ys} i r => by
    induction r generalizing i with
    | nil => exact .inl ⟨by simp, by simp⟩
    | cons h t ih =>
      cases i with
      | zero => exact .inr ⟨_, _, rfl, rfl, h⟩
      | succ i => simpa using ih i
  unfold perm
  rw [Paired.length r, Paired.length s]
  split
  · have all := ap r s
    induction is with
    | nil => exact .nil
    | cons i is ih =>
      rcases get i all with ⟨e1, e2⟩ | ⟨x, y, e1, e2, f⟩
      · rw [List.filterMap_cons, List.filterMap_cons, e1, e2]; exact ih
      · rw [List.filterMap_cons, List.filterMap_cons, e1, e2]; exact .cons f ih
  · exact .nil
theorem _root_.L2.Fun.kbinds {K : PySem.W.Frag} {x qual : Str} {st : Stmt} {f : Addr} {fd : FuncData} {ps ks : List Str} {n1 n2 : Nat} {is : List Nat} (F : Fun K x qual st f fd) (hp : ps ≠ [])
    (h : ∀ (kV doc pm : Value) (an : Option Addr) (cdv ct : Value) (us ws : List Value), us.length = n1 → ws.length = n2 → bindArgs (PySem.W.fnOf x qual (defArgs st) (defBody st) (defScope st) .none kV doc pm an cdv ct) ⟨us, ks.zip ws⟩ = pure (ps.zip (is.filterMap fun i => (us ++ ws)[i]?))) : KBinds K fd ps ks (perm n1 n2 is) (perm n1 n2 is) := by
  obtain ⟨oc, od, kV, doc, pm, an, cdv, ct, osl, rfl, lk, hcd⟩ := F.ex
  refine ⟨fun s us ws _ hl => ?_, fun r s => perm_rel n1 n2 is r s⟩
  by_cases hc : us.length = n1 ∧ ws.length = n2
  · refine .of_eq ?_
    unfold perm
    rw [if_pos hc]
    exact h kV doc pm an cdv ct us ws hc.1 hc.2
  · unfold perm at hl
    rw [if_neg hc] at hl
    cases ps with
    | nil => exact absurd rfl hp
    | cons a b => cases hl
/-- keywords' values -/
def DK (X : Cx) (kws : List Keyword) (m : MR) : Prop := PK X kws (tR X.K m)
theorem _root_.L2.PK.imp {kws : List Keyword} {t t' : TA} (h : PK X kws t) (i : ∀ σ H Q, t' σ H Q → t σ H Q) : PK X kws t' := ⟨fun pos pins s σ H Q I q => h.run pos pins s σ H Q I (i σ H Q q)⟩
theorem dk_nil : DK X [] rNil := PK.imp pk_nil fun σ H Q ⟨ρ, M, O, π, ds, ρ', h, e, q⟩ => by
  cases e
  exact q [] H M (.refl h) h .nil
theorem dk_val {nm : Option Str} {e : Expr} {kpos : Pos} {kws : List Keyword} {me : ME} {n : MR} (he : DE X e me) (hes : DK X kws n) : DK X (⟨nm, e, kpos⟩ :: kws) (rVal me n) :=
  PK.imp (pk_cons he hes) fun σ H Q ⟨ρ, M, O, π, ds, ρ', h, e, q⟩ => by
    unfold rVal at e
    split at e
    · rename_i pr ρ1 e1
      split at e
      · rename_i d ρ2 e2
        split at e
        · rename_i as ρ3 e3
          cases e
          refine ⟨ρ, M, O, π, pr, ρ1, h, e1, fun v H1 M1 x1 s1 r1 => ?_⟩
          obtain ⟨M2, x2, s2, r2⟩ := frz_ok s1 r1 e2
          exact ⟨ρ2, M2, O, π, as, _, s2, e3, fun vs H3 M3 x3 s3 r3 => q (v :: vs) H3 M3 ((x1.trans x2).trans x3) s3 (.cons (r2.tr x3.tr) r3)⟩
        · cases e
      · cases e
    · cases e
def rPerm (n1 n2 : Nat) (is : List Nat) (mr mk : MR) : MR := fun ρ => match mr ρ with
  | some (as, ρ1) => match mk ρ1 with
    | some (bs, ρ2) => some (perm n1 n2 is as bs, ρ2)
    | none => none
  | none => none
theorem AReps.tr {K : PySem.W.Frag} {H H' : Hp} {M M' : Mset} {σ : St} (l : Lat H M H' M') : ∀ {vs : List V} {as : List AR}, AReps K H M σ vs as → AReps K H' M' σ vs as
  | _, _, .nil => .nil
  | _, _, .cons h t => .cons (ARep.tr l h) (AReps.tr l t)
theorem tR_perm {mr mk : MR} {n1 n2 : Nat} {is : List Nat} {σ : St} {H : Hp} {Q : List V → Hp → Prop} (h : tR X.K (rPerm n1 n2 is mr mk) σ H Q) : tR X.K mr σ H fun vs H1 => tR X.K mk σ H1 fun zs H2 => Q (perm n1 n2 is vs zs) H2 := by
  obtain ⟨ρ, M, O, π, as, ρ', h, e, q⟩ := h
  unfold rPerm at e
  split at e
  · rename_i as ρ1 e1
    split at e
    · rename_i bs ρ2 e2
      cases e
      refine ⟨ρ, M, O, π, as, ρ1, h, e1, fun vs H1 M1 x1 s1 r1 => ⟨ρ1, M1, O, π, bs, _, s1, e2, fun zs H2 M2 x2 s2 r2 => q _ H2 M2 (x1.trans x2) s2 ?_⟩⟩
      exact perm_rel n1 n2 is (AReps.tr x2.tr r1) r2
    · cases e
  · cases e
theorem de_callK0 {k : Nat} {f : Addr} {fd : FuncData} {ps ks : List Str} {g : Fn} {x : Str} {p pos : Pos} {kws : List Keyword} {mk : MR} {n1 n2 : Nat} {is : List Nat} (F : FnOk X.prog X.w X.K X.mg X.base CX0 k f fd ps (spD X.K ps.length g)) (hr : Room k X.A) (hg : Gl X x) (hm : X.mg x = some (.ref f)) (hk : PySem.W.keepIn X.K (.ref f) = true) (hb : KBinds X.K fd ps ks (perm n1 n2 is) (perm n1 n2 is))
    (hkw : DK X kws mk) (hn : ∀ ρ as ρ', rPerm n1 n2 is rNil mk ρ = some (as, ρ') → as.length = ps.length) (hall : (backToKw pos (keywordEach kws X.env)).all (·.1.isSome) = true := by rfl) (hks : (backToKw pos (keywordEach kws X.env)).filterMap (·.1) = ks := by rfl)
    (hdb : (x == ("__debug__" : Str)) = false := by decide) (hpl : ((PySem.backTo pos (starEach [] X.env)).any (·.1) || (backToKw pos (keywordEach kws X.env)).any (·.1.isNone)) = false := by rfl) :
    DE X (.Call (.Name x p) [] kws pos) (mCall g (rPerm n1 n2 is rNil mk)) :=
  PE.imp (pe_callK0 F hr hg hm hk hb pass0 hkw hall hks hdb hpl) fun σ H Q h => by
    obtain ⟨ρ, M, O, π, as, ρ', h, e, q⟩ := tR_perm (tR_call (X := X) hn h)
    cases e
    exact q [] H M (.refl h) h .nil
theorem de_callK {k : Nat} {f : Addr} {fd : FuncData} {ps ks : List Str} {g : Fn} {x : Str} {p pos : Pos} {e : Expr} {es : List Expr} {kws : List Keyword} {mr mk : MR} {n1 n2 : Nat} {is : List Nat} (F : FnOk X.prog X.w X.K X.mg X.base CX0 k f fd ps (spD X.K ps.length g)) (hr : Room k X.A) (hg : Gl X x) (hm : X.mg x = some (.ref f)) (hk : PySem.W.keepIn X.K (.ref f) = true) (hb : KBinds X.K fd ps ks (perm n1 n2 is) (perm n1 n2 is))
    (ha : DR X (e :: es) mr) (hkw : DK X kws mk) (hn : ∀ ρ as ρ', rPerm n1 n2 is mr mk ρ = some (as, ρ') → as.length = ps.length) (hall : (backToKw pos (keywordEach kws X.env)).all (·.1.isSome) = true := by rfl) (hks : (backToKw pos (keywordEach kws X.env)).filterMap (·.1) = ks := by rfl)
    (hdb : (x == ("__debug__" : Str)) = false := by decide) (he : starEach (e :: es) X.env = (false, eval e X.env) :: starEach es X.env := by rfl) (hpl : ((PySem.backTo pos (starEach (e :: es) X.env)).any (·.1) || (backToKw pos (keywordEach kws X.env)).any (·.1.isNone)) = false := by rfl) :
    DE X (.Call (.Name x p) (e :: es) kws pos) (mCall g (rPerm n1 n2 is mr mk)) :=
  PE.imp (pe_callK F hr hg hm hk hb pass0 ha hkw hall hks hdb he hpl) fun σ H Q h => tR_perm (tR_call (X := X) hn h)
/-! how many arguments -/
theorem rl_nil {n : Nat} (hn : n = 0) : ∀ ρ as ρ', rNil ρ = some (as, ρ') → as.length = n := fun ρ as ρ' e => by cases e; exact hn.symm
theorem rl_val {me : ME} {n : MR} {k : Nat} (h : ∀ ρ as ρ', n ρ = some (as, ρ') → as.length = k) : ∀ ρ as ρ', rVal me n ρ = some (as, ρ') → as.length = k + 1 := fun ρ as ρ' e => by
  unfold rVal at e
  split at e
  · split at e
    · split at e
      · rename_i e3
        cases e
        rw [List.length_cons, h _ _ _ e3]
      · cases e
    · cases e
  · cases e
theorem rl_slot {i : Nat} {n : MR} {k : Nat} (h : ∀ ρ as ρ', n ρ = some (as, ρ') → as.length = k) : ∀ ρ as ρ', rSlot i n ρ = some (as, ρ') → as.length = k + 1 := fun ρ as ρ' e => by
  unfold rSlot at e
  split at e
  · split at e
    · rename_i e3
      cases e
      rw [List.length_cons, h _ _ _ e3]
    · cases e
  · cases e
theorem rl_perm {mr mk : MR} {n1 n2 : Nat} {is : List Nat} (h1 : ∀ ρ as ρ', mr ρ = some (as, ρ') → as.length = n1) (h2 : ∀ ρ as ρ', mk ρ = some (as, ρ') → as.length = n2) (hi : is.all (fun i => decide (i < n1 + n2)) = true) : ∀ ρ as ρ', rPerm n1 n2 is mr mk ρ = some (as, ρ') → as.length = is.length := fun ρ as ρ' e => by
  unfold rPerm at e
  split at e
  · rename_i as1 ρ1 e1
    split at e
    · rename_i bs ρ2 e2
      cases e
      unfold perm
      rw [if_pos ⟨h1 _ _ _ e1, h2 _ _ _ e2⟩]
      have hl : (as1 ++ bs).length = n1 + n2 := by rw [List.length_append, h1 _ _ _ e1, h2 _ _ _ e2]
      clear e1 e2
      induction is with
      | nil => rfl
      | cons i is ih =>
        rw [List.all_cons, Bool.and_eq_true] at hi
        have hi1 : i < (as1 ++ bs).length := by rw [hl]; exact of_decide_eq_true hi.1
        rw [List.filterMap_cons, List.getElem?_eq_getElem hi1, List.length_cons, List.length_cons, ih hi.2]
    · cases e
  · cases e
/-! ### room -/
theorem room70 {A : Around} {k : Nat} (r : Room k A) : A.units + 70 < cLine := by have := r.un; omega
theorem room65 {A : Around} {k : Nat} (r : Room k A) : A.units + 65 < cLine := by have := r.un; omega
theorem room64 {A : Around} {k : Nat} (r : Room k A) : A.units + 64 < cLine := by have := r.un; omega
end
/-- a def that nothing is promised of -/
theorem fn_zero {P : Program} {w : World} {K : PySem.W.Frag} {mg : Str → Option Value} {base : Heap} {f : Addr} {fd : FuncData} {ps : List Str} {k : Nat} : FnOk P w K mg base CX0 k f fd ps (spD K ps.length fun _ => none) :=
  ⟨fun vs H Q E ⟨M, O, π, args, r, os, hl, _⟩ => hl, fun A outer s H args us vs Q E _ _ _ _ ⟨M, O, π, as, r, os, _, _, e, _⟩ => by cases e⟩
/-- the law's promise -/
theorem law_sp {K : PySem.W.Frag} {g : Fn} {H : Hp} {a : Addr} {ns : List Int} (hS : SqL K H a (ns.map V.int)) (e : ∃ os, g [.imm (.dict (ns.map fun n => (.int n, .none)))] = some (.imm (.bool true), os)) : spD K 1 g [.ref a] H (fun v _ => v = .bl true) fun _ _ _ => False := by
  obtain ⟨os, e⟩ := e
  have rs : Reps K H (fun _ => False) (ns.map V.int) ((ns.map fun n => ((.int n : D), (.none : D))).map Prod.fst) := by
    induction ns with
    | nil => exact .nil
    | cons n ns ih => exact .cons (.int n) (by
        clear ih e hS
        induction ns with
        | nil => exact .nil
        | cons m ns ih => exact .cons (.int m) ih)
  refine ⟨fun _ => False, fun _ => False, fun _ => none, _, _, os, rfl, ⟨rfl, fun _ z => z, fun _ z => z.elim, fun i d h => ?_, fun i b ds h => ?_, fun i j b c ds es x _ h => ?_⟩, e, fun v H' M' _ _ _ r => ?_⟩
  · cases i with
    | zero =>
      cases h
      exact ⟨.ref a, rfl, .scr (by
        rcases hS with h | h
        · exact .inl ⟨h, fun z => z⟩
        · exact .inr h) rs⟩
    | succ i => simp at h
  · cases i with
    | zero => cases h
    | succ i => simp at h
  · cases i with
    | zero => cases h
    | succ i => simp at h
  · cases (show Rep K H' M' v (.bool true) from r)
    rfl
end Vi

namespace Vi
open PySem PySem.Spec PyProof.Rows L2
section
variable {K : PySem.W.Frag} {H H' : Hp} {M M' O O' : Mset} {π : Nat → Option Addr} {ρ ρ' : Fm} {σ : St} {v : V}
theorem last_get {α : Type} {l : List α} {x y : α} {i : Nat} (h : (l ++ [x])[i]? = some y) : l[i]? = some y ∨ (i = l.length ∧ y = x) := by
  by_cases hi : i < l.length
  · rw [List.getElem?_append_left hi] at h; exact .inl h
  · rw [List.getElem?_append_right (by omega)] at h
    by_cases hz : i - l.length = 0
    · rw [hz] at h; cases h; exact .inr ⟨by omega, rfl⟩
    · obtain ⟨m, hm⟩ : ∃ m, i - l.length = m + 1 := ⟨i - l.length - 1, by omega⟩
      rw [hm] at h; simp at h
theorem lt_of_get {α : Type} {l : List α} {i : Nat} {y : α} (h : l[i]? = some y) : i < l.length := by
  rcases Nat.lt_or_ge i l.length with q | q
  · exact q
  · rw [List.getElem?_eq_none q] at h; cases h
/-- a hidden name for a fresh list -/
theorem SR.snoc (h : SR K H M O π ρ σ) {b : Kd} {ds : List D} {p : Addr} (hb : b.isL = true) (r : RP K H M O ρ σ (.val (.own b ds)) (.ref p)) : SR K H M O π (ρ ++ [some (.own .loc ds)]) (σ ++ [some (.ref p)]) := by
  obtain ⟨p', vs, e0, e1, e2, e3, e4, e5⟩ := r
  cases e0
  have up : ∀ {i : Nat}, i < σ.length → (σ ++ [some (V.ref p)])[i]? = σ[i]? := fun {i} hi => List.getElem?_append_left hi
  have lastσ : (σ ++ [some (V.ref p)])[ρ.length]? = some (some (.ref p)) := by rw [h.len, List.getElem?_append_right (Nat.le_refl _), Nat.sub_self]; rfl
  refine ⟨by rw [List.length_append, List.length_append, h.len]; rfl, h.sub, h.live, fun i d e => ?_, fun i c es e => ?_, fun i j c c' es fs x hij e f g => ?_⟩
  · rcases last_get e with e | ⟨_, e⟩
    · obtain ⟨v, f1, f2⟩ := h.imm i d e
      exact ⟨v, by rw [up (lt_of_get f1)]; exact f1, f2⟩
    · cases e
  · rcases last_get e with e | ⟨rfl, e2⟩
    · obtain ⟨a, ws, f1, f2⟩ := h.own i c es e
      exact ⟨a, ws, by rw [up (lt_of_get f1)]; exact f1, f2⟩
    · cases e2
      exact ⟨p, vs, lastσ, e1.trans (congrArg some (cell_lst hb)), e2, e3, e4, fun z => by cases z⟩
  · rcases last_get e with e | ⟨rfl, _⟩
    · have hi := lt_of_get e
      rw [up (by rw [← h.len]; exact hi)] at g
      rcases last_get f with f | ⟨rfl, _⟩
      · have hj := lt_of_get f
        rw [up (by rw [← h.len]; exact hj)]
        exact h.uniq i j c c' es fs x hij e f g
      · rw [lastσ]
        intro z; cases z
        exact e5 i c es e g
    · rw [lastσ] at g
      cases g
      rcases last_get f with f | ⟨rfl, _⟩
      · have hj := lt_of_get f
        rw [up (by rw [← h.len]; exact hj)]
        exact e5 j c' fs f
      · exact absurd rfl hij
theorem SR.unsnoc {x : Option Sv} {y : Option V} (h : SR K H M O π (ρ ++ [x]) (σ ++ [y])) : SR K H M O π ρ σ := by
  have hl : ρ.length = σ.length := by have := h.len; simpa using this
  have up : ∀ {i : Nat} {s : Option Sv}, ρ[i]? = some s → (ρ ++ [x])[i]? = some s ∧ (σ ++ [y])[i]? = σ[i]? := fun {i s} e => by
    have hi := lt_of_get e
    exact ⟨by rw [List.getElem?_append_left hi]; exact e, List.getElem?_append_left (by omega)⟩
  refine ⟨hl, h.sub, h.live, fun i d e => ?_, fun i c es e => ?_, fun i j c c' es fs a hij e f g => ?_⟩
  · obtain ⟨e1, e2⟩ := up e
    rw [← e2]; exact h.imm i d e1
  · obtain ⟨e1, e2⟩ := up e
    rw [← e2]; exact h.own i c es e1
  · obtain ⟨e1, e2⟩ := up e
    obtain ⟨f1, f2⟩ := up f
    rw [← f2]; exact h.uniq i j c c' es fs a hij e1 f1 (by rw [e2]; exact g)
theorem RP.unsnoc {x : Option Sv} {y : Option V} {s : Sv} (hl : ρ.length = σ.length) (h : RP K H M O (ρ ++ [x]) (σ ++ [y]) (.val s) v) : RP K H M O ρ σ (.val s) v := by
  cases s with
  | imm d => exact h
  | own b ds =>
    obtain ⟨p, vs, e0, e1, e2, e3, e4, e5⟩ := h
    refine ⟨p, vs, e0, e1, e2, e3, e4, fun i c es e => ?_⟩
    have hi := lt_of_get e
    have := e5 i c es (by rw [List.getElem?_append_left hi]; exact e)
    rw [List.getElem?_append_left (by omega)] at this
    exact this
end
/-- f(e), e a fresh list that f may change -/
def mCallO (f : Fn) (me : ME) : ME := fun ρ => match me ρ with
  | some (.val (.own .dic _), _) => none
  | some (.val (.own _ ds), ρ1) => match f [.own .par ds] with
    | some (r, [some _]) => some (.val r, ρ1)
    | _ => none
  | _ => none
section
variable {X : Cx} {e : Expr} {me : ME} {k : Nat} {f : Addr} {fd : FuncData} {ps : List Str} {g : Fn} {x : Str} {p pos : Pos}
theorem de_callO (F : FnOk X.prog X.w X.K X.mg X.base CX0 k f fd ps (spD X.K ps.length g)) (hr : Room k X.A) (hg : Gl X x) (hm : X.mg x = some (.ref f)) (hk : PySem.W.keepIn X.K (.ref f) = true) (hb : Binds X.K fd ps [])
    (ha : DE X e me) (hp : ps.length = 1) (hdb : (x == ("__debug__" : Str)) = false := by decide) (he : starEach [e] X.env = (false, eval e X.env) :: starEach [] X.env := by rfl) (hpl : (PySem.backTo pos (starEach [] X.env)).any (·.1) = false := by rfl) :
    DE X (.Call (.Name x p) [e] [] pos) (mCallO g me) :=
  PE.imp (pe_call F hr hg hm hk hb .nil pass0 (pa_cons ha pa_nil he) hdb he hpl) fun σ H Q ⟨ρ, M, O, π, pr, ρ', h, e, q⟩ => by
    unfold mCallO at e
    split at e
    · cases e
    · rename_i b ds ρ1 hnb e1
      split at e
      · rename_i r ds' e2
        cases e
        refine ⟨ρ, M, O, π, _, _, h, e1, fun v H1 M1 x1 s1 r1 => ?_⟩
        obtain ⟨a, vs, rfl, r2⟩ := (show ∃ a vs, v = .ref a ∧ _ from r1)
        have s2 := s1.snoc (isL_of hnb) r1
        have as2 : AReps X.K H1 M1 (σ ++ [some (V.ref a)]) [.ref a] [AR.s ρ'.length] := .cons (show (σ ++ [some (V.ref a)])[ρ'.length]? = some (some (.ref a)) by rw [s1.len, List.getElem?_append_right (Nat.le_refl _), Nat.sub_self]; rfl) .nil
        have gt : (ρ' ++ [some (Sv.own .loc ds)])[ρ'.length]? = some (some (.own .loc ds)) := by rw [List.getElem?_append_right (Nat.le_refl _), Nat.sub_self]; rfl
        have ea : argsOf (ρ' ++ [some (Sv.own .loc ds)]) [AR.s ρ'.length] = some [.own .par ds] := by
          unfold argsOf; rw [gt]; rfl
        have eb : backTo (ρ' ++ [some (Sv.own .loc ds)]) [AR.s ρ'.length] [some ds'] = some (ρ' ++ [some (Sv.own .loc ds')]) := by
          unfold backTo; rw [gt]
          show some ((ρ' ++ [some (Sv.own .loc ds)]).set ρ'.length (some (.own .loc ds'))) = _
          rw [List.set_append_right _ _ (Nat.le_refl _), Nat.sub_self]; rfl
        show spD X.K ps.length g ([V.ref a] ++ []) H1 Q E0
        refine ⟨M1, _, _, [.own .par ds], r, [some ds'], by rw [hp]; rfl, call_start s2 as2 rfl ea, e2, fun v H2 M2 lv x2 ho rr => ?_⟩
        obtain ⟨x3, s3⟩ := call_end s2 as2 rfl eb lv x2 ho
        have r3 := call_ret s2 as2 rfl eb x2 ho rr
        have s4 := s3.unsnoc
        exact q v H2 M2 (x1.trans x3) s4 (r3.unsnoc s4.len)
      · cases e
    · cases e
end
end Vi

namespace Vi
open PySem PySem.Spec PyProof.Rows L2
section
variable {X : Cx}
/-! ### < and the like of any data -/
def rCmpD (K : PySem.W.Frag) (f : D → D → Bool) : R2 := fun x y H Q => ∃ d e, Dp K H x d ∧ Dp K H y e ∧ SeqAt.shaped d = true ∧ SeqAt.shaped e = true ∧ W.alike d e = true ∧ d ≠ .none ∧ Q (.bl (f d e)) H
theorem room_cmp {A : Around} {d e : D} (h : SeqAt.shaped d = true) (hu : A.units + 64 < cLine) : A.units + min d.depth e.depth < cLine := by
  have h1 := SeqAt.depth_of_shaped h
  have h2 : min d.depth e.depth ≤ d.depth := Nat.min_le_left _ _
  omega
theorem op_ltDD (hu : X.A.units + 64 < cLine) : OpR X (compareOp .Lt) (rCmpD X.K fun d e => W.dataLt d e) := by
  intro pins s σ H x y v u Q I rx ry h
  obtain ⟨d, e, hd, he, sd, se, al, hn, q⟩ := h
  obtain ⟨as, r1⟩ := Dp.reads I d x v hd rx
  obtain ⟨bs, r2⟩ := Dp.reads I e y u he ry
  exact W.lt_data r1 r2 al hn (room_cmp sd hu) ⟨.bl _, H, I, rfl, q⟩
theorem op_gtDD (hu : X.A.units + 64 < cLine) : OpR X (compareOp .Gt) (rCmpD X.K fun d e => W.dataLt e d) := by
  intro pins s σ H x y v u Q I rx ry h
  obtain ⟨d, e, hd, he, sd, se, al, hn, q⟩ := h
  obtain ⟨as, r1⟩ := Dp.reads I d x v hd rx
  obtain ⟨bs, r2⟩ := Dp.reads I e y u he ry
  exact W.gt_data r1 r2 al hn (room_cmp sd hu) ⟨.bl _, H, I, rfl, q⟩
theorem op_leDD (hu : X.A.units + 64 < cLine) : OpR X (compareOp .LtE) (rCmpD X.K fun d e => !W.dataLt e d) := by
  intro pins s σ H x y v u Q I rx ry h
  obtain ⟨d, e, hd, he, sd, se, al, hn, q⟩ := h
  obtain ⟨as, r1⟩ := Dp.reads I d x v hd rx
  obtain ⟨bs, r2⟩ := Dp.reads I e y u he ry
  exact W.le_data r1 r2 al hn (room_cmp sd hu) ⟨.bl _, H, I, rfl, q⟩
theorem op_geDD (hu : X.A.units + 64 < cLine) : OpR X (compareOp .GtE) (rCmpD X.K fun d e => !W.dataLt d e) := by
  intro pins s σ H x y v u Q I rx ry h
  obtain ⟨d, e, hd, he, sd, se, al, hn, q⟩ := h
  obtain ⟨as, r1⟩ := Dp.reads I d x v hd rx
  obtain ⟨bs, r2⟩ := Dp.reads I e y u he ry
  exact W.ge_data r1 r2 al hn (room_cmp sd hu) ⟨.bl _, H, I, rfl, q⟩
def dCmpD (g : Int → Int → Bool) (f : D → D → Bool) : D → D → Option Sv
  | .int i, .int j => some (.imm (.bool (g i j)))
  | a, b => if (okD a && okD b && W.alike a b && !isNon a) = true then some (.imm (.bool (f a b))) else none
theorem os_cmpD {g : Int → Int → Bool} {f : D → D → Bool} : OpS X (fun x y H Q => rI0 (fun i j => .bl (g i j)) x y H Q ∨ rCmpD X.K f x y H Q) (dCmpD g f) := by
  intro H M O π ρ σ v1 v2 d1 d2 res Q h r1 r2 e q
  unfold dCmpD at e
  split at e
  · cases e
    cases r1.inI; cases r2.inI
    exact .inl ⟨_, _, rfl, rfl, Post.now q h (.bl _)⟩
  · split at e
    · rename_i hz
      cases e
      rw [Bool.and_eq_true, Bool.and_eq_true, Bool.and_eq_true] at hz
      exact .inr ⟨d1, d2, r1.dp (SeqAt.canLay_of_shaped hz.1.1.1), r2.dp (SeqAt.canLay_of_shaped hz.1.1.2), hz.1.1.1, hz.1.1.2, hz.1.2, fun z => by rw [z] at hz; exact absurd hz.2 (by decide), Post.now q h (.bl _)⟩
    · cases e
theorem op_ltA (hu : X.A.units + 64 < cLine) : OpR X (compareOp .Lt) (fun x y H Q => rI0 (fun i j => .bl (decide (i < j))) x y H Q ∨ rCmpD X.K (fun d e => W.dataLt d e) x y H Q) := op_lt.or (op_ltDD hu)
theorem op_leA (hu : X.A.units + 64 < cLine) : OpR X (compareOp .LtE) (fun x y H Q => rI0 (fun i j => .bl (decide (i ≤ j))) x y H Q ∨ rCmpD X.K (fun d e => !W.dataLt e d) x y H Q) := op_le.or (op_leDD hu)
theorem op_gtA (hu : X.A.units + 64 < cLine) : OpR X (compareOp .Gt) (fun x y H Q => rI0 (fun i j => .bl (decide (j < i))) x y H Q ∨ rCmpD X.K (fun d e => W.dataLt e d) x y H Q) := op_gt.or (op_gtDD hu)
theorem op_geA (hu : X.A.units + 64 < cLine) : OpR X (compareOp .GtE) (fun x y H Q => rI0 (fun i j => .bl (decide (j ≤ i))) x y H Q ∨ rCmpD X.K (fun d e => !W.dataLt d e) x y H Q) := op_ge.or (op_geDD hu)
abbrev dLtA := dCmpD (fun i j => decide (i < j)) fun d e => W.dataLt d e
abbrev dLeA := dCmpD (fun i j => decide (i ≤ j)) fun d e => !W.dataLt e d
abbrev dGtA := dCmpD (fun i j => decide (j < i)) fun d e => W.dataLt e d
abbrev dGeA := dCmpD (fun i j => decide (j ≤ i)) fun d e => !W.dataLt d e
/-! ### sum, str, list times a number -/
def intsOf : List D → Option (List Int)
  | [] => some []
  | .int i :: r => (intsOf r).map (i :: ·)
  | _ :: _ => none
theorem ints_reps {K : PySem.W.Frag} {H : Hp} {M : Mset} : ∀ {vs : List V} {ds : List D} {bs : List Int}, Reps K H M vs ds → intsOf ds = some bs → vs = bs.map V.int
  | _, _, _, .nil, e => by cases e; rfl
  | _, _, bs, .cons h r, e => by
    cases h with
    | int b =>
      obtain ⟨cs, e1, rfl⟩ := Option.map_eq_some_iff.mp (show (intsOf _).map (b :: ·) = some bs from e)
      rw [ints_reps r e1]; rfl
    | _ => cases e
def dSum : D → Option Sv
  | .list ds => (intsOf ds).map fun ns => .imm (.int ns.sum)
  | _ => none
theorem us_sum : UnS X (fun v H Q => rSum X.K [v] H Q) dSum := by
  intro H M O π ρ σ v1 d1 res Q h r1 e q
  unfold dSum at e
  split at e
  · obtain ⟨bs, e1, rfl⟩ := Option.map_eq_some_iff.mp e
    obtain ⟨a, vs, rfl, rd, rs⟩ := r1.inL
    exact ⟨a, bs, rfl, .inl (by rw [← ints_reps rs e1]; exact rd), Post.now q h (.int _)⟩
  · cases e
def dStr : D → Option Sv
  | .int i => if decide (i.natAbs.log2 < 1920) = true then some (.imm (.str (toString i))) else none
  | _ => none
theorem us_str : UnS X (fun v H Q => (fun xs H Q => ∃ i, xs = [V.int i] ∧ i.natAbs.log2 < 1920 ∧ Q (.str (toString i)) H) [v] H Q) dStr := by
  intro H M O π ρ σ v1 d1 res Q h r1 e q
  unfold dStr at e
  split at e
  · split at e
    · rename_i hz
      cases e
      cases r1.inI
      exact ⟨_, rfl, of_decide_eq_true hz, Post.now q h (.str _)⟩
    · cases e
  · cases e
variable {a b e : Expr} {ma mb me : ME} {mes : MA} {es : List Expr} {pos : Pos}
/-- a fresh list * k -/
def mRep (ma mb : ME) : ME := fun ρ => match ma ρ with
  | some (.val (.own .dic _), _) => none
  | some (.val (.own _ xs), ρ1) => match mb ρ1 with
    | some (pk, ρ2) => match peek ρ2 pk with
      | some (.int k) => if decide (-(2 ^ 63) ≤ k ∧ k < 2 ^ 63 ∧ xs.length * k.toNat ≤ sizeLine) = true then some (.val (.own .loc (List.replicate k.toNat xs).flatten), ρ2) else none
      | _ => none
    | none => none
  | _ => none
theorem de_rep (ha : DE X a ma) (hb : DE X b mb) : DE X (.BinOp a .Mult b pos) (mRep ma mb) := PE.imp (pe_op op_rep ha hb) fun σ H Q ⟨ρ, M, O, π, pr, ρ', h, e, q⟩ => by
  unfold mRep at e
  split at e
  · cases e
  · rename_i b0 xs ρ1 hnb e1
    split at e
    · rename_i pk ρ2 e2
      split at e
      · rename_i k ek
        split at e
        · rename_i hz
          cases e
          have hz' := of_decide_eq_true hz
          refine ⟨ρ, M, O, π, _, ρ1, h, e1, fun v1 H1 M1 x1 s1 r1 => ?_⟩
          refine ⟨ρ1, M1, Vi.hold O _ v1, π, pk, _, s1.hold r1, e2, fun v2 H2 M2 x2 s2 r2 => ?_⟩
          have s2' := s2.less (hold_le O (.val (.own b0 xs)) v1)
          obtain ⟨p, vs, e3, e4', e5, e6, e7, e8⟩ := r1.held x2 s2
          have e4 := e4'.trans (congrArg some (cell_lst (isL_of hnb)))
          have ev := (peek_vw s2' (r2.less (hold_le O (.val (.own b0 xs)) v1)) ek).inI
          subst e3 ev
          exact ⟨p, k, vs, rfl, rfl, e4, hz'.1, hz'.2.1, by rw [e7.length]; exact hz'.2.2, fun p' hp' => Post.lst (Q := Q) (fun v H' M' x3 s3 r3 => q v H' M' ((x1.trans (x2.less (hold_le O (.val (.own b0 xs)) (.ref p)))).trans x3) s3 r3) s2' (e7.rep k.toNat) hp'⟩
        · cases e
      · cases e
    · cases e
  · cases e
/-! ### built-ins of several values -/
def mA (f : List D → Option Sv) (m : MA) : ME := fun ρ => match m ρ with
  | some (ds, ρ1) => match f ds with
    | some r => some (.val r, ρ1)
    | none => none
  | none => none
def AS (X : Cx) (r : List V → Hp → VK → Prop) (f : List D → Option Sv) : Prop := ∀ {H : Hp} {M O : Mset} {π : Nat → Option Addr} {ρ : Fm} {σ : St} {vs : List V} {ds : List D} {res : Sv} {Q : VK}, SR X.K H M O π ρ σ → Reps X.K H M vs ds → f ds = some res →
  (∀ v H' M', Ext O H M H' M' → SR X.K H' M' O π ρ σ → RP X.K H' M' O ρ σ (.val res) v → Q v H') → r vs H Q
theorem de_callA {id : String} {x : Str} {p : Pos} {r : List V → Hp → VK → Prop} {f : List D → Option Sv} (hc : CallR X (.builtin id) r) (hs : AS X r f) (hg : Gl X x) (hm : X.mg x = none) (hv : bootBuiltins x = some (.builtin id)) (ha : DA X (e :: es) mes)
    (hn : x ≠ "__name__" := by decide) (hd : (x == ("__debug__" : Str)) = false := by decide) (he : starEach (e :: es) X.env = (false, eval e X.env) :: starEach es X.env := by rfl) (hpl : (PySem.backTo pos (starEach es X.env)).any (·.1) = false := by rfl) : DE X (.Call (.Name x p) (e :: es) [] pos) (mA f mes) :=
  PE.imp (pe_callB hc hg hm hv ha hn hd he hpl) fun σ H Q ⟨ρ, M, O, π, pr, ρ', h, e, q⟩ => by
    unfold mA at e
    split at e
    · rename_i ds ρ1 e1
      split at e
      · rename_i r er
        cases e
        exact ⟨ρ, M, O, π, ds, _, h, e1, fun vs H1 M1 x1 s1 r1 => hs s1 r1 er fun v H' M' x3 s3 r3 => q v H' M' (x1.trans x3) s3 r3⟩
      · cases e
    · cases e
def dMin2 : List D → Option Sv
  | [.int i, .int j] => some (.imm (.int (if j < i then j else i)))
  | _ => none
def dMax2 : List D → Option Sv
  | [.int i, .int j] => some (.imm (.int (if j > i then j else i)))
  | _ => none
theorem as_min2 : AS X (fun xs H Q => ∃ i j, xs = [V.int i, V.int j] ∧ Q (.int (if j < i then j else i)) H) dMin2 := by
  intro H M O π ρ σ vs ds res Q h r e q
  unfold dMin2 at e
  split at e
  · cases e
    cases r with
    | cons r1 r2 => cases r2 with
      | cons r2 r3 =>
        cases r3; cases r1; cases r2
        exact ⟨_, _, rfl, Post.now q h (.int _)⟩
  · cases e
theorem as_max2 : AS X (fun xs H Q => ∃ i j, xs = [V.int i, V.int j] ∧ Q (.int (if j > i then j else i)) H) dMax2 := by
  intro H M O π ρ σ vs ds res Q h r e q
  unfold dMax2 at e
  split at e
  · cases e
    cases r with
    | cons r1 r2 => cases r2 with
      | cons r2 r3 =>
        cases r3; cases r1; cases r2
        exact ⟨_, _, rfl, Post.now q h (.int _)⟩
  · cases e
/-! ### x.pop(), x.extend(e) -/
def mPop (i : Nat) : ME := fun ρ => match ρ[i]? with
  | some (some (.own .dic _)) => none
  | some (some (.own b ds)) => match ds[ds.length - 1]? with
    | some d => some (.val (.imm d), ρ.set i (some (.own b ds.dropLast)))
    | none => none
  | _ => none
theorem Reps.dropLast {K : PySem.W.Frag} {H : Hp} {M : Mset} {vs : List V} {ds : List D} (h : Reps K H M vs ds) : Reps K H M vs.dropLast ds.dropLast := by
  rw [List.dropLast_eq_take, List.dropLast_eq_take, h.length]; exact h.take _
theorem de_pop {i : Nat} {st_e : Expr} (h : PE X st_e (tBM0 X.K "list" rPop (tVar i))) : DE X st_e (mPop i) :=
  PE.imp h fun σ H Q ⟨ρ, M, O, π, fl, ρ', h, e, q⟩ => by
    unfold mPop at e
    split at e
    · cases e
    · rename_i b ds hne0 e0
      obtain ⟨a, vs, f1, f2, f3, f4, f5, f6⟩ := h.ownL e0 (isL_of hne0)
      split at e
      · rename_i d ed
        cases e
        obtain ⟨w, hw, rw'⟩ := f5.get ed
        obtain ⟨s3, x3, t3⟩ := h.write (ws := vs.dropLast) (es := ds.dropLast) e0 (isL_of hne0) f1 f5.dropLast
        exact ⟨.ref a, f1, .inl ⟨rfl, vs, .inl (.inl f2)⟩, a, vs, w, rfl, rfl, f2, by rw [f5.length]; exact hw, q _ _ M x3 s3 (rw'.tr t3)⟩
      · cases e
    · cases e
def ownD (ρ : Fm) : PR → Option (List D)
  | .val (.own .dic _) => none
  | .val (.own _ ds) => some ds
  | .slot j => match ρ[j]? with
    | some (some (.own .dic _)) => none
    | some (some (.own _ ds)) => some ds
    | _ => none
  | _ => none
theorem ownD_ok {K : PySem.W.Frag} {H : Hp} {M O : Mset} {π : Nat → Option Addr} {ρ : Fm} {σ : St} {pr : PR} {v : V} {ds : List D} (h : SR K H M O π ρ σ) (r : RP K H M O ρ σ pr v) (e : ownD ρ pr = some ds) : ∃ p vs, v = .ref p ∧ H p = some (.lst vs) ∧ Reps K H M vs ds := by
  match pr, v, r, e with
  | .val (.own b ds'), v, ⟨p, vs, e1, e2, _, _, e4, _⟩, e =>
    cases b with
    | dic => cases e
    | loc => cases e; exact ⟨p, vs, e1, e2, e4⟩
    | par => cases e; exact ⟨p, vs, e1, e2, e4⟩
  | .slot j, v, r, e =>
    have r' : σ[j]? = some (some v) := r
    unfold ownD at e
    simp only at e
    split at e
    · cases e
    · rename_i b ds' hnb hs
      cases e
      obtain ⟨a, vs, f1, f2, f3, f4, f5, f6⟩ := h.ownL hs (isL_of hnb)
      rw [r'] at f1; cases f1
      exact ⟨a, vs, rfl, f2, f5⟩
    · cases e
/-- x.extend(e), e a list of nobody else's -/
def mExt (i : Nat) (me : ME) : ME := fun ρ => match ρ[i]? with
  | some (some (.own .dic _)) => none
  | some (some (.own _ _)) => match me ρ with
    | some (pr, ρ1) => match ownD ρ1 pr with
      | some es => match ρ1[i]? with
        | some (some (.own .dic _)) => none
        | some (some (.own b ds)) => if fits (ds.length + es.length) = true then some (.val (.imm .none), ρ1.set i (some (.own b (ds ++ es)))) else none
        | _ => none
      | none => none
    | none => none
  | _ => none
theorem de_ext {i : Nat} {st_e : Expr} (h : ∀ t, PA X [e] t → PE X st_e (tBM X.K "list" rExtend (tVar i) t)) (he : DE X e me) (hs : starEach (e :: []) X.env = (false, eval e X.env) :: starEach [] X.env := by rfl) : DE X st_e (mExt i me) :=
  PE.imp (h _ (pa_cons he pa_nil hs)) fun σ H Q ⟨ρ, M, O, π, fl, ρ', h, e, q⟩ => by
    unfold mExt at e
    split at e
    · cases e
    · rename_i b0 ds0 hne0 e0
      obtain ⟨a, vs, f1, f2, f3, f4, f5, f6⟩ := h.ownL e0 (isL_of hne0)
      refine ⟨.ref a, f1, .inl ⟨rfl, vs, .inl (.inl f2)⟩, ?_⟩
      split at e
      · rename_i pr ρ1 e1
        split at e
        · rename_i es e2
          split at e
          · cases e
          · rename_i b ds hne3 e3
            split at e
            · rename_i hz
              cases e
              refine ⟨ρ, M, O, π, pr, ρ1, h, e1, fun v H1 M1 x1 s1 r1 => ?_⟩
              obtain ⟨a', ws, g1, g2, g3, g4, g5, g6⟩ := s1.ownL e3 (isL_of hne3)
              rw [f1] at g1; cases g1
              obtain ⟨p, zs, rfl, g7, g8⟩ := ownD_ok s1 r1 e2
              obtain ⟨s3, x3, t3⟩ := s1.write (ws := ws ++ zs) (es := ds ++ es) e3 (isL_of hne3) f1 (g5.append g8)
              exact ⟨a, p, ws, zs, rfl, rfl, g2, g7, by have := fits_le hz; rw [g5.length, g8.length]; omega, q _ _ M1 (x1.trans x3) s3 .non⟩
            · cases e
          · cases e
        · cases e
      · cases e
    · cases e
end
end Vi

namespace HT
open PySem PyProof.Rows PySem.Spec
section
variable {prog : Program} {w : World} {A : Around} {E : Value → Shared → Prop} {s : Shared}
theorem vi_applied_rev {sl : Addr} {vs : Value} {n : Nat} {Q : Int × Int × Nat → Shared → Prop} (hs : s.heap.IsSliceOf sl .none .none vs) (ps : IsPart vs (some (-1)))
    (h : Q ((n : Int) - 1, -1, n) s) : wpAny (model prog w) A (Builtin.Slice.sliceApplied (.ref sl) (pure (n : Int))) Q E s := by
  obtain ⟨os, hos, hcs, hds⟩ := id hs
  unfold Builtin.Slice.sliceApplied Builtin.Slice.sliceFields
  refine wpAny_bind (wpAny_bind (wpAny_field hos hds (x := Value.none) rfl (wpAny_bind (wpAny_field hos hds (x := Value.none) rfl (wpAny_bind (wpAny_field hos hds (x := vs) rfl (wpAny_pure ?_)))))))
  refine wpAny_bind (slicePart_ ps ?_)
  show wpAny _ _ (if ((-1 : Int) == 0) = true then _ else _) _ _ s
  rw [if_neg (by decide)]
  refine wpAny_bind (slicePart_none (wpAny_bind (slicePart_none (wpAny_bind (wpAny_pure ?_)))))
  show wpAny _ _ (pure ((n : Int) - 1, (-1 : Int), Builtin.Slice.slicePlaces ((n : Int) - 1) (-1) (-1))) _ _ s
  have e : Builtin.Slice.slicePlaces ((n : Int) - 1) (-1) (-1) = n := by
    unfold Builtin.Slice.slicePlaces
    rw [if_neg (by decide)]
    by_cases hn : (n : Int) - 1 > -1
    · rw [if_pos hn, show (-(-1) : Int) = 1 by decide, Int.ediv_one]; omega
    · rw [if_neg hn]; omega
  rw [e]
  exact wpAny_pure h
theorem vi_fm_congr {α β : Type} {f g : α → Option β} : ∀ {l : List α}, (∀ x ∈ l, f x = g x) → l.filterMap f = l.filterMap g
  | [], _ => rfl
  | x :: l, h => by rw [List.filterMap_cons, List.filterMap_cons, h x (List.mem_cons_self ..), vi_fm_congr fun y hy => h y (List.mem_cons_of_mem _ hy)]
theorem vi_fm_all {α : Type} : ∀ l : List α, (List.range l.length).filterMap (fun m => l[m]?) = l
  | [] => rfl
  | x :: l => by
    rw [List.length_cons, List.range_succ_eq_map, List.filterMap_cons, List.filterMap_map]
    show x :: (List.range l.length).filterMap (fun m => l[m]?) = _
    rw [vi_fm_all l]
theorem vi_pick_rev (xs : Array Value) : ((List.range xs.size).filterMap fun (m : Nat) => xs[(((xs.size : Int) - 1) + (m : Int) * (-1)).toNat]?).toArray = xs.toList.reverse.toArray := by
  have e : ∀ m ∈ List.range xs.size, (fun (m : Nat) => xs[(((xs.size : Int) - 1) + (m : Int) * (-1)).toNat]?) m = xs.toList.reverse[m]? := fun m hm => by
    have hm' := List.mem_range.mp hm
    show xs[(((xs.size : Int) - 1) + (m : Int) * (-1)).toNat]? = _
    rw [List.getElem?_reverse (by simpa using hm'), show (((xs.size : Int) - 1) + (m : Int) * (-1)).toNat = xs.toList.length - 1 - m by rw [Array.length_toList]; omega]
    simp
  rw [vi_fm_congr e]
  have := vi_fm_all xs.toList.reverse
  rw [List.length_reverse, Array.length_toList] at this
  rw [this]
theorem vi_tuple_rev {t sl : Addr} {items : Array Value} {vs : Value} {Q : Value → Shared → Prop} (ht : IsTup s.heap t items) (hs : s.heap.IsSliceOf sl .none .none vs) (ps : IsPart vs (some (-1)))
    (h : Q (.ref s.heap.objs.size) { s with heap := s.heap.push { cls := .type "tuple", data := .seq items.toList.reverse.toArray } })
    (hsz : items.size ≤ sizeLine) : wpAny (model prog w) A (getItem (.ref t) (.ref sl)) Q E s := by
  have htake : sizeOk (.seq items.toList.reverse.toArray) := by
    show items.toList.reverse.toArray.size ≤ sizeLine
    rw [List.size_toArray, List.length_reverse, Array.length_toList]
    exact hsz
  obtain ⟨os, hos, hcs, hds⟩ := id hs
  have hTs : s.TypeIs (.ref sl) "slice" := ⟨os, hos, hcs⟩
  unfold getItem
  try with_reducible refine wpAny_holding ?_
  first | refine wpAny_bind (wpAny_pure ?_) | skip
  refine wpAny_bind (wpAny_sequenceKey ht.typeIs (by decide) ?_)
  refine wpAny_bind (wpAny_callSpecial?_slot (name := Str.ofString "__getitem__") ht.typeIs PyProof.Rows.slot_tuple_getitem
    (wpAny_call_entry PyProof.Rows.slot_tuple_getitem ht.typeIs entry_tuple_getitem ?_ (args_tuple_getitem _ _)))
  show wpAny _ _ (Builtin.Tuple.tupleItemsOf (.ref t) >>= _) _ _ s
  refine wpAny_bind (tupleItemsOf_ ht ?_)
  refine wpAny_bind (wpAny_typeOf hTs ?_)
  rw [if_pos (by decide)]
  refine wpAny_bind (vi_applied_rev hs ps ?_)
  show wpAny _ _ (if ((((items.size : Int) - 1)) == 0 && (-1 : Int) == 1 && items.size == items.size) = true then _ else _) _ _ s
  rw [if_neg (by simp), vi_pick_rev]
  first
    | exact wpAny_bind (m := Builtin.Tuple.tupleExact _) (wpAny_newObj_type (wpAny_pure ⟨_, rfl, wpAny_pure h⟩) htake)
    | exact wpAny_bind (m := Builtin.Tuple.tupleExact _) (wpAny_newObj_type (wpAny_bind (wpAny_pure (wpAny_pure ⟨_, rfl, wpAny_pure h⟩))) htake)
    | exact wpAny_bind (wpAny_bind (m := Builtin.Tuple.tupleExact _) (wpAny_newObj_type (wpAny_pure (wpAny_pure ⟨_, rfl, wpAny_pure h⟩)) htake))
    | exact wpAny_bind (wpAny_bind (m := Builtin.Tuple.tupleExact _) (wpAny_newObj_type (wpAny_pure ⟨_, rfl, wpAny_pure h⟩) htake))
end
end HT
namespace Vi
open PySem PySem.Spec PyProof.Rows L2 HT
section
variable {X : Cx} {e : Expr} {te : TE} {me : ME}
def tRevT (K : PySem.W.Frag) (te : TE) : TE := fun σ H Q => te σ H fun x H1 => ∃ a xs, x = .ref a ∧ SqT K H1 a xs ∧ ∀ p, H1 p = none → Q (.ref p) (upd H1 p (.tup xs.reverse))
theorem pe_revT {k : Nat} {p1 p2 p3 pos : Pos} (he : PE X e te) : PE X (.Subscript e (.Slice none none (some (.UnaryOp .USub (.Constant (.int 1) k p1) p2)) p3) pos) (tRevT X.K te) := by
  refine ⟨fun pins s σ H Q I h => ?_⟩
  refine Subscript_ (thn (he.run pins s σ H _ I h) fun v s1 ⟨x, H1, I1, r1, q1⟩ => ?_)
  obtain ⟨a, xs, ex, hx, q⟩ := q1
  subst ex
  cases r1
  have hst : PO X (some (.UnaryOp .USub (.Constant (.int 1) k p1) p2)) (tPart (tUn (rU fun i => .int (-i)) (tC (.int 1)))) := po_some (pe_un un_neg pe_int)
  refine wpAny_Slice (thn (po_none.run pins s1 σ H1 (fun o H2 => o = none ∧ H2 = H1) I1 ⟨rfl, rfl⟩) fun vl s2 ⟨l, H2, I2, pl, el, e2⟩ => ?_)
  subst el e2
  refine thn (po_none.run pins s2 σ H2 (fun o H3 => o = none ∧ H3 = H2) I2 ⟨rfl, rfl⟩) fun vu s3 ⟨u, H3, I3, pu, eu, e3⟩ => ?_
  subst eu e3
  refine thn (hst.run pins s3 σ H3 (fun o H4 => o = some (-1) ∧ H4 = H3) I3 ⟨1, rfl, -1, rfl, rfl, rfl⟩) fun vs s4 ⟨o, H4, I4, ps, eo, e4⟩ => ?_
  subst eo e4
  have I5 : Inv X pins σ H4 { s4 with heap := s4.heap.push { cls := .type "slice", data := .fields #[vl, vu, vs] } } := I4.kept (t' := s4.toks) fun b ob q => Heap.get?_push_of_some _ q
  obtain ⟨its, r, ht, hz⟩ := I5.tuple hx
  have hlen := r.length
  cases pl
  cases pu
  show wpAny (model X.prog X.w) X.A (subscriptTail e (.Slice none none (some (.UnaryOp .USub (.Constant (.int 1) k p1) p2)) p3) (.ref a) (.ref s4.heap.objs.size)) (EP X pins σ Q) X.xe { s4 with heap := s4.heap.push { cls := .type "slice", data := .fields #[.none, .none, vs] } }
  refine tail_any (ops := [.ref a, .ref s4.heap.objs.size]) ht.typeIs (PyProof.Rows.slot_tuple_getitem.lookup) ?_ (by with_unfolding_all rfl)
  refine vi_tuple_rev ht (Heap.IsSliceOf.new _ .none .none vs) ps ?_ (by rw [List.size_toArray]; omega)
  refine ⟨.ref _, _, I5.laid (t' := s4.toks) (o := .tup xs.reverse) (fun b ob q => Heap.get?_push_of_some _ q) (Nat.le_refl _) ?_, rfl, q _ (I5.hok.fresh (Nat.le_refl _))⟩
  exact ⟨by rw [List.length_reverse]; exact hz, _, r.reverse, ⟨_, Heap.get?_push_size _ rfl, rfl, 0, rfl⟩⟩
theorem pe_either {e : Expr} {t u : TE} (h1 : PE X e t) (h2 : PE X e u) : PE X e fun σ H Q => t σ H Q ∨ u σ H Q := ⟨fun pins s σ H Q I h => h.elim (fun z => h1.run pins s σ H Q I z) fun z => h2.run pins s σ H Q I z⟩
theorem Reps.reverse {K : PySem.W.Frag} {H : Hp} {M : Mset} : ∀ {vs : List V} {ds : List D}, Reps K H M vs ds → Reps K H M vs.reverse ds.reverse
  | _, _, .nil => .nil
  | _, _, .cons h r => by
    rw [List.reverse_cons, List.reverse_cons]
    exact (Reps.reverse r).append (.cons h .nil)
def dRev : D → Option Sv
  | .list ds => some (.own .loc ds.reverse)
  | .tuple ds => some (.imm (.tuple ds.reverse))
  | _ => none
/-- e[::-1] -/
theorem de_rev {k : Nat} {p1 p2 p3 pos : Pos} (he : DE X e me) : DE X (.Subscript e (.Slice none none (some (.UnaryOp .USub (.Constant (.int 1) k p1) p2)) p3) pos) (un dRev me) :=
  PE.imp (pe_either (pe_revL he) (pe_revT he)) fun σ H Q h => by
    obtain ⟨ρ, M, O, π, pr, ρ', h0, e, q⟩ := h
    unfold un at e
    split at e
    · rename_i a ρ1 ea
      split at e
      · rename_i x ex
        split at e
        · rename_i res er
          simp only [Option.some.injEq, Prod.mk.injEq] at e
          obtain ⟨rfl, rfl⟩ := e
          cases x with
          | list ds =>
            cases er
            refine .inl ⟨ρ, M, O, π, a, ρ1, h0, ea, fun v1 H1 M1 x1 s1 r1 => ?_⟩
            obtain ⟨a', vs, rfl, rd, rs⟩ := (peek_vw s1 r1 ex).inL
            exact ⟨a', vs, rfl, .inl rd, fun p hp => Post.lst (Q := Q) (fun v H' M' x3 s3 r3 => q v H' M' (x1.trans x3) s3 r3) s1 rs.reverse hp⟩
          | tuple ds =>
            cases er
            refine .inr ⟨ρ, M, O, π, a, ρ1, h0, ea, fun v1 H1 M1 x1 s1 r1 => ?_⟩
            obtain ⟨a', vs, rfl, rd, rs⟩ := (peek_vw s1 r1 ex).inT
            exact ⟨a', vs, rfl, rd.sq, fun p hp => Post.tup (Q := Q) (fun v H' M' x3 s3 r3 => q v H' M' (x1.trans x3) s3 r3) s1 rs.reverse hp⟩
          | _ => cases er
        · cases e
      · cases e
    · cases e
end
end Vi

namespace Vi
open PySem PySem.Spec PyProof.Rows L2
section
variable {X : Cx} {pos : Pos} {me mk : ME} {e k : Expr}
/-! ### op= -/
theorem pget_list : PGet X (rIxL X.K) := by
  intro pins s σ H x y v u Q I rx ry h
  obtain ⟨p, xs, i, z, rfl, rfl, hq, he, q⟩ := h
  cases rx
  obtain ⟨t, rfl⟩ := ry
  obtain ⟨its, r, pl, hz⟩ := I.list hq
  obtain ⟨j, h1, h2, h3, h4, h5⟩ := atI_get he
  obtain ⟨w, ew, rw'⟩ := r.get h2
  have hl := r.length
  have hn := line63
  have fin : EP X pins σ Q w s := ⟨z, H, I, rw', q⟩
  by_cases h0 : 0 ≤ i
  · have hj : i.toNat = j := by
      rw [seqIndex_of h0 h5] at h1
      exact Option.some.inj h1
    exact wpAny_getItem_list pl.isList h0 (by omega) (by rw [hj]; simpa using ew) fin
  · have hj : (i + (its.toArray.size : Int)).toNat = j := by
      rw [seqIndex_neg (by omega) h4] at h1
      rw [List.size_toArray, ← hl]
      exact Option.some.inj h1
    exact wpAny_getItem_list_neg pl.isList (by omega) (by rw [List.size_toArray] <;> omega) (by omega) (by rw [hj]; simpa using ew) fin
/-- x[k] op= e, of ints -/
def mAugS (f : Int → Int → Int) (i : Nat) (mk me : ME) : MS := fun ρ => match ρ[i]? with
  | some (some (.own .dic _)) => none
  | some (some (.own _ _)) => match mk ρ with
    | some (pk, ρ1) => match peek ρ1 pk with
      | some (.int k) => match ρ1[i]? with
        | some (some (.own .dic _)) => none
        | some (some (.own _ ds)) => match atI ds k with
          | some (.int x) => match me ρ1 with
            | some (pr, ρ2) => match peek ρ2 pr with
              | some (.int y) => match ρ2[i]? with
                | some (some (.own .dic _)) => none
                | some (some (.own b ds)) => match ixN ds.length k with
                  | some j => some (.next, ρ2.set i (some (.own b (ds.set j (.int (f x y))))))
                  | none => none
                | _ => none
              | _ => none
            | none => none
          | _ => none
        | _ => none
      | _ => none
    | none => none
  | _ => none
theorem ds_augS {st : Stmt} {f : Int → Int → Int} {i : Nat} (h : ∀ te tk, PE X e te → PE X k tk → PS X st (tAugS (tVar i) tk te (rIxL X.K) (ipI f) rSetL)) (he : DE X e me) (hk : DE X k mk) : DS X st (mAugS f i mk me) :=
  PS.imp (h _ _ he hk) fun D σ H ⟨ρ, M, O, π, fl, ρ', h, e, q⟩ => by
    unfold mAugS at e
    split at e
    · cases e
    · rename_i b0 ds0 hne0 e0
      split at e
      · rename_i pk ρ1 e1
        split at e
        · rename_i k e2
          split at e
          · cases e
          · rename_i b1 ds1 hne3 e3
            split at e
            · rename_i x e4
              split at e
              · rename_i pr ρ2 e5
                split at e
                · rename_i y e6
                  split at e
                  · cases e
                  · rename_i b ds hne7 e7
                    split at e
                    · rename_i j ej
                      cases e
                      obtain ⟨a, vs, f1, f2, f3, f4, f5, f6⟩ := h.ownL e0 (isL_of hne0)
                      refine ⟨.ref a, f1, ρ, M, O, π, pk, ρ1, h, e1, fun v H1 M1 x1 s1 r1 => ?_⟩
                      obtain ⟨a', ws, g1, g2, g3, g4, g5, g6⟩ := s1.ownL e3 (isL_of hne3)
                      rw [f1] at g1; cases g1
                      have hk := (peek_vw s1 r1 e2).inI
                      subst hk
                      obtain ⟨w, ew, rw'⟩ := atI_rep g5 e4
                      cases rw'
                      refine ⟨a, ws, k, .int x, rfl, rfl, .inl (.inl g2), ew, ?_⟩
                      refine ⟨ρ1, M1, O, π, pr, ρ2, s1, e5, fun w H2 M2 x2 s2 r2 => ?_⟩
                      have hy := (peek_vw s2 r2 e6).inI
                      subst hy
                      obtain ⟨a'', us, k1, k2, k3, k4, k5, k6⟩ := s2.ownL e7 (isL_of hne7)
                      rw [f1] at k1; cases k1
                      refine ⟨x, y, rfl, rfl, ?_⟩
                      obtain ⟨s4, x4, t4⟩ := s2.write (ws := us.set j (.int (f x y))) (es := ds.set j (.int (f x y))) e7 (isL_of hne7) f1 (k5.set j (.int _))
                      exact ⟨a, us, k, j, rfl, rfl, k2, by rw [k5.length]; exact ej, q _ _ M2 ((x1.trans x2).trans x4) s4⟩
                    · cases e
                  · cases e
                · cases e
              · cases e
            · cases e
          · cases e
        · cases e
      · cases e
    · cases e
/-- x op= e, of ints -/
def mAugN (f : Int → Int → Int) (i : Nat) (me : ME) : MS := fun ρ => match ρ[i]? with
  | some (some (.imm (.int x))) => match me ρ with
    | some (pr, ρ1) => match peek ρ1 pr with
      | some (.int y) => match put i (.val (.imm (.int (f x y)))) ρ1 with
        | some ρ2 => some (.next, ρ2)
        | none => none
      | _ => none
    | none => none
  | _ => none
theorem ds_augN {st : Stmt} {f : Int → Int → Int} {i : Nat} (h : ∀ te, PE X e te → PS X st (tAug i te (ipI f))) (he : DE X e me) : DS X st (mAugN f i me) :=
  PS.imp (h _ he) fun D σ H ⟨ρ, M, O, π, fl, ρ', h, e, q⟩ => by
    unfold mAugN at e
    split at e
    · rename_i x e0
      split at e
      · rename_i pr ρ1 e1
        split at e
        · rename_i y e2
          split at e
          · rename_i ρ2 e3
            cases e
            obtain ⟨v, f1, f2⟩ := h.imm i _ e0
            cases f2
            refine ⟨.int x, f1, ρ, M, O, π, pr, ρ1, h, e1, fun w H1 M1 x1 s1 r1 => ?_⟩
            have hy := (peek_vw s1 r1 e2).inI
            subst hy
            refine ⟨x, y, rfl, rfl, ?_⟩
            obtain ⟨M2, x2, s2⟩ := put_ok s1 (show RP X.K H1 M1 O ρ1 σ (.val (.imm (.int (f x y)))) (.int (f x y)) from .int _) e3
            exact q _ H1 M2 (x1.trans x2) s2
          · cases e
        · cases e
      · cases e
    · cases e
/-- a, b = x, y with names that comprehensions read -/
theorem ds_parC {st : Stmt} {a b : Expr} {ma mb : ME} {i j : Nat} (h : ∀ ta, PA X [a, b] ta → PS X st (tAsg (tTup ta) (gTup X.K 2 (gCons (gName i) (gCons (gName j) gNil))))) (ha : DE X a ma) (hb : DE X b mb) (hs : starEach [a, b] X.env = (false, eval a X.env) :: starEach [b] X.env := by rfl) (hs2 : starEach [b] X.env = (false, eval b X.env) :: starEach [] X.env := by rfl) : DS X st (mPar i j ma mb) :=
  PS.imp (h _ (pa_cons ha (pa_cons hb pa_nil hs2) hs)) fun D σ H ⟨ρ, M, O, π, fl, ρ', h, e, q⟩ => by
    unfold mPar at e
    split at e
    · rename_i p1 ρ1 e1
      split at e
      · rename_i s1 ρ2 e2
        split at e
        · rename_i p2 ρ3 e3
          split at e
          · rename_i s2 ρ4 e4
            split at e
            · rename_i hz
              cases e
              rw [Bool.and_eq_true] at hz
              refine ⟨ρ, M, O, π, p1, ρ1, h, e1, fun v1 H1 M1 x1 t1 r1 => ?_⟩
              obtain ⟨M2, x2, t2, r2⟩ := take_ok t1 r1 e2
              refine ⟨ρ2, M2, Vi.hold O (.val s1) v1, π, p2, ρ3, t2.hold r2, e3, fun v2 H3 M3 x3 t3 r3 => ⟨by show 2 ≤ sizeLine; decide, fun p hp => ⟨p, [v1, v2], rfl, .inl (.inl upd_same), rfl, v1, [v2], rfl, v2, [], rfl, rfl, ?_⟩⟩⟩
              obtain ⟨M4, x4, t4, r4⟩ := take_ok t3 r3 e4
              have le := hold_le O (.val s1) v1
              have y1 : Ext (Vi.hold (Vi.hold O (.val s1) v1) (.val s2) v2) H3 M4 (upd H3 p (.tup [v1, v2])) M4 := .alloc (t4.hold r4) hp
              have u4 := (t4.hold r4).alloc (o := .tup [v1, v2]) hp
              have le2 := hold_le (Vi.hold O (.val s1) v1) (.val s2) v2
              have r4' := r4.held y1 u4
              have r1' := r2.held ((x3.trans x4).trans (y1.less le2)) (u4.less le2)
              have t5 := ((u4.less le2).less le).setVal r1' (fine_ne hz.1) i
              have r5 := RP.set (i := i) r1' r4' u4.len
              exact q _ _ M4 ((x1.trans x2).trans (((x3.trans x4).trans (y1.less le2)).less le)) (t5.setVal r5 (fine_ne hz.2) j)
            · cases e
          · cases e
        · cases e
      · cases e
    · cases e
end
end Vi

namespace Vi
open PySem PySem.Spec PyProof.Rows L2
section
variable {ρ ρ0 ρ1 ρ2 ρ3 : Fm} {me ma mb : ME} {m n : MS} {mt : MT} {mi : MI} {mg : MG} {d s t : D} {r sv : Sv} {ds es : List D} {pr p1 p2 : PR} {i : Nat} {os : List (Option (List D))} {fl : Fl}
theorem c_fits {n : Nat} (h : n ≤ 10000) : fits n = true := decide_eq_true (by unfold sizeLine; omega)
theorem c_rng {i : Int} (h : -1000000 ≤ i ∧ i ≤ 1000000) : rngOk i = true := decide_eq_true (by constructor <;> omega)
theorem c_call {f : Fn} {mr : MR} {as : List AR} {args : List Sv} (h1 : mr ρ = some (as, ρ1)) (h2 : nodupB (slotsOf as) = true) (h3 : argsOf ρ1 as = some args) (h4 : f args = some (r, os)) (h5 : Vi.backTo ρ1 as os = some ρ2) : mCall f mr ρ = some (.val r, ρ2) := by
  unfold mCall
  rw [h1]
  simp only [h2, h3, h4, h5, if_true]
theorem c_set (h1 : me ρ = some (pr, ρ1)) (h2 : put i pr ρ1 = some ρ2) : mSet i me ρ = some (.next, ρ2) := by
  unfold mSet
  rw [h1]
  simp only [h2]
theorem c_ret (h1 : me ρ = some (pr, ρ1)) (h2 : give ρ1 pr = some r) : mRet me ρ = some (.ret r, ρ1) := by
  unfold mRet
  rw [h1]
  simp only [h2]
theorem c_drop (h1 : me ρ = some (pr, ρ1)) : mDrop me ρ = some (.next, ρ1) := by
  unfold mDrop
  rw [h1]
theorem c_bin {f : D → D → Option Sv} (h1 : ma ρ = some (p1, ρ1)) (h2 : mb ρ1 = some (p2, ρ2)) (h3 : peek ρ2 p1 = some s) (h4 : peek ρ2 p2 = some t) (h5 : f s t = some r) : bin f ma mb ρ = some (.val r, ρ2) := by
  unfold bin
  rw [h1]
  simp only [h2, h3, h4, h5]
theorem c_un {f : D → Option Sv} (h1 : ma ρ = some (p1, ρ1)) (h3 : peek ρ1 p1 = some s) (h5 : f s = some r) : un f ma ρ = some (.val r, ρ1) := by
  unfold un
  rw [h1]
  simp only [h3, h5]
theorem c_seq {x : Option (Fl × Fm)} (h : m ρ = some (.next, ρ1)) (h2 : n ρ1 = x) : mSeq m n ρ = x := by unfold mSeq; rw [h]; exact h2
theorem c_for {x : Option (Fl × Fm)} (h : mi ρ = some (ds, ρ1)) (h2 : loop mg m ds ρ1 = x) : mFor mi mg m ρ = x := by unfold mFor; rw [h]; exact h2
theorem c_nil : loop mg m [] ρ = some (.next, ρ) := rfl
theorem c_cons {x : Option (Fl × Fm)} (h1 : mg d ρ = some ρ1) (h2 : m ρ1 = some (.next, ρ2)) (h3 : loop mg m ds ρ2 = x) : loop mg m (d :: ds) ρ = x := by
  rw [loop, h1]
  simp only [h2]
  exact h3
theorem c_cons_cont {x : Option (Fl × Fm)} (h1 : mg d ρ = some ρ1) (h2 : m ρ1 = some (.cont, ρ2)) (h3 : loop mg m ds ρ2 = x) : loop mg m (d :: ds) ρ = x := by
  rw [loop, h1]
  simp only [h2]
  exact h3
theorem c_ifT {x : Option (Fl × Fm)} (h : mt ρ = some (true, ρ1)) (h2 : m ρ1 = x) : mIfS mt m n ρ = x := by unfold mIfS; rw [h]; exact h2
theorem c_ifF {x : Option (Fl × Fm)} (h : mt ρ = some (false, ρ1)) (h2 : n ρ1 = x) : mIfS mt m n ρ = x := by unfold mIfS; rw [h]; exact h2
theorem c_tru {b : Bool} (h1 : me ρ = some (pr, ρ1)) (h2 : peek ρ1 pr = some d) (h3 : dTru d = some b) : mTru me ρ = some (b, ρ1) := by
  unfold mTru
  rw [h1]
  simp only [h2, h3]
theorem c_andT {x : Option (PR × Fm)} (h1 : ma ρ = some (pr, ρ1)) (h2 : peek ρ1 pr = some d) (h3 : dTru d = some true) (h4 : mb ρ1 = x) : mAnd ma mb ρ = x := by
  unfold mAnd
  rw [h1]
  simp only [h2, h3]
  exact h4
theorem c_andF (h1 : ma ρ = some (pr, ρ1)) (h2 : peek ρ1 pr = some d) (h3 : dTru d = some false) : mAnd ma mb ρ = some (pr, ρ1) := by
  unfold mAnd
  rw [h1]
  simp only [h2, h3]
/-- a and b, of bools -/
theorem c_andB {a b : Bool} (h1 : ma ρ = some (.val (.imm (.bool a)), ρ)) (h2 : a = true → mb ρ = some (.val (.imm (.bool b)), ρ)) : mAnd ma mb ρ = some (.val (.imm (.bool (a && b))), ρ) := by
  cases a
  · exact c_andF h1 rfl rfl
  · exact c_andT h1 rfl rfl (h2 rfl)
theorem c_comp {mg : MG} {mt : MT} {me : ME} {vs : List Nat} (h1 : mi ρ = some (ds, ρ1)) (h2 : vsOk ρ1 vs = true) (h3 : cloop mg mt me vs ds (wipeA ρ1 vs) = some (es, ρ2)) (h4 : fits es.length = true) (h5 : restA ρ2 ρ1 vs = ρ3) : mComp mi mg mt me vs ρ = some (.val (.own .loc es), ρ3) := by
  show (match mi ρ with
    | some (ds, ρ1) => if vsOk ρ1 vs = true then match cloop mg mt me vs ds (wipeA ρ1 vs) with
      | some (es, ρ2) => if fits es.length = true then some (PR.val (.own .loc es), restA ρ2 ρ1 vs) else none
      | none => none
      else none
    | none => none) = _
  rw [h1]
  show (if vsOk ρ1 vs = true then _ else _) = _
  rw [if_pos h2, h3]
  show (if fits es.length = true then _ else _) = _
  rw [if_pos h4, h5]
theorem c_cnil {vs : List Nat} : cloop mg mt me vs [] ρ = some ([], ρ) := rfl
theorem c_ccons {vs : List Nat} {ρ4 ρ5 : Fm} {e : D} (h1 : mg d ρ = some ρ1) (h2 : mt ρ1 = some (true, ρ2)) (h3 : me ρ2 = some (pr, ρ3)) (h4 : frz ρ3 pr = some (e, ρ4)) (h5 : cloop mg mt me vs ds (wipeA ρ4 vs) = some (es, ρ5)) : cloop mg mt me vs (d :: ds) ρ = some (e :: es, ρ5) := by
  rw [cloop, h1]
  simp only [h2, h3, h4, h5]
theorem c_cskip {vs : List Nat} {x : Option (List D × Fm)} (h1 : mg d ρ = some ρ1) (h2 : mt ρ1 = some (false, ρ2)) (h5 : cloop mg mt me vs ds (wipeA ρ2 vs) = x) : cloop mg mt me vs (d :: ds) ρ = x := by
  rw [cloop, h1]
  simp only [h2, h5]
theorem c_fn {nN np : Nat} {ms : MS} {us : List Sv} (hn : us.length = np) (h0 : us.map some ++ List.replicate (nN - np) none = ρ0) (h : ms ρ0 = some (.ret r, ρ)) (ho : outsOf us ρ = some os) : mFn nN np ms us = some (r, os) := by
  unfold mFn
  rw [if_pos hn, h0, h]
  simp only [ho]
theorem c_rng1 {ma : MA} {n : Nat} (h : ma ρ = some ([.int (n : Int)], ρ1)) (hn : n ≤ 1000000) : mIRng1 ma ρ = some (rngD 0 n, ρ1) := by
  have r1 : rngOk (n : Int) = true := c_rng (by omega)
  unfold mIRng1
  rw [h]
  simp only [r1, if_true, Int.toNat_natCast]
theorem c_rng2 {ma : MA} {i j : Int} {n : Nat} (h : ma ρ = some ([.int i, .int j], ρ1)) (hi : -1000000 ≤ i ∧ i ≤ 1000000) (hj : -1000000 ≤ j ∧ j ≤ 1000000) (hn : (j - i).toNat = n) : mIRng2 ma ρ = some (rngD i n, ρ1) := by
  have r1 : rngOk i = true := c_rng hi
  have r2 : rngOk j = true := c_rng hj
  unfold mIRng2
  rw [h]
  simp only [r1, r2, Bool.and_self, if_true, hn]
theorem c_addL (h : ds.length + es.length ≤ 10000) : dAdd (.list ds) (.list es) = some (.own .loc (ds ++ es)) := by
  have hf : fits (ds.length + es.length) = true := c_fits h
  unfold dAdd
  simp only [hf, if_true]
theorem c_addT (h : ds.length + es.length ≤ 10000) : dAdd (.tuple ds) (.tuple es) = some (.imm (.tuple (ds ++ es))) := by
  have hf : fits (ds.length + es.length) = true := c_fits h
  unfold dAdd
  simp only [hf, if_true]
theorem c_mul {i j : Int} (h : -(2 ^ 64) < j ∧ j < 2 ^ 64) : mulOk i j = true := by
  unfold mulOk; rw [Bool.or_eq_true, Bool.or_eq_true]; exact .inl (.inr (decide_eq_true h))
theorem c_mul' {i j : Int} (h : -(2 ^ 64) < i ∧ i < 2 ^ 64) : mulOk i j = true := by
  unfold mulOk; rw [Bool.or_eq_true, Bool.or_eq_true]; exact .inl (.inl (decide_eq_true h))
end
end Vi

namespace Vi
open PySem PySem.Spec PyProof.Rows L2 RT
section
variable {X : Cx} {pos : Pos} {e : Expr} {es : List Expr} {me : ME} {mes : MA} {tg : Expr}
/-! ### a function that a module's name holds -/
theorem de_callF {id : String} {x : Str} {p : Pos} {r : List V → Hp → VK → Prop} {f : List D → Option Sv} (hc : CallR X (.builtin id) r) (hs : AS X r f) (hg : Gl X x) (hm : X.mg x = some (.builtin id)) (ha : DA X (e :: es) mes)
    (hd : (x == ("__debug__" : Str)) = false := by decide) (he : starEach (e :: es) X.env = (false, eval e X.env) :: starEach es X.env := by rfl) (hpl : (PySem.backTo pos (starEach es X.env)).any (·.1) = false := by rfl) : DE X (.Call (.Name x p) (e :: es) [] pos) (mA f mes) :=
  PE.imp (pe_callBfun hc hg hm ha hd he hpl) fun σ H Q ⟨ρ, M, O, π, pr, ρ', h, e, q⟩ => by
    unfold mA at e
    split at e
    · rename_i ds ρ1 e1
      split at e
      · rename_i r er
        cases e
        exact ⟨ρ, M, O, π, ds, _, h, e1, fun vs H1 M1 x1 s1 r1 => hs s1 r1 er fun v H' M' x3 s3 r3 => q v H' M' (x1.trans x3) s3 r3⟩
      · cases e
    · cases e
def dGcd : List D → Option Sv
  | [.int i, .int j] => some (.imm (.int ((Nat.gcd i.natAbs j.natAbs : Nat) : Int)))
  | _ => none
theorem as_gcd : AS X rGcd dGcd := by
  intro H M O π ρ σ vs ds res Q h r e q
  unfold dGcd at e
  split at e
  · cases e
    cases r with
    | cons r1 r2 => cases r2 with
      | cons r2 r3 =>
        cases r3; cases r1; cases r2
        exact ⟨_, _, rfl, Post.now q h (.int _)⟩
  · cases e
/-! ### a module's tuple of whole numbers -/
def ConstT (K : PySem.W.Frag) (mg : Str → Option Value) (x : Str) (is : List Int) : Prop :=
  ∃ (z : Addr) (o : Obj) (its : Array Value) (n : Nat), mg x = some (.ref z) ∧ K.lookup z = some o ∧ o.cls = .type "tuple" ∧ o.data = .seq its n ∧ its.size ≤ sizeLine ∧ Vals (is.map V.int) its.toList
theorem reps_ints {K : PySem.W.Frag} {H : Hp} {M : Mset} : ∀ is : List Int, Reps K H M (is.map V.int) (is.map PyData.int)
  | [] => .nil
  | i :: is => .cons (.int i) (reps_ints is)
theorem de_const {x : Str} {is : List Int} (hg : Gl X x) (hc : ConstT X.K X.mg x is) (hd : (x == ("__debug__" : Str)) = false := by decide) : DE X (.Name x pos) (mC (.tuple (is.map .int))) := by
  obtain ⟨z, o, its, n, h1, h2, h3, h4, h5, h6⟩ := hc
  exact de_c (v := .ref z) (pe_glob hg h1 rfl hd) fun H M => .tup (.inr ⟨o, its, n, h2, h3, h4, h5, h6⟩) (reps_ints is)
/-! ### reversed -/
theorem src_revL {K : PySem.W.Frag} {H0 : Hp} {M0 : Mset} {a : Addr} {vs : List V} {ds : List D} (h : Rd H0 a (.lst vs)) (n : ¬ M0 a) (r : Reps K H0 M0 vs ds) : Src K (Itv K a vs.length) ds.reverse H0 M0 := by
  refine ⟨fun H M l i hi => ?_, fun H M l => by show vs.length ≤ ds.reverse.length; rw [List.length_reverse, r.length]; exact Nat.le_refl _, fun H M l i d x H' ed y => ?_⟩
  · rw [List.length_reverse, ← r.length] at hi
    exact ⟨hi, vs, vs[vs.length - 1 - i]'(by omega), .inl (l a _ h n).1, List.getElem?_eq_getElem _⟩
  · have hi : i < ds.length := by
      have := (List.getElem?_eq_some_iff.mp ed).1
      rwa [List.length_reverse] at this
    rw [List.getElem?_reverse hi] at ed
    obtain ⟨v, hv, rv⟩ := r.get ed
    obtain ⟨e1, e2⟩ := y
    have e3 := e2 vs (.inl (l a _ h n).1)
    rw [r.length, hv] at e3; cases e3
    exact .inl ⟨e1, rv.tr l⟩
theorem src_revT {K : PySem.W.Frag} {H0 : Hp} {M0 : Mset} {a : Addr} {vs : List V} {ds : List D} (h : TupAt K H0 M0 a vs) (r : Reps K H0 M0 vs ds) : Src K (ItvT K a vs.length) ds.reverse H0 M0 := by
  refine ⟨fun H M l i hi => ?_, fun H M l => by show vs.length ≤ ds.reverse.length; rw [List.length_reverse, r.length]; exact Nat.le_refl _, fun H M l i d x H' ed y => ?_⟩
  · rw [List.length_reverse, ← r.length] at hi
    exact ⟨hi, vs, vs[vs.length - 1 - i]'(by omega), tupAt_lat h l, List.getElem?_eq_getElem _⟩
  · have hi : i < ds.length := by
      have := (List.getElem?_eq_some_iff.mp ed).1
      rwa [List.length_reverse] at this
    rw [List.getElem?_reverse hi] at ed
    obtain ⟨v, hv, rv⟩ := r.get ed
    obtain ⟨e1, e2⟩ := y
    have e3 := e2 vs (tupAt_lat h l)
    rw [r.length, hv] at e3; cases e3
    exact .inl ⟨e1, rv.tr l⟩
def mIRev (me : ME) : MI := fun ρ => match me ρ with
  | some (pr, ρ1) => match frz ρ1 pr with
    | some (d, ρ2) => match itemsOf d with
      | some ds => some (ds.reverse, ρ2)
      | none => none
    | none => none
  | none => none
theorem di_rev {p : Pos} (hg : Gl X "reversed") (hm : X.mg "reversed" = none) (he : DE X e me) (hs : starEach [e] X.env = (false, eval e X.env) :: starEach [] X.env := by rfl) : DI X tg (.Call (.Name "reversed" p) [e] [] pos) (mIRev me) := PI.imp (pi_revA hg hm he hs) fun σ H R ⟨ρ, M, O, π, ds, ρ', h, e, q⟩ => by
  unfold mIRev at e
  split at e
  · rename_i pr ρ1 e1
    split at e
    · rename_i d ρ2 e2
      split at e
      · rename_i ds' e3
        cases e
        refine ⟨ρ, M, O, π, pr, ρ1, h, e1, fun v H1 M1 x1 s1 r1 => ?_⟩
        obtain ⟨M2, x2, s2, r2⟩ := frz_ok s1 r1 e2
        unfold itemsOf at e3
        split at e3
        · cases e3
          cases r2 with
          | lst hr n rr => exact ⟨_, _, rfl, .inl ⟨.inl hr, q _ H1 M2 (x1.trans x2) s2 (src_revL hr n rr)⟩⟩
        · cases e3
          cases r2 with
          | tup ht rr => exact ⟨_, _, rfl, .inr ⟨ht.sq, q _ H1 M2 (x1.trans x2) s2 (src_revT ht rr)⟩⟩
        · cases e3
      · cases e
    · cases e
  · cases e
/-! ### range(i, j, -1) -/
def downD (lo : Int) (n : Nat) : List D := (List.range n).map fun k => .int (lo + (k : Nat) * (-1))
theorem src_down {K : PySem.W.Frag} {H0 : Hp} {M0 : Mset} {lo : Int} {n : Nat} : Src K (Itc lo (-1) n) (downD lo n) H0 M0 where
  go := fun H M l i hi => by unfold downD at hi; rw [List.length_map, List.length_range] at hi; exact hi
  stop := fun H M l => by unfold downD; rw [List.length_map, List.length_range]; exact Nat.le_refl _
  yld := fun H M l i d x H' ed y => by
    obtain ⟨e1, e2⟩ := y
    subst e2
    refine .inl ⟨e1, ?_⟩
    unfold downD at ed
    rw [List.getElem?_map] at ed
    obtain ⟨k, ek, rfl⟩ := Option.map_eq_some_iff.mp ed
    have hk : k = i := by
      obtain ⟨h1, h2⟩ := List.getElem?_eq_some_iff.mp ek
      rw [List.getElem_range] at h2
      exact h2.symm
    subst hk
    exact .int _
def mIDown (ma : MA) : MI := fun ρ => match ma ρ with
  | some ([.int i, .int j, .int (-1)], ρ1) => if (rngOk i && rngOk j) = true then some (downD i (i - j).toNat, ρ1) else none
  | _ => none
theorem di_down {a b c : Expr} {ma : MA} {p : Pos} (hg : Gl X "range") (hm : X.mg "range" = none) (ha : DA X [a, b, c] ma)
    (hs : starEach [a, b, c] X.env = (false, eval a X.env) :: starEach [b, c] X.env := by rfl) (hpl : (PySem.backTo pos (starEach [b, c] X.env)).any (·.1) = false := by rfl) : DI X tg (.Call (.Name "range" p) [a, b, c] [] pos) (mIDown ma) :=
  PI.imp (pi_range3 hg hm ha hs hpl) fun σ H R ⟨ρ, M, O, π, ds, ρ', h, e, q⟩ => by
    unfold mIDown at e
    split at e
    · rename_i i j ρ1 e1
      split at e
      · rename_i hz
        cases e
        rw [Bool.and_eq_true] at hz
        have hz1 := of_decide_eq_true hz.1
        have hz2 := of_decide_eq_true hz.2
        refine ⟨ρ, M, O, π, _, _, h, e1, fun vs H1 M1 x1 s1 r1 => ?_⟩
        cases r1 with
        | cons rv rr =>
          cases rr with
          | cons rw' rr =>
            cases rr with
            | cons rz rr =>
              cases rr
              cases rv
              cases rw'
              cases rz
              exact ⟨i, j, -1, _, rfl, RgC.neg (by omega) (by omega) (by omega) (by omega), q _ H1 M1 x1 s1 src_down⟩
      · cases e
    · cases e
end
end Vi

namespace Vi
open PySem PySem.Spec PyProof.Rows L2
section
variable {X : Cx}
/-! ### min(a list of data), max -/
def notNone : D → Bool
  | .none => false
  | _ => true
def minOk (ds : List D) : Bool := alikeAllB ds && ds.all notNone && ds.all okD && decide (PyData.depthAll ds ≤ 64)
theorem minOk_al {ds : List D} (h : minOk ds = true) : W.AlikeAll ds := by
  unfold minOk alikeAllB at h
  rw [Bool.and_eq_true, Bool.and_eq_true, Bool.and_eq_true] at h
  refine ⟨fun d hd e he => List.all_eq_true.mp (List.all_eq_true.mp h.1.1.1 d hd) e he, fun d hd z => ?_⟩
  have := List.all_eq_true.mp h.1.1.2 d hd
  rw [z] at this; cases this
theorem minOk_lay {ds : List D} (h : minOk ds = true) : PyData.canLayAll0 ds = true := lay_all fun d hd => by
  unfold minOk at h
  rw [Bool.and_eq_true, Bool.and_eq_true, Bool.and_eq_true] at h
  exact SeqAt.canLay_of_shaped (List.all_eq_true.mp h.1.2 d hd)
theorem minOk_dep {ds : List D} (h : minOk ds = true) : PyData.depthAll ds ≤ 64 := by
  unfold minOk at h
  rw [Bool.and_eq_true] at h
  exact of_decide_eq_true h.2
theorem readsAll_i {h : Heap} : ∀ {ds : List D} {us : List Value} {as : List Addr} {i : Nat} {u : Value}, ReadsAll h us ds as → us[i]? = some u → ∃ d bs, ds[i]? = some d ∧ Reads h u d bs
  | [], _, _, i, _, r, e => by cases r; simp at e
  | d :: ds, _, _, 0, _, .cons r1 r2, e1 => by
    simp at e1; subst e1; exact ⟨_, _, rfl, r1⟩
  | d :: ds, _, _, i + 1, _, .cons r1 r2, e1 => by
    obtain ⟨d', bs, h1, h2⟩ := readsAll_i r2 (i := i) (by simpa using e1)
    exact ⟨d', bs, by simpa using h1, h2⟩
def rMinD (K : PySem.W.Frag) : List V → Hp → VK → Prop := fun vs H Q => ∃ (a : Addr) (xs : List V) (d : D) (ds : List D), vs = [.ref a] ∧ SqL K H a xs ∧ DpAll K H xs (d :: ds) ∧ minOk (d :: ds) = true ∧ ∀ (i : Nat) (x : V), xs[i]? = some x → (d :: ds)[i]? = some (W.minD d ds) → Q x H
theorem cr_minD (hc : X.calm = true) (hu : X.A.units + 70 < cLine) : CallR X (.builtin "min") (rMinD X.K) := by
  intro pins s σ H vs us Q I r h
  obtain ⟨a, xs, d, ds, rfl, hsq, hdp, hok, q⟩ := h
  rw [Vals.ref1 r]
  obtain ⟨its, rv, pl, hz⟩ := I.list hsq
  obtain ⟨as, hr⟩ := Dp.readsAll I (d :: ds) xs its hdp rv
  have hdep := minOk_dep hok
  refine W.min_list_data (I.ok.hd hc) pl.isList (show ReadsAll s.heap its.toArray.toList (d :: ds) as by simpa using hr) (minOk_al hok) (by omega) fun i v h' tk bs hv rd kp => ?_
  have hv' : its[i]? = some v := by simpa using hv
  obtain ⟨e, bs2, he, re⟩ := readsAll_i hr hv'
  have e1 := (Reads.unique (Reads.keeps kp re) _ _ rd).1
  subst e1
  have hl := rv.length
  have hi : i < xs.length := by
    have := (List.getElem?_eq_some_iff.mp hv').1
    omega
  obtain ⟨w, ew, rw'⟩ := rv.get (List.getElem?_eq_getElem hi)
  rw [hv'] at ew; cases ew
  exact ⟨_, H, I.kept (t' := tk) kp, rw', q i _ (List.getElem?_eq_getElem hi) he⟩
def dMinL : D → Option Sv
  | .list (d :: ds) => if minOk (d :: ds) = true then some (.imm (W.minD d ds)) else none
  | _ => none
theorem us_minL : UnS X (fun v H Q => rMinD X.K [v] H Q) dMinL := by
  intro H M O π ρ σ v1 d1 res Q h r1 e q
  unfold dMinL at e
  split at e
  · split at e
    · rename_i hz
      cases e
      obtain ⟨a, vs, rfl, rd, rs⟩ := r1.inL
      refine ⟨a, vs, _, _, rfl, .inl rd, rs.dp (minOk_lay hz), hz, fun i x hx hd => ?_⟩
      obtain ⟨y, hy, ry⟩ := rs.get hd
      rw [hx] at hy; cases hy
      exact Post.now q h ry
    · cases e
  · cases e
end
end Vi

namespace Vi
open PySem PySem.Spec PyProof.Rows L2
section
variable {prog : Program} {w : World} {A : Around} {E : Value → Shared → Prop} {s : Shared}
theorem draw_list {it t : Addr} {items : Array Value} (hne : t ≠ it) : ∀ (n i : Nat) (s : Shared) (Q : List Value → Shared → Prop), s.heap.IsListIter it t i → s.heap.IsList t items → i + n ≤ items.size →
    (∀ h', h'.IsListIter it t (i + n) → Heap.SameBut it s.heap h' → Q ((items.toList.drop i).take n) { s with heap := h' }) → wpAny (model prog w) A (draw (.ref it) n) Q E s
  | 0, i, s, Q, hit, _, _, hQ => by
    show wpAny _ _ (pure []) Q E s
    exact wpAny_pure (by simpa using hQ s.heap hit (Heap.SameBut.refl ..))
  | n + 1, i, s, Q, hit, ht, hle, hQ => by
    have hlt : i < items.size := by omega
    show wpAny _ _ (pyNext (.ref it) >>= _) Q E s
    refine wpAny_bind (wpAny_pyNext_list_item hit ht (x := items[i]) (by simp [hlt]) fun h₁ hit₁ hs₁ => ?_)
    refine wpAny_bind (wpAny_holding (draw_list hne n (i + 1) _ _ hit₁ (ht.extBut hs₁.extBut hne) (by omega) fun h₂ hit₂ hs₂ => wpAny_pure ?_))
    have hd : items.toList.drop i = items[i] :: items.toList.drop (i + 1) := by simp [List.drop_eq_getElem_cons, hlt]
    have := hQ h₂ (by rw [show i + (n + 1) = i + 1 + n by omega]; exact hit₂) (hs₁.trans hs₂)
    rw [hd, List.take_succ_cons] at this
    exact this
theorem isList_push {h : Heap} {t : Addr} {items : Array Value} (o : Obj) (x : h.IsList t items) : (h.push o).IsList t items := let ⟨o', ho, r⟩ := x; ⟨o', Heap.get?_push_of_some _ ho, r⟩
theorem unpackItems_list {t : Addr} {items : Array Value} {Q : List Value → Shared → Prop} (hh : A.handled = none) (ht : s.heap.IsList t items)
    (hQ : ∀ h', Heap.ExtBut s.heap.objs.size s.heap h' → Q items.toList { s with heap := h' }) : wpAny (model prog w) A (unpackItems (.ref t) items.size none) Q E s := by
  have hlt : t ≠ s.heap.objs.size := by obtain ⟨o, ho, _⟩ := ht; exact Nat.ne_of_lt (Heap.lt_size ho)
  unfold unpackItems
  refine wpAny_bind ?_
  · unfold notIterableAtAll
    refine wpAny_bind (wpAny_specialOf ht.typeIs slot_list_iter.lookup ?_)
    refine wpAny_pure ?_
    simp only [Bool.false_eq_true, if_false]
    refine wpAny_bind (wpAny_holding (wpAny_pyIter_list ht ?_))
    refine wpAny_bind (wpAny_holding (draw_list hlt items.size 0 _ _ ⟨_, Heap.get?_push_size _ rfl, rfl, rfl⟩ (isList_push _ ht) (by omega) fun h₁ hit₁ hs₁ => ?_))
    have hall : List.take items.size (List.drop 0 items.toList) = items.toList := by
      rw [List.drop_zero]; exact List.take_of_length_le (by simp)
    rw [hall]
    rw [if_neg (by simp)]
    have ht₁ : h₁.IsList t items := (isList_push _ ht).extBut hs₁.extBut hlt
    refine wpAny_bind (wpAny_holding (wpAny_pyNext_list_end hh hit₁ ht₁ (by simp) fun h₂ he₂ => ?_))
    simp only [Option.isSome_none, Bool.false_eq_true, if_false]
    refine wpAny_pure (hQ h₂ fun b o hb e => he₂ b o hb (hs₁.extBut b o hb (Heap.get?_push_of_some _ e)))
theorem assign_Tuple_list {env : Env} {elts : List Expr} {x1} {pos : Pos} {t : Addr} {items : Array Value} {Q : Unit → Shared → Prop} (hh : A.handled = none) (ht : s.heap.IsList t items)
    (hn : (assignEach elts env).length = items.size) (hstar : (assignEach elts env).findIdx? (·.1) = none)
    (h : ∀ h', Heap.ExtBut s.heap.objs.size s.heap h' → wpAny (model prog w) A (assignInOrder ((assignEach elts env).map (·.2)) items.toList) Q E { s with heap := h' }) :
    wpAny (model prog w) A (assign (.Tuple elts x1 pos) env (.ref t)) Q E s := by
  rw [assign_Tuple]
  refine wpAny_bind (wpAny_standAt ?_)
  unfold unpack
  rw [hn, hstar]
  exact wpAny_bind (wpAny_holding (unpackItems_list hh ht h))
end
section
variable {X : Cx} {pos : Pos}
/-- (a, b, ..) = a tuple or a list of that length -/
def gSeq (K : PySem.W.Frag) (n : Nat) (t : TGs) : TG := fun v σ H Q => ∃ a xs, v = .ref a ∧ (SqT K H a xs ∨ SqL K H a xs) ∧ xs.length = n ∧ t xs σ H Q
theorem pg_seq {es : List Expr} {k : Nat} {t : TGs} {n : Nat} (hc : X.calm = true) (h : PGs X es t)
    (hn : (assignEach es X.env).length = n := by rfl) (hst : (assignEach es X.env).findIdx? (·.1) = none := by rfl) : PG X (.Tuple es k pos) (gSeq X.K n t) := by
  refine ⟨fun pins s σ H v u Q I r hw => ?_⟩
  obtain ⟨a, xs, e1, hq, hl, hw⟩ := hw
  subst e1
  cases r
  rcases hq with hq | hq
  · obtain ⟨its, rv, ht, hz⟩ := I.tuple hq
    refine assign_Tuple_tuple (I.ok.hd hc) ht (by simp [hn, ← hl, rv.length]) hst fun h' hx => ?_
    have I1 : Inv X pins σ H { s with heap := h' } := I.kept (t' := s.toks) fun b o e => hx b o (Nat.ne_of_lt (Heap.lt_size e)) e
    exact h.run pins _ σ H xs _ Q I1 (by simpa using rv) hw
  · obtain ⟨its, rv, ht, hz⟩ := I.list hq
    refine assign_Tuple_list (I.ok.hd hc) ht.isList (by simp [hn, ← hl, rv.length]) hst fun h' hx => ?_
    have I1 : Inv X pins σ H { s with heap := h' } := I.kept (t' := s.toks) fun b o e => hx b o (Nat.ne_of_lt (Heap.lt_size e)) e
    exact h.run pins _ σ H xs _ Q I1 (by simpa using rv) hw
variable {es : List Expr}
def mGseq (k : Nat) (n : MGs) : MG := fun d ρ => match d with
  | .tuple ds => if ds.length = k then n ds ρ else none
  | .list ds => if ds.length = k then n ds ρ else none
  | _ => none
theorem dg_seq {k : Nat} {n : MGs} {ts : List Nat} {kk : Nat} (hc : X.calm = true) (h : DGs X es n ts) (hn : (assignEach es X.env).length = k := by rfl) (hst : (assignEach es X.env).findIdx? (·.1) = none := by rfl) : DG X (.Tuple es kk pos) (mGseq k n) ts :=
  PG.imp (pg_seq hc h hn hst) fun v σ H Q ⟨ρ, M, O, π, d, ρ', hs, r, e, q⟩ => by
    unfold mGseq at e
    split at e
    · rename_i ds
      split at e
      · rename_i hl
        cases r with
        | tup ht rr => exact ⟨_, _, rfl, .inl ht.sq, by rw [rr.length]; exact hl, ρ, M, O, π, ds, ρ', hs, rr, e, q⟩
      · cases e
    · rename_i ds
      split at e
      · rename_i hl
        cases r with
        | lst hr n rr => exact ⟨_, _, rfl, .inr (.inl hr), by rw [rr.length]; exact hl, ρ, M, O, π, ds, ρ', hs, rr, e, q⟩
      · cases e
    · cases e
end
end Vi

namespace Vi
open PySem PySem.Spec PyProof.Rows L2
section
variable {X : Cx} {pos p2 : Pos}
/-- o[a:c] = v -/
def gSlc (to : TE) (ta tc : TO) : TG := fun v σ H Q => to σ H fun o H1 => ta σ H1 fun a H2 => tc σ H2 fun c H3 =>
  ∃ (l b : Addr) (xs ys : List V) (i j : Int), o = .ref l ∧ v = .ref b ∧ a = some i ∧ c = some j ∧ H3 l = some (.lst xs) ∧ H3 b = some (.lst ys) ∧ l ≠ b ∧ 0 ≤ i ∧ i ≤ j ∧ j ≤ xs.length ∧ xs.length + ys.length ≤ sizeLine ∧ Q σ (upd H3 l (.lst (xs.take i.toNat ++ ys ++ xs.drop j.toNat)))
theorem pg_slc {o ea ec : Expr} {to : TE} {ta tc : TO} (ho : PE X o to) (h1 : PO X (some ea) ta) (h2 : PO X (some ec) tc)
    (ha : ∀ v, assign (.Subscript o (.Slice (some ea) (some ec) none p2) pos) X.env v = (do
      let ov ← holding [v] (eval o X.env)
      let iv ← holding [v, ov] (eval (.Slice (some ea) (some ec) none p2) X.env)
      standAt pos
      holding [v, ov, iv] (setItem ov iv v)
      release [iv, v, ov] []) := by intro _; rfl) : PG X (.Subscript o (.Slice (some ea) (some ec) none p2) pos) (gSlc to ta tc) := by
  refine ⟨fun pins s σ H v u Q I r h => ?_⟩
  rw [ha]
  refine wpAny_bind (wpAny_holding (thn (ho.run pins s σ H _ I h) fun ov s1 ⟨x, H1, I1, r1, q1⟩ => ?_))
  refine wpAny_bind (wpAny_holding (wpAny_Slice (thn (h1.run pins s1 σ H1 _ I1 q1) fun vl s2 ⟨l', H2, I2, pl, q2⟩ => thn (h2.run pins s2 σ H2 _ I2 q2) fun vu s3 ⟨u', H3, I3, pu, q3⟩ => ?_)))
  rw [evalPart_none]
  refine wpAny_pure ?_
  obtain ⟨l, b, xs, ys, i, j, rfl, rfl, rfl, rfl, hl, hb, hne, h0, hij, hj, hz, q⟩ := q3
  have I4 : Inv X pins σ H3 { s3 with heap := s3.heap.push { cls := .type "slice", data := .fields #[vl, vu, .none] } } := I3.kept (t' := s3.toks) fun b ob q => Heap.get?_push_of_some _ q
  obtain rfl : ov = Value.ref l := r1
  obtain rfl : u = Value.ref b := r
  have ra : RelV (.int i) vl := by cases pl; exact ⟨_, rfl⟩
  have rc : RelV (.int j) vu := by cases pu; exact ⟨_, rfl⟩
  refine wpAny_bind (wpAny_standAt (wpAny_bind (wpAny_holding (set_slice I4 hl hb hne (Heap.IsSliceOf.new ..) ra rc h0 hij hj hz fun s5 I5 => ?_))))
  exact wpAny_release ⟨σ, _, I5, q⟩
variable {me : ME} {mk mk2 : MO} {e ka kc : Expr}
/-- x[a:c] = a fresh list -/
def mSlice (i : Nat) (ma mc : MO) (me : ME) : MS := fun ρ => match me ρ with
  | some (.val (.own .dic _), _) => none
  | some (.val (.own _ ys), ρ1) => match ρ1[i]? with
    | some (some (.own .dic _)) => none
    | some (some (.own _ _)) => match ma ρ1 with
      | some (some a, ρ2) => match mc ρ2 with
        | some (some c, ρ3) => match ρ3[i]? with
          | some (some (.own .dic _)) => none
          | some (some (.own b ds)) => if (decide (0 ≤ a) && decide (a ≤ c) && decide (c ≤ ds.length) && fits (ds.length + ys.length)) = true then some (.next, ρ3.set i (some (.own b (ds.take a.toNat ++ ys ++ ds.drop c.toNat)))) else none
          | _ => none
        | _ => none
      | _ => none
    | _ => none
  | _ => none
theorem ds_slice {st : Stmt} {i : Nat} (h : ∀ te ta tc, PE X e te → PO X (some ka) ta → PO X (some kc) tc → PS X st (tAsg te (gSlc (tVar i) ta tc))) (he : DE X e me) (h1 : DO X (some ka) mk) (h2 : DO X (some kc) mk2) : DS X st (mSlice i mk mk2 me) :=
  PS.imp (h _ _ _ he h1 h2) fun D σ H ⟨ρ, M, O, π, fl, ρ', h, e, q⟩ => by
    unfold mSlice at e
    split at e
    · cases e
    · rename_i b0 ys ρ1 hnb e1
      split at e
      · cases e
      · rename_i b1 ds1 hne2 e2
        split at e
        · rename_i a ρ2 e3
          split at e
          · rename_i c ρ3 e4
            split at e
            · cases e
            · rename_i b ds hne5 e5
              split at e
              · rename_i hz
                cases e
                rw [Bool.and_eq_true, Bool.and_eq_true, Bool.and_eq_true] at hz
                have z1 := of_decide_eq_true hz.1.1.1
                have z2 := of_decide_eq_true hz.1.1.2
                have z3 := of_decide_eq_true hz.1.2
                have z4 := fits_le hz.2
                refine ⟨ρ, M, O, π, .val (.own b0 ys), ρ1, h, e1, fun v H1 M1 x1 s1 r1 => ?_⟩
                obtain ⟨l, vs, f1, f2, f3, f4, f5, f6⟩ := s1.ownL e2 (isL_of hne2)
                refine ⟨.ref l, f1, ρ1, M1, Vi.hold O (.val (.own b0 ys)) v, π, some a, ρ2, s1.hold r1, e3, fun H2 M2 x2 s2 => ?_⟩
                refine ⟨ρ2, M2, Vi.hold O (.val (.own b0 ys)) v, π, some c, ρ3, s2, e4, fun H3 M3 x3 s3 => ?_⟩
                have le := hold_le O (.val (.own b0 ys)) v
                obtain ⟨p, ws, k1, k2', k3, k4, k5, k6⟩ := r1.held (x2.trans x3) s3
                have k2 := k2'.trans (congrArg some (cell_lst (isL_of hnb)))
                subst k1
                have s3' := s3.less le
                obtain ⟨l', us, g1, g2, g3, g4, g5, g6⟩ := s3'.ownL e5 (isL_of hne5)
                rw [f1] at g1; cases g1
                have hne : l ≠ p := fun z => k6 i b ds e5 (by rw [f1, z])
                obtain ⟨s4, x4, t4⟩ := s3'.write (ws := us.take a.toNat ++ ws ++ us.drop c.toNat) (es := ds.take a.toNat ++ ys ++ ds.drop c.toNat) e5 (isL_of hne5) f1 (((g5.take _).append k5).append (g5.drop _))
                exact ⟨l, p, us, ws, a, c, rfl, rfl, rfl, rfl, g2, k2, hne, z1, z2, by rw [g5.length]; exact z3, by rw [g5.length, k5.length]; exact z4, q _ _ M3 ((x1.trans ((x2.trans x3).less le)).trans x4) s4⟩
              · cases e
            · cases e
          · cases e
        · cases e
      · cases e
    · cases e
end
end Vi

namespace Vi
open PySem PySem.Spec PyProof.Rows L2
section
variable {X : Cx} {pos p p2 pos2 : Pos} {e : Expr} {me : ME}
/-- list(range(e)) -/
def mLRng (me : ME) : ME := fun ρ => match me ρ with
  | some (pr, ρ1) => match peek ρ1 pr with
    | some (.int j) => if (rngOk j && decide (j ≤ 16777216)) = true then some (.val (.own .loc (rngD 0 j.toNat)), ρ1) else none
    | _ => none
  | none => none
theorem reps_rng {K : PySem.W.Frag} {H : Hp} {M : Mset} (lo : Int) : ∀ l : List Nat, Reps K H M (l.map fun i => V.int (lo + (i : Nat))) (l.map fun i => PyData.int (lo + (i : Nat)))
  | [] => .nil
  | i :: l => .cons (.int _) (reps_rng lo l)
theorem de_lrng (hc : X.calm = true) (hg : Gl X "list") (hm : X.mg "list" = none) (hg2 : Gl X "range") (hm2 : X.mg "range" = none) (he : DE X e me) (na : starEach [e] X.env = (false, eval e X.env) :: starEach [] X.env := by rfl)
    (na2 : starEach [.Call (.Name "range" p2) [e] [] pos2] X.env = (false, eval (.Call (.Name "range" p2) [e] [] pos2) X.env) :: starEach [] X.env := by rfl) : DE X (.Call (.Name "list" p) [.Call (.Name "range" p2) [e] [] pos2] [] pos) (mLRng me) :=
  PE.imp (pe_listRg hc hg hm (prg_1 hg2 hm2 he na) na2) fun σ H Q ⟨ρ, M, O, π, pr, ρ', h, e, q⟩ => by
    unfold mLRng at e
    split at e
    · rename_i pr1 ρ1 e1
      split at e
      · rename_i j e2
        split at e
        · rename_i hz
          cases e
          rw [Bool.and_eq_true] at hz
          have z1 := of_decide_eq_true hz.1
          have z2 := of_decide_eq_true hz.2
          refine ⟨ρ, M, O, π, pr1, _, h, e1, fun v H1 M1 x1 s1 r1 => ?_⟩
          have ev := (peek_vw s1 r1 e2).inI
          subst ev
          refine ⟨j, rfl, ⟨by omega, by omega, by omega, by omega, by omega⟩, fun a ha => ?_⟩
          have hr : Reps X.K H1 M1 (rgV 0 j) (rngD 0 j.toNat) := by
            unfold rgV rngD
            rw [show j - 0 = j by omega]
            exact reps_rng 0 _
          exact Post.lst (Q := Q) (fun v H' M' x3 s3 r3 => q v H' M' (x1.trans x3) s3 r3) s1 hr ha
        · cases e
      · cases e
    · cases e
end
end Vi

namespace Vi
open PySem PySem.Spec PyProof.Rows L2
section
variable {X : Cx} {pos : Pos}
def tPar3 (i j k : Nat) (ta : TA) : TS := fun D σ H => ta σ H fun vs H1 => ∃ u v w, vs = [u, v, w] ∧ D.nx (((σ.set i (some u)).set j (some v)).set k (some w)) H1
theorem set3 {α : Type} (l : List α) {i j k : Nat} (a b c : α) (h1 : i ≠ j) (h2 : i ≠ k) (h3 : j ≠ k) : ((l.set k c).set j b).set i a = ((l.set i a).set j b).set k c := by
  rw [List.set_comm c b (Ne.symm h3), List.set_comm c a (Ne.symm h2), List.set_comm b a (Ne.symm h1)]
theorem ps_par3 {i j k : Nat} {x y z : Str} {a b c : Expr} {ta : TA} {px py pz pt : Pos} {kt k2 pt2} (hc : X.calm = true) (hN : X.N.Nodup) (hi : X.N[i]? = some x) (hj : X.N[j]? = some y) (hk : X.N[k]? = some z) (hij : i ≠ j) (hik : i ≠ k) (hjk : j ≠ k)
    (hx : X.env.scope.names.lookup x = some .local) (hy : X.env.scope.names.lookup y = some .local) (hz : X.env.scope.names.lookup z = some .local) (ha : PA X [a, b, c] ta)
    (hw : swappedStores [.Tuple [.Name x px, .Name y py, .Name z pz] kt pt] (.Tuple [a, b, c] k2 pt2) X.env = pure (some [x, y, z]))
    (hs : swapsWithSole [.Tuple [.Name x px, .Name y py, .Name z pz] kt pt] (.Tuple [a, b, c] k2 pt2) pos.line X.env = pure false := by rfl) :
    PS X (.Assign [.Tuple [.Name x px, .Name y py, .Name z pz] kt pt] (.Tuple [a, b, c] k2 pt2) pos) (tPar3 i j k ta) := by
  refine ⟨fun pins s σ H D I h => ?_⟩
  rw [exec_Assign_arm]
  refine wpAny_bind (wpAny_standAt ?_)
  rw [hs]
  refine wpAny_bind (wpAny_pure ?_)
  rw [if_neg (by decide)]
  refine wpAny_bind (Tuple_ (thn (ha.run _ pins s σ H _ I h) fun us s1 ⟨vs, H1, I1, r1, q1⟩ => ?_))
  obtain ⟨u, v, w, e1, q1⟩ := q1
  subst e1
  obtain ⟨u1, u2, u3, rfl, rv, rw', rz⟩ : ∃ u1 u2 u3, us = [u1, u2, u3] ∧ RelV u u1 ∧ RelV v u2 ∧ RelV w u3 := by
    cases r1 with
    | cons p q =>
      cases q with
      | cons p' q' =>
        cases q' with
        | cons p'' q'' =>
          cases q''
          exact ⟨_, _, _, rfl, p, p', p''⟩
  refine wpAny_newObj_type ?_ (by show 3 ≤ sizeLine; decide)
  have I2 : Inv X pins σ H1 { s1 with heap := s1.heap.push { cls := .type "tuple", data := .seq [u1, u2, u3].toArray } } := I1.kept (t' := s1.toks) fun b o e => Heap.get?_push_of_some _ e
  rw [hw]
  refine wpAny_bind (wpAny_pure ?_)
  show wpAny (model X.prog X.w) X.A (do rule "assign.swapped-stores"; let items ← unpackItems (.ref s1.heap.objs.size) 3 none; assignInOrder [fun v => bindName X.env z v, fun v => bindName X.env y v, fun v => bindName X.env x v] items.reverse; pure Flow.next) _ _ _
  refine wpAny_bind (wpAny_rule (wpAny_bind (unpackItems_tuple (items := #[u1, u2, u3]) (I.ok.hd hc) (IsTup.new s1.heap _) fun h' hx' => ?_)))
  have I3 := I2.kept (h' := h') (t' := s1.toks) fun b o e => hx' b o (Nat.ne_of_lt (Heap.lt_size e)) e
  show wpAny _ _ (assignInOrder [fun v => bindName X.env z v, fun v => bindName X.env y v, fun v => bindName X.env x v] [u3, u2, u1] >>= fun _ => pure Flow.next) _ _ _
  refine wpAny_bind (assignInOrder_cons (wpAny_bindName (store_ok I3 hN hk (.inl hz) rz (fun s2 I4 => ?_) (.inr hz))))
  refine assignInOrder_cons (wpAny_bindName (store_ok I4 hN hj (.inl hy) rw' (fun s3 I5 => ?_) (.inr hy)))
  refine assignInOrder_cons (wpAny_bindName (store_ok I5 hN hi (.inl hx) rv (fun s4 I6 => assignInOrder_nil (wpAny_pure ?_)) (.inr hx)))
  rw [set3 _ _ _ _ hij hik hjk] at I6
  exact ⟨_, H1, I6, q1⟩
/-- a, b, c = x, y, z -/
def mPar3 (i j k : Nat) (ma mb mc : ME) : MS := fun ρ => match ma ρ with
  | some (p1, ρ1) => match frz ρ1 p1 with
    | some (d1, ρ2) => match mb ρ2 with
      | some (p2, ρ3) => match frz ρ3 p2 with
        | some (d2, ρ4) => match mc ρ4 with
          | some (p3, ρ5) => match frz ρ5 p3 with
            | some (d3, ρ6) => some (.next, ((ρ6.set i (some (.imm d1))).set j (some (.imm d2))).set k (some (.imm d3)))
            | none => none
          | none => none
        | none => none
      | none => none
    | none => none
  | none => none
theorem ds_par3 {st : Stmt} {a b c : Expr} {ma mb mc : ME} {i j k : Nat} (h : ∀ ta, PA X [a, b, c] ta → PS X st (tPar3 i j k ta)) (ha : DE X a ma) (hb : DE X b mb) (hcc : DE X c mc) (hs : starEach [a, b, c] X.env = (false, eval a X.env) :: starEach [b, c] X.env := by rfl) (hs2 : starEach [b, c] X.env = (false, eval b X.env) :: starEach [c] X.env := by rfl) (hs3 : starEach [c] X.env = (false, eval c X.env) :: starEach [] X.env := by rfl) : DS X st (mPar3 i j k ma mb mc) :=
  PS.imp (h _ (pa_cons ha (pa_cons hb (pa_cons hcc pa_nil hs3) hs2) hs)) fun D σ H ⟨ρ, M, O, π, fl, ρ', h, e, q⟩ => by
    unfold mPar3 at e
    split at e
    · rename_i p1 ρ1 e1
      split at e
      · rename_i d1 ρ2 e2
        split at e
        · rename_i p2 ρ3 e3
          split at e
          · rename_i d2 ρ4 e4
            split at e
            · rename_i p3 ρ5 e5
              split at e
              · rename_i d3 ρ6 e6
                cases e
                refine ⟨ρ, M, O, π, p1, ρ1, h, e1, fun v1 H1 M1 x1 t1 r1 => ?_⟩
                obtain ⟨M2, x2, t2, r2⟩ := frz_ok t1 r1 e2
                refine ⟨ρ2, M2, O, π, p2, ρ3, t2, e3, fun v2 H3 M3 x3 t3 r3 => ?_⟩
                obtain ⟨M4, x4, t4, r4⟩ := frz_ok t3 r3 e4
                refine ⟨ρ4, M4, O, π, p3, ρ5, t4, e5, fun v3 H5 M5 x5 t5 r5 => ⟨v1, v2, v3, rfl, ?_⟩⟩
                obtain ⟨M6, x6, t6, r6⟩ := frz_ok t5 r5 e6
                have y1 := r2.tr (((x3.trans x4).trans x5).trans x6).tr
                have y2 := r4.tr (x5.trans x6).tr
                exact q _ H5 M6 ((((((x1.trans x2).trans x3).trans x4).trans x5).trans x6)) (((t6.setImm y1).setImm y2).setImm r6)
              · cases e
            · cases e
          · cases e
        · cases e
      · cases e
    · cases e
end
end Vi

namespace Vi
open PySem PySem.Spec PyProof.Rows L2
section
variable {ρ ρ0 ρ1 ρ2 ρ3 : Fm} {me ma mb : ME} {m n : MS} {mt : MT} {mi : MI} {mg : MG} {d s t : D} {r sv : Sv} {ds es : List D} {pr p1 p2 : PR} {i : Nat} {as : MA}
theorem c_lst (h : as ρ = some (ds, ρ1)) (hf : fits ds.length = true) : mLst as ρ = some (.val (.own .loc ds), ρ1) := by
  unfold mLst
  rw [h]
  simp only [hf, if_true]
theorem c_tup (h : as ρ = some (ds, ρ1)) (hf : fits ds.length = true) : mTup as ρ = some (.val (.imm (.tuple ds)), ρ1) := by
  unfold mTup
  rw [h]
  simp only [hf, if_true]
theorem c_acons (h1 : me ρ = some (pr, ρ1)) (h2 : frz ρ1 pr = some (d, ρ2)) (h3 : as ρ2 = some (ds, ρ3)) : mCons me as ρ = some (d :: ds, ρ3) := by
  unfold mCons
  rw [h1]
  simp only [h2, h3]
theorem c_anil : mNil ρ = some ([], ρ) := rfl
theorem c_rval {mr : MR} {ars : List AR} (h1 : me ρ = some (pr, ρ1)) (h2 : frz ρ1 pr = some (d, ρ2)) (h3 : mr ρ2 = some (ars, ρ3)) : rVal me mr ρ = some (.v d :: ars, ρ3) := by
  unfold rVal
  rw [h1]
  simp only [h2, h3]
theorem c_b {b : Bool} (h : me ρ = some (.val (.imm (.bool b)), ρ1)) : mB me ρ = some (b, ρ1) := by
  unfold mB
  rw [h]
theorem c_not {b : Bool} (h : mt ρ = some (b, ρ1)) : mNotT mt ρ = some (!b, ρ1) := by
  unfold mNotT
  rw [h]
theorem c_seqA {a b : MS} {x : Option (Fl × Fm)} (h : mSeq (mSeq a b) n ρ = x) : mSeq a (mSeq b n) ρ = x := by
  rw [← h]
  unfold mSeq
  cases a ρ with
  | none => rfl
  | some r => obtain ⟨f, ρ1⟩ := r; cases f <;> rfl
theorem c_whF {k : Nat} (h : mt ρ = some (false, ρ1)) : whl mt m (k + 1) ρ = some (.next, ρ1) := by
  rw [whl, h]
theorem c_whT {k : Nat} {x : Option (Fl × Fm)} (h : mt ρ = some (true, ρ1)) (h2 : m ρ1 = some (.next, ρ2)) (h3 : whl mt m k ρ2 = x) : whl mt m (k + 1) ρ = x := by
  rw [whl, h]
  simp only [h2]
  exact h3
theorem c_par {i j : Nat} {s1 s2 : Sv} (h1 : ma ρ = some (p1, ρ1)) (h2 : take ρ1 p1 = some (s1, ρ2)) (h3 : mb ρ2 = some (p2, ρ3)) {ρ4 : Fm} (h4 : take ρ3 p2 = some (s2, ρ4)) (h5 : (fine s1 && fine s2) = true) : mPar i j ma mb ρ = some (.next, (ρ4.set i (some s1)).set j (some s2)) := by
  unfold mPar
  rw [h1]
  simp only [h2, h3, h4, h5, if_true]
theorem c_app {i : Nat} {b b2 : Kd} {ys : List D} (h0 : ρ[i]? = some (some (.own b2 ys))) (h1 : me ρ = some (pr, ρ1)) (h2 : frz ρ1 pr = some (d, ρ2)) (h3 : ρ2[i]? = some (some (.own b ds))) (h4 : fits (ds.length + 1) = true) (hb : b.isL = true := by rfl) (hb2 : b2.isL = true := by rfl) : mApp i me ρ = some (.val (.imm .none), ρ2.set i (some (.own b (ds ++ [d])))) := by
  unfold mApp
  cases b <;> cases b2 <;> first | (exact absurd hb (by decide)) | (exact absurd hb2 (by decide)) | (rw [h0]; simp only [h1, h2, h3, h4, if_true])
end
end Vi

namespace Vi
open PySem PySem.Spec PyProof.Rows L2
section
variable {X : Cx}
/-! ### in, of any data in a tuple -/
def rInT (K : PySem.W.Frag) (neg : Bool) : R2 := fun x y H Q => ∃ d ds, Dp K H x d ∧ Dp K H y (.tuple ds) ∧ SeqAt.shaped d = true ∧ SeqAt.shaped (.tuple ds) = true ∧ Q (.bl (if neg then !hasD d ds else hasD d ds)) H
theorem op_inT (hu : X.A.units + 65 < cLine) : OpR X (compareOp .In) (rInT X.K false) := by
  intro pins s σ H x y v u Q I rx ry h
  obtain ⟨d, ds, hd, he, sd, se, q⟩ := h
  obtain ⟨as, r1⟩ := Dp.reads I d x v hd rx
  obtain ⟨bs, r2⟩ := Dp.reads I (.tuple ds) y u he ry
  exact SeqAt.in_tuple_reads r2 r1 (SeqAt.canLay_of_shaped se) (SeqAt.canLay_of_shaped sd) (room_in_shaped sd hu) ⟨.bl _, H, I, rfl, q⟩
theorem op_notInT (hu : X.A.units + 65 < cLine) : OpR X (compareOp .NotIn) (rInT X.K true) := by
  intro pins s σ H x y v u Q I rx ry h
  obtain ⟨d, ds, hd, he, sd, se, q⟩ := h
  obtain ⟨as, r1⟩ := Dp.reads I d x v hd rx
  obtain ⟨bs, r2⟩ := Dp.reads I (.tuple ds) y u he ry
  exact SeqAt.notIn_tuple_reads r2 r1 (SeqAt.canLay_of_shaped se) (SeqAt.canLay_of_shaped sd) (room_in_shaped sd hu) ⟨.bl _, H, I, rfl, q⟩
def dInT (neg : Bool) (x y : D) : Option Sv := match y with
  | .tuple ds => if (okD x && okD (.tuple ds)) = true then some (.imm (.bool (if neg then !hasD x ds else hasD x ds))) else none
  | y => dIn neg x y
abbrev rInB (X : Cx) (neg : Bool) : R2 := fun x y H Q => rInA X neg x y H Q ∨ rInT X.K neg x y H Q
theorem op_inB (hu : X.A.units + 65 < cLine) : OpR X (compareOp .In) (rInB X false) := (op_inA hu).or (op_inT hu)
theorem op_notInB (hu : X.A.units + 65 < cLine) : OpR X (compareOp .NotIn) (rInB X true) := (op_notInA hu).or (op_notInT hu)
theorem os_inB (neg : Bool) : OpS X (rInB X neg) (dInT neg) := by
  intro H M O π ρ σ v1 v2 d1 d2 res Q h r1 r2 e q
  unfold dInT at e
  split at e
  · rename_i ds
    split at e
    · rename_i hz
      cases e
      rw [Bool.and_eq_true] at hz
      exact .inr ⟨d1, ds, r1.dp (SeqAt.canLay_of_shaped hz.1), r2.dp (SeqAt.canLay_of_shaped hz.2), hz.1, hz.2, Post.now q h (.bl _)⟩
    · cases e
  · exact .inl (os_in neg h r1 r2 e q)
end
end Vi

namespace Vi
open PySem PySem.Spec PyProof.Rows L2
theorem ends_at {a c n : Nat} (hac : a ≤ c) (ha : a ≤ n) : sliceBounds (some (a : Int)) (some (c : Int)) none n = ((a : Int), ((min c n : Nat) : Int), 1) := by
  have h1 : ¬ ((a : Int) < 0) := by omega
  have h2 : ¬ ((c : Int) < 0) := by omega
  simp only [sliceBounds, Option.getD_none, h1, h2, if_false, show (1 : Int) > 0 by decide, if_true]
  congr 1
  · omega
  · congr 1; omega
section
variable {prog : Program} {w : World} {A : Around} {E : Value → Shared → Prop} {s : Shared}
/-- xs[a:c] = ys, c maybe behind the end -/
theorem put_slice {l b sl : Addr} {xs ys : Array Value} {n n2 : Nat} {vl vu : Value} {a c : Nat} {Q : Unit → Shared → Prop} (e : s.heap.get? l = some { cls := .type "list", data := .seq xs n }) (e2 : s.heap.get? b = some { cls := .type "list", data := .seq ys n2 }) (hne : l ≠ b) (hs : s.heap.IsSliceOf sl vl vu .none)
    (pl : IsPart vl (some (a : Int))) (pu : IsPart vu (some (c : Int))) (hac : a ≤ c) (ha : a ≤ xs.size) (hsz : xs.size + ys.size ≤ sizeLine) (h : Q () { s with heap := s.heap.update l (Obj.mapSeq fun zs => zs.extract 0 a ++ ys ++ zs.extract (min c xs.size) zs.size) }) : wpAny (model prog w) A (setItem (.ref l) (.ref sl) (.ref b)) Q E s := by
  have hl : s.heap.IsList l xs := PySem.IsL.isList e; have hb : s.heap.IsList b ys := PySem.IsL.isList e2
  obtain ⟨os, hos, hcs, hds⟩ := id hs; have hTs : s.TypeIs (.ref sl) "slice" := ⟨os, hos, hcs⟩
  have hstep : ¬ ((rawPart none == rawInt 0) = true) := Bool.false_ne_true; have hsame : Builtin.List.listSameRef (.ref l) (.ref b) = false := beq_eq_false_iff_ne.mpr hne
  have hmax : (max (a : Int) ((min c xs.size : Nat) : Int)).toNat = min c xs.size := by omega
  have hz' : ((fun zs : Array Value => zs.extract 0 a ++ ys ++ zs.extract (min c xs.size) zs.size) xs).size ≤ sizeLine + 1 := by simp only [Array.size_append, Array.size_extract]; omega
  unfold setItem; try with_reducible refine wpAny_holding ?_
  first | refine wpAny_bind (wpAny_pure ?_) | skip
  refine wpAny_bind (wpAny_sequenceKey hl.typeIs (by decide) ?_); refine wpAny_bind (wpAny_callSpecial?_slot (name := Str.ofString "__setitem__") hl.typeIs slot_list_setitem (wpAny_call_entry slot_list_setitem hl.typeIs entry_list_setitem ?_ (args_list_setitem _ _ _)))
  show wpAny _ _ (Builtin.List.listSubscript? (.ref sl) >>= _) _ _ s; refine wpAny_bind ?_; unfold Builtin.List.listSubscript?
  refine wpAny_bind (wpAny_specialOf hTs slice_no_index ?_); simp only [Option.isNone_none, if_true]; refine wpAny_pure ?_
  show wpAny _ _ (typeOf (.ref sl) >>= _) _ _ s; refine wpAny_bind (wpAny_typeOf hTs ?_)
  first | rw [if_neg (by decide)] | refine PySem.W.KFB.if_not (by decide) ?_
  rw [listSliceParts_eq]; refine wpAny_bind (wpAny_bind (wpAny_field hos hds (x := .none) rfl (wpAny_bind (wpAny_listPart .none ?_))))
  rw [if_neg hstep]; refine wpAny_bind (wpAny_field hos hds (x := vl) rfl (wpAny_bind (wpAny_listPart pl ?_)))
  refine wpAny_bind (wpAny_field hos hds (x := vu) rfl (wpAny_bind (wpAny_listPart pu (wpAny_pure ?_)))); first | simp only [hsame, Bool.false_eq_true, if_false] | refine PySem.W.KFB.if_not hsame ?_ | (dsimp only; rw [if_neg (by rw [hsame]; exact Bool.false_ne_true)])
  refine wpAny_bind (m := Builtin.List.listAllItems (.ref b) "must assign iterable to extended slice") ?_; unfold Builtin.List.listAllItems
  refine wpAny_bind (wpAny_typeOf hb.typeIs ?_); first | refine PySem.W.KFB.if_so (by decide) ?_ | rw [if_pos (by decide)] | simp only [beq_self_eq_true, Bool.true_or, if_true]
  unfold Builtin.List.listItems; refine wpAny_bind (wpAny_seqItems e2 rfl (wpAny_pure ?_)); refine wpAny_bind (wpAny_bind (wpAny_seqItems e rfl (wpAny_pure ?_)))
  refine wpAny_bind (wpAny_of_eq ((sliceIndices_raw (some (a : Int)) (some (c : Int)) none xs.size (by simp)).trans (congrArg (pure : Int × Int × Int → Sem (Int × Int × Int)) (ends_at hac ha))) ?_)
  show wpAny _ _ (if ((1 : Int) == 1) = true then _ else _) _ _ s; rw [if_pos (by decide)]; refine wpAny_bind (wpAny_rule ?_)
  first | simp only [notLongL hsz, Bool.false_eq_true, if_false] | refine PySem.W.KFB.if_not (notLongL hsz) ?_
  first | refine wpAny_bind (wpAny_pure ?_) | skip
  show wpAny _ _ (updateSeq l (fun zs => zs.extract 0 ((a : Int)).toNat ++ ys ++ zs.extract (max (a : Int) ((min c xs.size : Nat) : Int)).toNat zs.size) >>= _) _ _ _
  rw [hmax, Int.toNat_natCast]; refine wpAny_bind (wpAny_updateSeq (hz := Nat.le_trans (Nat.le_add_right _ _) hsz) (_hz' := hz') e rfl ?_); refine wpAny_bind (wpAny_letGo ?_)
  first | exact wpAny_bind (wpAny_pure (wpAny_pure ⟨.none, rfl, wpAny_pure h⟩)) | exact wpAny_pure ⟨.none, rfl, wpAny_pure h⟩
end
section
variable {X : Cx} {pos p2 : Pos}
theorem put_slice_I {pins : List (Addr × Obj)} {s : Shared} {σ : St} {H : Hp} {l b sl : Addr} {xs ys : List V} {a c : Nat} {vl vu : Value} {Q : Unit → Shared → Prop} (I : Inv X pins σ H s) (hH : H l = some (.lst xs)) (hB : H b = some (.lst ys)) (hne : l ≠ b) (hs : s.heap.IsSliceOf sl vl vu .none)
    (pl : IsPart vl (some (a : Int))) (pu : IsPart vu (some (c : Int))) (hac : a ≤ c) (ha : a ≤ xs.length) (hz : xs.length + ys.length ≤ sizeLine) (h : ∀ s', Inv X pins σ (upd H l (.lst (xs.take a ++ ys ++ xs.drop c))) s' → Q () s') : wpAny (model X.prog X.w) X.A (setItem (.ref l) (.ref sl) (.ref b)) Q X.xe s := by
  obtain ⟨z, its, n, r, hl, e⟩ := I.lstM hH; obtain ⟨z2, its2, n2, r2, hl2, e2⟩ := I.lstM hB
  have hd : xs.drop (min c its.length) = xs.drop c := by
    have := r.length
    by_cases k : c ≤ xs.length
    · rw [Nat.min_eq_left (by omega)]
    · rw [Nat.min_eq_right (by omega), List.drop_of_length_le (by omega), List.drop_of_length_le (by omega)]
  rw [← hd] at h
  refine put_slice (a := a) (c := c) e e2 hne hs pl pu hac (by rw [List.size_toArray]; omega) (by rw [List.size_toArray, List.size_toArray]; omega) (h _ ?_)
  refine I.lset (its' := its.take a ++ its2 ++ its.drop (min c its.length)) (t' := s.toks) hH e ?_ (Vals.append (Vals.append (r.take _) r2) (r.drop _)) ?_
  · rw [← splice_eq]
    simp only [List.size_toArray]
  · rw [List.length_append, List.length_append, List.length_take, List.length_drop]
    omega
def gSlx (to : TE) (ta tc : TO) : TG := fun v σ H Q => to σ H fun o H1 => ta σ H1 fun a H2 => tc σ H2 fun c H3 =>
  ∃ (l b : Addr) (xs ys : List V) (i j : Nat), o = .ref l ∧ v = .ref b ∧ a = some (i : Int) ∧ c = some (j : Int) ∧ H3 l = some (.lst xs) ∧ H3 b = some (.lst ys) ∧ l ≠ b ∧ i ≤ j ∧ i ≤ xs.length ∧ xs.length + ys.length ≤ sizeLine ∧ Q σ (upd H3 l (.lst (xs.take i ++ ys ++ xs.drop j)))
theorem pg_slx {o ea ec : Expr} {to : TE} {ta tc : TO} (ho : PE X o to) (h1 : PO X (some ea) ta) (h2 : PO X (some ec) tc)
    (ha : ∀ v, assign (.Subscript o (.Slice (some ea) (some ec) none p2) pos) X.env v = (do
      let ov ← holding [v] (eval o X.env)
      let iv ← holding [v, ov] (eval (.Slice (some ea) (some ec) none p2) X.env)
      standAt pos
      holding [v, ov, iv] (setItem ov iv v)
      release [iv, v, ov] []) := by intro _; rfl) : PG X (.Subscript o (.Slice (some ea) (some ec) none p2) pos) (gSlx to ta tc) := by
  refine ⟨fun pins s σ H v u Q I r h => ?_⟩
  rw [ha]
  refine wpAny_bind (wpAny_holding (thn (ho.run pins s σ H _ I h) fun ov s1 ⟨x, H1, I1, r1, q1⟩ => ?_))
  refine wpAny_bind (wpAny_holding (wpAny_Slice (thn (h1.run pins s1 σ H1 _ I1 q1) fun vl s2 ⟨l', H2, I2, pl, q2⟩ => thn (h2.run pins s2 σ H2 _ I2 q2) fun vu s3 ⟨u', H3, I3, pu, q3⟩ => ?_)))
  rw [evalPart_none]
  refine wpAny_pure ?_
  obtain ⟨l, b, xs, ys, i, j, rfl, rfl, rfl, rfl, hl, hb, hne, hij, hj, hz, q⟩ := q3
  have I4 : Inv X pins σ H3 { s3 with heap := s3.heap.push { cls := .type "slice", data := .fields #[vl, vu, .none] } } := I3.kept (t' := s3.toks) fun b ob q => Heap.get?_push_of_some _ q
  obtain rfl : ov = Value.ref l := r1
  obtain rfl : u = Value.ref b := r
  refine wpAny_bind (wpAny_standAt (wpAny_bind (wpAny_holding (put_slice_I I4 hl hb hne (Heap.IsSliceOf.new ..) pl pu hij hj hz fun s5 I5 => ?_))))
  exact wpAny_release ⟨σ, _, I5, q⟩
variable {me : ME} {mk mk2 : MO} {e ka kc : Expr}
/-- x[a:c] = a fresh list, c maybe behind the end -/
def mSlx (i : Nat) (ma mc : MO) (me : ME) : MS := fun ρ => match me ρ with
  | some (.val (.own .dic _), _) => none
  | some (.val (.own _ ys), ρ1) => match ρ1[i]? with
    | some (some (.own .dic _)) => none
    | some (some (.own _ _)) => match ma ρ1 with
      | some (some a, ρ2) => match mc ρ2 with
        | some (some c, ρ3) => match ρ3[i]? with
          | some (some (.own .dic _)) => none
          | some (some (.own b ds)) => if (decide (0 ≤ a) && decide (a ≤ c) && decide (a ≤ ds.length) && fits (ds.length + ys.length)) = true then some (.next, ρ3.set i (some (.own b (ds.take a.toNat ++ ys ++ ds.drop c.toNat)))) else none
          | _ => none
        | _ => none
      | _ => none
    | _ => none
  | _ => none
theorem ds_slx {st : Stmt} {i : Nat} (h : ∀ te ta tc, PE X e te → PO X (some ka) ta → PO X (some kc) tc → PS X st (tAsg te (gSlx (tVar i) ta tc))) (he : DE X e me) (h1 : DO X (some ka) mk) (h2 : DO X (some kc) mk2) : DS X st (mSlx i mk mk2 me) :=
  PS.imp (h _ _ _ he h1 h2) fun D σ H ⟨ρ, M, O, π, fl, ρ', h, e, q⟩ => by
    unfold mSlx at e
    split at e
    · cases e
    · rename_i b0 ys ρ1 hnb e1
      split at e
      · cases e
      · rename_i b1 ds1 hne2 e2
        split at e
        · rename_i a ρ2 e3
          split at e
          · rename_i c ρ3 e4
            split at e
            · cases e
            · rename_i b ds hne5 e5
              split at e
              · rename_i hz
                cases e
                rw [Bool.and_eq_true, Bool.and_eq_true, Bool.and_eq_true] at hz
                have z1 := of_decide_eq_true hz.1.1.1
                have z2 := of_decide_eq_true hz.1.1.2
                have z3 := of_decide_eq_true hz.1.2
                have z4 := fits_le hz.2
                obtain ⟨a, rfl⟩ := Int.eq_ofNat_of_zero_le z1
                obtain ⟨c, rfl⟩ := Int.eq_ofNat_of_zero_le (Int.le_trans z1 z2)
                rw [Int.toNat_natCast, Int.toNat_natCast] at q
                refine ⟨ρ, M, O, π, .val (.own b0 ys), ρ1, h, e1, fun v H1 M1 x1 s1 r1 => ?_⟩
                obtain ⟨l, vs, f1, f2, f3, f4, f5, f6⟩ := s1.ownL e2 (isL_of hne2)
                refine ⟨.ref l, f1, ρ1, M1, Vi.hold O (.val (.own b0 ys)) v, π, _, ρ2, s1.hold r1, e3, fun H2 M2 x2 s2 => ?_⟩
                refine ⟨ρ2, M2, Vi.hold O (.val (.own b0 ys)) v, π, _, ρ3, s2, e4, fun H3 M3 x3 s3 => ?_⟩
                have le := hold_le O (.val (.own b0 ys)) v
                obtain ⟨p, ws, k1, k2', k3, k4, k5, k6⟩ := r1.held (x2.trans x3) s3
                have k2 := k2'.trans (congrArg some (cell_lst (isL_of hnb)))
                subst k1
                have s3' := s3.less le
                obtain ⟨l', us, g1, g2, g3, g4, g5, g6⟩ := s3'.ownL e5 (isL_of hne5)
                rw [f1] at g1; cases g1
                have hne : l ≠ p := fun z => k6 i b ds e5 (by rw [f1, z])
                obtain ⟨s4, x4, t4⟩ := s3'.write (ws := us.take a ++ ws ++ us.drop c) (es := ds.take a ++ ys ++ ds.drop c) e5 (isL_of hne5) f1 (((g5.take _).append k5).append (g5.drop _))
                exact ⟨l, p, us, ws, a, c, rfl, rfl, rfl, rfl, g2, k2, hne, by omega, by rw [g5.length]; omega, by rw [g5.length, k5.length]; exact z4, q _ _ M3 ((x1.trans ((x2.trans x3).less le)).trans x4) s4⟩
              · cases e
            · cases e
          · cases e
        · cases e
      · cases e
    · cases e
end
end Vi

namespace Vi
open PySem PySem.Spec PyProof.Rows L2
section
variable {K : PySem.W.Frag} {H : Hp} {M O : Mset} {π : Nat → Option Addr} {ρ : Fm} {σ : St} {i : Nat} {b : Kd} {ds : List D} {a : Addr} {vl : List V}
theorem get_drop {ρ : Fm} {i j : Nat} {s : Sv} (e : (ρ.set i none)[j]? = some (some s)) : j ≠ i ∧ ρ[j]? = some (some s) := by
  rcases get_set e with ⟨_, z⟩ | z
  · cases z
  · exact z
/-- a name's own list is lent: nobody may look at the name -/
theorem SR.lend (h : SR K H M O π ρ σ) (e : ρ[i]? = some (some (.own b ds))) (ea : σ[i]? = some (some (.ref a))) (hM : M a) : SR K H M (wth O a) π (ρ.set i none) σ := by
  have h1 : SR K H M O π (ρ.set i none) σ := ⟨by rw [List.length_set]; exact h.len, h.sub, h.live, fun j d f => h.imm j d (get_drop f).2, fun j c es f => h.own j c es (get_drop f).2, fun j k c d es fs x hjk f g => h.uniq j k c d es fs x hjk (get_drop f).2 (get_drop g).2⟩
  refine h1.more (fun x q => q.elim (h.sub x) fun z => z ▸ hM) fun j c es x f g z => ?_
  obtain ⟨hj, f'⟩ := get_drop f
  rcases z with z | rfl
  · obtain ⟨y, _, k1, _, _, k2, _⟩ := h.own j c es f'
    rw [g] at k1; cases k1
    exact k2 z
  · exact h.uniq i j b c ds es x (Ne.symm hj) e f' ea g
/-- and given back -/
theorem SR.back (h : SR K H M (wth O a) π ρ σ) (hb : b.isL = true) (ea : σ[i]? = some (some (.ref a))) (hH : H a = some (.lst vl)) (hM : M a) (hO : ¬ O a) (hr : Reps K H M vl ds) (hp : b = .par → π i = some a) : SR K H M O π (ρ.set i (some (.own b ds))) σ := by
  refine ⟨by rw [List.length_set]; exact h.len, fun x q => h.sub x (.inl q), h.live, fun j d f => ?_, fun j c es f => ?_, fun j k c d es fs x hjk f g k1 => ?_⟩
  · rcases get_set f with ⟨_, z⟩ | ⟨_, f⟩
    · cases z
    · exact h.imm j d f
  · rcases get_set f with ⟨rfl, z⟩ | ⟨_, f⟩
    · cases z
      exact ⟨a, vl, ea, hH.trans (congrArg some (cell_lst hb).symm), hM, hO, hr, hp⟩
    · obtain ⟨y, ws, k1, k2, k3, k4, k5, k6⟩ := h.own j c es f
      exact ⟨y, ws, k1, k2, k3, fun z => k4 (.inl z), k5, k6⟩
  · rcases get_set f with ⟨hj, z⟩ | ⟨hj, f⟩
    · subst hj
      rcases get_set g with ⟨hk, _⟩ | ⟨hk, g⟩
      · exact fun _ => hjk hk.symm
      · intro k2
        rw [ea] at k1; cases k1
        obtain ⟨y, _, m1, _, _, m2, _⟩ := h.own k d fs g
        rw [k2] at m1; cases m1
        exact m2 (.inr rfl)
    · rename_i f0
      have f' : ρ[j]? = some (some (.own c es)) := (get_set f0).elim (fun z => absurd z.1 hj) fun z => z.2
      rcases get_set g with ⟨hk, z⟩ | ⟨hk, g⟩
      · subst hk
        intro k2
        rw [ea] at k2; cases k2
        obtain ⟨y, _, m1, _, _, m2, _⟩ := h.own j c es f'
        rw [k1] at m1; cases m1
        exact m2 (.inr rfl)
      · exact h.uniq j k c d es fs x hjk f' g k1
end
section
variable {mg : MG} {mt : MT} {me : ME} {vs ts : List Nat}
theorem creadB {K : PySem.W.Frag} (hts : ∀ i ∈ ts, i ∈ vs) {a : Addr} {vl : List V} {ds : List D} {Hs : Hp} {Ms O : Mset} {π : Nat → Option Addr} {σ : St} {Dd : Addr} {ρa ρ2 : Fm} {es ea : List D} {acc : List V} {Qd : Hp → Prop}
    (ha : O a) (hH : Hs a = some (.lst vl)) (hr : Reps K Hs Ms vl ds) (s : SR K Hs Ms (wth O Dd) π ρa (wipeA σ vs)) (hO : ¬ O Dd) (hA : Hs Dd = some (.lst acc)) (hR : Reps K Hs Ms acc ea) (hz : ea.length + es.length ≤ sizeLine)
    (e : cloop mg mt me vs ds ρa = some (es, ρ2)) (hq : ∀ H M acc', Ext O Hs Ms H M → SR K H M (wth O Dd) π ρ2 (wipeA σ vs) → H Dd = some (.lst acc') → Reps K H M acc' (ea ++ es) → Qd H) :
    ∃ W : Nat → Nat → Hp → Prop, (∃ m, W 0 m Hs) ∧ ∀ i m H, W i m H →
      ((Itl K a).stop i H ∧ Qd H) ∨ ((Itl K a).go i H ∧ ∃ Nx : Hp → Prop, (∀ H', Nx H' → ∃ m', m' < m ∧ W (i + 1) m' H') ∧ ∀ x H', (Itl K a).yld i H x H' → tG K mg ts x (wipe σ vs) H' fun σ2 H2 => wipe σ2 vs = wipe σ vs ∧ tT K mt σ2 H2 fun b H3 =>
        if b = true then tE K me σ2 H3 fun y H4 => ∃ acc, H4 Dd = some (.lst acc) ∧ acc.length < sizeLine ∧ Nx (upd H4 Dd (.lst (acc ++ [y]))) else Nx H3) := by
  have hMs : Ms Dd := s.sub Dd (.inr rfl)
  have less : ∀ a, O a → wth O Dd a := fun a q => .inl q
  refine ⟨fun i m H => m = ds.length - i ∧ i ≤ ds.length ∧ ∃ ρb M acc' eb es', SR K H M (wth O Dd) π ρb (wipeA σ vs) ∧ Ext O Hs Ms H M ∧ H Dd = some (.lst acc') ∧ Reps K H M acc' eb ∧ cloop mg mt me vs (ds.drop i) ρb = some (es', ρ2) ∧ ea ++ es = eb ++ es',
    ⟨_, rfl, Nat.zero_le _, ρa, Ms, acc, ea, es, s, .refl (s.less less), hA, hR, e, rfl⟩, ?_⟩
  rintro i m H ⟨rfl, hi, ρb, M, acc', eb, es', sb, xb, hAb, hRb, eb', eq⟩
  have hHa : H a = some (.lst vl) := xb.keep a _ hH (.inl ha)
  have hrb : Reps K H M vl ds := hr.tr xb.tr
  by_cases hlt : i < ds.length
  · rw [List.drop_eq_getElem_cons hlt] at eb'
    have hd : ds[i]? = some ds[i] := List.getElem?_eq_getElem hlt
    refine .inr ⟨walk_list.goes i H (by rw [hrb.length]; exact hlt) (.inl (.inl hHa)), fun H' => ds.length - (i + 1) = ds.length - (i + 1) ∧ i + 1 ≤ ds.length ∧ ∃ ρb M acc' eb es', SR K H' M (wth O Dd) π ρb (wipeA σ vs) ∧ Ext O Hs Ms H' M ∧ H' Dd = some (.lst acc') ∧ Reps K H' M acc' eb ∧ cloop mg mt me vs (ds.drop (i + 1)) ρb = some (es', ρ2) ∧ ea ++ es = eb ++ es', fun H' w => ⟨_, by omega, w⟩, fun x H3 y => ?_⟩
    obtain ⟨s3, x3, r3⟩ : SR K H3 M (wth O Dd) π ρb (wipeA σ vs) ∧ Ext (wth O Dd) H M H3 M ∧ Rep K H3 M x ds[i] := by
      obtain ⟨v, hv, rv⟩ := hrb.get hd
      obtain ⟨y1, y2⟩ := walk_list.yields i H x H3 (by rw [hrb.length]; exact hlt) (.inl (.inl hHa)) y
      rw [hv] at y2; cases y2
      subst y1
      exact ⟨sb, .refl sb, rv⟩
    unfold cloop at eb'
    split at eb'
    · rename_i ρ3 e3
      rw [wipe_eq]
      refine ⟨ρb, M, wth O Dd, π, _, ρ3, s3, r3, e3, fun σ4 s4 fr ln => ?_⟩
      have hw : wipeA σ4 vs = wipeA σ vs := wipeA_ext (fun j hj => by rw [fr j (fun z => hj (hts j z)), wipeA_out hj]) (by rw [ln, wipeA_len])
      refine ⟨by rw [wipe_eq]; exact hw, ?_⟩
      split at eb'
      · rename_i ρ4 e4
        refine ⟨ρ3, M, wth O Dd, π, true, ρ4, s4, e4, fun H5 M5 x5 s5 => iteT ?_⟩
        split at eb'
        · rename_i pr ρ5 e5
          split at eb'
          · rename_i ee ρ6 e6
            split at eb'
            · rename_i es2 ρ7 e7
              cases eb'
              refine ⟨ρ4, M5, wth O Dd, π, pr, ρ5, s5, e5, fun v H6 M6 x6 s6 r6 => ?_⟩
              obtain ⟨M7, x7, s7, r7⟩ := frz_ok s6 r6 e6
              have xx : Ext (wth O Dd) H M H6 M7 := ((x3.trans x5).trans x6).trans x7
              have hA6 : H6 Dd = some (.lst acc') := xx.keep Dd _ hAb (.inl (.inr rfl))
              have hM7 : M7 Dd := s7.sub Dd (.inr rfl)
              have hl : acc'.length < sizeLine := by
                rw [hRb.length]
                have := congrArg List.length eq
                rw [List.length_append, List.length_append, List.length_cons] at this
                omega
              refine ⟨acc', hA6, hl, rfl, hlt, wipeA ρ6 vs, M7, acc' ++ [v], eb ++ [ee], es2, ?_, (xb.trans (xx.less less)).updM hMs hO, upd_same, ((hRb.tr xx.tr).append (.cons r7 .nil)).tr (upd_lat hM7), e7, ?_⟩
              · rw [← hw]; exact (s7.writeO hM7 (.inr rfl)).wipe vs
              · rw [eq, List.append_assoc]; rfl
            · cases eb'
          · cases eb'
        · cases eb'
      · rename_i ρ4 e4
        refine ⟨ρ3, M, wth O Dd, π, false, ρ4, s4, e4, fun H5 M5 x5 s5 => iteF ?_⟩
        have xx : Ext (wth O Dd) H M H5 M5 := x3.trans x5
        refine ⟨rfl, hlt, wipeA ρ4 vs, M5, acc', eb, es', ?_, xb.trans (xx.less less), xx.keep Dd _ hAb (.inl (.inr rfl)), hRb.tr xx.tr, eb', eq⟩
        rw [← hw]; exact s5.wipe vs
      · cases eb'
    · cases eb'
  · have ei : i = ds.length := by omega
    subst ei
    rw [List.drop_length] at eb'
    cases eb'
    rw [List.append_nil] at eq
    exact .inl ⟨by rw [← hrb.length]; exact walk_list.stops H (.inl (.inl hHa)), hq H M acc' xb sb hAb (by rw [eq]; exact hRb)⟩
/-- a comprehension over a name's own list, which stays its own -/
def mCompB (i : Nat) (mg : MG) (mt : MT) (me : ME) (vs : List Nat) : ME := fun ρ => match ρ[i]? with
  | some (some (.own .dic _)) => none
  | some (some (.own b ds)) => if (!vs.contains i && vsOk (ρ.set i none) vs) = true then match cloop mg mt me vs ds (wipeA (ρ.set i none) vs) with
    | some (es, ρ2) => if fits es.length = true then some (.val (.own .loc es), (restA ρ2 (ρ.set i none) vs).set i (some (.own b ds))) else none
    | none => none
    else none
  | _ => none
theorem lcB_read {K : PySem.W.Frag} {i : Nat} (hts : ∀ i ∈ ts, i ∈ vs) {σ : St} {H : Hp} {Q : VK} (h : tE K (mCompB i mg mt me vs) σ H Q) : tLc (iSeq K (tVar i)) (tG K mg ts) (tT K mt) (tE K me) vs σ H Q := by
  obtain ⟨ρ, M, O, π, pr, ρ', h, e, q⟩ := h
  unfold mCompB at e
  split at e
  · cases e
  · rename_i b ds hne0 e0
    split at e
    · rename_i ok'
      rw [Bool.and_eq_true] at ok'
      have ok := ok'.2
      split at e
      · rename_i es ρ2 e2
        split at e
        · rename_i hz
          cases e
          obtain ⟨a, vl, f1, f2, f3, f4, f5, f6⟩ := h.ownL e0 (isL_of hne0)
          have s0 := h.lend e0 f1 f3
          refine ⟨.ref a, f1, a, rfl, .inl ⟨⟨vl, .inl (.inl f2)⟩, fun Dd hD => ?_⟩⟩
          have hne : a ≠ Dd := fun z => by rw [z, hD] at f2; cases f2
          have hO : ¬ wth O a Dd := fun z => z.elim (fun z => h.live Dd (h.sub Dd z) hD) fun z => hne z.symm
          refine creadB (ea := []) (vl := vl) hts (.inr rfl) (by rw [upd_ne hne]; exact f2) (f5.tr (alloc_tr_own h hD)) (comp_start s0 hD vs) hO upd_same .nil (by have := fits_le hz; simpa using this) e2 fun H2 M2 acc x2 s2 hA hR => ?_
          obtain ⟨y1, y2, y3⟩ := comp_end s0 hD ok x2 s2 hA hR
          have g1 : H2 a = some (.lst vl) := y1.keep a _ f2 (.inl (.inr rfl))
          have g2 : M2 a := y1.sub a (.inr rfl)
          obtain ⟨p, ws, k1, k2, k3, k4, k5, k6⟩ := y3
          refine q _ H2 M2 (y1.less fun x z => .inl z) (y2.back (isL_of hne0) f1 g1 g2 f4 (f5.tr y1.tr) f6) ⟨p, ws, k1, k2, k3, fun z => k4 (.inl z), k5, fun j c fs z1 z2 => ?_⟩
          rcases get_set z1 with ⟨rfl, _⟩ | ⟨_, z1⟩
          · rw [f1] at z2; cases z2
            exact k4 (.inr rfl)
          · exact k6 j c fs z1 z2
        · cases e
      · cases e
    · cases e
  · cases e
end
section
variable {X : Cx} {elt tg iter : Expr} {ifs : List Expr} {scope : Scope} {own : List (Str × Nat)} {pos : Pos} {mg : MG} {mt : MT} {me : ME} {ts : List Nat}
theorem de_lcB {j : Nat} (hc : X.calm = true) (hN : X.N.Nodup) (hi : PE X iter (tVar j)) (ok : BlkOk X.N X.env.scope scope own) (hg : Bk X scope fun Y => DG Y tg mg ts) (ht : Bk X scope fun Y => DTs Y ifs mt) (he : Bk X scope fun Y => DE Y elt me)
    (hts : ∀ i ∈ ts, i ∈ own.map (·.2)) (hs : ∀ x, foldedSetIterable iter X.env x = pure x := by intro _; rfl) : DE X (.ListComp elt [⟨tg, iter, ifs, 0⟩] scope pos) (mCompB j mg mt me (own.map (·.2))) :=
  PE.imp (pe_lc (wi := iSeq X.K (tVar j)) (g := tG X.K mg ts) (tt := tT X.K mt) (te := tE X.K me) hc hN (pi_seq hi) ok hg ht he hs) fun σ H Q h => lcB_read hts h
theorem ds_setLcB {i j : Nat} {y : Str} {py spos : Pos} (hc : X.calm = true) (hN : X.N.Nodup) (hy : X.N[i]? = some y) (hyl : X.env.scope.names.lookup y = some .local)
    (hsw : swapsWith (.ListComp elt [⟨tg, iter, ifs, 0⟩] scope pos) (some (.Name y py)) spos.line X.env = pure true) (hi : PE X iter (tVar j)) (ok : BlkOk X.N X.env.scope scope own) (hg : Bk X scope fun Y => DG Y tg mg ts) (ht : Bk X scope fun Y => DTs Y ifs mt) (he : Bk X scope fun Y => DE Y elt me)
    (hts : ∀ i ∈ ts, i ∈ own.map (·.2)) (hs : ∀ x, foldedSetIterable iter X.env x = pure x := by intro _; rfl) : DS X (.Assign [.Name y py] (.ListComp elt [⟨tg, iter, ifs, 0⟩] scope pos) spos) (mSet i (mCompB j mg mt me (own.map (·.2)))) :=
  PS.imp (ps_setLc (wi := iSeq X.K (tVar j)) (g := tG X.K mg ts) (tt := tT X.K mt) (te := tE X.K me) hc hN hy hyl hsw (pi_seq hi) ok hg ht he hs) fun D σ H ⟨ρ, M, O, π, fl, ρ', h, e, q⟩ => by
    unfold mSet at e
    split at e
    · rename_i pr ρ1 e1
      split at e
      · rename_i ρ2 e2
        cases e
        refine lcB_read (K := X.K) hts ⟨ρ, M, O, π, pr, ρ1, h, e1, fun v H1 M1 x1 s1 r1 => ?_⟩
        obtain ⟨M2, x2, s2⟩ := put_ok s1 r1 e2
        exact q _ H1 M2 (x1.trans x2) s2
      · cases e
    · cases e
end
end Vi

namespace Vi
open PySem PySem.Spec PyProof.Rows L2
section
variable {X : Cx}
/-! ### a tuple some times -/
def dMulT : D → D → Option Sv
  | .tuple ds, .int k => if (!ds.isEmpty && decide (2 ≤ k) && decide (k ≤ 1000) && decide (ds.length ≤ 1000)) = true then some (.imm (.tuple (List.replicate k.toNat ds).flatten)) else none
  | a, b => dMul a b
theorem op_mulT : OpR X (binaryOp .Mult) (fun x y H Q => rMul x y H Q ∨ rRepT X.K x y H Q) := op_mulA.or op_repT
theorem os_mulT : OpS X (fun x y H Q => rMul x y H Q ∨ rRepT X.K x y H Q) dMulT := by
  intro H M O π ρ σ v1 v2 d1 d2 res Q h r1 r2 e q
  unfold dMulT at e
  split at e
  · rename_i ds k
    split at e
    · rename_i hz
      cases e
      rw [Bool.and_eq_true, Bool.and_eq_true, Bool.and_eq_true] at hz
      obtain ⟨a, vs, rfl, rd, rs⟩ := r1.inT
      cases r2.inI
      refine .inr ⟨a, k, vs, rfl, rfl, rd.sq, fun z => ?_, of_decide_eq_true hz.1.1.2, of_decide_eq_true hz.1.2, by rw [rs.length]; exact of_decide_eq_true hz.2, fun p hp => Post.tup q h (rs.rep k.toNat) hp⟩
      have hl := rs.length
      rw [z] at hl
      have : ds = [] := List.length_eq_zero_iff.mp hl.symm
      rw [this] at hz
      exact absurd hz.1.1.1 (by decide)
    · cases e
  · exact .inl (os_mul h r1 r2 e q)
end
end Vi

namespace Vi
open PySem PySem.Spec PyProof.Rows L2
/-! sorted(set(x)) of pairs of small counts -/
def prOf : D → Option (Int × Int)
  | .tuple [.int a, .int b] => if decide (0 ≤ a ∧ a < 64 ∧ 0 ≤ b ∧ b < 64) = true then some (a, b) else none
  | _ => none
def prsOf : List D → Option (List (Int × Int))
  | [] => some []
  | d :: ds => match prOf d, prsOf ds with
    | some p, some ps => some (p :: ps)
    | _, _ => none
def cd (p : Int × Int) : Int := p.1 * 64 + p.2
def insP (x : Int × Int) : List (Int × Int) → List (Int × Int)
  | [] => [x]
  | y :: ys => if cd x < cd y then x :: y :: ys else if cd x = cd y then y :: ys else y :: insP x ys
def setP (ps : List (Int × Int)) : List (Int × Int) := ps.foldr insP []
def toP (p : Int × Int) : D := .tuple [.int p.1, .int p.2]
def dSortSet : D → Option Sv
  | .list ds => match prsOf ds with
    | some ps => if decide (ps.length < 64) = true then some (.own .loc ((setP ps).map toP)) else none
    | none => none
  | _ => none
/-! strictly ascending -/
def Asc (ps : List (Int × Int)) : Prop := ps.Pairwise fun p q => cd p < cd q
theorem ins_mem {x y : Int × Int} : ∀ {ps : List (Int × Int)}, y ∈ insP x ps → y = x ∨ y ∈ ps
  | [], h => .inl (List.mem_singleton.mp h)
  | z :: ps, h => by
    unfold insP at h
    split at h
    · exact (List.mem_cons.mp h)
    · split at h
      · exact .inr h
      · rcases List.mem_cons.mp h with h | h
        · exact .inr (by rw [h]; exact List.mem_cons_self ..)
        · rcases ins_mem h with h | h
          · exact .inl h
          · exact .inr (List.mem_cons_of_mem _ h)
theorem ins_asc {x : Int × Int} : ∀ {ps : List (Int × Int)}, Asc ps → Asc (insP x ps)
  | [], _ => List.pairwise_singleton ..
  | z :: ps, h => by
    have h1 := List.pairwise_cons.mp h
    unfold insP
    split
    · rename_i c
      exact List.pairwise_cons.mpr ⟨fun y hy => by
        rcases List.mem_cons.mp hy with rfl | hy
        · exact c
        · have := h1.1 y hy; omega, h⟩
    · split
      · exact h
      · exact List.pairwise_cons.mpr ⟨fun y hy => by
          rcases ins_mem hy with rfl | hy
          · omega
          · exact h1.1 y hy, ins_asc h1.2⟩
theorem set_asc : ∀ ps, Asc (setP ps)
  | [] => List.Pairwise.nil
  | x :: ps => ins_asc (set_asc ps)
theorem ins_has {x : Int × Int} : ∀ {ps : List (Int × Int)}, (∃ y ∈ insP x ps, cd y = cd x) ∧ ∀ y ∈ ps, y ∈ insP x ps
  | [] => ⟨⟨x, List.mem_singleton.mpr rfl, rfl⟩, fun _ h => by cases h⟩
  | z :: ps => by
    unfold insP
    split
    · exact ⟨⟨x, List.mem_cons_self .., rfl⟩, fun y hy => List.mem_cons_of_mem _ hy⟩
    · split
      · rename_i c
        exact ⟨⟨z, List.mem_cons_self .., c.symm⟩, fun y hy => hy⟩
      · obtain ⟨⟨y, h1, h2⟩, h3⟩ := ins_has (x := x) (ps := ps)
        refine ⟨⟨y, List.mem_cons_of_mem _ h1, h2⟩, fun w hw => ?_⟩
        rcases List.mem_cons.mp hw with rfl | hw
        · exact List.mem_cons_self ..
        · exact List.mem_cons_of_mem _ (h3 w hw)
theorem set_sub : ∀ {ps : List (Int × Int)} {y : Int × Int}, y ∈ setP ps → y ∈ ps
  | [], _, h => by cases h
  | x :: ps, y, h => by
    rcases ins_mem (show y ∈ insP x (setP ps) from h) with rfl | h
    · exact List.mem_cons_self ..
    · exact List.mem_cons_of_mem _ (set_sub h)
theorem set_all : ∀ {ps : List (Int × Int)} {y : Int × Int}, y ∈ ps → ∃ z ∈ setP ps, cd z = cd y
  | x :: ps, y, h => by
    rcases List.mem_cons.mp h with rfl | h
    · exact ins_has.1
    · obtain ⟨z, h1, h2⟩ := set_all h
      exact ⟨z, ins_has.2 z h1, h2⟩
/-- two that ascend and have the same codes are equal, where the code tells the pair -/
theorem asc_eq : ∀ {ps qs : List (Int × Int)}, Asc ps → Asc qs → (∀ p ∈ ps, p ∈ qs) → (∀ q ∈ qs, q ∈ ps) → ps = qs
  | [], [], _, _, _, _ => rfl
  | [], q :: qs, _, _, _, h => absurd (h q (List.mem_cons_self ..)) (List.not_mem_nil)
  | p :: ps, [], _, _, h, _ => absurd (h p (List.mem_cons_self ..)) (List.not_mem_nil)
  | p :: ps, q :: qs, h1, h2, h3, h4 => by
    have a1 := List.pairwise_cons.mp h1
    have a2 := List.pairwise_cons.mp h2
    have e : p = q := by
      rcases List.mem_cons.mp (h3 p (List.mem_cons_self ..)) with e | e
      · exact e
      · rcases List.mem_cons.mp (h4 q (List.mem_cons_self ..)) with f | f
        · exact f.symm
        · have := a2.1 p e; have := a1.1 q f; omega
    subst e
    rw [asc_eq a1.2 a2.2 (fun x hx => by
      rcases List.mem_cons.mp (h3 x (List.mem_cons_of_mem _ hx)) with rfl | e
      · have := a1.1 x hx; omega
      · exact e) fun x hx => by
      rcases List.mem_cons.mp (h4 x (List.mem_cons_of_mem _ hx)) with rfl | e
      · have := a2.1 x hx; omega
      · exact e]
def Bp (p : Int × Int) : Prop := (0 ≤ p.1 ∧ p.1 < 64) ∧ (0 ≤ p.2 ∧ p.2 < 64)
theorem cd_inj {p q : Int × Int} (hp : Bp p) (hq : Bp q) (h : cd p = cd q) : p = q := by
  obtain ⟨a, b⟩ := p
  obtain ⟨c, d⟩ := q
  obtain ⟨⟨h1, h2⟩, h3, h4⟩ := hp
  obtain ⟨⟨h5, h6⟩, h7, h8⟩ := hq
  simp only [cd] at *
  have : a = c := by omega
  have : b = d := by omega
  subst_vars
  rfl
theorem pr_of {d : D} {p : Int × Int} (h : prOf d = some p) : d = toP p ∧ Bp p := by
  unfold prOf at h
  split at h
  · split at h
    · rename_i a b c
      cases h
      have := of_decide_eq_true c
      exact ⟨rfl, ⟨this.1, this.2.1⟩, this.2.2.1, this.2.2.2⟩
    · cases h
  · cases h
theorem prs_of : ∀ {ds : List D} {ps : List (Int × Int)}, prsOf ds = some ps → ds = ps.map toP ∧ ∀ p ∈ ps, Bp p
  | [], ps, h => by cases h; exact ⟨rfl, fun _ h => by cases h⟩
  | d :: ds, ps, h => by
    unfold prsOf at h
    split at h
    · rename_i p qs h1 h2
      cases h
      obtain ⟨e1, b1⟩ := pr_of h1
      obtain ⟨e2, b2⟩ := prs_of h2
      refine ⟨by rw [List.map_cons, ← e1, ← e2], fun x hx => ?_⟩
      rcases List.mem_cons.mp hx with rfl | hx
      · exact b1
      · exact b2 x hx
    · cases h
def ls (p : Int × Int) : List Int := [p.1, p.2]
theorem ls_inj {p q : Int × Int} (h : ls p = ls q) : p = q := by
  obtain ⟨a, b⟩ := p
  obtain ⟨c, d⟩ := q
  simp only [ls, List.cons.injEq] at h
  rw [h.1, h.2.1]
theorem reps_prs {K : PySem.W.Frag} {H : Hp} {M : Mset} : ∀ {ps : List (Int × Int)} {vs : List V}, Reps K H M vs (ps.map toP) → ∃ ks : List (Addr × List Int), vs = ks.map (fun p => V.ref p.1) ∧ ks.map (·.2) = ps.map ls ∧ ∀ p ∈ ks, TupAt K H M p.1 (p.2.map V.int)
  | [], _, .nil => ⟨[], rfl, rfl, fun _ h => by cases h⟩
  | p :: ps, _, .cons h r => by
    obtain ⟨ks, h1, h2, h3⟩ := reps_prs r
    obtain ⟨a, b⟩ := p
    cases h with
    | @tup ad xs ds ht hr =>
      cases hr with
      | cons q1 hr =>
        cases hr with
        | cons q2 hr =>
          cases hr
          cases q1
          cases q2
          refine ⟨(ad, [a, b]) :: ks, by rw [h1]; rfl, by rw [List.map_cons, List.map_cons, h2]; rfl, fun p hp => ?_⟩
          rcases List.mem_cons.mp hp with rfl | hp
          · exact ht
          · exact h3 p hp
theorem reps_of {K : PySem.W.Frag} {H : Hp} {M : Mset} : ∀ {ks : List (Addr × List Int)} {ps : List (Int × Int)}, ks.map (·.2) = ps.map ls → (∀ p ∈ ks, TupAt K H M p.1 (p.2.map V.int)) → Reps K H M (ks.map fun p => V.ref p.1) (ps.map toP)
  | [], [], _, _ => .nil
  | [], p :: ps, h, _ => by simp at h
  | k :: ks, [], h, _ => by simp at h
  | k :: ks, p :: ps, h, hk => by
    rw [List.map_cons, List.map_cons] at h
    injection h with h1 h2
    have hk1 := hk k (List.mem_cons_self ..)
    rw [h1] at hk1
    exact .cons (.tup hk1 (.cons (.int _) (.cons (.int _) .nil))) (reps_of h2 fun q hq => hk q (List.mem_cons_of_mem _ hq))
section
variable {X : Cx}
def rSS (X : Cx) (v : V) (H : Hp) (Q : VK) : Prop := rSetOfT X.K X.prog X.w [v] H fun v2 H2 => rSortedT X.K X.prog X.w [v2] H2 Q
theorem us_sortset : UnS X (rSS X) dSortSet := by
  intro H M O π ρ σ v1 d1 res Q h r1 e q
  unfold dSortSet at e
  split at e
  · rename_i ds
    split at e
    · rename_i ps hps
      split at e
      · rename_i hl
        cases e
        have hl := of_decide_eq_true hl
        obtain ⟨hds, hb⟩ := prs_of hps
        subst hds
        obtain ⟨a, vs, rfl, rd, rs⟩ := r1.inL
        obtain ⟨ks, rfl, hk2, hk3⟩ := reps_prs rs
        have hkl : ks.length = ps.length := by
          have := congrArg List.length hk2
          rwa [List.length_map, List.length_map] at this
        refine ⟨a, ks, rfl, .inl rd, fun p hp => (hk3 p hp).sq, by omega, fun b L hbn hs1 hs2 => ?_⟩
        have tr := (Ext.alloc h (o := SetTO X.prog X.w b L) hbn).tr
        have h2 := h.alloc (o := SetTO X.prog X.w b L) hbn
        have tt : ∀ {x : Addr} {us : List V}, TupAt X.K H M x us → TupAt X.K (upd H b (SetTO X.prog X.w b L)) M x us := fun t => by
          rcases t with ⟨t, n⟩ | t
          · exact .inl (tr _ _ t n)
          · exact .inr t
        have hLs : ∀ p ∈ L, ∃ w ∈ ps, p.2 = ls w := fun p hp => by
          have hm : p.2 ∈ ks.map (·.2) := List.mem_map.mpr ⟨p, hs1 p hp, rfl⟩
          rw [hk2] at hm
          obtain ⟨w, hw, e⟩ := List.mem_map.mp hm
          exact ⟨w, hw, e.symm⟩
        refine ⟨b, L, 2, 64, rfl, upd_same, fun p hp => (tt (hk3 p (hs1 p hp))).sq, by decide, fun p hp => ?_, fun L' p pm nd hf pw hp => ?_⟩
        · obtain ⟨w, hw, e⟩ := hLs p hp
          rw [e]
          refine ⟨rfl, fun m hm => ?_⟩
          have := hb w hw
          simp only [ls, List.mem_cons, List.not_mem_nil, or_false] at hm
          rcases hm with rfl | rfl
          · exact this.1
          · exact this.2
        · obtain ⟨qs, hqs⟩ : ∃ qs : List (Int × Int), L'.map (·.2) = qs.map ls ∧ ∀ w ∈ qs, w ∈ ps := by
            have : ∀ L0 : List (Addr × List Int), (∀ p ∈ L0, p ∈ L) → ∃ qs : List (Int × Int), L0.map (·.2) = qs.map ls ∧ ∀ w ∈ qs, w ∈ ps := by
              intro L0
              induction L0 with
              | nil => intro _; exact ⟨[], rfl, fun _ h => by cases h⟩
              | cons k L0 ih =>
                intro hh
                obtain ⟨qs, e1, e2⟩ := ih fun p hp => hh p (List.mem_cons_of_mem _ hp)
                obtain ⟨w, hw, e⟩ := hLs k (hh k (List.mem_cons_self ..))
                refine ⟨w :: qs, by rw [List.map_cons, List.map_cons, e1, e], fun x hx => ?_⟩
                rcases List.mem_cons.mp hx with rfl | hx
                · exact hw
                · exact e2 x hx
            exact this L' fun p hp => pm.mem_iff.mp hp
          obtain ⟨hq1, hq2⟩ := hqs
          have hcode : ∀ w : Int × Int, TS.code 64 (ls w) = cd w := fun w => code_pair w.1 w.2
          have hasc : Asc qs := by
            have p1 : (qs.map ls).Pairwise fun x y => TS.code 64 x ≤ TS.code 64 y := by
              rw [← hq1, List.pairwise_map]
              exact pw
            have p2 : (qs.map ls).Pairwise (· ≠ ·) := by rw [← hq1]; exact nd
            rw [List.pairwise_map] at p1 p2
            refine (p1.and p2).imp_of_mem fun {x y} hx hy hxy => ?_
            have c := hxy.1
            rw [hcode, hcode] at c
            have : cd x ≠ cd y := fun z => hxy.2 (by rw [cd_inj (hb x (hq2 x hx)) (hb y (hq2 y hy)) z])
            omega
          have hsame : qs = setP ps := asc_eq hasc (set_asc ps) (fun x hx => by
              obtain ⟨z, z1, z2⟩ := set_all (hq2 x hx)
              rw [← cd_inj (hb z (set_sub z1)) (hb x (hq2 x hx)) z2]
              exact z1) fun x hx => by
              have h1 : ls x ∈ ks.map (·.2) := by rw [hk2]; exact List.mem_map.mpr ⟨x, set_sub hx, rfl⟩
              obtain ⟨k, hk, e⟩ := List.mem_map.mp h1
              have h2 : ls x ∈ L.map (·.2) := by rw [← e]; exact hs2 k hk
              have h3 : ls x ∈ L'.map (·.2) := ((pm.map (·.2)).mem_iff).mpr h2
              rw [hq1] at h3
              obtain ⟨w, hw, e⟩ := List.mem_map.mp h3
              rw [← ls_inj e]
              exact hw
          have rr : Reps X.K (upd H b (SetTO X.prog X.w b L)) M (L'.map fun p => V.ref p.1) (qs.map toP) := reps_of hq1 fun p hp => tt (hk3 p (hs1 p (pm.mem_iff.mp hp)))
          rw [hsame] at rr
          have q2 : Post X.K (upd H b (SetTO X.prog X.w b L)) M O π ρ σ (.own .loc ((setP ps).map toP)) Q := fun v H' M' x s r => q v H' M' ((Ext.alloc h (o := SetTO X.prog X.w b L) hbn).trans x) s r
          exact q2.lst h2 rr hp
      · cases e
    · cases e
  · cases e
variable {a : Expr} {ma : ME}
theorem de_sortset {x y : Str} {p1 p2 pos1 pos2 : Pos} {f : D → Option Sv} (hcS : CallR X (.type "set") (rSetOfT X.K X.prog X.w)) (hcT : CallR X (.builtin "sorted") (rSortedT X.K X.prog X.w)) (hs : UnS X (rSS X) f)
    (hg1 : Gl X x) (hm1 : X.mg x = none) (hv1 : bootBuiltins x = some (.builtin "sorted")) (hg2 : Gl X y) (hm2 : X.mg y = none) (hv2 : bootBuiltins y = some (.type "set")) (ha : DE X a ma)
    (hn1 : x ≠ "__name__" := by decide) (hd1 : (x == ("__debug__" : Str)) = false := by decide) (hn2 : y ≠ "__name__" := by decide) (hd2 : (y == ("__debug__" : Str)) = false := by decide)
    (he2 : starEach (a :: []) X.env = (false, eval a X.env) :: starEach [] X.env := by rfl) (hpl2 : (PySem.backTo pos2 (starEach [] X.env)).any (·.1) = false := by rfl)
    (he1 : starEach (.Call (.Name y p2) [a] [] pos2 :: []) X.env = (false, eval (.Call (.Name y p2) [a] [] pos2) X.env) :: starEach [] X.env := by rfl) (hpl1 : (PySem.backTo pos1 (starEach [] X.env)).any (·.1) = false := by rfl) :
    DE X (.Call (.Name x p1) [.Call (.Name y p2) [a] [] pos2] [] pos1) (un f ma) :=
  PE.imp (pe_callB hcT hg1 hm1 hv1 (pa_cons (pe_callTy hcS hg2 hm2 hv2 (pa_cons ha pa_nil he2) hn2 hd2 he2 hpl2) pa_nil he1) hn1 hd1 he1 hpl1) fun σ H Q h => tE_un hs h
end
end Vi

namespace Vi
open PySem PySem.Spec PyProof.Rows L2
section
variable {X : Cx}
/-- sorted(x) of data, or of a list of one item at most -/
def rSortW (K : PySem.W.Frag) : List V → Hp → VK → Prop := fun vs H Q => rSortD K vs H Q ∨ ∃ (a : Addr) (xs : List V), vs = [.ref a] ∧ SqL K H a xs ∧ xs.length ≤ 1 ∧ ∀ p, H p = none → Q (.ref p) (upd H p (.lst xs))
theorem perm_one {α : Type} {l m : List α} (h : l.Perm m) (hm : m.length ≤ 1) : l = m := by
  match m, hm with
  | [], _ => exact h.eq_nil
  | [x], _ => exact List.perm_singleton.mp h
theorem cr_sortW (hu : X.A.units + 70 < cLine) : CallR X (.builtin "sorted") (rSortW X.K) := by
  intro pins s σ H vs us Q I r h
  rcases h with h | ⟨a, xs, rfl, hs, hl, q⟩
  · exact cr_sortD hu pins s σ H vs us Q I r h
  · obtain ⟨its, rv, hls, hz⟩ := I.list hs
    rw [Vals.ref1 r]
    have hlen : its.length = xs.length := rv.length.symm
    refine Srt.sorted_any (vs := its) (by simpa using hls.isList) (by rw [hlen]; exact hz) (fun h2 => absurd h2 (by omega)) fun out ho => ?_
    have e : out = its := perm_one ho (by omega)
    subst e
    obtain ⟨ep, he'⟩ := PyProof.Rows.sortedAll_at s.heap out out.toArray
    have hfit : xs.length ≤ sizeLine := hz
    exact ⟨.ref _, upd H (s.heap.objs.size + 1) (.lst xs), I.laid (t' := s.toks) (fun _ _ => PyProof.Rows.sortedAll_old) (Nat.le_succ _) ⟨hfit, out, ep, rv, he'⟩, rfl, q _ (I.hok.fresh (Nat.le_succ _))⟩
def dSortW : D → Option Sv
  | .list ds => if sortOk ds = true then some (.own .loc (sortD ds)) else if decide (ds.length ≤ 1) = true then some (.own .loc ds) else none
  | d => dSort d
theorem us_sortW : UnS X (fun v H Q => rSortW X.K [v] H Q) dSortW := by
  intro H M O π ρ σ v1 d1 res Q h r1 e q
  unfold dSortW at e
  split at e
  · rename_i ds
    split at e
    · rename_i hz
      exact .inl (us_sort h r1 (show (if sortOk ds = true then some (Sv.own .loc (sortD ds)) else none) = some res by rw [if_pos hz]; exact e) q)
    · split at e
      · rename_i hl
        cases e
        have hl := of_decide_eq_true hl
        obtain ⟨a, vs, rfl, rd, rs⟩ := r1.inL
        have q2 : Post X.K H M O π ρ σ (.own .loc ds) Q := q
        exact .inr ⟨a, vs, rfl, .inl rd, by rw [rs.length]; exact hl, fun p hp => q2.lst h rs hp⟩
      · cases e
  · exact .inl (us_sort h r1 e q)
end
end Vi

namespace Vi
open PySem PySem.Spec PyProof.Rows L2
/-! ### a tuple any number of times -/
theorem rep_same (at0 : Addr) (vs : Array Value) (en : Nat) (td : Option Addr) (ts : Array (Option Value)) (k : Int) (tk0 : Tok)
    (big : (decide (k < -(2 ^ 63)) || decide (k ≥ 2 ^ 63)) = false) (one : (vs.isEmpty || k == 1) = true) :
    Meets (Builtin.«tuple.__mul__» ⟨[.ref at0, .int k tk0], []⟩) (fun _ R s => s.heap.get? at0 = some { cls := .type "tuple", dict := td, data := .seq vs en, slots := ts } ∧ R (.ok (.ret (Value.ref at0))) s) :=
  .of_wp fun prog w A R s ⟨hat, k1⟩ => by
    obtain ⟨s1, s2, s3, s4, s5⟩ := s
    have ix := AutoSeq1.idx_int
    wp_walk using wpAny_loadPart' hat
    repeat (first
      | (refine wpAny_ite_false (decide_eq_false (by rw [big]; decide)) ?_; wp_walk using wpAny_loadPart' hat)
      | (refine wpAny_ite_true (decide_eq_true one) ?_; wp_walk using wpAny_loadPart' hat))
    all_goals (first | exact ⟨_, rfl, k1⟩ | exact k1 | skip)
theorem rep_none (at0 : Addr) (vs : Array Value) (en : Nat) (td : Option Addr) (ts : Array (Option Value)) (k : Int) (tk0 : Tok)
    (big : (decide (k < -(2 ^ 63)) || decide (k ≥ 2 ^ 63)) = false) (one : (vs.isEmpty || k == 1) = false) (low : (decide (k ≤ 0) || vs.isEmpty) = true) :
    Meets (Builtin.«tuple.__mul__» ⟨[.ref at0, .int k tk0], []⟩) (fun _ R s => s.heap.get? at0 = some { cls := .type "tuple", dict := td, data := .seq vs en, slots := ts } ∧
      R (.ok (.ret (Value.ref s.heap.objs.size))) { s with heap := s.heap.push { cls := Value.type "tuple", data := Data.seq #[] }, toks := s.toks }) :=
  .of_wp fun prog w A R s ⟨hat, k1⟩ => by
    obtain ⟨s1, s2, s3, s4, s5⟩ := s
    have ix := AutoSeq1.idx_int
    wp_walk using wpAny_loadPart' hat
    repeat (first
      | (refine wpAny_ite_false (decide_eq_false (by rw [big]; decide)) ?_; wp_walk using wpAny_loadPart' hat)
      | (refine wpAny_ite_false (decide_eq_false (by rw [one]; decide)) ?_; wp_walk using wpAny_loadPart' hat)
      | (refine wpAny_ite_true (decide_eq_true low) ?_; wp_walk using wpAny_loadPart' hat))
    all_goals (first | exact ⟨_, rfl, k1⟩ | exact k1 | skip)
/-- tuple * k, no new tuple or the empty one -/
def rRepS (K : PySem.W.Frag) : R2 := fun x y H Q => ∃ l k xs, x = .ref l ∧ y = .int k ∧ SqT K H l xs ∧ -1000000 ≤ k ∧ k ≤ 1000000 ∧ (xs = [] ∨ k = 1) ∧ Q (.ref l) H
def rRep0 (K : PySem.W.Frag) : R2 := fun x y H Q => ∃ l k xs, x = .ref l ∧ y = .int k ∧ SqT K H l xs ∧ -1000000 ≤ k ∧ k ≤ 0 ∧ xs ≠ [] ∧ ∀ p, H p = none → Q (.ref p) (upd H p (.tup []))
section
variable {X : Cx}
theorem op_repS : OpR X (binaryOp .Mult) (rRepS X.K) := by
  intro pins s σ H x y v u Q I rx ry h
  obtain ⟨l, k, xs, rfl, rfl, hT, h1, h2, hor, q⟩ := h
  cases rx
  obtain ⟨t, rfl⟩ := ry
  obtain ⟨its, r, ⟨⟨cls, dd, data, sl⟩, ho, hc, n, hd⟩, hs⟩ := I.tuple hT
  simp only at hc hd
  subst hc hd
  have big : (decide (k < -(2 ^ 63)) || decide (k ≥ 2 ^ 63)) = false := by
    rw [Bool.or_eq_false_iff]; exact ⟨decide_eq_false (by omega), decide_eq_false (by omega)⟩
  have one : (its.toArray.isEmpty || k == 1) = true := by
    rcases hor with h | h
    · have : its = [] := List.eq_nil_of_length_eq_zero (by rw [← r.length, h]; rfl)
      rw [this]; rfl
    · rw [h]; simp
  refine wpAny_binaryOp_repeat_ref (T := "tuple") (U := "int") (by decide) ⟨_, ho, rfl⟩ (fun s' => typeIs_int s' k t) noFill_tuple_mul F.fills_int_mul F.slot_int_rmul repeat_tuple F.slot_int_index.lookup ?_
  refine call_meets F.slot_int_rmul (typeIs_int s k t) F.entry_int_rmul (F.args_int_rmul_2 _ _) (int_rmul_tuple k t l its.toArray n dd sl) ⟨ho, rfl, ⟨_, ho, rfl⟩, ?_⟩
  exact call_meets F.slot_tuple_mul ⟨_, ho, rfl⟩ F.entry_tuple_mul (F.args_tuple_mul_2 _ _) (rep_same l its.toArray n dd sl k t big one) ⟨ho, ⟨.ref l, H, I, rfl, q⟩⟩
theorem op_rep0 : OpR X (binaryOp .Mult) (rRep0 X.K) := by
  intro pins s σ H x y v u Q I rx ry h
  obtain ⟨l, k, xs, rfl, rfl, hT, h1, h2, hne, q⟩ := h
  cases rx
  obtain ⟨t, rfl⟩ := ry
  obtain ⟨its, r, ⟨⟨cls, dd, data, sl⟩, ho, hc, n, hd⟩, hs⟩ := I.tuple hT
  simp only at hc hd
  subst hc hd
  have big : (decide (k < -(2 ^ 63)) || decide (k ≥ 2 ^ 63)) = false := by
    rw [Bool.or_eq_false_iff]; exact ⟨decide_eq_false (by omega), decide_eq_false (by omega)⟩
  have one : (its.toArray.isEmpty || k == 1) = false := by
    have hk : (k == 1) = false := beq_eq_false_iff_ne.mpr (by omega)
    cases its with
    | nil => exact absurd (List.eq_nil_of_length_eq_zero (by rw [r.length]; rfl)) hne
    | cons a b => rw [hk]; rfl
  have low : (decide (k ≤ 0) || its.toArray.isEmpty) = true := by rw [decide_eq_true h2]; rfl
  refine wpAny_binaryOp_repeat_ref (T := "tuple") (U := "int") (by decide) ⟨_, ho, rfl⟩ (fun s' => typeIs_int s' k t) noFill_tuple_mul F.fills_int_mul F.slot_int_rmul repeat_tuple F.slot_int_index.lookup ?_
  refine call_meets F.slot_int_rmul (typeIs_int s k t) F.entry_int_rmul (F.args_int_rmul_2 _ _) (int_rmul_tuple k t l its.toArray n dd sl) ⟨ho, rfl, ⟨_, ho, rfl⟩, ?_⟩
  refine call_meets F.slot_tuple_mul ⟨_, ho, rfl⟩ F.entry_tuple_mul (F.args_tuple_mul_2 _ _) (rep_none l its.toArray n dd sl k t big one low) ⟨ho, ?_⟩
  exact ⟨.ref s.heap.objs.size, _, I.laid (t' := s.toks) (o := .tup []) (fun b ob q => Heap.get?_push_of_some _ q) (Nat.le_refl _) ⟨Nat.zero_le _, [], .nil, IsTup.new _ _⟩, rfl, q _ (I.hok.fresh (Nat.le_refl _))⟩
def dMulN : D → D → Option Sv
  | .tuple ds, .int k => if decide (-1000000 ≤ k ∧ k ≤ 1000000) = true then (if (ds.isEmpty || k == 1) = true then some (.imm (.tuple ds)) else if decide (k ≤ 0) = true then some (.imm (.tuple [])) else dMulT (.tuple ds) (.int k)) else none
  | a, b => dMul a b
abbrev rMulN (K : PySem.W.Frag) : R2 := fun x y H Q => (rMul x y H Q ∨ rRepT K x y H Q) ∨ rRepS K x y H Q ∨ rRep0 K x y H Q
theorem op_mulN : OpR X (binaryOp .Mult) (rMulN X.K) := op_mulT.or (op_repS.or op_rep0)
theorem os_mulN : OpS X (rMulN X.K) dMulN := by
  intro H M O π ρ σ v1 v2 d1 d2 res Q h r1 r2 e q
  unfold dMulN at e
  split at e
  · rename_i ds k
    split at e
    · rename_i hz
      have hz := of_decide_eq_true hz
      obtain ⟨a, vs, hv, rd, rs⟩ := r1.inT
      split at e
      · rename_i h1
        cases e
        have hr : Rep X.K H M v1 (.tuple ds) := r1
        cases r2.inI
        subst hv
        refine .inr (.inl ⟨a, k, vs, rfl, rfl, rd.sq, hz.1, hz.2, ?_, ?_⟩)
        · rw [Bool.or_eq_true] at h1
          rcases h1 with h1 | h1
          · exact .inl (List.eq_nil_of_length_eq_zero (by rw [rs.length, List.isEmpty_iff.mp h1]; rfl))
          · exact .inr (beq_iff_eq.mp h1)
        · exact Post.now q h hr
      · rename_i h1
        split at e
        · rename_i h2
          cases e
          cases r2.inI
          subst hv
          refine .inr (.inr ⟨a, k, vs, rfl, rfl, rd.sq, hz.1, of_decide_eq_true h2, fun z => h1 ?_, fun p hp => Post.tup q h .nil hp⟩)
          have hl := rs.length
          rw [z] at hl
          rw [List.length_eq_zero_iff.mp hl.symm]; rfl
        · exact .inl (os_mulT h r1 r2 e q)
    · cases e
  · exact .inl (.inl (os_mul h r1 r2 e q))
end
end Vi

namespace Vi
open PySem PySem.Spec PyProof.Rows L2
section
variable {X : Cx}
/-! ### max(a list of data) -/
def rMaxDL (K : PySem.W.Frag) : List V → Hp → VK → Prop := fun vs H Q => ∃ (a : Addr) (xs : List V) (d : D) (ds : List D), vs = [.ref a] ∧ SqL K H a xs ∧ DpAll K H xs (d :: ds) ∧ minOk (d :: ds) = true ∧ ∀ (i : Nat) (x : V), xs[i]? = some x → (d :: ds)[i]? = some (W.maxD d ds) → Q x H
theorem cr_maxDL (hc : X.calm = true) (hu : X.A.units + 70 < cLine) : CallR X (.builtin "max") (rMaxDL X.K) := by
  intro pins s σ H vs us Q I r h
  obtain ⟨a, xs, d, ds, rfl, hsq, hdp, hok, q⟩ := h
  rw [Vals.ref1 r]
  obtain ⟨its, rv, pl, hz⟩ := I.list hsq
  obtain ⟨as, hr⟩ := Dp.readsAll I (d :: ds) xs its hdp rv
  have hdep := minOk_dep hok
  refine W.max_list_data (I.ok.hd hc) pl.isList (show ReadsAll s.heap its.toArray.toList (d :: ds) as by simpa using hr) (minOk_al hok) (by omega) fun i v h' tk bs hv rd kp => ?_
  have hv' : its[i]? = some v := by simpa using hv
  obtain ⟨e, bs2, he, re⟩ := readsAll_i hr hv'
  have e1 := (Reads.unique (Reads.keeps kp re) _ _ rd).1
  subst e1
  have hl := rv.length
  have hi : i < xs.length := by
    have := (List.getElem?_eq_some_iff.mp hv').1
    omega
  obtain ⟨w, ew, rw'⟩ := rv.get (List.getElem?_eq_getElem hi)
  rw [hv'] at ew; cases ew
  exact ⟨_, H, I.kept (t' := tk) kp, rw', q i _ (List.getElem?_eq_getElem hi) he⟩
def dMaxL : D → Option Sv
  | .list (d :: ds) => if minOk (d :: ds) = true then some (.imm (W.maxD d ds)) else none
  | _ => none
theorem us_maxL : UnS X (fun v H Q => rMaxDL X.K [v] H Q) dMaxL := by
  intro H M O π ρ σ v1 d1 res Q h r1 e q
  unfold dMaxL at e
  split at e
  · split at e
    · rename_i hz
      cases e
      obtain ⟨a, vs, rfl, rd, rs⟩ := r1.inL
      refine ⟨a, vs, _, _, rfl, .inl rd, rs.dp (minOk_lay hz), hz, fun i x hx hd => ?_⟩
      obtain ⟨y, hy, ry⟩ := rs.get hd
      rw [hx] at hy; cases hy
      exact Post.now q h ry
    · cases e
  · cases e
end
end Vi

namespace Vi
open PySem PySem.Spec PyProof.Rows L2
/-! a name's own list, looked at and given back -/
def atomD : D → Bool
  | .none | .bool _ | .int _ | .str _ => true
  | _ => false
section
variable {K : PySem.W.Frag} {H H' : Hp} {M M' O : Mset} {π : Nat → Option Addr} {ρ ρ' : Fm} {σ : St} {v : V} {d : D}
theorem atom_rep (h : Rep K H M v d) (a : atomD d = true) : Rep K H' M' v d := by
  cases h with
  | non => exact .non
  | bl b => exact .bl b
  | int i => exact .int i
  | str x => exact .str x
  | lst _ _ _ => cases a
  | tup _ _ => cases a
  | scr _ _ => cases a
theorem atom_reps : ∀ {vs : List V} {ds : List D}, Reps K H M vs ds → ds.all atomD = true → Reps K H' M' vs ds
  | _, _, .nil, _ => .nil
  | _, _, .cons h r, a => by
    rw [List.all_cons, Bool.and_eq_true] at a
    exact .cons (atom_rep h a.1) (atom_reps r a.2)
def keep1 : Option Sv → Option Sv → Option Sv
  | some (.imm d), _ => some (.imm d)
  | some (.own _ _), some (.own b ds) => if ds.all atomD = true then some (.own b ds) else none
  | _, _ => none
def keepF (i : Nat) (ds : List D) (ρ ρ' : Fm) : Fm := (List.zipWith keep1 ρ ρ').set i (some (.own .loc ds))
theorem keepF_at {i j : Nat} {ds : List D} {s : Sv} (h : (keepF i ds ρ ρ')[j]? = some (some s)) : (j = i ∧ s = .own .loc ds) ∨ (j ≠ i ∧ ∃ x y, ρ[j]? = some x ∧ ρ'[j]? = some y ∧ keep1 x y = some s) := by
  unfold keepF at h
  rcases get_set h with ⟨h1, h2⟩ | ⟨h1, h2⟩
  · cases h2; exact .inl ⟨h1, rfl⟩
  · rw [List.getElem?_zipWith] at h2
    refine .inr ⟨h1, ?_⟩
    cases ex : ρ[j]? with
    | none => rw [ex] at h2; cases h2
    | some x =>
      cases ey : ρ'[j]? with
      | none => rw [ex, ey] at h2; cases h2
      | some y =>
        rw [ex, ey] at h2
        exact ⟨x, y, rfl, rfl, by injection h2⟩
theorem keep1_imm {x y : Option Sv} {d : D} (h : keep1 x y = some (.imm d)) : x = some (.imm d) := by
  match x, y, h with
  | some (.imm e), _, h => unfold keep1 at h; exact h
  | some (.own _ _), some (.own b ds), h => unfold keep1 at h; simp only at h; split at h <;> cases h
  | some (.own _ _), some (.imm _), h => unfold keep1 at h; cases h
  | some (.own _ _), none, h => unfold keep1 at h; cases h
  | none, _, h => unfold keep1 at h; cases h
theorem keep1_own {x y : Option Sv} {b : Kd} {ds : List D} (h : keep1 x y = some (.own b ds)) : y = some (.own b ds) ∧ ds.all atomD = true := by
  match x, y, h with
  | some (.imm e), _, h => unfold keep1 at h; cases h
  | some (.own _ _), some (.own c es), h =>
    unfold keep1 at h
    simp only at h
    split at h
    · cases h; exact ⟨rfl, by assumption⟩
    · cases h
  | some (.own _ _), some (.imm _), h => unfold keep1 at h; cases h
  | some (.own _ _), none, h => unfold keep1 at h; cases h
  | none, _, h => unfold keep1 at h; cases h
def mKeep (i : Nat) (me : ME) : ME := fun ρ => match ρ[i]? with
  | some (some (.own .loc ds)) => match me (ρ.set i (some (.imm (.list ds)))) with
    | some (.val (.imm d), ρ') => if (atomD d && decide (ρ'.length = ρ.length)) = true then some (.val (.imm d), keepF i ds ρ ρ') else none
    | _ => none
  | _ => none
theorem tE_keep {i : Nat} {me : ME} {Q : VK} (h : tE K (mKeep i me) σ H Q) : tE K me σ H Q := by
  obtain ⟨ρ, M, O, π, pr, ρ2, hs, e, q⟩ := h
  unfold mKeep at e
  split at e
  · rename_i ds hi
    obtain ⟨a, vl, f1, f2, f3, f4, f5, _⟩ := hs.own i _ ds hi
    have hz := hs.freeze hi f1 f2 f5 f4
    split at e
    · rename_i d ρ' em
      split at e
      · rename_i hc
        rw [Bool.and_eq_true, decide_eq_true_eq] at hc
        cases e
        refine ⟨_, wo M a, O, π, _, ρ', hz, em, fun v H' M' x s r => ?_⟩
        have t : ∀ y u, Rd H y u → ¬ M y → Rd H' y u ∧ ¬ wth M' a y := fun y u h1 h2 => by
          obtain ⟨h3, h4⟩ := x.tr y u h1 fun z => h2 z.1
          exact ⟨h3, fun z => z.elim h4 fun z => h2 (z ▸ f3)⟩
        have ha : H' a = some (.lst vl) := x.keep a _ f2 (.inr fun z => z.2 rfl)
        have hn : ¬ M' a := (x.tr a _ (.inl f2) fun z => z.2 rfl).2
        refine q v H' (wth M' a) ⟨fun y o h1 h2 => x.keep y o h1 (h2.imp id fun h3 z => h3 z.1), fun y h1 => .inl (x.sub y h1), fun y h1 => ?_⟩ ?_ (atom_rep r hc.1)
        · rcases h1 with h1 | rfl
          · exact (x.new y h1).imp (fun z => z.1) id
          · exact .inl f3
        · have hl : (keepF i ds ρ ρ').length = ρ.length := by
            unfold keepF
            rw [List.length_set, List.length_zipWith, hc.2, Nat.min_self]
          refine ⟨hl.trans hs.len, fun y h1 => .inl (s.sub y h1), fun y h1 => ?_, fun j d' h1 => ?_, fun j b es h1 => ?_, fun j k b c es gs y hjk h1 h2 h3 h4 => ?_⟩
          · rcases h1 with h1 | rfl
            · exact s.live y h1
            · rw [ha]; intro z; cases z
          · rcases keepF_at h1 with ⟨_, z⟩ | ⟨_, u, w, k1, _, k3⟩
            · cases z
            · obtain ⟨v', g1, g2⟩ := hs.imm j d' (by rw [k1, keep1_imm k3])
              exact ⟨v', g1, g2.tr t⟩
          · rcases keepF_at h1 with ⟨rfl, z⟩ | ⟨_, u, w, _, k2, k3⟩
            · cases z
              exact ⟨a, vl, f1, ha, .inr rfl, f4, f5.tr t, fun z => by cases z⟩
            · obtain ⟨k4, k5⟩ := keep1_own k3
              obtain ⟨y, ws, g1, g2, g3, g4, g5, g6⟩ := s.own j b es (by rw [k2, k4])
              exact ⟨y, ws, g1, g2, .inl g3, g4, atom_reps g5 k5, g6⟩
          · rcases keepF_at h1 with ⟨rfl, _⟩ | ⟨n1, u, w, _, k2, k3⟩
            · rcases keepF_at h2 with ⟨rfl, _⟩ | ⟨_, u', w', _, k2', k3'⟩
              · exact hjk rfl
              · obtain ⟨y', ws, g1, g2, g3, _⟩ := s.own k c gs (by rw [k2', (keep1_own k3').1])
                rw [h4] at g1; cases g1
                rw [f1] at h3; cases h3
                exact hn g3
            · obtain ⟨y', ws, g1, g2, g3, _⟩ := s.own j b es (by rw [k2, (keep1_own k3).1])
              rcases keepF_at h2 with ⟨rfl, _⟩ | ⟨_, u', w', _, k2', k3'⟩
              · rw [h3] at g1; cases g1
                rw [f1] at h4; cases h4
                exact hn g3
              · exact s.uniq j k b c es gs y hjk (by rw [k2, (keep1_own k3).1]) (by rw [k2', (keep1_own k3').1]) h3 h4
      · cases e
    · cases e
  · cases e
def mFz (i : Nat) (me : ME) : ME := fun ρ => match frz ρ (.slot i) with
  | some (_, ρ1) => me ρ1
  | none => none
theorem tE_fz {i : Nat} {me : ME} {Q : VK} (h : tE K (mFz i me) σ H Q) : tE K me σ H Q := by
  obtain ⟨ρ, M, O, π, pr, ρ2, hs, e, q⟩ := h
  unfold mFz at e
  split at e
  · rename_i d ρ1 hf
    have : ∃ v, σ[i]? = some (some v) := by
      unfold frz at hf
      simp only at hf
      split at hf
      · rename_i d' hd; exact hs.at hd
      · rename_i ds hd; exact hs.at hd
      · cases hf
    obtain ⟨v, hv⟩ := this
    obtain ⟨M', x, s, _⟩ := frz_ok hs (pr := .slot i) (v := v) hv hf
    exact ⟨ρ1, M', O, π, pr, ρ2, s, e, fun v2 H2 M2 x2 s2 r2 => q v2 H2 M2 (x.trans x2) s2 r2⟩
  · cases e
end
theorem de_keep {X : Cx} {e : Expr} {i : Nat} {me : ME} (h : DE X e me) : DE X e (mKeep i me) := PE.imp h fun _ _ _ q => tE_keep q
theorem de_fz {X : Cx} {e : Expr} {i : Nat} {me : ME} (h : DE X e me) : DE X e (mFz i me) := PE.imp h fun _ _ _ q => tE_fz q
end Vi

namespace Vi
open PySem PySem.Spec PyProof.Rows L2
/-! << and two comparisons in a row -/
def dShl : D → D → Option Sv
  | .int i, .int j => if powOk i j = true then some (.imm (.int (i * 2 ^ j.toNat))) else none
  | _, _ => none
theorem os_shl {X : Cx} : OpS X (rI CPow fun i j => .int (i * 2 ^ j.toNat)) dShl := by
  intro H M O π ρ σ v1 v2 d1 d2 res Q h r1 r2 e q
  unfold dShl at e
  split at e
  · split at e
    · rename_i hz
      cases e
      cases r1.inI; cases r2.inI
      unfold powOk at hz
      have hz' := of_decide_eq_true hz
      exact ⟨_, _, rfl, rfl, hz', Post.now q h (.int _)⟩
    · cases e
  · cases e
def mChain (f g : D → D → Option Sv) (ma mb mc : ME) : ME := fun ρ => match ma ρ with
  | some (.val (.imm a), ρ1) => match mb ρ1 with
    | some (.val (.imm b), ρ2) => match f a b with
      | some (.imm (.bool true)) => match mc ρ2 with
        | some (.val (.imm c), ρ3) => match g b c with
          | some r => some (.val r, ρ3)
          | none => none
        | _ => none
      | some (.imm (.bool false)) => some (.val (.imm (.bool false)), ρ2)
      | _ => none
    | _ => none
  | _ => none
theorem tE_chain {X : Cx} {f g : D → D → Option Sv} {r r' : R2} (hf : OpS X r f) (hg : OpS X r' g) {ma mb mc : ME} {σ : St} {H : Hp} {Q : VK} (h : tE X.K (mChain f g ma mb mc) σ H Q) : tChain r r' (tE X.K ma) (tE X.K mb) (tE X.K mc) σ H Q := by
  obtain ⟨ρ, M, O, π, pr, ρ', h0, e, q⟩ := h
  unfold mChain at e
  split at e
  · rename_i a ρ1 ea
    split at e
    · rename_i b ρ2 eb
      refine ⟨ρ, M, O, π, _, ρ1, h0, ea, fun v1 H1 M1 x1 s1 r1 => ?_⟩
      refine ⟨ρ1, M1, O, π, _, ρ2, s1, eb, fun v2 H2 M2 x2 s2 r2 => ?_⟩
      have r1' : Rep X.K H2 M2 v1 a := Rep.tr x2.tr r1
      split at e
      · rename_i ef
        refine hf s2 (.of r1') (.of r2) ef fun z H3 M3 x3 s3 r3 => ?_
        have r3' : Rep X.K H3 M3 z (.bool true) := r3
        cases r3'
        refine ⟨true, rfl, ?_⟩
        split at e
        · rename_i c ρ3 ec
          split at e
          · rename_i res eg
            cases e
            rw [if_pos rfl]
            refine ⟨ρ2, M3, O, π, _, _, s3, ec, fun v4 H4 M4 x4 s4 r4 => ?_⟩
            have r2' : Rep X.K H4 M4 v2 b := Rep.tr x4.tr (Rep.tr x3.tr r2)
            exact hg s4 (.of r2') (.of r4) eg fun v5 H5 M5 x5 s5 r5 => q v5 H5 M5 ((((x1.trans x2).trans x3).trans x4).trans x5) s5 r5
          · cases e
        · cases e
      · rename_i ef
        cases e
        refine hf s2 (.of r1') (.of r2) ef fun z H3 M3 x3 s3 r3 => ?_
        have r3' : Rep X.K H3 M3 z (.bool false) := r3
        cases r3'
        refine ⟨false, rfl, ?_⟩
        rw [if_neg (by decide)]
        exact q _ H3 M3 ((x1.trans x2).trans x3) s3 (.bl false)
      · cases e
    · cases e
  · cases e
theorem de_chain {X : Cx} {a b c : Expr} {ma mb mc : ME} {pos : Pos} {op op' : CmpOp} {r r' : R2} {f g : D → D → Option Sv} (ho : OpR X (compareOp op) r) (hs : OpS X r f) (ho' : OpR X (compareOp op') r') (hs' : OpS X r' g) (ha : DE X a ma) (hb : DE X b mb) (hc : DE X c mc)
    (hm : lastMarks [op, op'] [b, c] = false := by with_unfolding_all rfl) : DE X (.Compare a [op, op'] [b, c] pos) (mChain f g ma mb mc) :=
  PE.imp (pe_chain ho ho' ha hb hc hm) fun _ _ _ q => tE_chain hs hs' q
end Vi

namespace L2
open PySem PySem.Spec PyProof.Rows
section
variable {P : Program} {w : World} {A : Around} {E : Value → Shared → Prop} {s : Shared}
abbrev bare (w : World) : Obj := { cls := .type "set", dict := none, data := .set #[] 0 (.fresh 0 0 (!w.params.followText "set-order")) }
/-- what __init__ of a new set leaves, handed a list -/
def Filled (w : World) (s : Shared) (ns : List Int) (r : Value) (s2 : Shared) : Prop :=
  r = .none ∧ ∃ h' tk c, s2 = { s with heap := h', toks := tk } ∧ SetR w h' s.heap.objs.size (fun j => decide (j ∈ ns)) c ∧ c ≤ ns.length ∧ ∀ b o, s.heap.get? b = some o → h'.get? b = some o
theorem filled_list {l : Addr} {items : Array Value} {ns : List Int} (hA : A.handled = none) (hl : s.heap.IsList l items) (hi : IntsAre items.toList ns) (hb : ns.length + 1 < scanBound) :
    codeAny (model P w) A (.call (.builtin "set.__init__") ⟨[.ref s.heap.objs.size, .ref l], []⟩) (wants (Filled w s ns) E) { s with heap := s.heap.push (bare w) } := by
  have top : (s.heap.push (bare w)).get? s.heap.objs.size = some (bare w) := Heap.get?_push_size _ rfl
  have ty : Shared.TypeIs { s with heap := s.heap.push (bare w) } (.ref s.heap.objs.size) "set" := ⟨_, top, rfl⟩
  refine codeAny_call_builtin F.called_set.init.plain F.entry_set_init (check_set_init_1 ty ?_)
  obtain ⟨⟨k, dd, dt, sl⟩, at_l, e1, m, e2⟩ := hl
  simp only at e1 e2
  subst e1 e2
  have at_l' := Heap.get?_push_of_some (bare w) at_l
  have n1 := F.sub_list_set
  have n2 := F.sub_list_frozenset
  have n3 : (Value.type "list" == Value.type "dict") = false := by decide
  unfold Builtin.«set.__init__» noKeywords Builtin.Frozenset.updateFrom
  generalize hit : pyIter = it
  wp_walk
  subst hit
  have size : items.size = ns.length := by
    have z := IntsAre.length hi
    rwa [Array.length_toList] at z
  have isL : (s.heap.push (bare w)).IsList l items := ⟨_, at_l', rfl, m, rfl⟩
  have lt := Heap.lt_size at_l
  have grow : (s.heap.push (bare w)).objs.size = s.heap.objs.size + 1 := Heap.size_push ..
  apply wpAny_pyIter_list isL
  apply wpAny_bind
  apply wpAny_runValue
  have val : ∀ (i : Nat) (v : Value), items[i]? = some v → ∃ k t, ns[i]? = some k ∧ v = .int k t := by
    intro i v hv
    have hlt : i < ns.length := by rw [← size]; exact (Array.getElem?_eq_some_iff.mp hv).1
    obtain ⟨t, e⟩ := IntsAre.int_at hi i v (by rw [Array.getElem?_toList]; exact hv)
    have hk := List.getElem?_eq_getElem hlt
    rw [List.getD_eq_getElem?_getD, hk] at e
    exact ⟨_, t, hk, e⟩
  have apart : l ≠ (s.heap.push (bare w)).objs.size := by
    rw [grow]; exact Nat.ne_of_lt (Nat.lt_succ_of_lt lt)
  have off : s.heap.objs.size ∉ [(s.heap.push (bare w)).objs.size, l] := by
    intro z
    rcases List.mem_cons.mp z with z | z
    · rw [grow] at z; exact Nat.ne_of_lt (Nat.lt_succ_self _) z
    · exact Nat.ne_of_lt lt (List.mem_singleton.mp z).symm
  have W := (Walks.list (prog := P) (w := w) (A := A.in1.in1) (by simp [hA]) _ l apart items).toS
  have empty : ((s.heap.push (bare w)).push { cls := .type "list_iterator", data := .fields #[.ref l, .int 0 0] }).get? s.heap.objs.size = some (bare w) := Heap.get?_push_of_some _ top
  refine set_update_ints W s.heap.objs.size off ns size hb val items.size 0 _ (by simp) (Nat.zero_le _) ⟨⟨_, Heap.get?_push_size _ rfl, rfl, rfl⟩, isL.push _⟩ ⟨0, Nat.le_refl 0, setR_new_at empty⟩ ?_
  intro s3 n mv le set
  obtain ⟨h3, g3, d3, t3, o3⟩ := s3
  have same : g3 = s.gens ∧ d3 = s.drawn ∧ o3 = s.os := ⟨mv.gens, mv.drawn, mv.os⟩
  obtain ⟨rfl, rfl, rfl⟩ := same
  rw [size] at le
  apply wpAny_pure
  apply wpAny_pure
  refine ⟨rfl, h3, t3, n, rfl, set, le, fun b o e => ?_⟩
  have low := Heap.lt_size e
  refine mv.heap b o (fun z => ?_) (Heap.get?_push_of_some _ (Heap.get?_push_of_some _ e))
  rcases List.mem_cons.mp z with z | z
  · exact Nat.ne_of_lt low z
  · have z2 := List.mem_singleton.mp z
    rw [z2] at low
    change (s.heap.push (bare w)).objs.size < _ at low
    rw [grow] at low
    exact Nat.lt_irrefl _ (Nat.lt_trans (Nat.lt_succ_self _) low)
theorem set_of_list {l : Addr} {items : Array Value} {ns : List Int} {Q : Value → Shared → Prop} (hA : A.handled = none) (hl : s.heap.IsList l items) (hi : IntsAre items.toList ns) (hb : ns.length + 1 < scanBound)
    (h : ∀ r s2, Filled w s ns r s2 → Q (.ref s.heap.objs.size) s2) : wpAny (model P w) A (call (.type "set") [.ref l]) Q E s := by
  have made := F.called_set.made
  have sub := F.called_set.sub
  have one := F.called_set.notType
  have two := F.called_set.canCreate
  have arg := F.typeCall_set_1 (.ref l)
  have lk := F.called_set.init.lookup
  have bd := F.called_set.init.bind (.ref s.heap.objs.size)
  obtain ⟨c, tl, mro⟩ := F.called_set.mro
  wp_walk
  apply codeAny_of_tree
  change wpAny _ _ (callAny (Value.type "set") ⟨[Value.ref l], []⟩) _ _ s
  apply wpAny_pure
  refine ⟨Code.quiet_builtin _ (by decide +kernel), ?_⟩
  apply codeAny_builtin F.entry_type_call
  rw [Around.under_plain (weight_type_call_type "set" _ []) rfl]
  have top : (s.heap.push (bare w)).get? s.heap.objs.size = some (bare w) := Heap.get?_push_size _ rfl
  have ty : Shared.TypeIs { s with heap := s.heap.push (bare w) } (.ref s.heap.objs.size) "set" := ⟨_, top, rfl⟩
  repeat (any_goals (first | wp_step | assumption))
  refine codeAny_mono (code_set_led1 (.ref l) (Q₁ := fun x s1 => x = .ref s.heap.objs.size ∧ s1 = { s with heap := s.heap.push (bare w) }) (E := E) ⟨rfl, rfl⟩) ?_
  intro r s1 hr
  match r, hr with
  | .error e, hr => exact hr
  | .ok (.ret x), hr =>
    obtain ⟨rfl, rfl⟩ := hr
    repeat (any_goals (first | wp_step | assumption))
    refine codeAny_mono (filled_list (E := E) (by simp [hA]) hl hi hb) ?_
    intro r s2 hr
    match r, hr with
    | .error e, hr => exact hr
    | .ok (.ret y), hr =>
      have hf := h y s2 hr
      obtain ⟨rfl, h2, tk, n, rfl, hset, hn, keep⟩ := hr
      repeat (any_goals (first | wp_step | assumption))
end
end L2
namespace Vi
open PySem PySem.Spec PyProof.Rows L2
/-! sorted(set(x)) of a list of whole numbers -/
def insI (x : Int) : List Int → List Int
  | [] => [x]
  | y :: ys => if x < y then x :: y :: ys else if x = y then y :: ys else y :: insI x ys
def setI (ns : List Int) : List Int := ns.foldr insI []
theorem insI_mem {x y : Int} : ∀ {l : List Int}, y ∈ insI x l ↔ y = x ∨ y ∈ l
  | [] => by simp [insI]
  | z :: l => by
    unfold insI
    split
    · simp
    · split
      · rename_i e
        subst e
        simp
      · rw [List.mem_cons, insI_mem (l := l), List.mem_cons]
        constructor
        · rintro (h | h | h)
          · exact .inr (.inl h)
          · exact .inl h
          · exact .inr (.inr h)
        · rintro (h | h | h)
          · exact .inr (.inl h)
          · exact .inl h
          · exact .inr (.inr h)
theorem insI_asc {x : Int} : ∀ {l : List Int}, l.Pairwise (· < ·) → (insI x l).Pairwise (· < ·)
  | [], _ => List.pairwise_singleton ..
  | z :: l, h => by
    obtain ⟨h1, h2⟩ := List.pairwise_cons.mp h
    unfold insI
    split
    · rename_i c
      refine List.pairwise_cons.mpr ⟨fun y hy => ?_, h⟩
      rcases List.mem_cons.mp hy with rfl | hy
      · exact c
      · exact Int.lt_trans c (h1 y hy)
    · split
      · exact h
      · refine List.pairwise_cons.mpr ⟨fun y hy => ?_, insI_asc h2⟩
        rcases insI_mem.mp hy with rfl | hy
        · omega
        · exact h1 y hy
theorem setI_mem {y : Int} : ∀ {ns : List Int}, y ∈ setI ns ↔ y ∈ ns
  | [] => Iff.rfl
  | x :: ns => by
    show y ∈ insI x (setI ns) ↔ _
    rw [insI_mem, setI_mem (ns := ns), List.mem_cons]
theorem setI_asc : ∀ ns : List Int, (setI ns).Pairwise (· < ·)
  | [] => List.Pairwise.nil
  | x :: ns => insI_asc (setI_asc ns)
theorem ascI_eq : ∀ {l m : List Int}, l.Pairwise (· < ·) → m.Pairwise (· < ·) → (∀ k, k ∈ l ↔ k ∈ m) → l = m
  | [], [], _, _, _ => rfl
  | [], y :: m, _, _, h => absurd ((h y).mpr (List.mem_cons_self ..)) List.not_mem_nil
  | x :: l, [], _, _, h => absurd ((h x).mp (List.mem_cons_self ..)) List.not_mem_nil
  | x :: l, y :: m, h1, h2, h => by
    obtain ⟨a1, a2⟩ := List.pairwise_cons.mp h1
    obtain ⟨b1, b2⟩ := List.pairwise_cons.mp h2
    have e : x = y := by
      rcases List.mem_cons.mp ((h x).mp (List.mem_cons_self ..)) with e | e
      · exact e
      · rcases List.mem_cons.mp ((h y).mpr (List.mem_cons_self ..)) with f | f
        · exact f.symm
        · have := a1 y f; have := b1 x e; omega
    subst e
    rw [ascI_eq a2 b2 fun k => ?_]
    constructor
    · intro hk
      rcases List.mem_cons.mp ((h k).mp (List.mem_cons_of_mem _ hk)) with rfl | z
      · have := a1 k hk; omega
      · exact z
    · intro hk
      rcases List.mem_cons.mp ((h k).mpr (List.mem_cons_of_mem _ hk)) with rfl | z
      · have := b1 k hk; omega
      · exact z
def intsOf2 : List D → Option (List Int)
  | [] => some []
  | .int i :: ds => match intsOf2 ds with
    | some ns => some (i :: ns)
    | none => none
  | _ => none
theorem ints_of_eq2 : ∀ {ds : List D} {ns : List Int}, intsOf2 ds = some ns → ds = ns.map .int
  | [], ns, h => by cases h; rfl
  | .int i :: ds, ns, h => by
    unfold intsOf2 at h
    split at h
    · rename_i ms e
      cases h
      rw [ints_of_eq2 e]; rfl
    · cases h
def dSortSetI : D → Option Sv
  | .list ds => match intsOf2 ds with
    | some ns => if decide (ns.length < 63) = true then some (.own .loc ((setI ns).map .int)) else none
    | none => none
  | _ => none
section
variable {X : Cx}
def rSetI (K : PySem.W.Frag) (w : World) : List V → Hp → VK → Prop := fun xs H Q => ∃ (l : Addr) (ns : List Int), xs = [V.ref l] ∧ SqL K H l (ns.map V.int) ∧ ns.length < 63 ∧
  ∀ a c, H a = none → c ≤ ns.length → Q (.ref a) (upd H a (SetO w a (fun j => decide (j ∈ ns)) c))
theorem cr_setI (hc : X.calm = true) : CallR X (.type "set") (rSetI X.K X.w) := by
  intro pins s σ H xs us Q I r h
  obtain ⟨l, ns, rfl, hl, hf, q⟩ := h
  rw [Vals.ref1 r]
  obtain ⟨its, rv, pl, hz⟩ := I.list hl
  have hn : H s.heap.objs.size = none := I.hok.fresh (Nat.le_refl _)
  refine set_of_list (ns := ns) (I.ok.hd hc) pl.isList (by simpa using rv.ints) (by unfold scanBound; omega) fun r s2 f => ?_
  obtain ⟨_, h', tk, c, rfl, R, hcn, k⟩ := f
  exact ⟨.ref s.heap.objs.size, upd H s.heap.objs.size (SetO X.w s.heap.objs.size (fun j => decide (j ∈ ns)) c), I.laid (t' := tk) k (Nat.le_refl _) (setO_new R), rfl, q _ c hn hcn⟩
theorem reps_ints2 {K : PySem.W.Frag} {H : Hp} {M : Mset} : ∀ {ns : List Int} {vs : List V}, Reps K H M vs (ns.map .int) → vs = ns.map V.int
  | [], _, .nil => rfl
  | n :: ns, _, .cons h r => by
    cases h
    rw [reps_ints2 r]; rfl
theorem ints_reps2 {K : PySem.W.Frag} {H : Hp} {M : Mset} : ∀ ns : List Int, Reps K H M (ns.map V.int) (ns.map .int)
  | [] => .nil
  | n :: ns => .cons (.int n) (ints_reps2 ns)
def rSSI (X : Cx) : V → Hp → VK → Prop := fun v H Q => rSetI X.K X.w [v] H fun y H1 => rSortedSet X.w [y] H1 Q
theorem us_sortsetI : UnS X (rSSI X) dSortSetI := by
  intro H M O π ρ σ v1 d1 res Q h r1 e q
  unfold dSortSetI at e
  split at e
  · rename_i ds
    split at e
    · rename_i ns hns
      split at e
      · rename_i hlen
        cases e
        have hlen := of_decide_eq_true hlen
        obtain ⟨a, vs, rfl, rd, rs⟩ := r1.inL
        have hds := ints_of_eq2 hns
        subst hds
        have hv := reps_ints2 rs
        subst hv
        refine ⟨a, ns, rfl, .inl rd, hlen, fun b c hbn hcn => ?_⟩
        have h2 := h.alloc (o := SetO X.w b (fun j => decide (j ∈ ns)) c) hbn
        refine ⟨b, _, c, rfl, upd_same, by omega, fun ms p asc mem _ hp => ?_⟩
        have e : ms = setI ns := ascI_eq asc (setI_asc ns) fun k => by rw [mem, decide_eq_true_eq, setI_mem]
        rw [e]
        have q2 : Post X.K (upd H b (SetO X.w b (fun j => decide (j ∈ ns)) c)) M O π ρ σ (.own .loc ((setI ns).map .int)) Q := fun v H' M' x s r => q v H' M' ((Ext.alloc h (o := SetO X.w b (fun j => decide (j ∈ ns)) c) hbn).trans x) s r
        exact q2.lst h2 (ints_reps2 _) hp
      · cases e
    · cases e
  · cases e
variable {a : Expr} {ma : ME}
theorem de_sortsetI {x y : Str} {p1 p2 pos1 pos2 : Pos} {f : D → Option Sv} (hcS : CallR X (.type "set") (rSetI X.K X.w)) (hcT : CallR X (.builtin "sorted") (rSortedSet X.w)) (hs : UnS X (rSSI X) f)
    (hg1 : Gl X x) (hm1 : X.mg x = none) (hv1 : bootBuiltins x = some (.builtin "sorted")) (hg2 : Gl X y) (hm2 : X.mg y = none) (hv2 : bootBuiltins y = some (.type "set")) (ha : DE X a ma)
    (hn1 : x ≠ "__name__" := by decide) (hd1 : (x == ("__debug__" : Str)) = false := by decide) (hn2 : y ≠ "__name__" := by decide) (hd2 : (y == ("__debug__" : Str)) = false := by decide)
    (he2 : starEach (a :: []) X.env = (false, eval a X.env) :: starEach [] X.env := by rfl) (hpl2 : (PySem.backTo pos2 (starEach [] X.env)).any (·.1) = false := by rfl)
    (he1 : starEach (.Call (.Name y p2) [a] [] pos2 :: []) X.env = (false, eval (.Call (.Name y p2) [a] [] pos2) X.env) :: starEach [] X.env := by rfl) (hpl1 : (PySem.backTo pos1 (starEach [] X.env)).any (·.1) = false := by rfl) :
    DE X (.Call (.Name x p1) [.Call (.Name y p2) [a] [] pos2] [] pos1) (un f ma) :=
  PE.imp (pe_callB hcT hg1 hm1 hv1 (pa_cons (pe_callTy hcS hg2 hm2 hv2 (pa_cons ha pa_nil he2) hn2 hd2 he2 hpl2) pa_nil he1) hn1 hd1 he1 hpl1) fun σ H Q h => tE_un hs h
end
end Vi

namespace Vi
open PySem PySem.Spec PyProof.Rows L2
section
variable {X : Cx}
def rLcm : List V → Hp → VK → Prop := fun vs H Q => ∃ a b : Int, vs = [.int a, .int b] ∧ a.natAbs < 2 ^ 64 ∧ b.natAbs < 2 ^ 64 ∧ Q (.int ((a.natAbs.lcm b.natAbs : Nat) : Int)) H
theorem cr_lcm : CallR X (.builtin "math.lcm") rLcm := by
  intro pins s σ H vs us Q I r h
  obtain ⟨a, b, rfl, ha, hb, q⟩ := h
  obtain ⟨t, u, rfl⟩ := Vals.int2 r
  exact PySem.W.mc_lcm ha hb fun _ => ⟨.int _, H, I.tok _, ⟨_, rfl⟩, q⟩
def dLcm : List D → Option Sv
  | [.int i, .int j] => if decide (i.natAbs < 2 ^ 64 ∧ j.natAbs < 2 ^ 64) = true then some (.imm (.int ((i.natAbs.lcm j.natAbs : Nat) : Int))) else none
  | _ => none
theorem as_lcm : AS X rLcm dLcm := by
  intro H M O π ρ σ vs ds res Q h r e q
  unfold dLcm at e
  split at e
  · split at e
    · rename_i hz
      have hz := of_decide_eq_true hz
      cases e
      cases r with
      | cons r1 r2 => cases r2 with
        | cons r2 r3 =>
          cases r3; cases r1; cases r2
          exact ⟨_, _, rfl, hz.1, hz.2, Post.now q h (.int _)⟩
    · cases e
  · cases e
end
end Vi

namespace Vi
open PySem PySem.Spec PyProof.Rows L2
section
variable {X : Cx}
/-- // by a divisor of either sign -/
def CDivN (_ j : Int) : Prop := j < 0 ∧ j.natAbs.log2 < 9000
theorem op_fdivN : OpR X (binaryOp .FloorDiv) (rI CDivN fun i j => .int ((-i) / (-j))) := opI fun i j _ _ _ _ _ hc q => by
  have h1 : j < 0 := hc.1
  refine floordiv_int (by omega) ?_ (.inl (PyProof.noPylong_of_log2 hc.2))
  have e : i.fdiv j = (-i) / (-j) := by
    rw [← Int.neg_fdiv_neg, Int.fdiv_eq_ediv_of_nonneg (-i) (by omega)]
  rw [e]; exact q
def divNk (j : Int) : Bool := decide (j < 0 ∧ j.natAbs.log2 < 9000)
def dDivN : D → D → Option Sv
  | .int i, .int j => if divOk j = true then some (.imm (.int (i / j))) else if divNk j = true then some (.imm (.int ((-i) / (-j)))) else none
  | _, _ => none
abbrev rDivN : R2 := fun x y H Q => rI CDivW (fun i j => .int (i / j)) x y H Q ∨ rI CDivN (fun i j => .int ((-i) / (-j))) x y H Q
theorem op_fdivA : OpR X (binaryOp .FloorDiv) rDivN := op_fdivW.or op_fdivN
theorem os_divN : OpS X rDivN dDivN := by
  intro H M O π ρ σ v1 v2 d1 d2 res Q h r1 r2 e q
  unfold dDivN at e
  split at e
  · split at e
    · rename_i hz
      cases e
      cases r1.inI; cases r2.inI
      unfold divOk at hz
      have hz' := of_decide_eq_true hz
      exact .inl ⟨_, _, rfl, rfl, hz', Post.now q h (.int _)⟩
    · split at e
      · rename_i hz
        cases e
        cases r1.inI; cases r2.inI
        unfold divNk at hz
        have hz' := of_decide_eq_true hz
        exact .inr ⟨_, _, rfl, rfl, hz', Post.now q h (.int _)⟩
      · cases e
  · cases e
end
end Vi

namespace Vi
open PySem PySem.Spec PyProof.Rows L2

/-! ### own dicts: keys are tuples of whole numbers, and of such tuples -/
section
variable {X : Cx} {pins : List (Addr × Obj)} {σ : St} {H : Hp} {s : Shared} {M : Mset}
theorem keyN_is (I : Inv X pins σ H s) : ∀ (n : Nat) {d : D} {v : V} {u : Value}, keyOkN n d = true → Rep X.K H M v d → RelV v u → NestedIs s.heap (keyOf d) u ∧ (keyOf d).depth ≤ n
  | n, .int i, v, u, _, r, q => by
    cases r
    obtain ⟨t, rfl⟩ := q
    exact ⟨.int i t, Nat.zero_le _⟩
  | n + 1, .tuple ds, v, u, h, r, q => by
    cases r with
    | @tup a xs _ ht hr =>
      cases (show u = Value.ref a from q)
      obtain ⟨its, rv, hit, _⟩ := I.tuple ht.sq
      have hall : ∀ e ∈ ds, keyOkN n e = true := List.all_eq_true.mp (by unfold keyOkN at h; exact h)
      have core : ∀ {es : List D} {xs : List V} {us : List Value}, (∀ e ∈ es, keyOkN n e = true) → Reps X.K H M xs es → Vals xs us → NestedAll s.heap (keysOf es) us ∧ NestedKey.depthAll (keysOf es) ≤ n := by
        intro es
        induction es with
        | nil => intro xs us _ r v; cases r; cases v; exact ⟨.nil, Nat.zero_le _⟩
        | cons e es ih =>
          intro xs us he r v
          cases r with
          | cons r1 r2 =>
            cases v with
            | cons v1 v2 =>
              obtain ⟨k1, k2⟩ := keyN_is I n (he e (List.mem_cons_self ..)) r1 v1
              obtain ⟨k3, k4⟩ := ih (fun x hx => he x (List.mem_cons_of_mem _ hx)) r2 v2
              exact ⟨.cons k1 k3, Nat.max_le.mpr ⟨k2, k4⟩⟩
      obtain ⟨k1, k2⟩ := core hall hr rv
      obtain ⟨o, ho, hc, n', hd⟩ := hit
      exact ⟨.tup ho hc hd (by simpa using k1), Nat.succ_le_succ k2⟩
  | 0, .tuple ds, _, _, h, _, _ => by cases h
  | n, .none, _, _, h, _, _ => by cases n <;> cases h
  | n, .bool _, _, _, h, _, _ => by cases n <;> cases h
  | n, .str _, _, _, h, _, _ => by cases n <;> cases h
  | n, .list _, _, _, h, _, _ => by cases n <;> cases h
  | n, .dict _, _, _, h, _, _ => by cases n <;> cases h
theorem key_tup {d : D} (h : keyOk d = true) : ∃ ds, d = .tuple ds := by
  cases d with
  | tuple ds => exact ⟨ds, rfl⟩
  | _ => cases h
theorem key_okN {d : D} (h : keyOk d = true) : keyOkN 8 d = true := by
  obtain ⟨ds, rfl⟩ := key_tup h
  exact h
theorem key_is (I : Inv X pins σ H s) {d : D} {v : V} {u : Value} (h : keyOk d = true) (r : Rep X.K H M v d) (q : RelV v u) : ∃ b, v = .ref b ∧ u = .ref b ∧ (nestedKind X.prog X.w).is s.heap (keyOf d) b := by
  obtain ⟨ds, rfl⟩ := key_tup h
  have k := keyN_is I 8 (key_okN h) r q
  cases r with
  | @tup a xs _ ht hr =>
    cases (show u = Value.ref a from q)
    exact ⟨a, rfl, rfl, k⟩
end
/-- the hash of such a key is the same in each world -/
theorem hashN : ∀ (n : Nat) {d : D}, keyOkN n d = true → ∀ w w' : World, (keyOf d).hash w = (keyOf d).hash w'
  | n, .int i, _, w, w' => rfl
  | n + 1, .tuple ds, h, w, w' => by
    have hall : ∀ e ∈ ds, keyOkN n e = true := List.all_eq_true.mp (by unfold keyOkN at h; exact h)
    have core : ∀ {es : List D}, (∀ e ∈ es, keyOkN n e = true) → NestedKey.hashes w (keysOf es) = NestedKey.hashes w' (keysOf es) := by
      intro es
      induction es with
      | nil => intro _; rfl
      | cons e es ih =>
        intro he
        show (keyOf e).hash w :: NestedKey.hashes w (keysOf es) = (keyOf e).hash w' :: NestedKey.hashes w' (keysOf es)
        rw [hashN n (he e (List.mem_cons_self ..)) w w', ih fun x hx => he x (List.mem_cons_of_mem _ hx)]
    show reduceHash (Builtin.Tuple.tupleHashOf (NestedKey.hashes w (keysOf ds))) = reduceHash (Builtin.Tuple.tupleHashOf (NestedKey.hashes w' (keysOf ds)))
    rw [core hall]
  | 0, .tuple ds, h, _, _ => by cases h
  | n, .none, h, _, _ => by cases n <;> cases h
  | n, .bool _, h, _, _ => by cases n <;> cases h
  | n, .str _, h, _, _ => by cases n <;> cases h
  | n, .list _, h, _, _ => by cases n <;> cases h
  | n, .dict _, h, _, _ => by cases n <;> cases h
theorem all_ok_mem {n : Nat} {ds : List D} (h : keyOkN (n + 1) (.tuple ds) = true) : ∀ e ∈ ds, keyOkN n e = true := List.all_eq_true.mp (by unfold keyOkN at h; exact h)
/-- == of such data is equality of the keys -/
theorem eqvN : ∀ (n : Nat) {d e : D}, keyOkN n d = true → keyOkN n e = true → (PyData.eqv d e = decide (keyOf d = keyOf e)) := by
  intro n
  induction n with
  | zero =>
    intro d e h1 h2
    cases d with
    | int i =>
      cases e with
      | int j =>
        show (i == j) = decide (NestedKey.num i = NestedKey.num j)
        by_cases h : i = j
        · subst h; simp
        · simp [h]
      | _ => cases h2
    | _ => cases h1
  | succ n ih =>
    intro d e h1 h2
    cases d with
    | int i =>
      cases e with
      | int j =>
        show (i == j) = decide (NestedKey.num i = NestedKey.num j)
        by_cases h : i = j
        · subst h; simp
        · simp [h]
      | tuple es =>
        show false = decide (NestedKey.num i = NestedKey.tup (keysOf es))
        exact (decide_eq_false fun z => nomatch z).symm
      | _ => cases h2
    | tuple ds =>
      cases e with
      | int j =>
        show false = decide (NestedKey.tup (keysOf ds) = NestedKey.num j)
        exact (decide_eq_false fun z => nomatch z).symm
      | tuple es =>
        show PyData.eqvAll ds es = decide (NestedKey.tup (keysOf ds) = NestedKey.tup (keysOf es))
        have core : ∀ {xs ys : List D}, (∀ e ∈ xs, keyOkN n e = true) → (∀ e ∈ ys, keyOkN n e = true) → PyData.eqvAll xs ys = decide (keysOf xs = keysOf ys) := by
          intro xs
          induction xs with
          | nil =>
            intro ys _ _
            cases ys with
            | nil => rfl
            | cons y ys => exact (decide_eq_false fun z => nomatch z).symm
          | cons x xs ihx =>
            intro ys hx hy
            cases ys with
            | nil => exact (decide_eq_false fun z => nomatch z).symm
            | cons y ys =>
              show (PyData.eqv x y && PyData.eqvAll xs ys) = decide (keyOf x :: keysOf xs = keyOf y :: keysOf ys)
              rw [ih (hx x (List.mem_cons_self ..)) (hy y (List.mem_cons_self ..)), ihx (fun e he => hx e (List.mem_cons_of_mem _ he)) fun e he => hy e (List.mem_cons_of_mem _ he)]
              by_cases a : keyOf x = keyOf y
              · by_cases b : keysOf xs = keysOf ys
                · simp [a, b]
                · simp [a, b]
              · simp [a]
        rw [core (all_ok_mem h1) (all_ok_mem h2)]
        by_cases h : keysOf ds = keysOf es
        · simp [h]
        · simp [h]
      | _ => cases h2
    | _ => cases h1
theorem key_eqv {d e : D} (h1 : keyOk d = true) (h2 : keyOk e = true) : PyData.eqv d e = decide (keyOf d = keyOf e) := eqvN 8 (key_okN h1) (key_okN h2)

/-! ### the table, its keys and values in turn -/
abbrev Xs := List (NestedKey × Addr × Value)
inductive XS : Xs → List V → List D → Prop
  | nil : XS [] [] []
  | cons {b : Addr} {val : Value} {v : V} {kd d : D} {xs : Xs} {vs : List V} {ds : List D} : keyOk kd = true → RelV v val → XS xs vs ds → XS ((keyOf kd, b, val) :: xs) (.ref b :: v :: vs) (kd :: d :: ds)
theorem XS.of {P : Program} {w : World} : ∀ {es : List DictEntry} {vs : List V} {ds : List D}, Ents es vs ds → ∃ xs, es = xs.map (entryOfKey (nestedKind P w)) ∧ XS xs vs ds
  | _, _, _, .nil => ⟨[], rfl, .nil⟩
  | _, _, _, .cons (e := e) (b := b) (kd := kd) hk hh he hv r => by
    obtain ⟨xs, h1, h2⟩ := XS.of (P := P) (w := w) r
    refine ⟨(keyOf kd, b, e.val) :: xs, ?_, .cons hk hv h2⟩
    rw [List.map_cons, h1]
    congr 1
    obtain ⟨eh, ek, ev⟩ := e
    have hh' : eh = (keyOf kd).hash w := hh w
    have he' : ek = .ref b := he
    rw [hh', he']
    rfl
theorem XS.to {P : Program} {w : World} : ∀ {xs : Xs} {vs : List V} {ds : List D}, XS xs vs ds → Ents (xs.map (entryOfKey (nestedKind P w))) vs ds
  | _, _, _, .nil => .nil
  | _, _, _, .cons hk hv r => .cons hk (fun w' => hashN 8 (key_okN hk) w w') rfl hv (XS.to r)
theorem XS.keys : ∀ {xs : Xs} {vs : List V} {ds : List D}, XS xs vs ds → xs.map (·.1) = (dKeys ds).map keyOf
  | _, _, _, .nil => rfl
  | _, _, _, .cons hk hv r => by
    show _ :: _ = _ :: _
    rw [XS.keys r]
theorem XS.len : ∀ {xs : Xs} {vs : List V} {ds : List D}, XS xs vs ds → ds.length = 2 * xs.length
  | _, _, _, .nil => rfl
  | _, _, _, .cons hk hv r => by
    show _ + 1 + 1 = _
    rw [XS.len r, List.length_cons]; omega
section
variable {X : Cx} {pins : List (Addr × Obj)} {σ : St} {H : Hp} {s : Shared} {M : Mset}
theorem XS.is (I : Inv X pins σ H s) : ∀ {xs : Xs} {vs : List V} {ds : List D}, XS xs vs ds → Reps X.K H M vs ds → ∀ x ∈ xs, (nestedKind X.prog X.w).is s.heap x.1 x.2.1
  | _, _, _, .nil, _, x, hx => by cases hx
  | _, _, _, .cons hk hv r, .cons q1 (.cons q2 q), x, hx => by
    rcases List.mem_cons.mp hx with rfl | hx
    · obtain ⟨b, e1, e2, e3⟩ := key_is I hk q1 (show RelV (.ref _) (.ref _) from rfl)
      cases e1
      exact e3
    · exact XS.is I r q x hx
/-- what stands at a name's own dict -/
theorem dic_of (I : Inv X pins σ H s) {a : Addr} {vs : List V} {ds : List D} (e : H a = some (dicO a vs ds)) (r : Reps X.K H M vs ds) :
    ∃ xs, s.heap.DictOfH (nestedKind X.prog X.w) a xs ∧ XS xs vs ds ∧ (a == sysModules) = false := by
  obtain ⟨⟨o, es, ep, h1, h2, h3, h4, h5, h6⟩, _⟩ := I.hok a _ e
  obtain ⟨xs, h7, h8⟩ := XS.of (P := X.prog) (w := X.w) h4
  exact ⟨xs, ⟨o, es, ep, h1, h2, h3, h7, h8.is I r, by rw [h8.keys]; exact h5⟩, h8, h6⟩
end
theorem dic_new {P : Program} {w : World} {H' : Hp} {h' : Heap} {a : Addr} {xs : Xs} {vs : List V} {ds : List D} (dd : h'.DictOfH (nestedKind P w) a xs) (x : XS xs vs ds) (hd : (a == sysModules) = false) : ObjOk P w H' h' a (dicO a vs ds) := by
  obtain ⟨o, es, ep, h1, h2, h3, h4, _, h5⟩ := dd
  refine ⟨⟨o, es, ep, h1, h2, h3, by rw [h4]; exact x.to, by rw [← x.keys]; exact h5, hd⟩, ⟨o, h1⟩, fun g1 g2 ⟨o', es', ep', k1, k2⟩ hk => ⟨o', es', ep', hk _ k1, k2⟩⟩
/-! a look, a store -/
def dGet : List D → D → Option D
  | k :: v :: r, d => if PyData.eqv k d = true then some v else dGet r d
  | _, _ => none
def dPut : List D → D → D → List D
  | k :: v :: r, d, x => if PyData.eqv k d = true then k :: x :: r else k :: v :: dPut r d x
  | _, d, x => [d, x]
theorem atKey_cons {y : NestedKey × Addr × Value} {xs : Xs} {k : NestedKey} : atKey (y :: xs) k = if y.1 = k then some y.2 else atKey xs k := by
  unfold atKey
  rw [List.find?_cons]
  by_cases h : y.1 = k
  · simp [h]
  · simp [h]
theorem XS.get {K : PySem.W.Frag} {H : Hp} {M : Mset} {kd : D} (hk : keyOk kd = true) : ∀ {xs : Xs} {vs : List V} {ds : List D}, XS xs vs ds → Reps K H M vs ds →
    (dGet ds kd = none ∧ atKey xs (keyOf kd) = none) ∨ ∃ d p v, dGet ds kd = some d ∧ atKey xs (keyOf kd) = some p ∧ RelV v p.2 ∧ Rep K H M v d
  | _, _, _, .nil, _ => .inl ⟨rfl, rfl⟩
  | _, _, _, .cons (kd := kd') (d := d') hk' hv r, .cons q1 (.cons q2 q) => by
    rw [atKey_cons]
    unfold dGet
    rw [key_eqv hk' hk]
    by_cases h : keyOf kd' = keyOf kd
    · refine .inr ⟨d', _, _, by rw [if_pos (decide_eq_true h)], by rw [if_pos h], hv, q2⟩
    · rw [if_neg (by simpa using h), if_neg h]
      exact XS.get hk r q
theorem stored_cons {y : NestedKey × Addr × Value} {xs : Xs} {k : NestedKey} {a : Addr} {v : Value} (hn : ((y :: xs).map (·.1)).Nodup) : storedH (y :: xs) k a v = if y.1 = k then (y.1, y.2.1, v) :: xs else y :: storedH xs k a v := by
  rw [List.map_cons, List.nodup_cons] at hn
  unfold storedH
  rw [atKey_cons]
  by_cases h : y.1 = k
  · rw [if_pos h, if_pos h]
    simp only [Option.isSome_some, if_true]
    rw [List.map_cons, map_putAt_of_not_mem xs k v (by rw [← h]; exact hn.1)]
    unfold putAt
    rw [if_pos h]
  · rw [if_neg h, if_neg h]
    split
    · rw [List.map_cons]
      unfold putAt
      rw [if_neg h]
    · rfl
theorem XS.put {K : PySem.W.Frag} {H : Hp} {M : Mset} {kd d : D} {b : Addr} {v : V} {val : Value} (hk : keyOk kd = true) (hv : RelV v val) (rk : Rep K H M (.ref b) kd) (rv : Rep K H M v d) : ∀ {xs : Xs} {vs : List V} {ds : List D}, XS xs vs ds → Reps K H M vs ds → (xs.map (·.1)).Nodup →
    ∃ vs', XS (storedH xs (keyOf kd) b val) vs' (dPut ds kd d) ∧ Reps K H M vs' (dPut ds kd d)
  | _, _, _, .nil, _, _ => ⟨[.ref b, v], .cons hk hv .nil, .cons rk (.cons rv .nil)⟩
  | _, _, _, .cons (kd := kd') (d := d') (b := b') (v := v') hk' hv' r, .cons q1 (.cons q2 q), hn => by
    rw [stored_cons hn]
    unfold dPut
    rw [key_eqv hk' hk]
    rw [List.map_cons, List.nodup_cons] at hn
    by_cases h : keyOf kd' = keyOf kd
    · rw [if_pos h, if_pos (decide_eq_true h)]
      exact ⟨_, .cons hk' hv r, .cons q1 (.cons rv q)⟩
    · rw [if_neg h, if_neg (by simpa using h)]
      obtain ⟨vs', h1, h2⟩ := XS.put hk hv rk rv r q hn.2
      exact ⟨_, .cons hk' hv' h1, .cons q1 (.cons q2 h2)⟩

section
variable {K : PySem.W.Frag} {H : Hp} {M O : Mset} {π : Nat → Option Addr} {ρ : Fm} {σ : St} {Q : VK}
theorem Post.cell {ds : List D} {vs : List V} {b : Kd} (q : Post K H M O π ρ σ (.own b ds) Q) (h : SR K H M O π ρ σ) (r : Reps K H M vs ds) {p : Addr} (hp : H p = none) : Q (.ref p) (upd H p (cell b p vs ds)) := by
  refine q _ _ (wth M p) (.allocOwn h hp) (h.allocOwn hp) ⟨p, vs, rfl, upd_same, .inr rfl, fun z => h.live p (h.sub p z) hp, r.tr (alloc_tr_own h hp), fun i b ds e e1 => ?_⟩
  obtain ⟨a, ws, f1, f2, _⟩ := h.own i b ds e
  rw [e1] at f1; cases f1
  rw [hp] at f2; cases f2
end
theorem VW.key {K : PySem.W.Frag} {H : Hp} {M : Mset} {v : V} {d : D} (r : VW K H M v d) (hk : keyOk d = true) : Rep K H M v d := by
  obtain ⟨ds, rfl⟩ := key_tup hk
  exact r
theorem dic_empty {P : Program} {w : World} {H : Hp} (h : Heap) (hb : sysModules < h.objs.size) : ObjOk P w H (h.push { cls := .type "dict", data := .dict #[] }) h.objs.size (dicO h.objs.size [] []) :=
  dic_new (Heap.DictOfH.new h) .nil (beq_eq_false_iff_ne.mpr (Ne.symm (Nat.ne_of_lt hb)))
def tDNew : TE := fun _ H Q => ∀ p, H p = none → Q (.ref p) (upd H p (dicO p [] []))
section
variable {X : Cx} {pos : Pos} {o i e k st_e : Expr} {td ty tv : TE} {me mk : ME}
theorem pe_dnew0 : PE X (.Dict [] [] pos) tDNew := ⟨fun pins s σ H Q I h =>
  wpAny_Dict_empty ⟨.ref s.heap.objs.size, _, I.laid (a := s.heap.objs.size) (o := dicO s.heap.objs.size [] []) (t' := s.toks) (fun _ _ q => Heap.get?_push_of_some _ q) (Nat.le_refl _) (dic_empty s.heap I.big), rfl, h _ (I.hok.fresh (Nat.le_refl _))⟩⟩
/-- {} -/
def mDNew : ME := fun ρ => some (.val (.own .dic []), ρ)
theorem de_dnew : DE X (.Dict [] [] pos) mDNew := PE.imp pe_dnew0 fun σ H Q ⟨ρ, M, O, π, pr, ρ', h, e, q⟩ => by
  cases e
  exact fun p hp => Post.cell (b := .dic) (fun v H' M' x2 => q v H' M' x2) h .nil hp
/-- k in d, k not in d -/
def tInDic (K : PySem.W.Frag) (neg : Bool) (ty td : TE) : TE := fun σ H Q => ty σ H fun y H1 => td σ H1 fun x H2 => ∃ a kd M ds vs, x = .ref a ∧ H2 a = some (dicO a vs ds) ∧ Reps K H2 M vs ds ∧ Rep K H2 M y kd ∧ keyOk kd = true ∧ Q (.bl (neg != (dGet ds kd).isSome)) H2
theorem XS.some {K : PySem.W.Frag} {H : Hp} {M : Mset} {kd : D} {xs : Xs} {vs : List V} {ds : List D} (hk : keyOk kd = true) (x : XS xs vs ds) (r : Reps K H M vs ds) : (atKey xs (keyOf kd)).isSome = (dGet ds kd).isSome := by
  rcases x.get hk r with ⟨h1, h2⟩ | ⟨d, p, v, h1, h2, _⟩
  · rw [h1, h2]; rfl
  · rw [h1, h2]; rfl
theorem pc_inDic (hu : X.A.units + 9 < cLine) (hi : PE X i ty) (ho : PE X o td) : PC X .In i o (tInDic X.K false ty td) := by
  refine ⟨fun pins s σ H Q I h => ?_⟩
  refine thn (hi.run pins s σ H _ I h) fun iv s1 ⟨y, H1, I1, ry, q1⟩ => thn (ho.run pins s1 σ H1 _ I1 q1) fun u s2 ⟨x, H2, I2, rx, a, kd, M, ds, vs, ex, e, r, rk, hk, q2⟩ => ?_
  subst ex
  obtain rfl : u = Value.ref a := rx
  obtain ⟨xs, dd, hx, hd⟩ := dic_of I2 e r
  obtain ⟨b, _, eb, ib⟩ := key_is I2 hk rk ry
  subst eb
  refine in_keyed (knd := nestedKind X.prog X.w) (kvs := pairsH xs) (by show X.A.units + 1 + 8 < cLine; omega) ib hd ⟨xs, dd, rfl⟩ ?_
  refine ⟨.bl _, H2, I2.tok _, ?_, q2⟩
  show Value.bool _ = Value.bool _
  rw [valueAt_pairsH, Option.isSome_map, hx.some hk r]
  simp
theorem pc_notInDic (hu : X.A.units + 9 < cLine) (hi : PE X i ty) (ho : PE X o td) : PC X .NotIn i o (tInDic X.K true ty td) := by
  refine ⟨fun pins s σ H Q I h => ?_⟩
  refine thn (hi.run pins s σ H _ I h) fun iv s1 ⟨y, H1, I1, ry, q1⟩ => thn (ho.run pins s1 σ H1 _ I1 q1) fun u s2 ⟨x, H2, I2, rx, a, kd, M, ds, vs, ex, e, r, rk, hk, q2⟩ => ?_
  subst ex
  obtain rfl : u = Value.ref a := rx
  obtain ⟨xs, dd, hx, hd⟩ := dic_of I2 e r
  obtain ⟨b, _, eb, ib⟩ := key_is I2 hk rk ry
  subst eb
  refine notIn_keyed (knd := nestedKind X.prog X.w) (kvs := pairsH xs) (by show X.A.units + 1 + 8 < cLine; omega) ib hd ⟨xs, dd, rfl⟩ ?_
  refine ⟨.bl _, H2, I2.tok _, ?_, q2⟩
  show Value.bool _ = Value.bool _
  rw [valueAt_pairsH, Option.isSome_map, hx.some hk r]
  simp
def mInD (neg : Bool) (i : Nat) (mk : ME) : ME := fun ρ => match mk ρ with
  | some (pk, ρ1) => match peek ρ1 pk with
    | some kd => match ρ1[i]? with
      | some (some (.own .dic ds)) => if keyOk kd = true then some (.val (.imm (.bool (neg != (dGet ds kd).isSome))), ρ1) else none
      | _ => none
    | none => none
  | none => none
theorem tE_inD {K : PySem.W.Frag} {neg : Bool} {i : Nat} {σ : St} {H : Hp} {Q : VK} (h : tE K (mInD neg i mk) σ H Q) : tInDic K neg (tE K mk) (tVar i) σ H Q := by
  obtain ⟨ρ, M, O, π, pr, ρ', h, e, q⟩ := h
  unfold mInD at e
  split at e
  · rename_i pk ρ1 e1
    split at e
    · rename_i kd e2
      split at e
      · rename_i ds e3
        split at e
        · rename_i hk
          cases e
          refine ⟨ρ, M, O, π, pk, _, h, e1, fun y H1 M1 x1 s1 r1 => ?_⟩
          obtain ⟨a, vs, f1, f2, f3, f4, f5, _⟩ := s1.own i .dic ds e3
          exact ⟨.ref a, f1, a, kd, M1, ds, vs, rfl, f2, f5, (peek_vw s1 r1 e2).key hk, hk, q _ H1 M1 x1 s1 (.bl _)⟩
        · cases e
      · cases e
    · cases e
  · cases e
theorem de_inD {i : Nat} (hu : X.A.units + 9 < cLine) (hk : DE X k mk) (ho : PE X o (tVar i)) (hm : behindInMarks .In o = false) : DE X (.Compare k [.In] [o] pos) (mInD false i mk) :=
  PE.imp (pe_cmp (pc_inDic hu hk ho) hm) fun σ H Q h => tE_inD h
theorem de_notInD {i : Nat} (hu : X.A.units + 9 < cLine) (hk : DE X k mk) (ho : PE X o (tVar i)) (hm : behindInMarks .NotIn o = false) : DE X (.Compare k [.NotIn] [o] pos) (mInD true i mk) :=
  PE.imp (pe_cmp (pc_notInDic hu hk ho) hm) fun σ H Q h => tE_inD h
theorem dt_inD {i : Nat} (hu : X.A.units + 9 < cLine) (hk : DE X k mk) (ho : PE X o (tVar i)) (hm : behindInMarks .In o = false) : DT X (.Compare k [.In] [o] pos) (mB (mInD false i mk)) :=
  PT.imp (pt_cmp (pc_inDic hu hk ho) hm) fun σ H Q h => tE_inD (tT_B h)
theorem dt_notInD {i : Nat} (hu : X.A.units + 9 < cLine) (hk : DE X k mk) (ho : PE X o (tVar i)) (hm : behindInMarks .NotIn o = false) : DT X (.Compare k [.NotIn] [o] pos) (mB (mInD true i mk)) :=
  PT.imp (pt_cmp (pc_notInDic hu hk ho) hm) fun σ H Q h => tE_inD (tT_B h)
/-- d[k] -/
def tDIx (K : PySem.W.Frag) (td ty : TE) : TE := fun σ H Q => td σ H fun x H1 => ty σ H1 fun y H2 => ∃ a kd M ds vs d, x = .ref a ∧ H2 a = some (dicO a vs ds) ∧ Reps K H2 M vs ds ∧ Rep K H2 M y kd ∧ keyOk kd = true ∧ dGet ds kd = some d ∧ ∀ v, Rep K H2 M v d → Q v H2
theorem pe_dix (hu : X.A.units + 9 < cLine) (ho : PE X o td) (hi : PE X i ty) (hs : NoSl i) : PE X (.Subscript o i pos) (tDIx X.K td ty) := by
  refine ⟨fun pins s σ H Q I h => ?_⟩
  refine subD_of PySem.F.slot_dict_getitem.lookup hs (thn (ho.run pins s σ H _ I h) fun u s1 ⟨x, H1, I1, rx, q1⟩ => thn (hi.run pins s1 σ H1 _ I1 q1) fun iv s2 ⟨y, H2, I2, ry, a, kd, M, ds, vs, d, ex, e, r, rk, hk, hg, q2⟩ => ?_)
  subst ex
  obtain rfl : u = Value.ref a := rx
  obtain ⟨xs, dd, hx, hd⟩ := dic_of I2 e r
  obtain ⟨b, _, eb, ib⟩ := key_is I2 hk rk ry
  subst eb
  rcases hx.get hk r with ⟨h1, _⟩ | ⟨d', p, v, h1, h2, h3, h4⟩
  · rw [h1] at hg; cases hg
  · rw [h1] at hg; cases hg
    refine ⟨dd.typeIs, ?_⟩
    exact getItem_keyed (knd := nestedKind X.prog X.w) (kvs := pairsH xs) (by show X.A.units + 1 + 8 < cLine; omega) ib ⟨xs, dd, rfl⟩ (by rw [valueAt_pairsH, h2]; rfl) ⟨v, H2, I2.tok _, h3, q2 v h4⟩
def mDIx (i : Nat) (mk : ME) : ME := fun ρ => match ρ[i]? with
  | some (some (.own .dic _)) => match mk ρ with
    | some (pk, ρ1) => match peek ρ1 pk with
      | some kd => match ρ1[i]? with
        | some (some (.own .dic ds)) => if keyOk kd = true then match dGet ds kd with
          | some d => some (.val (.imm d), ρ1)
          | none => none
          else none
        | _ => none
      | none => none
    | none => none
  | _ => none
theorem de_dix {i : Nat} (hu : X.A.units + 9 < cLine) (ho : PE X o (tVar i)) (hk : DE X k mk) (hs : NoSl k) : DE X (.Subscript o k pos) (mDIx i mk) :=
  PE.imp (pe_dix hu ho hk hs) fun σ H Q ⟨ρ, M, O, π, pr, ρ', h, e, q⟩ => by
    unfold mDIx at e
    split at e
    · rename_i ds0 e0
      obtain ⟨a0, vs0, g1, g2, g3, g4, g5, _⟩ := h.own i .dic ds0 e0
      refine ⟨.ref a0, g1, ?_⟩
      split at e
      · rename_i pk ρ1 e1
        split at e
        · rename_i kd e2
          split at e
          · rename_i ds e3
            split at e
            · rename_i hk
              split at e
              · rename_i d ed
                cases e
                refine ⟨ρ, M, O, π, pk, _, h, e1, fun y H1 M1 x1 s1 r1 => ?_⟩
                obtain ⟨a, vs, f1, f2, f3, f4, f5, _⟩ := s1.own i .dic ds e3
                rw [g1] at f1; cases f1
                exact ⟨a0, kd, M1, ds, vs, d, rfl, f2, f5, (peek_vw s1 r1 e2).key hk, hk, ed, fun v rv => q _ H1 M1 x1 s1 rv⟩
              · cases e
            · cases e
          · cases e
        · cases e
      · cases e
    · cases e
/-- d[k] = v -/
def rSetDic (K : PySem.W.Frag) : TSet := fun o i v H Q => ∃ a kd d M ds vs, o = .ref a ∧ H a = some (dicO a vs ds) ∧ Reps K H M vs ds ∧ Rep K H M i kd ∧ Rep K H M v d ∧ keyOk kd = true ∧ ds.length ≤ sizeLine ∧ ∀ vs', Reps K H M vs' (dPut ds kd d) → Q (upd H a (dicO a vs' (dPut ds kd d)))
theorem set_dic (hu : X.A.units + 9 < cLine) : PSet X (rSetDic X.K) := by
  intro pins s σ H o i v ov iv u Q I ro ri rv h
  obtain ⟨a, kd, d, M, ds, vs, ex, e, r, rk, rd, hk, hz, q⟩ := h
  subst ex
  obtain rfl : ov = Value.ref a := ro
  obtain ⟨xs, dd, hx, hd⟩ := dic_of I e r
  obtain ⟨b, e3, eb, ib⟩ := key_is I hk rk ri
  subst eb e3
  obtain ⟨vs', h1, h2⟩ := XS.put hk rv rk rd hx r dd.nodup
  have hl := hx.len
  refine wpAny_setItem_heap (knd := nestedKind X.prog X.w) (hsz := by omega) (by show X.A.units + 1 + 8 < cLine; omega) ib dd fun h' dd' hs => ⟨_, ?_, q vs' h2⟩
  have he : ∃ q, h'.get? a = some q := let ⟨q, _, _, hq, _⟩ := dd'; ⟨q, hq⟩
  exact d_write I (by rw [e]; exact True.intro) hs he (dic_new dd' h1 hd)
def mDPut (i : Nat) (mk me : ME) : MS := fun ρ => match me ρ with
  | some (pr, ρ1) => match frz ρ1 pr with
    | some (d, ρ2) => match ρ2[i]? with
      | some (some (.own .dic _)) => match mk ρ2 with
        | some (pk, ρ3) => match peek ρ3 pk with
          | some kd => match ρ3[i]? with
            | some (some (.own .dic ds)) => if (keyOk kd && fits ds.length) = true then some (.next, ρ3.set i (some (.own .dic (dPut ds kd d)))) else none
            | _ => none
          | none => none
        | none => none
      | _ => none
    | none => none
  | none => none
theorem ds_dput {st : Stmt} {i : Nat} (h : ∀ te tk, PE X e te → PE X k tk → PS X st (tAsg te (gSub (tVar i) tk (rSetDic X.K)))) (he : DE X e me) (hk : DE X k mk) : DS X st (mDPut i mk me) :=
  PS.imp (h _ _ he hk) fun D σ H ⟨ρ, M, O, π, fl, ρ', h, e, q⟩ => by
    unfold mDPut at e
    split at e
    · rename_i pr ρ1 e1
      split at e
      · rename_i d ρ2 e2
        split at e
        · rename_i ds0 e0
          split at e
          · rename_i pk ρ3 e3
            split at e
            · rename_i kd e4
              split at e
              · rename_i ds e5
                split at e
                · rename_i hz
                  cases e
                  rw [Bool.and_eq_true] at hz
                  refine ⟨ρ, M, O, π, pr, ρ1, h, e1, fun v H1 M1 x1 s1 r1 => ?_⟩
                  obtain ⟨M2, x2, s2, r2⟩ := frz_ok s1 r1 e2
                  obtain ⟨a, vs, f1, f2, f3, f4, f5, f6⟩ := s2.own i .dic ds0 e0
                  refine ⟨.ref a, f1, ρ2, M2, O, π, pk, ρ3, s2, e3, fun w H3 M3 x3 s3 r3 => ?_⟩
                  obtain ⟨a', ws, g1, g2, g3, g4, g5, g6⟩ := s3.own i .dic ds e5
                  rw [f1] at g1; cases g1
                  refine ⟨a, kd, d, M3, ds, ws, rfl, g2, g5, (peek_vw s3 r3 e4).key hz.1, r2.tr x3.tr, hz.1, fits_le hz.2, fun vs' hr => ?_⟩
                  obtain ⟨s4, x4, t4⟩ := s3.writeC (b := .dic) (ws := vs') (es := dPut ds kd d) e5 f1 hr
                  exact q _ _ M3 (((x1.trans x2).trans x3).trans x4) s4
                · cases e
              · cases e
            · cases e
          · cases e
        · cases e
      · cases e
    · cases e
end
end Vi

namespace Vi
open PySem PySem.Spec PyProof.Rows L2
section
variable {X : Cx} {pos : Pos} {e k : Expr} {tk tv : TE} {me mk : ME}
/-- {k: v} -/
def tDisp1 (K : PySem.W.Frag) (tk tv : TE) : TE := fun σ H Q => ∀ p, H p = none → tk σ (upd H p (dicO p [] [])) fun y H1 => tv σ H1 fun v H2 => H2 p = some (dicO p [] []) ∧ ∃ M kd d, Rep K H2 M y kd ∧ Rep K H2 M v d ∧ keyOk kd = true ∧ Q (.ref p) (upd H2 p (dicO p [y, v] [kd, d]))
theorem pe_disp1 (hu : X.A.units + 9 < cLine) (hk : PE X k tk) (hv : PE X e tv) : PE X (.Dict [some k] [e] pos) (tDisp1 X.K tk tv) := by
  refine ⟨fun pins s σ H Q I q => ?_⟩
  have hn := I.hok.fresh (Nat.le_refl s.heap.objs.size)
  have I1 := I.laid (a := s.heap.objs.size) (o := dicO s.heap.objs.size [] []) (h' := s.heap.push { cls := .type "dict", data := .dict #[] }) (t' := s.toks) (fun _ _ q => Heap.get?_push_of_some _ q) (Nat.le_refl _) (dic_empty s.heap I.big)
  have q' := q _ hn
  rw [arm_eval_Dict, zip_pairTrees [some k] [e] X.env pos rfl rfl, dictDisplay_pairs (pairTrees [some k] [e] X.env pos) (by intro z; cases z) (by show 1 < 17; decide)]
  refine wpAny_bind (wpAny_standAt (wpAny_bind (wpAny_subDictH (knd := nestedKind X.prog X.w) (by show X.A.units + 8 < cLine; omega) (by show 1 ≤ 15; decide) ?_)))
  refine thn ((pps_cons (pos := pos) hk hv pps_nil).run pins _ σ _ (fun ps H2 => match ps with | [(y, v)] => (H2 s.heap.objs.size = some (dicO s.heap.objs.size [] []) ∧ ∃ M kd d, Rep X.K H2 M y kd ∧ Rep X.K H2 M v d ∧ keyOk kd = true ∧ Q (.ref s.heap.objs.size) (upd H2 s.heap.objs.size (dicO s.heap.objs.size [y, v] [kd, d]))) | _ => False) I1 q') fun ws s2 ⟨ps, H2, I2, rel, q2⟩ => ?_
  match ps, rel, q2 with
  | [(y, v)], .cons (b := (u, val)) ⟨ry, rv⟩ .nil, ⟨e2, M, kd, d, rk, rd, hkd, q3⟩ =>
    obtain ⟨b, e3, e4, ib⟩ := key_is I2 hkd rk ry
    have e4' : u = .ref b := e4
    subst e3 e4'
    obtain ⟨xs, dd, hx, hd⟩ := dic_of I2 e2 (M := M) .nil
    cases hx
    refine ⟨[(keyOf kd, b, val)], ⟨rfl, rfl, ib, True.intro⟩, dd, fun h' tk dd' hs => wpAny_pure ⟨.ref s.heap.objs.size, _, ?_, rfl, q3⟩⟩
    have he : ∃ q, h'.get? s.heap.objs.size = some q := let ⟨q, _, _, hq, _⟩ := dd'; ⟨q, hq⟩
    exact d_write I2 (by rw [e2]; exact True.intro) hs he (dic_new dd' (.cons hkd rv .nil) hd)
def mDOne (mk me : ME) : ME := fun ρ => match mk ρ with
  | some (pk, ρ1) => match frz ρ1 pk with
    | some (kd, ρ2) => match me ρ2 with
      | some (pr, ρ3) => match frz ρ3 pr with
        | some (d, ρ4) => if keyOk kd = true then some (.val (.own .dic [kd, d]), ρ4) else none
        | none => none
      | none => none
    | none => none
  | none => none
theorem de_done (hu : X.A.units + 9 < cLine) (hk : DE X k mk) (he : DE X e me) : DE X (.Dict [some k] [e] pos) (mDOne mk me) := PE.imp (pe_disp1 hu hk he) fun σ H Q ⟨ρ, M, O, π, pr0, ρ', h, e, q⟩ => by
  unfold mDOne at e
  split at e
  · rename_i pk ρ1 e1
    split at e
    · rename_i kd ρ2 e2
      split at e
      · rename_i pr ρ3 e3
        split at e
        · rename_i d ρ4 e4
          split at e
          · rename_i hkd
            cases e
            intro p hp
            have s0 := (h.allocOwn hp (o := dicO p [] [])).more (O' := wth O p) (fun a z => z.elim (fun z => .inl (h.sub a z)) .inr) fun i b ds a f f1 z => by
              obtain ⟨a', ws, g1, g2, g3, g4, _⟩ := h.own i b ds f
              rw [f1] at g1; cases g1
              exact z.elim g4 fun z => by rw [z, hp] at g2; cases g2
            refine ⟨ρ, _, _, π, pk, ρ1, s0, e1, fun y H1 M1 x1 s1 r1 => ?_⟩
            obtain ⟨M2, x2, s2, r2⟩ := frz_ok s1 r1 e2
            refine ⟨ρ2, M2, _, π, pr, ρ3, s2, e3, fun v H3 M3 x3 s3 r3 => ?_⟩
            obtain ⟨M4, x4, s4, r4⟩ := frz_ok s3 r3 e4
            have x := ((x1.trans x2).trans x3).trans x4
            have hH : H3 p = some (dicO p [] []) := x.keep p _ upd_same (.inl (.inr rfl))
            have hM : M4 p := x.sub p (.inr rfl)
            have rk : Rep X.K H3 M4 y kd := r2.tr (x3.trans x4).tr
            have t : ∀ {o : HO} a u, Rd H3 a u → ¬ M4 a → Rd (upd H3 p o) a u ∧ ¬ M4 a := fun {o} a u z n => by
              have ne : a ≠ p := fun w => n (w ▸ hM)
              refine ⟨?_, n⟩
              rcases z with z | ⟨o', z⟩
              · exact .inl (by rw [upd_ne ne]; exact z)
              · exact .inr ⟨o', by rw [upd_ne ne]; exact z⟩
            refine ⟨hH, M4, kd, d, rk, r4, hkd, ?_⟩
            refine q (.ref p) _ M4 ⟨fun a u f z => ?_, fun a z => x.sub a (.inl z), fun a z => ?_⟩ ((s4.writeO hM (.inr rfl)).less fun a z => .inl z) ⟨p, [y, v], rfl, upd_same, hM, fun z => h.live p (h.sub p z) hp, .cons (rk.tr t) (.cons (r4.tr t) .nil), fun i b ds f f1 => ?_⟩
            · have ne : a ≠ p := fun w => by rw [w, hp] at f; cases f
              rw [upd_ne ne]
              exact x.keep a u (by rw [upd_ne ne]; exact f) (z.imp .inl fun n w => w.elim n ne)
            · rcases x.new a z with w | w
              · rcases w with w | w
                · exact .inl w
                · exact .inr (by rw [w]; exact hp)
              · by_cases ne : a = p
                · exact .inr (by rw [ne]; exact hp)
                · rw [upd_ne ne] at w; exact .inr w
            · obtain ⟨a', ws, g1, g2, g3, g4, _⟩ := s4.own i b ds f
              rw [f1] at g1; cases g1
              exact g4 (.inr rfl)
          · cases e
        · cases e
      · cases e
    · cases e
  · cases e
end
theorem room9 {A : Around} {k : Nat} (r : Room k A) : A.units + 9 < cLine := by have := r.un; omega
end Vi

namespace K26
open PySem PySem.Spec PyProof.Rows L2 RT Vi

def topS (i : Nat) : Stmt := PySem.Challenge.pw_everychange_k26_whole_rows_whose_parts_g.main.body.getD i (.Pass ⟨0, 0, 0, 0⟩)
theorem sc4 : FnScope ["value", "items", "item"] ["value"] (defScope (topS 4)) := ⟨rfl, rfl, rfl, by decide +kernel, rfl, by decide +kernel, by decide +kernel⟩
theorem sc7 : FnScope ["top", "bottom", "common"] ["top", "bottom"] (defScope (topS 7)) := ⟨rfl, rfl, rfl, by decide +kernel, rfl, by decide +kernel, by decide +kernel⟩
theorem sc8 : FnScope ["x", "y"] ["x", "y"] (defScope (topS 8)) := ⟨rfl, rfl, rfl, by decide +kernel, rfl, by decide +kernel, by decide +kernel⟩
theorem sc10 : FnScope ["part", "other", "meets"] ["part", "other", "meets"] (defScope (topS 10)) := ⟨rfl, rfl, rfl, by decide +kernel, rfl, by decide +kernel, by decide +kernel⟩
theorem sc11 : FnScope ["row", "part", "meets", "at"] ["row", "part", "meets"] (defScope (topS 11)) := ⟨rfl, rfl, rfl, by decide +kernel, rfl, by decide +kernel, by decide +kernel⟩
theorem sc12 : FnScope ["row", "meets", "found", "part", "x", "at", "before", "total"] ["row", "meets"] (defScope (topS 12)) := ⟨rfl, rfl, rfl, by decide +kernel, rfl, by decide +kernel, by decide +kernel⟩
theorem sc13 : FnScope ["row"] ["row"] (defScope (topS 13)) := ⟨rfl, rfl, rfl, by decide +kernel, rfl, by decide +kernel, by decide +kernel⟩
theorem sc14 : FnScope ["row", "other"] ["row", "other"] (defScope (topS 14)) := ⟨rfl, rfl, rfl, by decide +kernel, rfl, by decide +kernel, by decide +kernel⟩
theorem sc15 : FnScope ["parts", "meets", "at", "part", "ahead"] ["parts", "meets"] (defScope (topS 15)) := ⟨rfl, rfl, rfl, by decide +kernel, rfl, by decide +kernel, by decide +kernel⟩
theorem sc16 : FnScope ["parts", "meets", "left", "found", "parts_left", "_", "at", "place"] ["parts", "meets"] (defScope (topS 16)) := ⟨rfl, rfl, rfl, by decide +kernel, rfl, by decide +kernel, by decide +kernel⟩
theorem sc17 : FnScope ["row", "part", "x"] ["row"] (defScope (topS 17)) := ⟨rfl, rfl, rfl, by decide +kernel, rfl, by decide +kernel, by decide +kernel⟩
theorem sc18 : FnScope ["row", "meets", "short", "at"] ["row", "meets"] (defScope (topS 18)) := ⟨rfl, rfl, rfl, by decide +kernel, rfl, by decide +kernel, by decide +kernel⟩
theorem sc19 : FnScope ["row", "other", "meets"] ["row", "other", "meets"] (defScope (topS 19)) := ⟨rfl, rfl, rfl, by decide +kernel, rfl, by decide +kernel, by decide +kernel⟩
theorem sc21 : FnScope ["script", "k", "bit_so"] ["script", "k"] (defScope (topS 21)) := ⟨rfl, rfl, rfl, by decide +kernel, rfl, by decide +kernel, by decide +kernel⟩
theorem sc22 : FnScope ["urn", "low_so", "drawn", "once", "far", "twice"] ["urn", "low_so"] (defScope (topS 22)) := ⟨rfl, rfl, rfl, by decide +kernel, rfl, by decide +kernel, by decide +kernel⟩
theorem sc23 : FnScope ["script", "roof_so", "bits_so", "k", "bit_so", "at_so"] ["script", "roof_so"] (defScope (topS 23)) := ⟨rfl, rfl, rfl, by decide +kernel, rfl, by decide +kernel, by decide +kernel⟩
theorem sc24 : FnScope ["near", "due", "far", "own"] ["near", "due"] (defScope (topS 24)) := ⟨rfl, rfl, rfl, by decide +kernel, rfl, by decide +kernel, by decide +kernel⟩
theorem sc25 : FnScope ["top_so", "down_so", "near", "far"] ["top_so", "down_so"] (defScope (topS 25)) := ⟨rfl, rfl, rfl, by decide +kernel, rfl, by decide +kernel, by decide +kernel⟩
theorem sc26 : FnScope ["own", "far"] ["own", "far"] (defScope (topS 26)) := ⟨rfl, rfl, rfl, by decide +kernel, rfl, by decide +kernel, by decide +kernel⟩
theorem sc27 : FnScope ["urn"] ["urn"] (defScope (topS 27)) := ⟨rfl, rfl, rfl, by decide +kernel, rfl, by decide +kernel, by decide +kernel⟩
theorem sc28 : FnScope ["urn", "wide_so", "most_so", "k"] ["urn", "wide_so", "most_so"] (defScope (topS 28)) := ⟨rfl, rfl, rfl, by decide +kernel, rfl, by decide +kernel, by decide +kernel⟩
theorem sc29 : FnScope ["flows_so", "one_so", "far"] ["flows_so"] (defScope (topS 29)) := ⟨rfl, rfl, rfl, by decide +kernel, rfl, by decide +kernel, by decide +kernel⟩
theorem sc30 : FnScope ["one_so", "two_so", "lets_so"] ["one_so", "two_so", "lets_so"] (defScope (topS 30)) := ⟨rfl, rfl, rfl, by decide +kernel, rfl, by decide +kernel, by decide +kernel⟩
theorem sc31 : FnScope ["urn", "wide_so", "found", "j", "k"] ["urn", "wide_so"] (defScope (topS 31)) := ⟨rfl, rfl, rfl, by decide +kernel, rfl, by decide +kernel, by decide +kernel⟩
theorem sc32 : FnScope ["flows_so", "lets_so", "found", "k", "one_so", "two_so"] ["flows_so", "lets_so"] (defScope (topS 32)) := ⟨rfl, rfl, rfl, by decide +kernel, rfl, by decide +kernel, by decide +kernel⟩
theorem sc33 : FnScope ["flows_so", "lets_so", "found", "last_so", "seen_so", "next_so", "own", "far"] ["flows_so", "lets_so"] (defScope (topS 33)) := ⟨rfl, rfl, rfl, by decide +kernel, rfl, by decide +kernel, by decide +kernel⟩
theorem sc34 : FnScope ["flows_so", "lets_so", "lot_so", "size_so", "short_so", "own", "far"] ["flows_so", "lets_so"] (defScope (topS 34)) := ⟨rfl, rfl, rfl, by decide +kernel, rfl, by decide +kernel, by decide +kernel⟩
theorem sc35 : FnScope ["urn", "flows_so", "lets_so", "lap", "lot_so"] ["urn", "flows_so", "lets_so"] (defScope (topS 35)) := ⟨rfl, rfl, rfl, by decide +kernel, rfl, by decide +kernel, by decide +kernel⟩
theorem sc36 : FnScope ["urn", "flows_so", "lets_so", "short_so", "own", "there_so", "heard_so", "due", "back_so", "far"] ["urn", "flows_so", "lets_so"] (defScope (topS 36)) := ⟨rfl, rfl, rfl, by decide +kernel, rfl, by decide +kernel, by decide +kernel⟩
theorem sc37 : FnScope ["one", "half", "back", "none", "three", "heard_so", "due", "wait_so"] [] (defScope (topS 37)) := ⟨rfl, rfl, rfl, by decide +kernel, rfl, by decide +kernel, by decide +kernel⟩
theorem sc38 : FnScope ["urn", "flows_so", "lets_so", "other_so", "same_so", "full_so", "all_so", "heard_so"] ["urn"] (defScope (topS 38)) := ⟨rfl, rfl, rfl, by decide +kernel, rfl, by decide +kernel, by decide +kernel⟩
theorem sc39 : FnScope ["script", "cells_so", "k"] ["script"] (defScope (topS 39)) := ⟨rfl, rfl, rfl, by decide +kernel, rfl, by decide +kernel, by decide +kernel⟩
/-- frozen -/
def fn4 (cl : Nat → Fn) : Fn := mFn 3 1 ((mSeq (mIfS (mNotT (mTru (un (dIsi2 Ty.list Ty.tuple) (mVar 0)))) (mRet (mVar 0)) mNext) (mSeq (mSet 1 (mLst mNil)) (mSeq (mFor (mISeq (mVar 0)) (mN 2) (mDrop (mApp 1 (mCall (cl 4) (rVal (mVar 2) rNil))))) (mRet (un dTuple (mVar 1)))))))
/-- fraction -/
def fn7 (cl : Nat → Fn) : Fn := mFn 3 2 ((mSeq (mIfS (mB (bin dEq (mVar 1) (mC (.int 0)))) mNever mNext) (mSeq (mSet 2 (mA dGcd (mCons (mVar 0) (mCons (mVar 1) mNil)))) (mSeq (mIfS (mB (bin dLt (mVar 1) (mC (.int 0)))) (mSet 2 (un dNeg (mVar 2))) mNext) (mRet (mTup (mCons (bin dDiv (mVar 0) (mVar 2)) (mCons (bin dDiv (mVar 1) (mVar 2)) mNil))))))))
/-- plus -/
def fn8 (cl : Nat → Fn) : Fn := mFn 2 2 ((mSeq (mIfS (mB (bin dEq (bin dIx (mVar 0) (mC (.int 1))) (bin dIx (mVar 1) (mC (.int 1))))) (mRet (mCall (cl 7) (rVal (bin dAdd (bin dIx (mVar 0) (mC (.int 0))) (bin dIx (mVar 1) (mC (.int 0)))) (rVal (bin dIx (mVar 0) (mC (.int 1))) rNil)))) mNext) (mRet (mCall (cl 7) (rVal (bin dAdd (bin dMul (bin dIx (mVar 0) (mC (.int 0))) (bin dIx (mVar 1) (mC (.int 1)))) (bin dMul (bin dIx (mVar 1) (mC (.int 0))) (bin dIx (mVar 0) (mC (.int 1))))) (rVal (bin dMul (bin dIx (mVar 0) (mC (.int 1))) (bin dIx (mVar 1) (mC (.int 1)))) rNil))))))
/-- _go_together -/
def fn10 (cl : Nat → Fn) : Fn := mFn 3 3 ((mRet (bin (dInT false) (mTup (mCons (mA dMin2 (mCons (mVar 0) (mCons (mVar 1) mNil))) (mCons (mA dMax2 (mCons (mVar 0) (mCons (mVar 1) mNil))) mNil))) (mVar 2))))
/-- _place_to_join -/
def fn11 (cl : Nat → Fn) : Fn := mFn 4 3 ((mSeq (mFor (mIDown (mCons (bin dSub (un dLen (mVar 0)) (mC (.int 1))) (mCons (un dNeg (mC (.int 1))) (mCons (un dNeg (mC (.int 1))) mNil)))) (mN 3) (mSeq (mIfS (mB (bin dEq (bin dIx (bin dIx (mVar 0) (mVar 3)) (mC (.int 0))) (mVar 1))) (mRet (mVar 3)) mNext) (mIfS (mNotT (mTru (mCall (cl 10) (rVal (bin dIx (bin dIx (mVar 0) (mVar 3)) (mC (.int 0))) (rVal (mVar 1) (rVal (mVar 2) rNil)))))) (mRet (mC .none)) mNext))) (mRet (mC .none))))
/-- _shortest -/
def fn12 (cl : Nat → Fn) : Fn := mFn 8 2 ((mSeq (mSet 2 (mLst mNil)) (mSeq (mFor (mISeq (mVar 0)) (mGseq 2 (mGcons (mN 3) (mGcons (mN 4) mGnil))) (mSeq (mSet 5 (mCall (cl 11) (rSlot 2 (rVal (mVar 3) (rVal (mVar 1) rNil))))) (mSeq (mIfS (mB (bin dIs (mVar 5) (mC .none))) (mPar 5 6 (un dLen (mVar 2)) (mC (.tuple ([0, 1].map .int)))) (mSet 6 (bin dIx (bin dIx (mVar 2) (mVar 5)) (mC (.int 1))))) (mSeq (mSet 7 (mCall (cl 8) (rVal (mVar 6) (rVal (mVar 4) rNil)))) (mSlx 2 (mPart (mVar 5)) (mPart (bin dAdd (mVar 5) (mC (.int 1)))) (mIf (mTru (bin dIx (mVar 7) (mC (.int 0)))) (mLst (mCons (mTup (mCons (mVar 3) (mCons (mVar 7) mNil))) mNil)) (mLst mNil))))))) (mRet (mVar 2)))))
/-- normal_row -/
def fn13 (cl : Nat → Fn) : Fn := mFn 1 1 ((mRet (un dTuple (mCall (cl 12) (rVal (mVar 0) (rVal (mTup mNil) rNil))))))
/-- is_same -/
def fn14 (cl : Nat → Fn) : Fn := mFn 2 2 ((mRet (bin dEq (mCall (cl 13) (rVal (mVar 0) rNil)) (mCall (cl 13) (rVal (mVar 1) rNil)))))
/-- _foremost -/
def fn15 (cl : Nat → Fn) : Fn := mFn 5 2 ((mRet (mComp (mIEnum (mCons (mVar 0) mNil)) (mGtup 2 (mGcons (mN 2) (mGcons (mN 3) mGnil))) (mTru (un dAll (mComp (mISeq (mSl (mVar 0) mNoPart (mPart (mVar 2)))) (mN 4) mYes (mCall (cl 10) (rVal (mVar 3) (rVal (mVar 4) (rVal (mVar 1) rNil)))) [4]))) (mVar 2) [2, 3])))
/-- least_order -/
def fn16 (cl : Nat → Fn) : Fn := mFn 8 2 ((mSeq (mPar 2 3 (mLRng (un dLen (mVar 0))) (mLst mNil)) (mSeq (whl (mTru (mVar 2)) (mSeq (mSet 4 (mCompB 2 (mN 7) mYes (bin dIx (mVar 0) (mVar 7)) [7])) (mSeq (mAsgG (un dMinL (mComp (mISeq (mCall (cl 15) (rVal (mVar 4) (rVal (mVar 1) rNil)))) (mN 7) mYes (mTup (mCons (bin dIx (mVar 4) (mVar 7)) (mCons (mVar 7) mNil))) [7])) (mGtup 2 (mGcons (mN 5) (mGcons (mN 6) mGnil)))) (mDrop (mApp 3 (mPopAt 2 (mVar 6)))))) 64) (mRet (mVar 3)))))
/-- _parts_of -/
def fn17 (cl : Nat → Fn) : Fn := mFn 3 1 ((mRet (mComp (mISeq (mVar 0)) (mGseq 2 (mGcons (mN 1) (mGcons (mN 2) mGnil))) mYes (mVar 1) [1, 2])))
/-- normal_with -/
def fn18 (cl : Nat → Fn) : Fn := mFn 4 2 ((mSeq (mSet 1 (mCall (cl 4) (rVal (mVar 1) rNil))) (mSeq (mSet 2 (mCall (cl 12) (rVal (mVar 0) (rVal (mVar 1) rNil)))) (mRet (un dTuple (mComp (mISeq (mCall (cl 16) (rVal (mCall (cl 17) (rVal (mVar 2) rNil)) (rVal (mVar 1) rNil)))) (mN 3) mYes (bin dIx (mVar 2) (mVar 3)) [3]))))))
/-- is_same_with -/
def fn19 (cl : Nat → Fn) : Fn := mFn 3 3 ((mRet (bin dEq (mCall (cl 18) (rVal (mVar 0) (rVal (mVar 2) rNil))) (mCall (cl 18) (rVal (mVar 1) (rVal (mVar 2) rNil))))))
/-- _law_box -/
def fn21 (cl : Nat → Fn) : Fn := mFn 3 2 ((mSeq (mSet 2 (mIf (mB (bin dLt (mVar 1) (un dLen (mVar 0)))) (bin dIx (mVar 0) (mVar 1)) (mC (.int 0)))) (mRet (mLst (mCons (bin dMul (un dAbs (mVar 2)) (un dInt (bin dGe (un dAbs (mVar 2)) (bin dPow (mC (.int 10)) (mC (.int 18)))))) (mCons (bin dAdd (bin dAdd (bin dMod (un dInt (mVar 2)) (mC (.int 2305843009213693951))) (bin dMul (mC (.int 39373)) (mVar 1))) (mC (.int 13757))) (mCons (mC (.int 0)) mNil)))))))
/-- _law_take -/
def fn22 (cl : Nat → Fn) : Fn := mFn 6 2 ((mSeq (mIfS (mB (bin dGt (bin dIx (mVar 0) (mC (.int 0))) (mC (.int 0)))) (mSeq (mSet 2 (bin dMod (un dInt (bin dIx (mVar 0) (mC (.int 0)))) (mVar 1))) (mSeq (mStore 0 (mC (.int 0)) (bin dDiv (bin dIx (mVar 0) (mC (.int 0))) (mVar 1))) (mRet (mVar 2)))) mNext) (mSeq (mStore 0 (mC (.int 2)) (bin dAdd (bin dIx (mVar 0) (mC (.int 2))) (mC (.int 1)))) (mSeq (mSet 3 (bin dMod (un dInt (bin dMul (bin dAdd (bin dIx (mVar 0) (mC (.int 1))) (bin dMul (mC (.int 48271)) (bin dIx (mVar 0) (mC (.int 2))))) (bin dAdd (mC (.int 39373)) (bin dIx (mVar 0) (mC (.int 2)))))) (mC (.int 2147483647)))) (mSeq (mSet 4 (bin dAdd (bin dMod (un dInt (mVar 3)) (mC (.int 40009))) (mC (.int 7)))) (mSeq (mSet 5 (bin dMod (un dInt (bin dMul (bin dAdd (bin dAdd (mVar 3) (bin dIx (mVar 0) (mC (.int 2)))) (bin dDiv (bin dIx (mVar 0) (mC (.int 1))) (mC (.int 1000003)))) (mVar 4))) (mC (.int 2147483629)))) (mRet (bin dMod (un dInt (bin dDiv (bin dMod (un dInt (bin dAdd (bin dMul (mVar 5) (mC (.int 48271))) (mVar 3))) (mC (.int 2147483587))) (mC (.int 64)))) (mVar 1)))))))))
/-- _law_cells -/
def fn23 (cl : Nat → Fn) : Fn := mFn 6 2 ((mSeq (mSet 2 (mOr (un dList (mSl (mVar 0) mNoPart (mPart (mVar 1)))) (mLst (mCons (mC (.int 0)) mNil)))) (mSeq (mFor (mIEnum (mCons (mSl (mVar 0) (mPart (mVar 1)) (mPart (mC (.int 63)))) mNil)) (mGtup 2 (mGcons (mN 3) (mGcons (mN 4) mGnil))) (mSeq (mSet 5 (bin dMod (un dInt (mVar 3)) (mVar 1))) (mStore 2 (mVar 5) (bin dAdd (bin dIx (mVar 2) (mVar 5)) (bin dMul (mVar 4) (bin dAdd (mVar 3) (mC (.int 2)))))))) (mRet (mVar 2)))))
/-- _law_same -/
def fn24 (cl : Nat → Fn) : Fn := mFn 4 2 ((mSeq (mIfS (mTru (un (dIsi2 Ty.list Ty.tuple) (mVar 1))) (mSeq (mIfS (mB (bin dNe (un (dIsi Ty.list) (mVar 0)) (un (dIsi Ty.list) (mVar 1)))) (mRet (mC (.bool false))) mNext) (mSeq (mIfS (mB (bin dNe (un (dIsi Ty.tuple) (mVar 0)) (un (dIsi Ty.tuple) (mVar 1)))) (mRet (mC (.bool false))) mNext) (mSeq (mIfS (mNotT (mB (bin dEq (un dLen (mVar 0)) (un dLen (mVar 1))))) (mRet (mC (.bool false))) mNext) (mRet (un dAll (mComp (mIZip (mCons (mVar 0) (mCons (mVar 1) mNil))) (mGtup 2 (mGcons (mN 2) (mGcons (mN 3) mGnil))) mYes (mCall (cl 24) (rVal (mVar 2) (rVal (mVar 3) rNil))) [2, 3])))))) mNext) (mSeq (mIfS (mOrT (mB (bin dIs (mVar 1) (mC .none))) (mTru (un (dIsi2 Ty.bool Ty.str) (mVar 1)))) (mSeq (mIfS (mNotT (mB (bin dEq (mVar 0) (mVar 1)))) (mRet (mC (.bool false))) mNext) (mSeq (mIfS (mNotT (mB (bin dEq (un (dIsi Ty.bool) (mVar 0)) (un (dIsi Ty.bool) (mVar 1))))) (mRet (mC (.bool false))) mNext) (mRet (bin dEq (bin dIs (mVar 0) (mC .none)) (bin dIs (mVar 1) (mC .none)))))) mNext) (mRet (mAnd (un (dIsi Ty.int) (mVar 0)) (mAnd (un dNot (un (dIsi Ty.bool) (mVar 0))) (bin dEq (mVar 0) (mVar 1))))))))
/-- _law_low -/
def fn25 (cl : Nat → Fn) : Fn := mFn 4 2 ((mSeq (mPar 2 3 (un dAbs (mVar 0)) (un dAbs (mVar 1))) (mSeq (whl (mB (bin dGt (mVar 3) (mC (.int 0)))) (mPar 2 3 (mVar 3) (bin dMod (un dInt (mVar 2)) (mVar 3))) 64) (mSeq (mIfS (mB (bin dLt (mVar 1) (mC (.int 0)))) (mSet 2 (bin dSub (mC (.int 0)) (mVar 2))) mNext) (mRet (mTup (mCons (bin dDiv (mVar 0) (mVar 2)) (mCons (bin dDiv (mVar 1) (mVar 2)) mNil))))))))
/-- _law_add -/
def fn26 (cl : Nat → Fn) : Fn := mFn 2 2 ((mRet (mCall (cl 25) (rVal (bin dAdd (bin dMul (bin dIx (mVar 0) (mC (.int 0))) (bin dIx (mVar 1) (mC (.int 1)))) (bin dMul (bin dIx (mVar 1) (mC (.int 0))) (bin dIx (mVar 0) (mC (.int 1))))) (rVal (bin dMul (bin dIx (mVar 0) (mC (.int 1))) (bin dIx (mVar 1) (mC (.int 1)))) rNil)))))
/-- _law_much -/
def fn27 (cl : Nat → Fn) : Fn := mFn 1 1 ((mRet (bin dIx (mTup (mCons (mTup (mCons (mC (.int 1)) (mCons (mC (.int 1)) mNil))) (mCons (mTup (mCons (un dNeg (mC (.int 1))) (mCons (mC (.int 1)) mNil))) (mCons (mTup (mCons (mC (.int 1)) (mCons (mC (.int 2)) mNil))) (mCons (mTup (mCons (un dNeg (mC (.int 1))) (mCons (mC (.int 2)) mNil))) (mCons (mTup (mCons (mC (.int 2)) (mCons (mC (.int 1)) mNil))) (mCons (mTup (mCons (mC (.int 1)) (mCons (mC (.int 3)) mNil))) (mCons (mTup (mCons (un dNeg (mC (.int 2))) (mCons (mC (.int 1)) mNil))) (mCons (mTup (mCons (mC (.int 1)) (mCons (mC (.int 1)) mNil))) (mCons (mTup (mCons (un dNeg (mC (.int 1))) (mCons (mC (.int 1)) mNil))) (mCons (mTup (mCons (mC (.int 0)) (mCons (mC (.int 1)) mNil))) mNil))))))))))) (mCall (cl 22) (rSlot 0 (rVal (mC (.int 10)) rNil))))))
/-- _law_flows -/
def fn28 (cl : Nat → Fn) : Fn := mFn 4 3 ((mRet (un dTuple (mComp (mIRng1 (mCons (mCall (cl 22) (rSlot 0 (rVal (bin dAdd (mVar 2) (mC (.int 1))) rNil))) mNil)) (mN 3) mYes (mTup (mCons (mCall (cl 22) (rSlot 0 (rVal (mVar 1) rNil))) (mCons (mCall (cl 27) (rSlot 0 rNil)) mNil))) [3]))))
/-- _law_undone -/
def fn29 (cl : Nat → Fn) : Fn := mFn 3 1 ((mRet (un dTuple (mComp (mISeq (un dRev (mVar 0))) (mGseq 2 (mGcons (mN 1) (mGcons (mN 2) mGnil))) mYes (mTup (mCons (mVar 1) (mCons (mTup (mCons (bin dSub (mC (.int 0)) (bin dIx (mVar 2) (mC (.int 0)))) (mCons (bin dIx (mVar 2) (mC (.int 1))) mNil))) mNil))) [1, 2]))))
/-- _law_free -/
def fn30 (cl : Nat → Fn) : Fn := mFn 3 3 ((mRet (bin (dInT false) (mTup (mCons (mA dMin2 (mCons (mVar 0) (mCons (mVar 1) mNil))) (mCons (mA dMax2 (mCons (mVar 0) (mCons (mVar 1) mNil))) mNil))) (mVar 2))))
/-- _law_lets -/
def fn31 (cl : Nat → Fn) : Fn := mFn 5 2 ((mSeq (mSet 2 (mLst mNil)) (mSeq (mFor (mIRng1 (mCons (mVar 1) mNil)) (mN 3) (mSet 2 (bin dAdd (mVar 2) (mComp (mIRng2 (mCons (bin dAdd (mVar 3) (mC (.int 1))) (mCons (mVar 1) mNil))) (mN 4) (mB (bin dEq (mCall (cl 22) (rSlot 0 (rVal (mC (.int 2)) rNil))) (mC (.int 0)))) (mTup (mCons (mVar 3) (mCons (mVar 4) mNil))) [4])))) (mRet (un dTuple (mVar 2))))))
/-- _law_turns -/
def fn32 (cl : Nat → Fn) : Fn := mFn 6 2 ((mSeq (mSet 2 (mLst mNil)) (mSeq (mFor (mIRng1 (mCons (un dLen (mVar 0)) mNil)) (mN 3) (mSeq (mIfS (mB (bin dEq (bin dIx (bin dIx (bin dIx (mVar 0) (mVar 3)) (mC (.int 1))) (mC (.int 0))) (mC (.int 0)))) (mDrop (mApp 2 (bin dAdd (mSl (mVar 0) mNoPart (mPart (mVar 3))) (mSl (mVar 0) (mPart (bin dAdd (mVar 3) (mC (.int 1)))) mNoPart)))) mNext) (mIfS (mB (bin dLt (bin dAdd (mVar 3) (mC (.int 1))) (un dLen (mVar 0)))) (mSeq (mPar 4 5 (bin dIx (mVar 0) (mVar 3)) (bin dIx (mVar 0) (bin dAdd (mVar 3) (mC (.int 1))))) (mIfS (mB (bin dEq (bin dIx (mVar 4) (mC (.int 0))) (bin dIx (mVar 5) (mC (.int 0))))) (mDrop (mApp 2 (bin dAdd (bin dAdd (mSl (mVar 0) mNoPart (mPart (mVar 3))) (mTup (mCons (mTup (mCons (bin dIx (mVar 4) (mC (.int 0))) (mCons (mCall (cl 26) (rVal (bin dIx (mVar 4) (mC (.int 1))) (rVal (bin dIx (mVar 5) (mC (.int 1))) rNil))) mNil))) mNil))) (mSl (mVar 0) (mPart (bin dAdd (mVar 3) (mC (.int 2)))) mNoPart)))) (mIfS (mTru (mCall (cl 30) (rVal (bin dIx (mVar 4) (mC (.int 0))) (rVal (bin dIx (mVar 5) (mC (.int 0))) (rVal (mVar 1) rNil))))) (mDrop (mApp 2 (bin dAdd (bin dAdd (mSl (mVar 0) mNoPart (mPart (mVar 3))) (mTup (mCons (mVar 5) (mCons (mVar 4) mNil)))) (mSl (mVar 0) (mPart (bin dAdd (mVar 3) (mC (.int 2)))) mNoPart)))) mNext))) mNext))) (mRet (mVar 2)))))
/-- _law_reached -/
def fn33 (cl : Nat → Fn) : Fn := mFn 8 2 ((mSeq (mPar 2 3 (mLst (mCons (mVar 0) mNil)) (mLst (mCons (mVar 0) mNil))) (mSeq (mSet 4 (mDOne (mVar 0) (mC (.int 1)))) (mSeq (whl (mB (bin dNe (mVar 3) (mLst mNil))) (mSeq (mSet 5 (mLst mNil)) (mSeq (mFor (mISeq (mVar 3)) (mN 6) (mFor (mISeq (mCall (cl 32) (rVal (mVar 6) (rVal (mVar 1) rNil)))) (mN 7) (mIfS (mB (mInD true 4 (mVar 7))) (mSeq (mDPut 4 (mVar 7) (mC (.int 1))) (mDrop (mApp 5 (mVar 7)))) mNext))) (mPar 2 3 (bin dAdd (mVar 2) (mVar 5)) (mVar 5)))) 6000000) (mRet (mVar 2))))))
/-- _law_shortest -/
def fn34 (cl : Nat → Fn) : Fn := mFn 7 2 ((mSeq (mSet 2 (mCall (cl 33) (rVal (mVar 0) (rVal (mVar 1) rNil)))) (mSeq (mSet 3 (un dMinL (mComp (mISeq (mVar 2)) (mN 5) mYes (un dLen (mVar 5)) [5]))) (mSeq (mSet 4 (mComp (mISeq (mVar 2)) (mN 5) (mB (bin dEq (un dLen (mVar 5)) (mVar 3))) (mVar 5) [5])) (mRet (mComp (mISeq (un dSortW (mComp (mISeq (mVar 4)) (mN 5) mYes (mTup (mCons (un dTuple (mComp (mISeq (mVar 5)) (mN 6) mYes (bin dIx (mVar 6) (mC (.int 0))) [6])) (mCons (mVar 5) mNil))) [5]))) (mN 5) mYes (bin dIx (mVar 5) (mC (.int 1))) [5]))))))
/-- _law_drawn_turns -/
def fn35 (cl : Nat → Fn) : Fn := mFn 5 3 ((mSeq (mFor (mIRng1 (mCons (mC (.int 3)) mNil)) (mN 3) (mSeq (mSet 4 (mCall (cl 32) (rVal (mVar 1) (rVal (mVar 2) rNil)))) (mIfS (mB (bin dNe (mVar 4) (mLst mNil))) (mSet 1 (bin dIx (mVar 4) (mCall (cl 22) (rSlot 0 (rVal (un dLen (mVar 4)) rNil))))) mNext))) (mRet (mVar 1))))
/-- _law_case_right -/
def fn36 (cl : Nat → Fn) : Fn := mFn 10 3 ((mSeq (mSet 3 (mCall (cl 34) (rVal (mVar 1) (rVal (mVar 2) rNil)))) (mSeq (mSet 4 (bin dIx (mVar 3) (mC (.int 0)))) (mSeq (mSet 5 (mCall (cl 35) (rSlot 0 (rVal (mVar 1) (rVal (mVar 2) rNil))))) (mSeq (mSet 6 (mLst (mCons (mCall (cl 18) (rVal (mVar 1) (rVal (mVar 2) rNil))) (mCons (mCall (cl 18) (rVal (mVar 5) (rVal (mVar 2) rNil))) (mCons (mCall (cl 18) (rVal (mComp (mISeq (mVar 1)) (mN 9) mYes (mLst (mCons (bin dIx (mVar 9) (mC (.int 0))) (mCons (un dList (bin dIx (mVar 9) (mC (.int 1)))) mNil))) [9]) (rVal (mComp (mISeq (mVar 2)) (mN 9) mYes (un dList (mVar 9)) [9]) rNil))) mNil))))) (mSeq (mSet 7 (mLst (mCons (mVar 4) (mCons (mVar 4) (mCons (mVar 4) mNil))))) (mSeq (mDrop (mApp 6 (un dSortW (mCall (cl 33) (rVal (mVar 4) (rVal (mVar 2) rNil)))))) (mSeq (mDrop (mApp 7 (un dSortW (mVar 3)))) (mSeq (mSet 8 (mCall (cl 29) (rVal (mVar 5) rNil))) (mSeq (mSet 6 (bin dAdd (mVar 6) (mLst (mCons (mCall (cl 19) (rVal (mVar 1) (rVal (mVar 5) (rVal (mVar 2) rNil)))) (mCons (mCall (cl 19) (rVal (mVar 1) (rVal (bin dIx (mVar 3) (un dNeg (mC (.int 1)))) (rVal (mVar 2) rNil)))) (mCons (mCall (cl 19) (rVal (bin dAdd (mVar 1) (mVar 8)) (rVal (mTup mNil) (rVal (mVar 2) rNil)))) mNil)))))) (mRet (mCall (cl 24) (rVal (mVar 6) (rVal (bin dAdd (mVar 7) (mLst (mCons (mC (.bool true)) (mCons (mC (.bool true)) (mCons (mC (.bool true)) mNil))))) rNil))))))))))))))
/-- _law_by_hand_right -/
def fn37 (cl : Nat → Fn) : Fn := mFn 8 0 ((mSeq (mAsgG (mTup (mCons (mTup (mCons (mC (.int 1)) (mCons (mC (.int 1)) mNil))) (mCons (mTup (mCons (mC (.int 1)) (mCons (mC (.int 2)) mNil))) (mCons (mTup (mCons (un dNeg (mC (.int 1))) (mCons (mC (.int 1)) mNil))) (mCons (mTup (mCons (mC (.int 0)) (mCons (mC (.int 1)) mNil))) mNil))))) (mGtup 4 (mGcons (mN 0) (mGcons (mN 1) (mGcons (mN 2) (mGcons (mN 3) mGnil)))))) (mSeq (mSet 4 (mTup (mCons (mTup (mCons (mC (.int 1)) (mCons (mVar 0) mNil))) (mCons (mTup (mCons (mC (.int 2)) (mCons (mVar 1) mNil))) (mCons (mTup (mCons (mC (.int 0)) (mCons (mVar 0) mNil))) (mCons (mTup (mCons (mC (.int 1)) (mCons (mVar 2) mNil))) mNil)))))) (mSeq (mSet 5 (mLst (mCons (mCall (cl 18) (rVal (mVar 4) (rVal (mTup (mCons (mTup (mCons (mC (.int 0)) (mCons (mC (.int 1)) mNil))) (mCons (mTup (mCons (mC (.int 1)) (mCons (mC (.int 2)) mNil))) mNil))) rNil))) (mCons (mCall (cl 18) (rVal (mVar 4) (rVal (mTup (mCons (mTup (mCons (mC (.int 0)) (mCons (mC (.int 1)) mNil))) mNil)) rNil))) (mCons (mCall (cl 18) (rVal (mVar 4) (rVal (mTup (mCons (mTup (mCons (mC (.int 0)) (mCons (mC (.int 2)) mNil))) (mCons (mTup (mCons (mC (.int 1)) (mCons (mC (.int 2)) mNil))) mNil))) rNil))) (mCons (mCall (cl 18) (rVal (mVar 4) (rVal (mTup mNil) rNil))) mNil)))))) (mSeq (mSet 6 (mLst (mCons (mTup (mCons (mTup (mCons (mC (.int 2)) (mCons (mVar 1) mNil))) (mCons (mTup (mCons (mC (.int 0)) (mCons (mVar 0) mNil))) mNil))) (mCons (mVar 4) (mCons (mTup (mCons (mTup (mCons (mC (.int 1)) (mCons (mVar 0) mNil))) (mCons (mTup (mCons (mC (.int 0)) (mCons (mVar 0) mNil))) (mCons (mTup (mCons (mC (.int 1)) (mCons (mVar 2) mNil))) (mCons (mTup (mCons (mC (.int 2)) (mCons (mVar 1) mNil))) mNil))))) (mCons (mVar 4) mNil)))))) (mSeq (mSet 7 (mTup (mCons (mTup (mCons (mC (.int 2)) (mCons (mVar 0) mNil))) (mCons (mTup (mCons (mC (.int 1)) (mCons (mVar 0) mNil))) (mCons (mTup (mCons (mC (.int 0)) (mCons (mVar 0) mNil))) mNil))))) (mSeq (mSet 5 (bin dAdd (mVar 5) (mLst (mCons (mCall (cl 18) (rVal (mVar 7) (rVal (mTup (mCons (mTup (mCons (mC (.int 0)) (mCons (mC (.int 1)) mNil))) (mCons (mTup (mCons (mC (.int 0)) (mCons (mC (.int 2)) mNil))) (mCons (mTup (mCons (mC (.int 1)) (mCons (mC (.int 2)) mNil))) mNil)))) rNil))) (mCons (mCall (cl 18) (rVal (mVar 7) (rVal (mTup (mCons (mTup (mCons (mC (.int 0)) (mCons (mC (.int 1)) mNil))) mNil)) rNil))) (mCons (mCall (cl 18) (rVal (mVar 7) (rVal (mTup (mCons (mTup (mCons (mC (.int 0)) (mCons (mC (.int 1)) mNil))) (mCons (mTup (mCons (mC (.int 0)) (mCons (mC (.int 2)) mNil))) mNil))) rNil))) mNil)))))) (mSeq (mSet 6 (bin dAdd (mVar 6) (mLst (mCons (un dRev (mVar 7)) (mCons (mTup (mCons (mTup (mCons (mC (.int 2)) (mCons (mVar 0) mNil))) (mCons (mTup (mCons (mC (.int 0)) (mCons (mVar 0) mNil))) (mCons (mTup (mCons (mC (.int 1)) (mCons (mVar 0) mNil))) mNil)))) (mCons (mTup (mCons (mTup (mCons (mC (.int 0)) (mCons (mVar 0) mNil))) (mCons (mTup (mCons (mC (.int 2)) (mCons (mVar 0) mNil))) (mCons (mTup (mCons (mC (.int 1)) (mCons (mVar 0) mNil))) mNil)))) mNil)))))) (mSeq (mSet 5 (bin dAdd (mVar 5) (mLst (mCons (mCall (cl 19) (rVal (mTup (mCons (mTup (mCons (mC (.int 3)) (mCons (mVar 0) mNil))) (mCons (mTup (mCons (mC (.int 1)) (mCons (mVar 1) mNil))) mNil))) (rVal (mTup (mCons (mTup (mCons (mC (.int 1)) (mCons (mVar 1) mNil))) (mCons (mTup (mCons (mC (.int 3)) (mCons (mVar 0) mNil))) mNil))) (rVal (mTup (mCons (mTup (mCons (mC (.int 1)) (mCons (mC (.int 3)) mNil))) mNil)) rNil)))) (mCons (mCall (cl 19) (rVal (mTup (mCons (mTup (mCons (mC (.int 0)) (mCons (mVar 0) mNil))) (mCons (mTup (mCons (mC (.int 2)) (mCons (mVar 3) mNil))) (mCons (mTup (mCons (mC (.int 0)) (mCons (mVar 2) mNil))) mNil)))) (rVal (mTup mNil) (rVal (mTup mNil) rNil)))) mNil))))) (mSeq (mSet 5 (bin dAdd (mVar 5) (mLst (mCons (mCall (cl 19) (rVal (mTup (mCons (mTup (mCons (mC (.int 0)) (mCons (mVar 0) mNil))) (mCons (mTup (mCons (mC (.int 1)) (mCons (mVar 0) mNil))) (mCons (mTup (mCons (mC (.int 0)) (mCons (mVar 2) mNil))) (mCons (mTup (mCons (mC (.int 1)) (mCons (mVar 2) mNil))) mNil))))) (rVal (mTup mNil) (rVal (mTup (mCons (mTup (mCons (mC (.int 0)) (mCons (mC (.int 2)) mNil))) (mCons (mTup (mCons (mC (.int 1)) (mCons (mC (.int 2)) mNil))) mNil))) rNil)))) (mCons (mCall (cl 18) (rVal (mTup mNil) (rVal (mTup (mCons (mTup (mCons (mC (.int 0)) (mCons (mC (.int 1)) mNil))) mNil)) rNil))) mNil))))) (mRet (mCall (cl 24) (rVal (mVar 5) (rVal (bin dAdd (mVar 6) (mLst (mCons (mC (.bool true)) (mCons (mC (.bool true)) (mCons (mC (.bool false)) (mCons (mTup mNil) mNil)))))) rNil))))))))))))))
/-- _law_right -/
def fn38 (cl : Nat → Fn) : Fn := mFn 8 1 ((mSeq (mPar 1 2 (mCall (cl 28) (rSlot 0 (rVal (mC (.int 3)) (rVal (mC (.int 4)) rNil)))) (mCall (cl 31) (rSlot 0 (rVal (mC (.int 3)) rNil)))) (mSeq (mIfS (mNotT (mTru (mCall (cl 36) (rSlot 0 (rVal (mVar 1) (rVal (mVar 2) rNil)))))) (mRet (mC (.bool false))) mNext) (mSeq (mSet 3 (mIf (mB (bin dGt (mCall (cl 22) (rSlot 0 (rVal (mC (.int 3)) rNil))) (mC (.int 0)))) (mCall (cl 28) (rSlot 0 (rVal (mC (.int 3)) (rVal (mC (.int 3)) rNil)))) (bin dAdd (mSl (mVar 1) (mPart (mC (.int 1))) mNoPart) (mSl (mVar 1) mNoPart (mPart (mC (.int 1))))))) (mSeq (mSet 4 (bin dEq (bin dIx (mCall (cl 34) (rVal (mVar 1) (rVal (mVar 2) rNil))) (mC (.int 0))) (bin dIx (mCall (cl 34) (rVal (mVar 3) (rVal (mVar 2) rNil))) (mC (.int 0))))) (mSeq (mSet 5 (mTup (mCons (mTup (mCons (mC (.int 0)) (mCons (mC (.int 1)) mNil))) (mCons (mTup (mCons (mC (.int 0)) (mCons (mC (.int 2)) mNil))) (mCons (mTup (mCons (mC (.int 1)) (mCons (mC (.int 2)) mNil))) mNil))))) (mSeq (mSet 6 (bin dEq (bin dIx (mCall (cl 34) (rVal (mVar 1) (rVal (mVar 5) rNil))) (mC (.int 0))) (bin dIx (mCall (cl 34) (rVal (mVar 3) (rVal (mVar 5) rNil))) (mC (.int 0))))) (mSeq (mSet 7 (mLst (mCons (mCall (cl 19) (rVal (mVar 1) (rVal (mVar 3) (rVal (mVar 2) rNil)))) (mCons (mCall (cl 19) (rVal (mVar 1) (rVal (mVar 3) (rVal (mVar 5) rNil)))) (mCons (mAnd (mVar 4) (un dNot (mVar 6))) mNil))))) (mSeq (mSet 7 (bin dAdd (mVar 7) (mLst (mCons (mAnd (mCall (cl 14) (rVal (mVar 1) (rVal (mVar 3) rNil))) (un dNot (mVar 4))) (mCons (mCall (cl 19) (rVal (mVar 3) (rVal (mVar 1) (rVal (mVar 2) rNil)))) mNil))))) (mRet (mCall (cl 24) (rVal (mVar 7) (rVal (mLst (mCons (mVar 4) (mCons (mVar 6) (mCons (mC (.bool false)) (mCons (mC (.bool false)) (mCons (mVar 4) mNil)))))) rNil)))))))))))))
/-- law -/
def fn39 (cl : Nat → Fn) : Fn := mFn 3 1 ((mSeq (mIfS (mNotT (mTru (mCall (cl 37) rNil))) (mRet (mC (.bool false))) mNext) (mSeq (mSet 1 (mCall (cl 23) (rVal (mVar 0) (rVal (mC (.int 2)) rNil)))) (mRet (un dAll (mComp (mIRng1 (mCons (un dLen (mVar 1)) mNil)) (mN 2) mYes (mCallO (cl 38) (mCall (cl 21) (rVal (mVar 1) (rVal (mVar 2) rNil)))) [2]))))))
def run : Nat → Nat → Fn
  | 0, _ => fun _ => none
  | k + 1, i => match i with
    | 4 => fn4 (run k)
    | 7 => fn7 (run k)
    | 8 => fn8 (run k)
    | 10 => fn10 (run k)
    | 11 => fn11 (run k)
    | 12 => fn12 (run k)
    | 13 => fn13 (run k)
    | 14 => fn14 (run k)
    | 15 => fn15 (run k)
    | 16 => fn16 (run k)
    | 17 => fn17 (run k)
    | 18 => fn18 (run k)
    | 19 => fn19 (run k)
    | 21 => fn21 (run k)
    | 22 => fn22 (run k)
    | 23 => fn23 (run k)
    | 24 => fn24 (run k)
    | 25 => fn25 (run k)
    | 26 => fn26 (run k)
    | 27 => fn27 (run k)
    | 28 => fn28 (run k)
    | 29 => fn29 (run k)
    | 30 => fn30 (run k)
    | 31 => fn31 (run k)
    | 32 => fn32 (run k)
    | 33 => fn33 (run k)
    | 34 => fn34 (run k)
    | 35 => fn35 (run k)
    | 36 => fn36 (run k)
    | 37 => fn37 (run k)
    | 38 => fn38 (run k)
    | 39 => fn39 (run k)
    | _ => fun _ => none
theorem rs4 (k : Nat) : run (k + 1) 4 = fn4 (run k) := rfl
theorem rs7 (k : Nat) : run (k + 1) 7 = fn7 (run k) := rfl
theorem rs8 (k : Nat) : run (k + 1) 8 = fn8 (run k) := rfl
theorem rs10 (k : Nat) : run (k + 1) 10 = fn10 (run k) := rfl
theorem rs11 (k : Nat) : run (k + 1) 11 = fn11 (run k) := rfl
theorem rs12 (k : Nat) : run (k + 1) 12 = fn12 (run k) := rfl
theorem rs13 (k : Nat) : run (k + 1) 13 = fn13 (run k) := rfl
theorem rs14 (k : Nat) : run (k + 1) 14 = fn14 (run k) := rfl
theorem rs15 (k : Nat) : run (k + 1) 15 = fn15 (run k) := rfl
theorem rs16 (k : Nat) : run (k + 1) 16 = fn16 (run k) := rfl
theorem rs17 (k : Nat) : run (k + 1) 17 = fn17 (run k) := rfl
theorem rs18 (k : Nat) : run (k + 1) 18 = fn18 (run k) := rfl
theorem rs19 (k : Nat) : run (k + 1) 19 = fn19 (run k) := rfl
theorem rs21 (k : Nat) : run (k + 1) 21 = fn21 (run k) := rfl
theorem rs22 (k : Nat) : run (k + 1) 22 = fn22 (run k) := rfl
theorem rs23 (k : Nat) : run (k + 1) 23 = fn23 (run k) := rfl
theorem rs24 (k : Nat) : run (k + 1) 24 = fn24 (run k) := rfl
theorem rs25 (k : Nat) : run (k + 1) 25 = fn25 (run k) := rfl
theorem rs26 (k : Nat) : run (k + 1) 26 = fn26 (run k) := rfl
theorem rs27 (k : Nat) : run (k + 1) 27 = fn27 (run k) := rfl
theorem rs28 (k : Nat) : run (k + 1) 28 = fn28 (run k) := rfl
theorem rs29 (k : Nat) : run (k + 1) 29 = fn29 (run k) := rfl
theorem rs30 (k : Nat) : run (k + 1) 30 = fn30 (run k) := rfl
theorem rs31 (k : Nat) : run (k + 1) 31 = fn31 (run k) := rfl
theorem rs32 (k : Nat) : run (k + 1) 32 = fn32 (run k) := rfl
theorem rs33 (k : Nat) : run (k + 1) 33 = fn33 (run k) := rfl
theorem rs34 (k : Nat) : run (k + 1) 34 = fn34 (run k) := rfl
theorem rs35 (k : Nat) : run (k + 1) 35 = fn35 (run k) := rfl
theorem rs36 (k : Nat) : run (k + 1) 36 = fn36 (run k) := rfl
theorem rs37 (k : Nat) : run (k + 1) 37 = fn37 (run k) := rfl
theorem rs38 (k : Nat) : run (k + 1) 38 = fn38 (run k) := rfl
theorem rs39 (k : Nat) : run (k + 1) 39 = fn39 (run k) := rfl
/-- what the top has written -/
structure Top (K : PySem.W.Frag) (mg : Str → Option Value) (fa : Nat → Addr) (fd : Nat → FuncData) : Prop where
  F4 : Fun K "frozen" "frozen" (topS 4) (fa 4) (fd 4)
  g4 : mg "frozen" = some (.ref (fa 4))
  b4 : Binds K (fd 4) ["value"] []
  F7 : Fun K "fraction" "fraction" (topS 7) (fa 7) (fd 7)
  g7 : mg "fraction" = some (.ref (fa 7))
  b7 : Binds K (fd 7) ["top", "bottom"] []
  F8 : Fun K "plus" "plus" (topS 8) (fa 8) (fd 8)
  g8 : mg "plus" = some (.ref (fa 8))
  b8 : Binds K (fd 8) ["x", "y"] []
  F10 : Fun K "_go_together" "_go_together" (topS 10) (fa 10) (fd 10)
  g10 : mg "_go_together" = some (.ref (fa 10))
  b10 : Binds K (fd 10) ["part", "other", "meets"] []
  F11 : Fun K "_place_to_join" "_place_to_join" (topS 11) (fa 11) (fd 11)
  g11 : mg "_place_to_join" = some (.ref (fa 11))
  b11 : Binds K (fd 11) ["row", "part", "meets"] []
  F12 : Fun K "_shortest" "_shortest" (topS 12) (fa 12) (fd 12)
  g12 : mg "_shortest" = some (.ref (fa 12))
  b12 : Binds K (fd 12) ["row", "meets"] []
  F13 : Fun K "normal_row" "normal_row" (topS 13) (fa 13) (fd 13)
  g13 : mg "normal_row" = some (.ref (fa 13))
  b13 : Binds K (fd 13) ["row"] []
  F14 : Fun K "is_same" "is_same" (topS 14) (fa 14) (fd 14)
  g14 : mg "is_same" = some (.ref (fa 14))
  b14 : Binds K (fd 14) ["row", "other"] []
  F15 : Fun K "_foremost" "_foremost" (topS 15) (fa 15) (fd 15)
  g15 : mg "_foremost" = some (.ref (fa 15))
  b15 : Binds K (fd 15) ["parts", "meets"] []
  F16 : Fun K "least_order" "least_order" (topS 16) (fa 16) (fd 16)
  g16 : mg "least_order" = some (.ref (fa 16))
  b16 : Binds K (fd 16) ["parts", "meets"] []
  F17 : Fun K "_parts_of" "_parts_of" (topS 17) (fa 17) (fd 17)
  g17 : mg "_parts_of" = some (.ref (fa 17))
  b17 : Binds K (fd 17) ["row"] []
  F18 : Fun K "normal_with" "normal_with" (topS 18) (fa 18) (fd 18)
  g18 : mg "normal_with" = some (.ref (fa 18))
  b18 : Binds K (fd 18) ["row", "meets"] []
  F19 : Fun K "is_same_with" "is_same_with" (topS 19) (fa 19) (fd 19)
  g19 : mg "is_same_with" = some (.ref (fa 19))
  b19 : Binds K (fd 19) ["row", "other", "meets"] []
  F21 : Fun K "_law_box" "_law_box" (topS 21) (fa 21) (fd 21)
  g21 : mg "_law_box" = some (.ref (fa 21))
  b21 : Binds K (fd 21) ["script", "k"] []
  F22 : Fun K "_law_take" "_law_take" (topS 22) (fa 22) (fd 22)
  g22 : mg "_law_take" = some (.ref (fa 22))
  b22 : Binds K (fd 22) ["urn", "low_so"] []
  F23 : Fun K "_law_cells" "_law_cells" (topS 23) (fa 23) (fd 23)
  g23 : mg "_law_cells" = some (.ref (fa 23))
  b23 : Binds K (fd 23) ["script", "roof_so"] []
  F24 : Fun K "_law_same" "_law_same" (topS 24) (fa 24) (fd 24)
  g24 : mg "_law_same" = some (.ref (fa 24))
  b24 : Binds K (fd 24) ["near", "due"] []
  F25 : Fun K "_law_low" "_law_low" (topS 25) (fa 25) (fd 25)
  g25 : mg "_law_low" = some (.ref (fa 25))
  b25 : Binds K (fd 25) ["top_so", "down_so"] []
  F26 : Fun K "_law_add" "_law_add" (topS 26) (fa 26) (fd 26)
  g26 : mg "_law_add" = some (.ref (fa 26))
  b26 : Binds K (fd 26) ["own", "far"] []
  F27 : Fun K "_law_much" "_law_much" (topS 27) (fa 27) (fd 27)
  g27 : mg "_law_much" = some (.ref (fa 27))
  b27 : Binds K (fd 27) ["urn"] []
  F28 : Fun K "_law_flows" "_law_flows" (topS 28) (fa 28) (fd 28)
  g28 : mg "_law_flows" = some (.ref (fa 28))
  b28 : Binds K (fd 28) ["urn", "wide_so", "most_so"] []
  F29 : Fun K "_law_undone" "_law_undone" (topS 29) (fa 29) (fd 29)
  g29 : mg "_law_undone" = some (.ref (fa 29))
  b29 : Binds K (fd 29) ["flows_so"] []
  F30 : Fun K "_law_free" "_law_free" (topS 30) (fa 30) (fd 30)
  g30 : mg "_law_free" = some (.ref (fa 30))
  b30 : Binds K (fd 30) ["one_so", "two_so", "lets_so"] []
  F31 : Fun K "_law_lets" "_law_lets" (topS 31) (fa 31) (fd 31)
  g31 : mg "_law_lets" = some (.ref (fa 31))
  b31 : Binds K (fd 31) ["urn", "wide_so"] []
  F32 : Fun K "_law_turns" "_law_turns" (topS 32) (fa 32) (fd 32)
  g32 : mg "_law_turns" = some (.ref (fa 32))
  b32 : Binds K (fd 32) ["flows_so", "lets_so"] []
  F33 : Fun K "_law_reached" "_law_reached" (topS 33) (fa 33) (fd 33)
  g33 : mg "_law_reached" = some (.ref (fa 33))
  b33 : Binds K (fd 33) ["flows_so", "lets_so"] []
  F34 : Fun K "_law_shortest" "_law_shortest" (topS 34) (fa 34) (fd 34)
  g34 : mg "_law_shortest" = some (.ref (fa 34))
  b34 : Binds K (fd 34) ["flows_so", "lets_so"] []
  F35 : Fun K "_law_drawn_turns" "_law_drawn_turns" (topS 35) (fa 35) (fd 35)
  g35 : mg "_law_drawn_turns" = some (.ref (fa 35))
  b35 : Binds K (fd 35) ["urn", "flows_so", "lets_so"] []
  F36 : Fun K "_law_case_right" "_law_case_right" (topS 36) (fa 36) (fd 36)
  g36 : mg "_law_case_right" = some (.ref (fa 36))
  b36 : Binds K (fd 36) ["urn", "flows_so", "lets_so"] []
  F37 : Fun K "_law_by_hand_right" "_law_by_hand_right" (topS 37) (fa 37) (fd 37)
  g37 : mg "_law_by_hand_right" = some (.ref (fa 37))
  b37 : Binds K (fd 37) [] []
  F38 : Fun K "_law_right" "_law_right" (topS 38) (fa 38) (fd 38)
  g38 : mg "_law_right" = some (.ref (fa 38))
  b38 : Binds K (fd 38) ["urn"] []
  F39 : Fun K "law" "law" (topS 39) (fa 39) (fd 39)
  g39 : mg "law" = some (.ref (fa 39))
  b39 : Binds K (fd 39) ["script"] []
  m_ZERO : ConstT K mg "ZERO" [0, 1]
  f_gcd : mg "gcd" = some (.builtin "math.gcd")
  z_abs : mg "abs" = none
  z_all : mg "all" = none
  z_bool : mg "bool" = none
  z_enumerate : mg "enumerate" = none
  z_int : mg "int" = none
  z_isinstance : mg "isinstance" = none
  z_len : mg "len" = none
  z_list : mg "list" = none
  z_max : mg "max" = none
  z_min : mg "min" = none
  z_range : mg "range" = none
  z_sorted : mg "sorted" = none
  z_str : mg "str" = none
  z_tuple : mg "tuple" = none
  z_zip : mg "zip" = none
structure Gs (P : Program) (w : World) (K : PySem.W.Frag) (mg : Str → Option Value) (base : Heap) (fa : Nat → Addr) (fd : Nat → FuncData) (k : Nat) (cl : Nat → Fn) : Prop where
  c4 : FnOk P w K mg base CX0 k (fa 4) (fd 4) ["value"] (spD K 1 (cl 4))
  c7 : FnOk P w K mg base CX0 k (fa 7) (fd 7) ["top", "bottom"] (spD K 2 (cl 7))
  c8 : FnOk P w K mg base CX0 k (fa 8) (fd 8) ["x", "y"] (spD K 2 (cl 8))
  c10 : FnOk P w K mg base CX0 k (fa 10) (fd 10) ["part", "other", "meets"] (spD K 3 (cl 10))
  c11 : FnOk P w K mg base CX0 k (fa 11) (fd 11) ["row", "part", "meets"] (spD K 3 (cl 11))
  c12 : FnOk P w K mg base CX0 k (fa 12) (fd 12) ["row", "meets"] (spD K 2 (cl 12))
  c13 : FnOk P w K mg base CX0 k (fa 13) (fd 13) ["row"] (spD K 1 (cl 13))
  c14 : FnOk P w K mg base CX0 k (fa 14) (fd 14) ["row", "other"] (spD K 2 (cl 14))
  c15 : FnOk P w K mg base CX0 k (fa 15) (fd 15) ["parts", "meets"] (spD K 2 (cl 15))
  c16 : FnOk P w K mg base CX0 k (fa 16) (fd 16) ["parts", "meets"] (spD K 2 (cl 16))
  c17 : FnOk P w K mg base CX0 k (fa 17) (fd 17) ["row"] (spD K 1 (cl 17))
  c18 : FnOk P w K mg base CX0 k (fa 18) (fd 18) ["row", "meets"] (spD K 2 (cl 18))
  c19 : FnOk P w K mg base CX0 k (fa 19) (fd 19) ["row", "other", "meets"] (spD K 3 (cl 19))
  c21 : FnOk P w K mg base CX0 k (fa 21) (fd 21) ["script", "k"] (spD K 2 (cl 21))
  c22 : FnOk P w K mg base CX0 k (fa 22) (fd 22) ["urn", "low_so"] (spD K 2 (cl 22))
  c23 : FnOk P w K mg base CX0 k (fa 23) (fd 23) ["script", "roof_so"] (spD K 2 (cl 23))
  c24 : FnOk P w K mg base CX0 k (fa 24) (fd 24) ["near", "due"] (spD K 2 (cl 24))
  c25 : FnOk P w K mg base CX0 k (fa 25) (fd 25) ["top_so", "down_so"] (spD K 2 (cl 25))
  c26 : FnOk P w K mg base CX0 k (fa 26) (fd 26) ["own", "far"] (spD K 2 (cl 26))
  c27 : FnOk P w K mg base CX0 k (fa 27) (fd 27) ["urn"] (spD K 1 (cl 27))
  c28 : FnOk P w K mg base CX0 k (fa 28) (fd 28) ["urn", "wide_so", "most_so"] (spD K 3 (cl 28))
  c29 : FnOk P w K mg base CX0 k (fa 29) (fd 29) ["flows_so"] (spD K 1 (cl 29))
  c30 : FnOk P w K mg base CX0 k (fa 30) (fd 30) ["one_so", "two_so", "lets_so"] (spD K 3 (cl 30))
  c31 : FnOk P w K mg base CX0 k (fa 31) (fd 31) ["urn", "wide_so"] (spD K 2 (cl 31))
  c32 : FnOk P w K mg base CX0 k (fa 32) (fd 32) ["flows_so", "lets_so"] (spD K 2 (cl 32))
  c33 : FnOk P w K mg base CX0 k (fa 33) (fd 33) ["flows_so", "lets_so"] (spD K 2 (cl 33))
  c34 : FnOk P w K mg base CX0 k (fa 34) (fd 34) ["flows_so", "lets_so"] (spD K 2 (cl 34))
  c35 : FnOk P w K mg base CX0 k (fa 35) (fd 35) ["urn", "flows_so", "lets_so"] (spD K 3 (cl 35))
  c36 : FnOk P w K mg base CX0 k (fa 36) (fd 36) ["urn", "flows_so", "lets_so"] (spD K 3 (cl 36))
  c37 : FnOk P w K mg base CX0 k (fa 37) (fd 37) [] (spD K 0 (cl 37))
  c38 : FnOk P w K mg base CX0 k (fa 38) (fd 38) ["urn"] (spD K 1 (cl 38))
  c39 : FnOk P w K mg base CX0 k (fa 39) (fd 39) ["script"] (spD K 1 (cl 39))
section
variable {P : Program} {w : World} {K : PySem.W.Frag} {mg : Str → Option Value} {base : Heap} {fa : Nat → Addr} {fd : Nat → FuncData} {k : Nat} {cl : Nat → Fn}
theorem ok4 (T : Top K mg fa fd) (G : Gs P w K mg base fa fd k cl) : FnOk P w K mg base CX0 (k + 1) (fa 4) (fd 4) ["value"] (spD K 1 (fn4 cl)) :=
  fn_ok T.F4 sc4 fun cdv A outer s H E hr => (dss_cons (ds_if (dt_not (dt_tru (de_isi2 (t := Ty.list) (u := Ty.tuple) (by rfl) T.z_isinstance boot_isinstance (de_var (pv 0)) (pe_bltn (by rfl) T.z_list boot_list rfl) (pe_bltn (by rfl) T.z_tuple boot_tuple rfl)))) (dss_one (ds_ret (de_var (pv 0)))) dss_nil)
    (dss_cons (ds_set (fun te h => ps_set sc4.nd rfl (by first | exact Or.inl rfl | exact Or.inr rfl) h) (de_lst da_nil))
    (dss_cons (ds_for PassesOwn.never rfl (di_seq (de_var (pv 0))) (dg_name (pg_name sc4.nd rfl (by first | exact Or.inl rfl | exact Or.inr rfl))) (dss_one (ds_expr (de_app (fun t h => pe_bm PySem.F.plainAttrs_list PySem.F.slot_list_append PySem.F.type_list_append mt_append (pv 1) h) (de_call G.c4 hr (by rfl) T.g4 T.F4.kp T.b4 (dr_val (de_var (pv 2)) dr_nil) (rl_val (rl_nil rfl)))))))
    (dss_one (ds_ret (de_callT1 call_tuple_of us_tuple (by rfl) T.z_tuple boot_tuple (de_var (pv 1))))))))
theorem ok7 (T : Top K mg fa fd) (G : Gs P w K mg base fa fd k cl) : FnOk P w K mg base CX0 (k + 1) (fa 7) (fd 7) ["top", "bottom"] (spD K 2 (fn7 cl)) :=
  fn_ok T.F7 sc7 fun cdv A outer s H E hr => (dss_cons (ds_if (dt_cmp (op_eqD (room64 hr)) os_eq (de_var (pv 1)) de_int (nomark _)) (dss_one ds_never) dss_nil)
    (dss_cons (ds_set (fun te h => ps_set sc7.nd rfl (by first | exact Or.inl rfl | exact Or.inr rfl) h) (de_callF cr_gcd as_gcd (by rfl) T.f_gcd (da_cons (de_var (pv 0)) (da_cons (de_var (pv 1)) da_nil))))
    (dss_cons (ds_if (dt_cmp op_lt os_cmpI (de_var (pv 1)) de_int (nomark _)) (dss_one (ds_set (fun te h => ps_set sc7.nd rfl (by first | exact Or.inl rfl | exact Or.inr rfl) h) (de_un un_neg us_neg (de_var (pv 2))))) dss_nil)
    (dss_one (ds_ret (de_tup (da_cons (de_op op_fdivW os_div (de_var (pv 0)) (de_var (pv 2))) (da_cons (de_op op_fdivW os_div (de_var (pv 1)) (de_var (pv 2))) da_nil))))))))
theorem ok8 (T : Top K mg fa fd) (G : Gs P w K mg base fa fd k cl) : FnOk P w K mg base CX0 (k + 1) (fa 8) (fd 8) ["x", "y"] (spD K 2 (fn8 cl)) :=
  fn_ok T.F8 sc8 fun cdv A outer s H E hr => (dss_cons (ds_if (dt_cmp (op_eqD (room64 hr)) os_eq (de_ix ix_A os_ix (de_var (pv 0)) de_int (fun _ _ => rfl)) (de_ix ix_A os_ix (de_var (pv 1)) de_int (fun _ _ => rfl)) (nomark _)) (dss_one (ds_ret (de_call G.c7 hr (by rfl) T.g7 T.F7.kp T.b7 (dr_val (de_op op_addA os_add (de_ix ix_A os_ix (de_var (pv 0)) de_int (fun _ _ => rfl)) (de_ix ix_A os_ix (de_var (pv 1)) de_int (fun _ _ => rfl))) (dr_val (de_ix ix_A os_ix (de_var (pv 0)) de_int (fun _ _ => rfl)) dr_nil)) (rl_val (rl_val (rl_nil rfl)))))) dss_nil)
    (dss_one (ds_ret (de_call G.c7 hr (by rfl) T.g7 T.F7.kp T.b7 (dr_val (de_op op_addA os_add (de_op op_mulA os_mul (de_ix ix_A os_ix (de_var (pv 0)) de_int (fun _ _ => rfl)) (de_ix ix_A os_ix (de_var (pv 1)) de_int (fun _ _ => rfl))) (de_op op_mulA os_mul (de_ix ix_A os_ix (de_var (pv 1)) de_int (fun _ _ => rfl)) (de_ix ix_A os_ix (de_var (pv 0)) de_int (fun _ _ => rfl)))) (dr_val (de_op op_mulA os_mul (de_ix ix_A os_ix (de_var (pv 0)) de_int (fun _ _ => rfl)) (de_ix ix_A os_ix (de_var (pv 1)) de_int (fun _ _ => rfl))) dr_nil)) (rl_val (rl_val (rl_nil rfl)))))))
theorem ok10 (T : Top K mg fa fd) (G : Gs P w K mg base fa fd k cl) : FnOk P w K mg base CX0 (k + 1) (fa 10) (fd 10) ["part", "other", "meets"] (spD K 3 (fn10 cl)) :=
  fn_ok T.F10 sc10 fun cdv A outer s H E hr => (dss_one (ds_ret (de_cmp (op_inB (room65 hr)) (os_inB false) (de_tup (da_cons (de_callA (call_min2 rfl) as_min2 (by rfl) T.z_min boot_min (da_cons (de_var (pv 0)) (da_cons (de_var (pv 1)) da_nil))) (da_cons (de_callA (call_max2 rfl) as_max2 (by rfl) T.z_max boot_max (da_cons (de_var (pv 0)) (da_cons (de_var (pv 1)) da_nil))) da_nil))) (de_var (pv 2)) (by with_unfolding_all rfl))))
theorem ok11 (T : Top K mg fa fd) (G : Gs P w K mg base fa fd k cl) : FnOk P w K mg base CX0 (k + 1) (fa 11) (fd 11) ["row", "part", "meets"] (spD K 3 (fn11 cl)) :=
  fn_ok T.F11 sc11 fun cdv A outer s H E hr => (dss_cons (ds_for PassesOwn.never rfl (di_down (by rfl) T.z_range (da_cons (de_op op_sub os_sub (de_call1 call_len_seq us_len (by rfl) T.z_len boot_len (de_var (pv 0))) de_int) (da_cons (de_un un_neg us_neg de_int) (da_cons (de_un un_neg us_neg de_int) da_nil)))) (dg_name (pg_name sc11.nd rfl (by first | exact Or.inl rfl | exact Or.inr rfl))) (dss_cons (ds_if (dt_cmp (op_eqD (room64 hr)) os_eq (de_ix ix_A os_ix (de_ix ix_A os_ix (de_var (pv 0)) (de_var (pv 3)) (fun _ _ => rfl)) de_int (fun _ _ => rfl)) (de_var (pv 1)) (nomark _)) (dss_one (ds_ret (de_var (pv 3)))) dss_nil)
    (dss_one (ds_if (dt_not (dt_tru (de_call G.c10 hr (by rfl) T.g10 T.F10.kp T.b10 (dr_val (de_ix ix_A os_ix (de_ix ix_A os_ix (de_var (pv 0)) (de_var (pv 3)) (fun _ _ => rfl)) de_int (fun _ _ => rfl)) (dr_val (de_var (pv 1)) (dr_val (de_var (pv 2)) dr_nil))) (rl_val (rl_val (rl_val (rl_nil rfl))))))) (dss_one (ds_ret de_non)) dss_nil))))
    (dss_one (ds_ret de_non)))
theorem ok12 (T : Top K mg fa fd) (G : Gs P w K mg base fa fd k cl) : FnOk P w K mg base CX0 (k + 1) (fa 12) (fd 12) ["row", "meets"] (spD K 2 (fn12 cl)) :=
  fn_ok T.F12 sc12 fun cdv A outer s H E hr => (dss_cons (ds_set (fun te h => ps_set sc12.nd rfl (by first | exact Or.inl rfl | exact Or.inr rfl) h) (de_lst da_nil))
    (dss_cons (ds_for PassesOwn.never rfl (di_seq (de_var (pv 0))) (dg_seq rfl (dgs_cons (dg_name (pg_name sc12.nd rfl (by first | exact Or.inl rfl | exact Or.inr rfl))) (dgs_cons (dg_name (pg_name sc12.nd rfl (by first | exact Or.inl rfl | exact Or.inr rfl))) dgs_nil))) (dss_cons (ds_set (fun te h => ps_set sc12.nd rfl (by first | exact Or.inl rfl | exact Or.inr rfl) h) (de_call G.c11 hr (by rfl) T.g11 T.F11.kp T.b11 (dr_slot (pv 2) (dr_val (de_var (pv 3)) (dr_val (de_var (pv 1)) dr_nil))) (rl_slot (rl_val (rl_val (rl_nil rfl))))))
    (dss_cons (ds_if (dt_cmp op_isN os_is (de_var (pv 5)) de_non (nomark _)) (dss_one (ds_par (fun ta h => ps_par rfl sc12.nd rfl rfl (by decide) rfl rfl h (by rfl)) (de_call1 call_len_seq us_len (by rfl) T.z_len boot_len (de_var (pv 2))) (de_const (by rfl) T.m_ZERO))) (dss_one (ds_set (fun te h => ps_set sc12.nd rfl (by first | exact Or.inl rfl | exact Or.inr rfl) h) (de_ix ix_A os_ix (de_ix ix_A os_ix (de_var (pv 2)) (de_var (pv 5)) (fun _ _ => rfl)) de_int (fun _ _ => rfl)))))
    (dss_cons (ds_set (fun te h => ps_set sc12.nd rfl (by first | exact Or.inl rfl | exact Or.inr rfl) h) (de_call G.c8 hr (by rfl) T.g8 T.F8.kp T.b8 (dr_val (de_var (pv 6)) (dr_val (de_var (pv 4)) dr_nil)) (rl_val (rl_val (rl_nil rfl)))))
    (dss_one (ds_slx (fun te ta tc h h1 h2 => ps_asg h (pg_slx (pv 2) h1 h2)) (de_if (dt_tru (de_ix ix_A os_ix (de_var (pv 7)) de_int (fun _ _ => rfl))) (de_lst (da_cons (de_tup (da_cons (de_var (pv 3)) (da_cons (de_var (pv 7)) da_nil))) da_nil)) (de_lst da_nil)) (do_some (de_var (pv 5))) (do_some (de_op op_addA os_add (de_var (pv 5)) de_int))))))))
    (dss_one (ds_ret (de_var (pv 2))))))
theorem ok13 (T : Top K mg fa fd) (G : Gs P w K mg base fa fd k cl) : FnOk P w K mg base CX0 (k + 1) (fa 13) (fd 13) ["row"] (spD K 1 (fn13 cl)) :=
  fn_ok T.F13 sc13 fun cdv A outer s H E hr => (dss_one (ds_ret (de_callT1 call_tuple_of us_tuple (by rfl) T.z_tuple boot_tuple (de_call G.c12 hr (by rfl) T.g12 T.F12.kp T.b12 (dr_val (de_var (pv 0)) (dr_val (de_tup da_nil) dr_nil)) (rl_val (rl_val (rl_nil rfl)))))))
theorem ok14 (T : Top K mg fa fd) (G : Gs P w K mg base fa fd k cl) : FnOk P w K mg base CX0 (k + 1) (fa 14) (fd 14) ["row", "other"] (spD K 2 (fn14 cl)) :=
  fn_ok T.F14 sc14 fun cdv A outer s H E hr => (dss_one (ds_ret (de_cmp (op_eqD (room64 hr)) os_eq (de_call G.c13 hr (by rfl) T.g13 T.F13.kp T.b13 (dr_val (de_var (pv 0)) dr_nil) (rl_val (rl_nil rfl))) (de_call G.c13 hr (by rfl) T.g13 T.F13.kp T.b13 (dr_val (de_var (pv 1)) dr_nil) (rl_val (rl_nil rfl))) (nomark _))))
theorem ok15 (T : Top K mg fa fd) (G : Gs P w K mg base fa fd k cl) : FnOk P w K mg base CX0 (k + 1) (fa 15) (fd 15) ["parts", "meets"] (spD K 2 (fn15 cl)) :=
  fn_ok T.F15 sc15 fun cdv A outer s H E hr => (dss_one (ds_ret (de_lc rfl sc15.nd (di_enum (by rfl) T.z_enumerate (da_cons (de_var (pv 0)) da_nil)) (own := [("at", 2), ("part", 3)]) (blkOk_by (by kernel_rfl)) (fun _ _ _ _ _ => (dg_tup rfl (dgs_cons (dg_name (pg_name sc15.nd rfl (by first | exact Or.inl rfl | exact Or.inr rfl))) (dgs_cons (dg_name (pg_name sc15.nd rfl (by first | exact Or.inl rfl | exact Or.inr rfl))) dgs_nil)))) (fun _ _ _ _ _ => (dts_one (dt_tru (de_call1 (cr_all rfl) us_all (by rfl) T.z_all boot_all (de_lc rfl sc15.nd (di_seq (de_sl (de_var (pv 0)) do_none (do_some (de_var (pv 2))))) (own := [("ahead", 4)]) (blkOk_by (by kernel_rfl)) (fun _ _ _ _ _ => (dg_name (pg_name sc15.nd rfl (by first | exact Or.inl rfl | exact Or.inr rfl)))) (fun _ _ _ _ _ => dts_nil) (fun _ _ _ _ _ => (de_call G.c10 hr (by rfl) T.g10 T.F10.kp T.b10 (dr_val (de_var (pv 3)) (dr_val (de_var (pv 4)) (dr_val (de_var (pv 1)) dr_nil))) (rl_val (rl_val (rl_val (rl_nil rfl)))))) (by decide)))))) (fun _ _ _ _ _ => (de_var (pv 2))) (by decide))))
theorem ok16 (T : Top K mg fa fd) (G : Gs P w K mg base fa fd k cl) : FnOk P w K mg base CX0 (k + 1) (fa 16) (fd 16) ["parts", "meets"] (spD K 2 (fn16 cl)) :=
  fn_ok T.F16 sc16 fun cdv A outer s H E hr => (dss_cons (ds_par (fun ta h => ps_par rfl sc16.nd rfl rfl (by decide) rfl rfl h (by rfl)) (de_lrng rfl (by rfl) T.z_list (by rfl) T.z_range (de_call1 call_len_seq us_len (by rfl) T.z_len boot_len (de_var (pv 0)))) (de_lst da_nil))
    (dss_cons (ds_while (n := 64) PassesOwn.never (dt_tru (de_var (pv 2))) (dss_cons (ds_set (fun te h => ps_set sc16.nd rfl (by first | exact Or.inl rfl | exact Or.inr rfl) h) (de_lcB rfl sc16.nd (pv 2) (own := [("place", 7)]) (blkOk_by (by kernel_rfl)) (fun _ _ _ _ _ => (dg_name (pg_name sc16.nd rfl (by first | exact Or.inl rfl | exact Or.inr rfl)))) (fun _ _ _ _ _ => dts_nil) (fun _ _ _ _ _ => (de_ix ix_A os_ix (de_var (pv 0)) (de_var (pv 7)) (fun _ _ => rfl))) (by decide)))
    (dss_cons (ds_asgG (fun te g h1 h2 => ps_asg h1 h2) (de_call1 (cr_minD rfl (room70 hr)) us_minL (by rfl) T.z_min boot_min (de_lc rfl sc16.nd (di_seq (de_call G.c15 hr (by rfl) T.g15 T.F15.kp T.b15 (dr_val (de_var (pv 4)) (dr_val (de_var (pv 1)) dr_nil)) (rl_val (rl_val (rl_nil rfl))))) (own := [("place", 7)]) (blkOk_by (by kernel_rfl)) (fun _ _ _ _ _ => (dg_name (pg_name sc16.nd rfl (by first | exact Or.inl rfl | exact Or.inr rfl)))) (fun _ _ _ _ _ => dts_nil) (fun _ _ _ _ _ => (de_tup (da_cons (de_ix ix_A os_ix (de_var (pv 4)) (de_var (pv 7)) (fun _ _ => rfl)) (da_cons (de_var (pv 7)) da_nil)))) (by decide))) (dg_tup rfl (dgs_cons (dg_name (pg_name sc16.nd rfl (by first | exact Or.inl rfl | exact Or.inr rfl))) (dgs_cons (dg_name (pg_name sc16.nd rfl (by first | exact Or.inl rfl | exact Or.inr rfl))) dgs_nil))))
    (dss_one (ds_expr (de_app (fun t h => pe_bm PySem.F.plainAttrs_list PySem.F.slot_list_append PySem.F.type_list_append mt_append (pv 3) h) (de_popAt (fun t h => pe_bm PySem.F.plainAttrs_list PySem.F.slot_list_pop PySem.F.type_list_pop mt_popAt (pv 2) h) (de_var (pv 6)))))))))
    (dss_one (ds_ret (de_var (pv 3))))))
theorem ok17 (T : Top K mg fa fd) (G : Gs P w K mg base fa fd k cl) : FnOk P w K mg base CX0 (k + 1) (fa 17) (fd 17) ["row"] (spD K 1 (fn17 cl)) :=
  fn_ok T.F17 sc17 fun cdv A outer s H E hr => (dss_one (ds_ret (de_lc rfl sc17.nd (di_seq (de_var (pv 0))) (own := [("part", 1), ("x", 2)]) (blkOk_by (by kernel_rfl)) (fun _ _ _ _ _ => (dg_seq rfl (dgs_cons (dg_name (pg_name sc17.nd rfl (by first | exact Or.inl rfl | exact Or.inr rfl))) (dgs_cons (dg_name (pg_name sc17.nd rfl (by first | exact Or.inl rfl | exact Or.inr rfl))) dgs_nil)))) (fun _ _ _ _ _ => dts_nil) (fun _ _ _ _ _ => (de_var (pv 1))) (by decide))))
theorem ok18 (T : Top K mg fa fd) (G : Gs P w K mg base fa fd k cl) : FnOk P w K mg base CX0 (k + 1) (fa 18) (fd 18) ["row", "meets"] (spD K 2 (fn18 cl)) :=
  fn_ok T.F18 sc18 fun cdv A outer s H E hr => (dss_cons (ds_set (fun te h => ps_set sc18.nd rfl (by first | exact Or.inl rfl | exact Or.inr rfl) h) (de_call G.c4 hr (by rfl) T.g4 T.F4.kp T.b4 (dr_val (de_var (pv 1)) dr_nil) (rl_val (rl_nil rfl))))
    (dss_cons (ds_set (fun te h => ps_set sc18.nd rfl (by first | exact Or.inl rfl | exact Or.inr rfl) h) (de_call G.c12 hr (by rfl) T.g12 T.F12.kp T.b12 (dr_val (de_var (pv 0)) (dr_val (de_var (pv 1)) dr_nil)) (rl_val (rl_val (rl_nil rfl)))))
    (dss_one (ds_ret (de_callT1 call_tuple_of us_tuple (by rfl) T.z_tuple boot_tuple (de_lc rfl sc18.nd (di_seq (de_call G.c16 hr (by rfl) T.g16 T.F16.kp T.b16 (dr_val (de_call G.c17 hr (by rfl) T.g17 T.F17.kp T.b17 (dr_val (de_var (pv 2)) dr_nil) (rl_val (rl_nil rfl))) (dr_val (de_var (pv 1)) dr_nil)) (rl_val (rl_val (rl_nil rfl))))) (own := [("at", 3)]) (blkOk_by (by kernel_rfl)) (fun _ _ _ _ _ => (dg_name (pg_name sc18.nd rfl (by first | exact Or.inl rfl | exact Or.inr rfl)))) (fun _ _ _ _ _ => dts_nil) (fun _ _ _ _ _ => (de_ix ix_A os_ix (de_var (pv 2)) (de_var (pv 3)) (fun _ _ => rfl))) (by decide)))))))
theorem ok19 (T : Top K mg fa fd) (G : Gs P w K mg base fa fd k cl) : FnOk P w K mg base CX0 (k + 1) (fa 19) (fd 19) ["row", "other", "meets"] (spD K 3 (fn19 cl)) :=
  fn_ok T.F19 sc19 fun cdv A outer s H E hr => (dss_one (ds_ret (de_cmp (op_eqD (room64 hr)) os_eq (de_call G.c18 hr (by rfl) T.g18 T.F18.kp T.b18 (dr_val (de_var (pv 0)) (dr_val (de_var (pv 2)) dr_nil)) (rl_val (rl_val (rl_nil rfl)))) (de_call G.c18 hr (by rfl) T.g18 T.F18.kp T.b18 (dr_val (de_var (pv 1)) (dr_val (de_var (pv 2)) dr_nil)) (rl_val (rl_val (rl_nil rfl)))) (nomark _))))
theorem ok21 (T : Top K mg fa fd) (G : Gs P w K mg base fa fd k cl) : FnOk P w K mg base CX0 (k + 1) (fa 21) (fd 21) ["script", "k"] (spD K 2 (fn21 cl)) :=
  fn_ok T.F21 sc21 fun cdv A outer s H E hr => (dss_cons (ds_set (fun te h => ps_set sc21.nd rfl (by first | exact Or.inl rfl | exact Or.inr rfl) h) (de_if (dt_cmp op_lt os_cmpI (de_var (pv 1)) (de_call1 call_len_seq us_len (by rfl) T.z_len boot_len (de_var (pv 0))) (nomark _)) (de_ix ix_A os_ix (de_var (pv 0)) (de_var (pv 1)) (fun _ _ => rfl)) de_int))
    (dss_one (ds_ret (de_lst (da_cons (de_op op_mulA os_mul (de_call1 call_abs us_abs (by rfl) T.z_abs boot_abs (de_var (pv 2))) (de_callT1 call_int1 us_int (by rfl) T.z_int boot_int (de_cmp op_ge os_cmpI (de_call1 call_abs us_abs (by rfl) T.z_abs boot_abs (de_var (pv 2))) (de_op op_pow os_pow de_int de_int) (nomark _)))) (da_cons (de_op op_addA os_add (de_op op_addA os_add (de_op op_mod os_mod (de_callT1 call_int1 us_int (by rfl) T.z_int boot_int (de_var (pv 2))) de_int) (de_op op_mulA os_mul de_int (de_var (pv 1)))) de_int) (da_cons de_int da_nil)))))))
theorem ok22 (T : Top K mg fa fd) (G : Gs P w K mg base fa fd k cl) : FnOk P w K mg base CX0 (k + 1) (fa 22) (fd 22) ["urn", "low_so"] (spD K 2 (fn22 cl)) :=
  fn_ok T.F22 sc22 fun cdv A outer s H E hr => (dss_cons (ds_if (dt_cmp op_gt os_cmpI (de_ix ix_A os_ix (de_var (pv 0)) de_int (fun _ _ => rfl)) de_int (nomark _)) (dss_cons (ds_set (fun te h => ps_set sc22.nd rfl (by first | exact Or.inl rfl | exact Or.inr rfl) h) (de_op op_mod os_mod (de_callT1 call_int1 us_int (by rfl) T.z_int boot_int (de_ix ix_A os_ix (de_var (pv 0)) de_int (fun _ _ => rfl))) (de_var (pv 1))))
    (dss_cons (ds_store (fun te tk h1 h2 => ps_asg h1 (pg_sub (pv 0) h2 set_list)) (de_op op_fdivW os_div (de_ix ix_A os_ix (de_var (pv 0)) de_int (fun _ _ => rfl)) (de_var (pv 1))) de_int)
    (dss_one (ds_ret (de_var (pv 2)))))) dss_nil)
    (dss_cons (ds_store (fun te tk h1 h2 => ps_asg h1 (pg_sub (pv 0) h2 set_list)) (de_op op_addA os_add (de_ix ix_A os_ix (de_var (pv 0)) de_int (fun _ _ => rfl)) de_int) de_int)
    (dss_cons (ds_set (fun te h => ps_set sc22.nd rfl (by first | exact Or.inl rfl | exact Or.inr rfl) h) (de_op op_mod os_mod (de_callT1 call_int1 us_int (by rfl) T.z_int boot_int (de_op op_mulA os_mul (de_op op_addA os_add (de_ix ix_A os_ix (de_var (pv 0)) de_int (fun _ _ => rfl)) (de_op op_mulA os_mul de_int (de_ix ix_A os_ix (de_var (pv 0)) de_int (fun _ _ => rfl)))) (de_op op_addA os_add de_int (de_ix ix_A os_ix (de_var (pv 0)) de_int (fun _ _ => rfl))))) de_int))
    (dss_cons (ds_set (fun te h => ps_set sc22.nd rfl (by first | exact Or.inl rfl | exact Or.inr rfl) h) (de_op op_addA os_add (de_op op_mod os_mod (de_callT1 call_int1 us_int (by rfl) T.z_int boot_int (de_var (pv 3))) de_int) de_int))
    (dss_cons (ds_set (fun te h => ps_set sc22.nd rfl (by first | exact Or.inl rfl | exact Or.inr rfl) h) (de_op op_mod os_mod (de_callT1 call_int1 us_int (by rfl) T.z_int boot_int (de_op op_mulA os_mul (de_op op_addA os_add (de_op op_addA os_add (de_var (pv 3)) (de_ix ix_A os_ix (de_var (pv 0)) de_int (fun _ _ => rfl))) (de_op op_fdivW os_div (de_ix ix_A os_ix (de_var (pv 0)) de_int (fun _ _ => rfl)) de_int)) (de_var (pv 4)))) de_int))
    (dss_one (ds_ret (de_op op_mod os_mod (de_callT1 call_int1 us_int (by rfl) T.z_int boot_int (de_op op_fdivW os_div (de_op op_mod os_mod (de_callT1 call_int1 us_int (by rfl) T.z_int boot_int (de_op op_addA os_add (de_op op_mulA os_mul (de_var (pv 5)) de_int) (de_var (pv 3)))) de_int) de_int)) (de_var (pv 1))))))))))
theorem ok23 (T : Top K mg fa fd) (G : Gs P w K mg base fa fd k cl) : FnOk P w K mg base CX0 (k + 1) (fa 23) (fd 23) ["script", "roof_so"] (spD K 2 (fn23 cl)) :=
  fn_ok T.F23 sc23 fun cdv A outer s H E hr => (dss_cons (ds_set (fun te h => ps_set sc23.nd rfl (by first | exact Or.inl rfl | exact Or.inr rfl) h) (de_or (de_callT1 call_list_of us_list (by rfl) T.z_list boot_list (de_sl (de_var (pv 0)) do_none (do_some (de_var (pv 1))))) (de_one (de_lst (da_cons de_int da_nil)))))
    (dss_cons (ds_for PassesOwn.never rfl (di_enum (by rfl) T.z_enumerate (da_cons (de_sl (de_var (pv 0)) (do_some (de_var (pv 1))) (do_some de_int)) da_nil)) (dg_tup rfl (dgs_cons (dg_name (pg_name sc23.nd rfl (by first | exact Or.inl rfl | exact Or.inr rfl))) (dgs_cons (dg_name (pg_name sc23.nd rfl (by first | exact Or.inl rfl | exact Or.inr rfl))) dgs_nil))) (dss_cons (ds_set (fun te h => ps_set sc23.nd rfl (by first | exact Or.inl rfl | exact Or.inr rfl) h) (de_op op_mod os_mod (de_callT1 call_int1 us_int (by rfl) T.z_int boot_int (de_var (pv 3))) (de_var (pv 1))))
    (dss_one (ds_store (fun te tk h1 h2 => ps_asg h1 (pg_sub (pv 2) h2 set_list)) (de_op op_addA os_add (de_ix ix_A os_ix (de_var (pv 2)) (de_var (pv 5)) (fun _ _ => rfl)) (de_op op_mulA os_mul (de_var (pv 4)) (de_op op_addA os_add (de_var (pv 3)) de_int))) (de_var (pv 5))))))
    (dss_one (ds_ret (de_var (pv 2))))))
theorem ok24 (T : Top K mg fa fd) (G : Gs P w K mg base fa fd k cl) : FnOk P w K mg base CX0 (k + 1) (fa 24) (fd 24) ["near", "due"] (spD K 2 (fn24 cl)) :=
  fn_ok T.F24 sc24 fun cdv A outer s H E hr => (dss_cons (ds_if (dt_tru (de_isi2 (t := Ty.list) (u := Ty.tuple) (by rfl) T.z_isinstance boot_isinstance (de_var (pv 1)) (pe_bltn (by rfl) T.z_list boot_list rfl) (pe_bltn (by rfl) T.z_tuple boot_tuple rfl))) (dss_cons (ds_if (dt_cmp (op_neD (room64 hr)) os_ne (de_isi (t := Ty.list) (by rfl) T.z_isinstance boot_isinstance (de_var (pv 0)) (pe_bltn (by rfl) T.z_list boot_list rfl)) (de_isi (t := Ty.list) (by rfl) T.z_isinstance boot_isinstance (de_var (pv 1)) (pe_bltn (by rfl) T.z_list boot_list rfl)) (nomark _)) (dss_one (ds_ret de_bl)) dss_nil)
    (dss_cons (ds_if (dt_cmp (op_neD (room64 hr)) os_ne (de_isi (t := Ty.tuple) (by rfl) T.z_isinstance boot_isinstance (de_var (pv 0)) (pe_bltn (by rfl) T.z_tuple boot_tuple rfl)) (de_isi (t := Ty.tuple) (by rfl) T.z_isinstance boot_isinstance (de_var (pv 1)) (pe_bltn (by rfl) T.z_tuple boot_tuple rfl)) (nomark _)) (dss_one (ds_ret de_bl)) dss_nil)
    (dss_cons (ds_if (dt_not (dt_cmp (op_eqD (room64 hr)) os_eq (de_call1 call_len_seq us_len (by rfl) T.z_len boot_len (de_var (pv 0))) (de_call1 call_len_seq us_len (by rfl) T.z_len boot_len (de_var (pv 1))) (nomark _))) (dss_one (ds_ret de_bl)) dss_nil)
    (dss_one (ds_ret (de_call1 (cr_all rfl) us_all (by rfl) T.z_all boot_all (de_lc rfl sc24.nd (di_zip (by rfl) T.z_zip (da_cons (de_var (pv 0)) (da_cons (de_var (pv 1)) da_nil))) (own := [("far", 2), ("own", 3)]) (blkOk_by (by kernel_rfl)) (fun _ _ _ _ _ => (dg_tup rfl (dgs_cons (dg_name (pg_name sc24.nd rfl (by first | exact Or.inl rfl | exact Or.inr rfl))) (dgs_cons (dg_name (pg_name sc24.nd rfl (by first | exact Or.inl rfl | exact Or.inr rfl))) dgs_nil)))) (fun _ _ _ _ _ => dts_nil) (fun _ _ _ _ _ => (de_call G.c24 hr (by rfl) T.g24 T.F24.kp T.b24 (dr_val (de_var (pv 2)) (dr_val (de_var (pv 3)) dr_nil)) (rl_val (rl_val (rl_nil rfl))))) (by decide)))))))) dss_nil)
    (dss_cons (ds_if (dt_w (dw_or (dt_cmp op_isN os_is (de_var (pv 1)) de_non (nomark _)) (dw_or1 (dt_tru (de_isi2 (t := Ty.bool) (u := Ty.str) (by rfl) T.z_isinstance boot_isinstance (de_var (pv 1)) (pe_bltn (by rfl) T.z_bool boot_bool rfl) (pe_bltn (by rfl) T.z_str boot_str rfl)))))) (dss_cons (ds_if (dt_not (dt_cmp (op_eqD (room64 hr)) os_eq (de_var (pv 0)) (de_var (pv 1)) (nomark _))) (dss_one (ds_ret de_bl)) dss_nil)
    (dss_cons (ds_if (dt_not (dt_cmp (op_eqD (room64 hr)) os_eq (de_isi (t := Ty.bool) (by rfl) T.z_isinstance boot_isinstance (de_var (pv 0)) (pe_bltn (by rfl) T.z_bool boot_bool rfl)) (de_isi (t := Ty.bool) (by rfl) T.z_isinstance boot_isinstance (de_var (pv 1)) (pe_bltn (by rfl) T.z_bool boot_bool rfl)) (nomark _))) (dss_one (ds_ret de_bl)) dss_nil)
    (dss_one (ds_ret (de_cmp (op_eqD (room64 hr)) os_eq (de_cmp op_isN os_is (de_var (pv 0)) de_non (nomark _)) (de_cmp op_isN os_is (de_var (pv 1)) de_non (nomark _)) (nomark _)))))) dss_nil)
    (dss_one (ds_ret (de_and (de_isi (t := Ty.int) (by rfl) T.z_isinstance boot_isinstance (de_var (pv 0)) (pe_bltn (by rfl) T.z_int boot_int rfl)) (de_and (de_not (de_isi (t := Ty.bool) (by rfl) T.z_isinstance boot_isinstance (de_var (pv 0)) (pe_bltn (by rfl) T.z_bool boot_bool rfl))) (de_one (de_cmp (op_eqD (room64 hr)) os_eq (de_var (pv 0)) (de_var (pv 1)) (nomark _)))))))))
theorem ok25 (T : Top K mg fa fd) (G : Gs P w K mg base fa fd k cl) : FnOk P w K mg base CX0 (k + 1) (fa 25) (fd 25) ["top_so", "down_so"] (spD K 2 (fn25 cl)) :=
  fn_ok T.F25 sc25 fun cdv A outer s H E hr => (dss_cons (ds_par (fun ta h => ps_par rfl sc25.nd rfl rfl (by decide) rfl rfl h (by rfl)) (de_call1 call_abs us_abs (by rfl) T.z_abs boot_abs (de_var (pv 0))) (de_call1 call_abs us_abs (by rfl) T.z_abs boot_abs (de_var (pv 1))))
    (dss_cons (ds_while (n := 64) PassesOwn.never (dt_cmp op_gt os_cmpI (de_var (pv 3)) de_int (nomark _)) (dss_one (ds_par (fun ta h => ps_par rfl sc25.nd rfl rfl (by decide) rfl rfl h (by rfl)) (de_var (pv 3)) (de_op op_mod os_mod (de_callT1 call_int1 us_int (by rfl) T.z_int boot_int (de_var (pv 2))) (de_var (pv 3))))))
    (dss_cons (ds_if (dt_cmp op_lt os_cmpI (de_var (pv 1)) de_int (nomark _)) (dss_one (ds_set (fun te h => ps_set sc25.nd rfl (by first | exact Or.inl rfl | exact Or.inr rfl) h) (de_op op_sub os_sub de_int (de_var (pv 2))))) dss_nil)
    (dss_one (ds_ret (de_tup (da_cons (de_op op_fdivW os_div (de_var (pv 0)) (de_var (pv 2))) (da_cons (de_op op_fdivW os_div (de_var (pv 1)) (de_var (pv 2))) da_nil))))))))
theorem ok26 (T : Top K mg fa fd) (G : Gs P w K mg base fa fd k cl) : FnOk P w K mg base CX0 (k + 1) (fa 26) (fd 26) ["own", "far"] (spD K 2 (fn26 cl)) :=
  fn_ok T.F26 sc26 fun cdv A outer s H E hr => (dss_one (ds_ret (de_call G.c25 hr (by rfl) T.g25 T.F25.kp T.b25 (dr_val (de_op op_addA os_add (de_op op_mulA os_mul (de_ix ix_A os_ix (de_var (pv 0)) de_int (fun _ _ => rfl)) (de_ix ix_A os_ix (de_var (pv 1)) de_int (fun _ _ => rfl))) (de_op op_mulA os_mul (de_ix ix_A os_ix (de_var (pv 1)) de_int (fun _ _ => rfl)) (de_ix ix_A os_ix (de_var (pv 0)) de_int (fun _ _ => rfl)))) (dr_val (de_op op_mulA os_mul (de_ix ix_A os_ix (de_var (pv 0)) de_int (fun _ _ => rfl)) (de_ix ix_A os_ix (de_var (pv 1)) de_int (fun _ _ => rfl))) dr_nil)) (rl_val (rl_val (rl_nil rfl))))))
theorem ok27 (T : Top K mg fa fd) (G : Gs P w K mg base fa fd k cl) : FnOk P w K mg base CX0 (k + 1) (fa 27) (fd 27) ["urn"] (spD K 1 (fn27 cl)) :=
  fn_ok T.F27 sc27 fun cdv A outer s H E hr => (dss_one (ds_ret (de_ix ix_A os_ix (de_tup (da_cons (de_tup (da_cons de_int (da_cons de_int da_nil))) (da_cons (de_tup (da_cons (de_un un_neg us_neg de_int) (da_cons de_int da_nil))) (da_cons (de_tup (da_cons de_int (da_cons de_int da_nil))) (da_cons (de_tup (da_cons (de_un un_neg us_neg de_int) (da_cons de_int da_nil))) (da_cons (de_tup (da_cons de_int (da_cons de_int da_nil))) (da_cons (de_tup (da_cons de_int (da_cons de_int da_nil))) (da_cons (de_tup (da_cons (de_un un_neg us_neg de_int) (da_cons de_int da_nil))) (da_cons (de_tup (da_cons de_int (da_cons de_int da_nil))) (da_cons (de_tup (da_cons (de_un un_neg us_neg de_int) (da_cons de_int da_nil))) (da_cons (de_tup (da_cons de_int (da_cons de_int da_nil))) da_nil))))))))))) (de_call G.c22 hr (by rfl) T.g22 T.F22.kp T.b22 (dr_slot (pv 0) (dr_val de_int dr_nil)) (rl_slot (rl_val (rl_nil rfl)))) (fun _ _ => rfl))))
theorem ok28 (T : Top K mg fa fd) (G : Gs P w K mg base fa fd k cl) : FnOk P w K mg base CX0 (k + 1) (fa 28) (fd 28) ["urn", "wide_so", "most_so"] (spD K 3 (fn28 cl)) :=
  fn_ok T.F28 sc28 fun cdv A outer s H E hr => (dss_one (ds_ret (de_callT1 call_tuple_of us_tuple (by rfl) T.z_tuple boot_tuple (de_lc rfl sc28.nd (di_rng1 (by rfl) T.z_range (da_cons (de_call G.c22 hr (by rfl) T.g22 T.F22.kp T.b22 (dr_slot (pv 0) (dr_val (de_op op_addA os_add (de_var (pv 2)) de_int) dr_nil)) (rl_slot (rl_val (rl_nil rfl)))) da_nil)) (own := [("k", 3)]) (blkOk_by (by kernel_rfl)) (fun _ _ _ _ _ => (dg_name (pg_name sc28.nd rfl (by first | exact Or.inl rfl | exact Or.inr rfl)))) (fun _ _ _ _ _ => dts_nil) (fun _ _ _ _ _ => (de_tup (da_cons (de_call G.c22 hr (by rfl) T.g22 T.F22.kp T.b22 (dr_slot (pv 0) (dr_val (de_var (pv 1)) dr_nil)) (rl_slot (rl_val (rl_nil rfl)))) (da_cons (de_call G.c27 hr (by rfl) T.g27 T.F27.kp T.b27 (dr_slot (pv 0) dr_nil) (rl_slot (rl_nil rfl))) da_nil)))) (by decide)))))
theorem ok29 (T : Top K mg fa fd) (G : Gs P w K mg base fa fd k cl) : FnOk P w K mg base CX0 (k + 1) (fa 29) (fd 29) ["flows_so"] (spD K 1 (fn29 cl)) :=
  fn_ok T.F29 sc29 fun cdv A outer s H E hr => (dss_one (ds_ret (de_callT1 call_tuple_of us_tuple (by rfl) T.z_tuple boot_tuple (de_lc rfl sc29.nd (di_seq (de_rev (de_var (pv 0)))) (own := [("one_so", 1), ("far", 2)]) (blkOk_by (by kernel_rfl)) (fun _ _ _ _ _ => (dg_seq rfl (dgs_cons (dg_name (pg_name sc29.nd rfl (by first | exact Or.inl rfl | exact Or.inr rfl))) (dgs_cons (dg_name (pg_name sc29.nd rfl (by first | exact Or.inl rfl | exact Or.inr rfl))) dgs_nil)))) (fun _ _ _ _ _ => dts_nil) (fun _ _ _ _ _ => (de_tup (da_cons (de_var (pv 1)) (da_cons (de_tup (da_cons (de_op op_sub os_sub de_int (de_ix ix_A os_ix (de_var (pv 2)) de_int (fun _ _ => rfl))) (da_cons (de_ix ix_A os_ix (de_var (pv 2)) de_int (fun _ _ => rfl)) da_nil))) da_nil)))) (by decide)))))
theorem ok30 (T : Top K mg fa fd) (G : Gs P w K mg base fa fd k cl) : FnOk P w K mg base CX0 (k + 1) (fa 30) (fd 30) ["one_so", "two_so", "lets_so"] (spD K 3 (fn30 cl)) :=
  fn_ok T.F30 sc30 fun cdv A outer s H E hr => (dss_one (ds_ret (de_cmp (op_inB (room65 hr)) (os_inB false) (de_tup (da_cons (de_callA (call_min2 rfl) as_min2 (by rfl) T.z_min boot_min (da_cons (de_var (pv 0)) (da_cons (de_var (pv 1)) da_nil))) (da_cons (de_callA (call_max2 rfl) as_max2 (by rfl) T.z_max boot_max (da_cons (de_var (pv 0)) (da_cons (de_var (pv 1)) da_nil))) da_nil))) (de_var (pv 2)) (by with_unfolding_all rfl))))
theorem ok31 (T : Top K mg fa fd) (G : Gs P w K mg base fa fd k cl) : FnOk P w K mg base CX0 (k + 1) (fa 31) (fd 31) ["urn", "wide_so"] (spD K 2 (fn31 cl)) :=
  fn_ok T.F31 sc31 fun cdv A outer s H E hr => (dss_cons (ds_set (fun te h => ps_set sc31.nd rfl (by first | exact Or.inl rfl | exact Or.inr rfl) h) (de_lst da_nil))
    (dss_cons (ds_for PassesOwn.never rfl (di_rng1 (by rfl) T.z_range (da_cons (de_var (pv 1)) da_nil)) (dg_name (pg_name sc31.nd rfl (by first | exact Or.inl rfl | exact Or.inr rfl))) (dss_one (ds_set (fun te h => ps_set sc31.nd rfl (by first | exact Or.inl rfl | exact Or.inr rfl) h) (de_op op_addA os_add (de_var (pv 2)) (de_lc rfl sc31.nd (di_rng2 (by rfl) T.z_range (da_cons (de_op op_addA os_add (de_var (pv 3)) de_int) (da_cons (de_var (pv 1)) da_nil))) (own := [("k", 4)]) (blkOk_by (by kernel_rfl)) (fun _ _ _ _ _ => (dg_name (pg_name sc31.nd rfl (by first | exact Or.inl rfl | exact Or.inr rfl)))) (fun _ _ _ _ _ => (dts_one (dt_cmp (op_eqD (room64 hr)) os_eq (de_call G.c22 hr (by rfl) T.g22 T.F22.kp T.b22 (dr_slot (pv 0) (dr_val de_int dr_nil)) (rl_slot (rl_val (rl_nil rfl)))) de_int (nomark _)))) (fun _ _ _ _ _ => (de_tup (da_cons (de_var (pv 3)) (da_cons (de_var (pv 4)) da_nil)))) (by decide))))))
    (dss_one (ds_ret (de_callT1 call_tuple_of us_tuple (by rfl) T.z_tuple boot_tuple (de_var (pv 2)))))))
theorem ok32 (T : Top K mg fa fd) (G : Gs P w K mg base fa fd k cl) : FnOk P w K mg base CX0 (k + 1) (fa 32) (fd 32) ["flows_so", "lets_so"] (spD K 2 (fn32 cl)) :=
  fn_ok T.F32 sc32 fun cdv A outer s H E hr => (dss_cons (ds_set (fun te h => ps_set sc32.nd rfl (by first | exact Or.inl rfl | exact Or.inr rfl) h) (de_lst da_nil))
    (dss_cons (ds_for PassesOwn.never rfl (di_rng1 (by rfl) T.z_range (da_cons (de_call1 call_len_seq us_len (by rfl) T.z_len boot_len (de_var (pv 0))) da_nil)) (dg_name (pg_name sc32.nd rfl (by first | exact Or.inl rfl | exact Or.inr rfl))) (dss_cons (ds_if (dt_cmp (op_eqD (room64 hr)) os_eq (de_ix ix_A os_ix (de_ix ix_A os_ix (de_ix ix_A os_ix (de_var (pv 0)) (de_var (pv 3)) (fun _ _ => rfl)) de_int (fun _ _ => rfl)) de_int (fun _ _ => rfl)) de_int (nomark _)) (dss_one (ds_expr (de_app (fun t h => pe_bm PySem.F.plainAttrs_list PySem.F.slot_list_append PySem.F.type_list_append mt_append (pv 2) h) (de_op op_addA os_add (de_sl (de_var (pv 0)) do_none (do_some (de_var (pv 3)))) (de_sl (de_var (pv 0)) (do_some (de_op op_addA os_add (de_var (pv 3)) de_int)) do_none))))) dss_nil)
    (dss_one (ds_if (dt_cmp op_lt os_cmpI (de_op op_addA os_add (de_var (pv 3)) de_int) (de_call1 call_len_seq us_len (by rfl) T.z_len boot_len (de_var (pv 0))) (nomark _)) (dss_cons (ds_par (fun ta h => ps_par rfl sc32.nd rfl rfl (by decide) rfl rfl h (by rfl)) (de_ix ix_A os_ix (de_var (pv 0)) (de_var (pv 3)) (fun _ _ => rfl)) (de_ix ix_A os_ix (de_var (pv 0)) (de_op op_addA os_add (de_var (pv 3)) de_int) (fun _ _ => rfl)))
    (dss_one (ds_if (dt_cmp (op_eqD (room64 hr)) os_eq (de_ix ix_A os_ix (de_var (pv 4)) de_int (fun _ _ => rfl)) (de_ix ix_A os_ix (de_var (pv 5)) de_int (fun _ _ => rfl)) (nomark _)) (dss_one (ds_expr (de_app (fun t h => pe_bm PySem.F.plainAttrs_list PySem.F.slot_list_append PySem.F.type_list_append mt_append (pv 2) h) (de_op op_addA os_add (de_op op_addA os_add (de_sl (de_var (pv 0)) do_none (do_some (de_var (pv 3)))) (de_tup (da_cons (de_tup (da_cons (de_ix ix_A os_ix (de_var (pv 4)) de_int (fun _ _ => rfl)) (da_cons (de_call G.c26 hr (by rfl) T.g26 T.F26.kp T.b26 (dr_val (de_ix ix_A os_ix (de_var (pv 4)) de_int (fun _ _ => rfl)) (dr_val (de_ix ix_A os_ix (de_var (pv 5)) de_int (fun _ _ => rfl)) dr_nil)) (rl_val (rl_val (rl_nil rfl)))) da_nil))) da_nil))) (de_sl (de_var (pv 0)) (do_some (de_op op_addA os_add (de_var (pv 3)) de_int)) do_none))))) (dss_one (ds_if (dt_tru (de_call G.c30 hr (by rfl) T.g30 T.F30.kp T.b30 (dr_val (de_ix ix_A os_ix (de_var (pv 4)) de_int (fun _ _ => rfl)) (dr_val (de_ix ix_A os_ix (de_var (pv 5)) de_int (fun _ _ => rfl)) (dr_val (de_var (pv 1)) dr_nil))) (rl_val (rl_val (rl_val (rl_nil rfl)))))) (dss_one (ds_expr (de_app (fun t h => pe_bm PySem.F.plainAttrs_list PySem.F.slot_list_append PySem.F.type_list_append mt_append (pv 2) h) (de_op op_addA os_add (de_op op_addA os_add (de_sl (de_var (pv 0)) do_none (do_some (de_var (pv 3)))) (de_tup (da_cons (de_var (pv 5)) (da_cons (de_var (pv 4)) da_nil)))) (de_sl (de_var (pv 0)) (do_some (de_op op_addA os_add (de_var (pv 3)) de_int)) do_none))))) dss_nil))))) dss_nil))))
    (dss_one (ds_ret (de_var (pv 2))))))
theorem ok33 (T : Top K mg fa fd) (G : Gs P w K mg base fa fd k cl) : FnOk P w K mg base CX0 (k + 1) (fa 33) (fd 33) ["flows_so", "lets_so"] (spD K 2 (fn33 cl)) :=
  fn_ok T.F33 sc33 fun cdv A outer s H E hr => (dss_cons (ds_par (fun ta h => ps_par rfl sc33.nd rfl rfl (by decide) rfl rfl h (by rfl)) (de_lst (da_cons (de_var (pv 0)) da_nil)) (de_lst (da_cons (de_var (pv 0)) da_nil)))
    (dss_cons (ds_set (fun te h => ps_set sc33.nd rfl (by first | exact Or.inl rfl | exact Or.inr rfl) h) (de_done (room9 hr) (de_var (pv 0)) de_int))
    (dss_cons (ds_while (n := 6000000) PassesOwn.never (dt_cmp (op_neD (room64 hr)) os_ne (de_var (pv 3)) (de_lst da_nil) (nomark _)) (dss_cons (ds_set (fun te h => ps_set sc33.nd rfl (by first | exact Or.inl rfl | exact Or.inr rfl) h) (de_lst da_nil))
    (dss_cons (ds_for PassesOwn.never rfl (di_seq (de_var (pv 3))) (dg_name (pg_name sc33.nd rfl (by first | exact Or.inl rfl | exact Or.inr rfl))) (dss_one (ds_for PassesOwn.never rfl (di_seq (de_call G.c32 hr (by rfl) T.g32 T.F32.kp T.b32 (dr_val (de_var (pv 6)) (dr_val (de_var (pv 1)) dr_nil)) (rl_val (rl_val (rl_nil rfl))))) (dg_name (pg_name sc33.nd rfl (by first | exact Or.inl rfl | exact Or.inr rfl))) (dss_one (ds_if (dt_notInD (room9 hr) (de_var (pv 7)) (pv 4) (by with_unfolding_all rfl)) (dss_cons (ds_dput (fun te tk h1 h2 => ps_asg h1 (pg_sub (pv 4) h2 (set_dic (room9 hr)))) de_int (de_var (pv 7)))
    (dss_one (ds_expr (de_app (fun t h => pe_bm PySem.F.plainAttrs_list PySem.F.slot_list_append PySem.F.type_list_append mt_append (pv 5) h) (de_var (pv 7)))))) dss_nil)))))
    (dss_one (ds_par (fun ta h => ps_par rfl sc33.nd rfl rfl (by decide) rfl rfl h (by rfl)) (de_op op_addA os_add (de_var (pv 2)) (de_var (pv 5))) (de_var (pv 5)))))))
    (dss_one (ds_ret (de_var (pv 2)))))))
theorem ok34 (T : Top K mg fa fd) (G : Gs P w K mg base fa fd k cl) : FnOk P w K mg base CX0 (k + 1) (fa 34) (fd 34) ["flows_so", "lets_so"] (spD K 2 (fn34 cl)) :=
  fn_ok T.F34 sc34 fun cdv A outer s H E hr => (dss_cons (ds_set (fun te h => ps_set sc34.nd rfl (by first | exact Or.inl rfl | exact Or.inr rfl) h) (de_call G.c33 hr (by rfl) T.g33 T.F33.kp T.b33 (dr_val (de_var (pv 0)) (dr_val (de_var (pv 1)) dr_nil)) (rl_val (rl_val (rl_nil rfl)))))
    (dss_cons (ds_set (fun te h => ps_set sc34.nd rfl (by first | exact Or.inl rfl | exact Or.inr rfl) h) (de_call1 (cr_minD rfl (room70 hr)) us_minL (by rfl) T.z_min boot_min (de_lc rfl sc34.nd (di_seq (de_var (pv 2))) (own := [("own", 5)]) (blkOk_by (by kernel_rfl)) (fun _ _ _ _ _ => (dg_name (pg_name sc34.nd rfl (by first | exact Or.inl rfl | exact Or.inr rfl)))) (fun _ _ _ _ _ => dts_nil) (fun _ _ _ _ _ => (de_call1 call_len_seq us_len (by rfl) T.z_len boot_len (de_var (pv 5)))) (by decide))))
    (dss_cons (ds_setLc rfl sc34.nd rfl rfl (sw_true rfl rfl rfl (by decide +kernel)) (di_seq (de_var (pv 2))) (own := [("own", 5)]) (blkOk_by (by kernel_rfl)) (fun _ _ _ _ _ => (dg_name (pg_name sc34.nd rfl (by first | exact Or.inl rfl | exact Or.inr rfl)))) (fun _ _ _ _ _ => (dts_one (dt_cmp (op_eqD (room64 hr)) os_eq (de_call1 call_len_seq us_len (by rfl) T.z_len boot_len (de_var (pv 5))) (de_var (pv 3)) (nomark _)))) (fun _ _ _ _ _ => (de_var (pv 5))) (by decide))
    (dss_one (ds_ret (de_lc rfl sc34.nd (di_seq (de_call1 (cr_sortW (room70 hr)) us_sortW (by rfl) T.z_sorted boot_sorted (de_lc rfl sc34.nd (di_seq (de_var (pv 4))) (own := [("own", 5)]) (blkOk_by (by kernel_rfl)) (fun _ _ _ _ _ => (dg_name (pg_name sc34.nd rfl (by first | exact Or.inl rfl | exact Or.inr rfl)))) (fun _ _ _ _ _ => dts_nil) (fun _ _ _ _ _ => (de_tup (da_cons (de_callT1 call_tuple_of us_tuple (by rfl) T.z_tuple boot_tuple (de_lc rfl sc34.nd (di_seq (de_var (pv 5))) (own := [("far", 6)]) (blkOk_by (by kernel_rfl)) (fun _ _ _ _ _ => (dg_name (pg_name sc34.nd rfl (by first | exact Or.inl rfl | exact Or.inr rfl)))) (fun _ _ _ _ _ => dts_nil) (fun _ _ _ _ _ => (de_ix ix_A os_ix (de_var (pv 6)) de_int (fun _ _ => rfl))) (by decide))) (da_cons (de_var (pv 5)) da_nil)))) (by decide)))) (own := [("own", 5)]) (blkOk_by (by kernel_rfl)) (fun _ _ _ _ _ => (dg_name (pg_name sc34.nd rfl (by first | exact Or.inl rfl | exact Or.inr rfl)))) (fun _ _ _ _ _ => dts_nil) (fun _ _ _ _ _ => (de_ix ix_A os_ix (de_var (pv 5)) de_int (fun _ _ => rfl))) (by decide)))))))
theorem ok35 (T : Top K mg fa fd) (G : Gs P w K mg base fa fd k cl) : FnOk P w K mg base CX0 (k + 1) (fa 35) (fd 35) ["urn", "flows_so", "lets_so"] (spD K 3 (fn35 cl)) :=
  fn_ok T.F35 sc35 fun cdv A outer s H E hr => (dss_cons (ds_for PassesOwn.never rfl (di_rng1 (by rfl) T.z_range (da_cons de_int da_nil)) (dg_name (pg_name sc35.nd rfl (by first | exact Or.inl rfl | exact Or.inr rfl))) (dss_cons (ds_set (fun te h => ps_set sc35.nd rfl (by first | exact Or.inl rfl | exact Or.inr rfl) h) (de_call G.c32 hr (by rfl) T.g32 T.F32.kp T.b32 (dr_val (de_var (pv 1)) (dr_val (de_var (pv 2)) dr_nil)) (rl_val (rl_val (rl_nil rfl)))))
    (dss_one (ds_if (dt_cmp (op_neD (room64 hr)) os_ne (de_var (pv 4)) (de_lst da_nil) (nomark _)) (dss_one (ds_set (fun te h => ps_set sc35.nd rfl (by first | exact Or.inl rfl | exact Or.inr rfl) h) (de_ix ix_A os_ix (de_var (pv 4)) (de_call G.c22 hr (by rfl) T.g22 T.F22.kp T.b22 (dr_slot (pv 0) (dr_val (de_call1 call_len_seq us_len (by rfl) T.z_len boot_len (de_var (pv 4))) dr_nil)) (rl_slot (rl_val (rl_nil rfl)))) (fun _ _ => rfl)))) dss_nil))))
    (dss_one (ds_ret (de_var (pv 1)))))
theorem ok36 (T : Top K mg fa fd) (G : Gs P w K mg base fa fd k cl) : FnOk P w K mg base CX0 (k + 1) (fa 36) (fd 36) ["urn", "flows_so", "lets_so"] (spD K 3 (fn36 cl)) :=
  fn_ok T.F36 sc36 fun cdv A outer s H E hr => (dss_cons (ds_set (fun te h => ps_set sc36.nd rfl (by first | exact Or.inl rfl | exact Or.inr rfl) h) (de_call G.c34 hr (by rfl) T.g34 T.F34.kp T.b34 (dr_val (de_var (pv 1)) (dr_val (de_var (pv 2)) dr_nil)) (rl_val (rl_val (rl_nil rfl)))))
    (dss_cons (ds_set (fun te h => ps_set sc36.nd rfl (by first | exact Or.inl rfl | exact Or.inr rfl) h) (de_ix ix_A os_ix (de_var (pv 3)) de_int (fun _ _ => rfl)))
    (dss_cons (ds_set (fun te h => ps_set sc36.nd rfl (by first | exact Or.inl rfl | exact Or.inr rfl) h) (de_call G.c35 hr (by rfl) T.g35 T.F35.kp T.b35 (dr_slot (pv 0) (dr_val (de_var (pv 1)) (dr_val (de_var (pv 2)) dr_nil))) (rl_slot (rl_val (rl_val (rl_nil rfl))))))
    (dss_cons (ds_set (fun te h => ps_set sc36.nd rfl (by first | exact Or.inl rfl | exact Or.inr rfl) h) (de_lst (da_cons (de_call G.c18 hr (by rfl) T.g18 T.F18.kp T.b18 (dr_val (de_var (pv 1)) (dr_val (de_var (pv 2)) dr_nil)) (rl_val (rl_val (rl_nil rfl)))) (da_cons (de_call G.c18 hr (by rfl) T.g18 T.F18.kp T.b18 (dr_val (de_var (pv 5)) (dr_val (de_var (pv 2)) dr_nil)) (rl_val (rl_val (rl_nil rfl)))) (da_cons (de_call G.c18 hr (by rfl) T.g18 T.F18.kp T.b18 (dr_val (de_lc rfl sc36.nd (di_seq (de_var (pv 1))) (own := [("far", 9)]) (blkOk_by (by kernel_rfl)) (fun _ _ _ _ _ => (dg_name (pg_name sc36.nd rfl (by first | exact Or.inl rfl | exact Or.inr rfl)))) (fun _ _ _ _ _ => dts_nil) (fun _ _ _ _ _ => (de_lst (da_cons (de_ix ix_A os_ix (de_var (pv 9)) de_int (fun _ _ => rfl)) (da_cons (de_callT1 call_list_of us_list (by rfl) T.z_list boot_list (de_ix ix_A os_ix (de_var (pv 9)) de_int (fun _ _ => rfl))) da_nil)))) (by decide)) (dr_val (de_lc rfl sc36.nd (di_seq (de_var (pv 2))) (own := [("far", 9)]) (blkOk_by (by kernel_rfl)) (fun _ _ _ _ _ => (dg_name (pg_name sc36.nd rfl (by first | exact Or.inl rfl | exact Or.inr rfl)))) (fun _ _ _ _ _ => dts_nil) (fun _ _ _ _ _ => (de_callT1 call_list_of us_list (by rfl) T.z_list boot_list (de_var (pv 9)))) (by decide)) dr_nil)) (rl_val (rl_val (rl_nil rfl)))) da_nil)))))
    (dss_cons (ds_set (fun te h => ps_set sc36.nd rfl (by first | exact Or.inl rfl | exact Or.inr rfl) h) (de_lst (da_cons (de_var (pv 4)) (da_cons (de_var (pv 4)) (da_cons (de_var (pv 4)) da_nil)))))
    (dss_cons (ds_expr (de_app (fun t h => pe_bm PySem.F.plainAttrs_list PySem.F.slot_list_append PySem.F.type_list_append mt_append (pv 6) h) (de_call1 (cr_sortW (room70 hr)) us_sortW (by rfl) T.z_sorted boot_sorted (de_call G.c33 hr (by rfl) T.g33 T.F33.kp T.b33 (dr_val (de_var (pv 4)) (dr_val (de_var (pv 2)) dr_nil)) (rl_val (rl_val (rl_nil rfl)))))))
    (dss_cons (ds_expr (de_app (fun t h => pe_bm PySem.F.plainAttrs_list PySem.F.slot_list_append PySem.F.type_list_append mt_append (pv 7) h) (de_call1 (cr_sortW (room70 hr)) us_sortW (by rfl) T.z_sorted boot_sorted (de_var (pv 3)))))
    (dss_cons (ds_set (fun te h => ps_set sc36.nd rfl (by first | exact Or.inl rfl | exact Or.inr rfl) h) (de_call G.c29 hr (by rfl) T.g29 T.F29.kp T.b29 (dr_val (de_var (pv 5)) dr_nil) (rl_val (rl_nil rfl))))
    (dss_cons (ds_set (fun te h => ps_set sc36.nd rfl (by first | exact Or.inl rfl | exact Or.inr rfl) h) (de_op op_addA os_add (de_var (pv 6)) (de_lst (da_cons (de_call G.c19 hr (by rfl) T.g19 T.F19.kp T.b19 (dr_val (de_var (pv 1)) (dr_val (de_var (pv 5)) (dr_val (de_var (pv 2)) dr_nil))) (rl_val (rl_val (rl_val (rl_nil rfl))))) (da_cons (de_call G.c19 hr (by rfl) T.g19 T.F19.kp T.b19 (dr_val (de_var (pv 1)) (dr_val (de_ix ix_A os_ix (de_var (pv 3)) (de_un un_neg us_neg de_int) (fun _ _ => rfl)) (dr_val (de_var (pv 2)) dr_nil))) (rl_val (rl_val (rl_val (rl_nil rfl))))) (da_cons (de_call G.c19 hr (by rfl) T.g19 T.F19.kp T.b19 (dr_val (de_op op_addA os_add (de_var (pv 1)) (de_var (pv 8))) (dr_val (de_tup da_nil) (dr_val (de_var (pv 2)) dr_nil))) (rl_val (rl_val (rl_val (rl_nil rfl))))) da_nil))))))
    (dss_one (ds_ret (de_call G.c24 hr (by rfl) T.g24 T.F24.kp T.b24 (dr_val (de_var (pv 6)) (dr_val (de_op op_addA os_add (de_var (pv 7)) (de_lst (da_cons de_bl (da_cons de_bl (da_cons de_bl da_nil))))) dr_nil)) (rl_val (rl_val (rl_nil rfl)))))))))))))))
theorem ok37 (T : Top K mg fa fd) (G : Gs P w K mg base fa fd k cl) : FnOk P w K mg base CX0 (k + 1) (fa 37) (fd 37) [] (spD K 0 (fn37 cl)) :=
  fn_ok T.F37 sc37 fun cdv A outer s H E hr => (dss_cons (ds_asgG (fun te g h1 h2 => ps_asg h1 h2) (de_tup (da_cons (de_tup (da_cons de_int (da_cons de_int da_nil))) (da_cons (de_tup (da_cons de_int (da_cons de_int da_nil))) (da_cons (de_tup (da_cons (de_un un_neg us_neg de_int) (da_cons de_int da_nil))) (da_cons (de_tup (da_cons de_int (da_cons de_int da_nil))) da_nil))))) (dg_tup rfl (dgs_cons (dg_name (pg_name sc37.nd rfl (by first | exact Or.inl rfl | exact Or.inr rfl))) (dgs_cons (dg_name (pg_name sc37.nd rfl (by first | exact Or.inl rfl | exact Or.inr rfl))) (dgs_cons (dg_name (pg_name sc37.nd rfl (by first | exact Or.inl rfl | exact Or.inr rfl))) (dgs_cons (dg_name (pg_name sc37.nd rfl (by first | exact Or.inl rfl | exact Or.inr rfl))) dgs_nil))))))
    (dss_cons (ds_set (fun te h => ps_set sc37.nd rfl (by first | exact Or.inl rfl | exact Or.inr rfl) h) (de_tup (da_cons (de_tup (da_cons de_int (da_cons (de_var (pv 0)) da_nil))) (da_cons (de_tup (da_cons de_int (da_cons (de_var (pv 1)) da_nil))) (da_cons (de_tup (da_cons de_int (da_cons (de_var (pv 0)) da_nil))) (da_cons (de_tup (da_cons de_int (da_cons (de_var (pv 2)) da_nil))) da_nil))))))
    (dss_cons (ds_set (fun te h => ps_set sc37.nd rfl (by first | exact Or.inl rfl | exact Or.inr rfl) h) (de_lst (da_cons (de_call G.c18 hr (by rfl) T.g18 T.F18.kp T.b18 (dr_val (de_var (pv 4)) (dr_val (de_tup (da_cons (de_tup (da_cons de_int (da_cons de_int da_nil))) (da_cons (de_tup (da_cons de_int (da_cons de_int da_nil))) da_nil))) dr_nil)) (rl_val (rl_val (rl_nil rfl)))) (da_cons (de_call G.c18 hr (by rfl) T.g18 T.F18.kp T.b18 (dr_val (de_var (pv 4)) (dr_val (de_tup (da_cons (de_tup (da_cons de_int (da_cons de_int da_nil))) da_nil)) dr_nil)) (rl_val (rl_val (rl_nil rfl)))) (da_cons (de_call G.c18 hr (by rfl) T.g18 T.F18.kp T.b18 (dr_val (de_var (pv 4)) (dr_val (de_tup (da_cons (de_tup (da_cons de_int (da_cons de_int da_nil))) (da_cons (de_tup (da_cons de_int (da_cons de_int da_nil))) da_nil))) dr_nil)) (rl_val (rl_val (rl_nil rfl)))) (da_cons (de_call G.c18 hr (by rfl) T.g18 T.F18.kp T.b18 (dr_val (de_var (pv 4)) (dr_val (de_tup da_nil) dr_nil)) (rl_val (rl_val (rl_nil rfl)))) da_nil))))))
    (dss_cons (ds_set (fun te h => ps_set sc37.nd rfl (by first | exact Or.inl rfl | exact Or.inr rfl) h) (de_lst (da_cons (de_tup (da_cons (de_tup (da_cons de_int (da_cons (de_var (pv 1)) da_nil))) (da_cons (de_tup (da_cons de_int (da_cons (de_var (pv 0)) da_nil))) da_nil))) (da_cons (de_var (pv 4)) (da_cons (de_tup (da_cons (de_tup (da_cons de_int (da_cons (de_var (pv 0)) da_nil))) (da_cons (de_tup (da_cons de_int (da_cons (de_var (pv 0)) da_nil))) (da_cons (de_tup (da_cons de_int (da_cons (de_var (pv 2)) da_nil))) (da_cons (de_tup (da_cons de_int (da_cons (de_var (pv 1)) da_nil))) da_nil))))) (da_cons (de_var (pv 4)) da_nil))))))
    (dss_cons (ds_set (fun te h => ps_set sc37.nd rfl (by first | exact Or.inl rfl | exact Or.inr rfl) h) (de_tup (da_cons (de_tup (da_cons de_int (da_cons (de_var (pv 0)) da_nil))) (da_cons (de_tup (da_cons de_int (da_cons (de_var (pv 0)) da_nil))) (da_cons (de_tup (da_cons de_int (da_cons (de_var (pv 0)) da_nil))) da_nil)))))
    (dss_cons (ds_set (fun te h => ps_set sc37.nd rfl (by first | exact Or.inl rfl | exact Or.inr rfl) h) (de_op op_addA os_add (de_var (pv 5)) (de_lst (da_cons (de_call G.c18 hr (by rfl) T.g18 T.F18.kp T.b18 (dr_val (de_var (pv 7)) (dr_val (de_tup (da_cons (de_tup (da_cons de_int (da_cons de_int da_nil))) (da_cons (de_tup (da_cons de_int (da_cons de_int da_nil))) (da_cons (de_tup (da_cons de_int (da_cons de_int da_nil))) da_nil)))) dr_nil)) (rl_val (rl_val (rl_nil rfl)))) (da_cons (de_call G.c18 hr (by rfl) T.g18 T.F18.kp T.b18 (dr_val (de_var (pv 7)) (dr_val (de_tup (da_cons (de_tup (da_cons de_int (da_cons de_int da_nil))) da_nil)) dr_nil)) (rl_val (rl_val (rl_nil rfl)))) (da_cons (de_call G.c18 hr (by rfl) T.g18 T.F18.kp T.b18 (dr_val (de_var (pv 7)) (dr_val (de_tup (da_cons (de_tup (da_cons de_int (da_cons de_int da_nil))) (da_cons (de_tup (da_cons de_int (da_cons de_int da_nil))) da_nil))) dr_nil)) (rl_val (rl_val (rl_nil rfl)))) da_nil))))))
    (dss_cons (ds_set (fun te h => ps_set sc37.nd rfl (by first | exact Or.inl rfl | exact Or.inr rfl) h) (de_op op_addA os_add (de_var (pv 6)) (de_lst (da_cons (de_rev (de_var (pv 7))) (da_cons (de_tup (da_cons (de_tup (da_cons de_int (da_cons (de_var (pv 0)) da_nil))) (da_cons (de_tup (da_cons de_int (da_cons (de_var (pv 0)) da_nil))) (da_cons (de_tup (da_cons de_int (da_cons (de_var (pv 0)) da_nil))) da_nil)))) (da_cons (de_tup (da_cons (de_tup (da_cons de_int (da_cons (de_var (pv 0)) da_nil))) (da_cons (de_tup (da_cons de_int (da_cons (de_var (pv 0)) da_nil))) (da_cons (de_tup (da_cons de_int (da_cons (de_var (pv 0)) da_nil))) da_nil)))) da_nil))))))
    (dss_cons (ds_set (fun te h => ps_set sc37.nd rfl (by first | exact Or.inl rfl | exact Or.inr rfl) h) (de_op op_addA os_add (de_var (pv 5)) (de_lst (da_cons (de_call G.c19 hr (by rfl) T.g19 T.F19.kp T.b19 (dr_val (de_tup (da_cons (de_tup (da_cons de_int (da_cons (de_var (pv 0)) da_nil))) (da_cons (de_tup (da_cons de_int (da_cons (de_var (pv 1)) da_nil))) da_nil))) (dr_val (de_tup (da_cons (de_tup (da_cons de_int (da_cons (de_var (pv 1)) da_nil))) (da_cons (de_tup (da_cons de_int (da_cons (de_var (pv 0)) da_nil))) da_nil))) (dr_val (de_tup (da_cons (de_tup (da_cons de_int (da_cons de_int da_nil))) da_nil)) dr_nil))) (rl_val (rl_val (rl_val (rl_nil rfl))))) (da_cons (de_call G.c19 hr (by rfl) T.g19 T.F19.kp T.b19 (dr_val (de_tup (da_cons (de_tup (da_cons de_int (da_cons (de_var (pv 0)) da_nil))) (da_cons (de_tup (da_cons de_int (da_cons (de_var (pv 3)) da_nil))) (da_cons (de_tup (da_cons de_int (da_cons (de_var (pv 2)) da_nil))) da_nil)))) (dr_val (de_tup da_nil) (dr_val (de_tup da_nil) dr_nil))) (rl_val (rl_val (rl_val (rl_nil rfl))))) da_nil)))))
    (dss_cons (ds_set (fun te h => ps_set sc37.nd rfl (by first | exact Or.inl rfl | exact Or.inr rfl) h) (de_op op_addA os_add (de_var (pv 5)) (de_lst (da_cons (de_call G.c19 hr (by rfl) T.g19 T.F19.kp T.b19 (dr_val (de_tup (da_cons (de_tup (da_cons de_int (da_cons (de_var (pv 0)) da_nil))) (da_cons (de_tup (da_cons de_int (da_cons (de_var (pv 0)) da_nil))) (da_cons (de_tup (da_cons de_int (da_cons (de_var (pv 2)) da_nil))) (da_cons (de_tup (da_cons de_int (da_cons (de_var (pv 2)) da_nil))) da_nil))))) (dr_val (de_tup da_nil) (dr_val (de_tup (da_cons (de_tup (da_cons de_int (da_cons de_int da_nil))) (da_cons (de_tup (da_cons de_int (da_cons de_int da_nil))) da_nil))) dr_nil))) (rl_val (rl_val (rl_val (rl_nil rfl))))) (da_cons (de_call G.c18 hr (by rfl) T.g18 T.F18.kp T.b18 (dr_val (de_tup da_nil) (dr_val (de_tup (da_cons (de_tup (da_cons de_int (da_cons de_int da_nil))) da_nil)) dr_nil)) (rl_val (rl_val (rl_nil rfl)))) da_nil)))))
    (dss_one (ds_ret (de_call G.c24 hr (by rfl) T.g24 T.F24.kp T.b24 (dr_val (de_var (pv 5)) (dr_val (de_op op_addA os_add (de_var (pv 6)) (de_lst (da_cons de_bl (da_cons de_bl (da_cons de_bl (da_cons (de_tup da_nil) da_nil)))))) dr_nil)) (rl_val (rl_val (rl_nil rfl)))))))))))))))
theorem ok38 (T : Top K mg fa fd) (G : Gs P w K mg base fa fd k cl) : FnOk P w K mg base CX0 (k + 1) (fa 38) (fd 38) ["urn"] (spD K 1 (fn38 cl)) :=
  fn_ok T.F38 sc38 fun cdv A outer s H E hr => (dss_cons (ds_par (fun ta h => ps_par rfl sc38.nd rfl rfl (by decide) rfl rfl h (by rfl)) (de_call G.c28 hr (by rfl) T.g28 T.F28.kp T.b28 (dr_slot (pv 0) (dr_val de_int (dr_val de_int dr_nil))) (rl_slot (rl_val (rl_val (rl_nil rfl))))) (de_call G.c31 hr (by rfl) T.g31 T.F31.kp T.b31 (dr_slot (pv 0) (dr_val de_int dr_nil)) (rl_slot (rl_val (rl_nil rfl)))))
    (dss_cons (ds_if (dt_not (dt_tru (de_call G.c36 hr (by rfl) T.g36 T.F36.kp T.b36 (dr_slot (pv 0) (dr_val (de_var (pv 1)) (dr_val (de_var (pv 2)) dr_nil))) (rl_slot (rl_val (rl_val (rl_nil rfl))))))) (dss_one (ds_ret de_bl)) dss_nil)
    (dss_cons (ds_set (fun te h => ps_set sc38.nd rfl (by first | exact Or.inl rfl | exact Or.inr rfl) h) (de_if (dt_cmp op_gt os_cmpI (de_call G.c22 hr (by rfl) T.g22 T.F22.kp T.b22 (dr_slot (pv 0) (dr_val de_int dr_nil)) (rl_slot (rl_val (rl_nil rfl)))) de_int (nomark _)) (de_call G.c28 hr (by rfl) T.g28 T.F28.kp T.b28 (dr_slot (pv 0) (dr_val de_int (dr_val de_int dr_nil))) (rl_slot (rl_val (rl_val (rl_nil rfl))))) (de_op op_addA os_add (de_sl (de_var (pv 1)) (do_some de_int) do_none) (de_sl (de_var (pv 1)) do_none (do_some de_int)))))
    (dss_cons (ds_set (fun te h => ps_set sc38.nd rfl (by first | exact Or.inl rfl | exact Or.inr rfl) h) (de_cmp (op_eqD (room64 hr)) os_eq (de_ix ix_A os_ix (de_call G.c34 hr (by rfl) T.g34 T.F34.kp T.b34 (dr_val (de_var (pv 1)) (dr_val (de_var (pv 2)) dr_nil)) (rl_val (rl_val (rl_nil rfl)))) de_int (fun _ _ => rfl)) (de_ix ix_A os_ix (de_call G.c34 hr (by rfl) T.g34 T.F34.kp T.b34 (dr_val (de_var (pv 3)) (dr_val (de_var (pv 2)) dr_nil)) (rl_val (rl_val (rl_nil rfl)))) de_int (fun _ _ => rfl)) (nomark _)))
    (dss_cons (ds_set (fun te h => ps_set sc38.nd rfl (by first | exact Or.inl rfl | exact Or.inr rfl) h) (de_tup (da_cons (de_tup (da_cons de_int (da_cons de_int da_nil))) (da_cons (de_tup (da_cons de_int (da_cons de_int da_nil))) (da_cons (de_tup (da_cons de_int (da_cons de_int da_nil))) da_nil)))))
    (dss_cons (ds_set (fun te h => ps_set sc38.nd rfl (by first | exact Or.inl rfl | exact Or.inr rfl) h) (de_cmp (op_eqD (room64 hr)) os_eq (de_ix ix_A os_ix (de_call G.c34 hr (by rfl) T.g34 T.F34.kp T.b34 (dr_val (de_var (pv 1)) (dr_val (de_var (pv 5)) dr_nil)) (rl_val (rl_val (rl_nil rfl)))) de_int (fun _ _ => rfl)) (de_ix ix_A os_ix (de_call G.c34 hr (by rfl) T.g34 T.F34.kp T.b34 (dr_val (de_var (pv 3)) (dr_val (de_var (pv 5)) dr_nil)) (rl_val (rl_val (rl_nil rfl)))) de_int (fun _ _ => rfl)) (nomark _)))
    (dss_cons (ds_set (fun te h => ps_set sc38.nd rfl (by first | exact Or.inl rfl | exact Or.inr rfl) h) (de_lst (da_cons (de_call G.c19 hr (by rfl) T.g19 T.F19.kp T.b19 (dr_val (de_var (pv 1)) (dr_val (de_var (pv 3)) (dr_val (de_var (pv 2)) dr_nil))) (rl_val (rl_val (rl_val (rl_nil rfl))))) (da_cons (de_call G.c19 hr (by rfl) T.g19 T.F19.kp T.b19 (dr_val (de_var (pv 1)) (dr_val (de_var (pv 3)) (dr_val (de_var (pv 5)) dr_nil))) (rl_val (rl_val (rl_val (rl_nil rfl))))) (da_cons (de_and (de_var (pv 4)) (de_one (de_not (de_var (pv 6))))) da_nil)))))
    (dss_cons (ds_set (fun te h => ps_set sc38.nd rfl (by first | exact Or.inl rfl | exact Or.inr rfl) h) (de_op op_addA os_add (de_var (pv 7)) (de_lst (da_cons (de_and (de_call G.c14 hr (by rfl) T.g14 T.F14.kp T.b14 (dr_val (de_var (pv 1)) (dr_val (de_var (pv 3)) dr_nil)) (rl_val (rl_val (rl_nil rfl)))) (de_one (de_not (de_var (pv 4))))) (da_cons (de_call G.c19 hr (by rfl) T.g19 T.F19.kp T.b19 (dr_val (de_var (pv 3)) (dr_val (de_var (pv 1)) (dr_val (de_var (pv 2)) dr_nil))) (rl_val (rl_val (rl_val (rl_nil rfl))))) da_nil)))))
    (dss_one (ds_ret (de_call G.c24 hr (by rfl) T.g24 T.F24.kp T.b24 (dr_val (de_var (pv 7)) (dr_val (de_lst (da_cons (de_var (pv 4)) (da_cons (de_var (pv 6)) (da_cons de_bl (da_cons de_bl (da_cons (de_var (pv 4)) da_nil)))))) dr_nil)) (rl_val (rl_val (rl_nil rfl))))))))))))))
theorem ok39 (T : Top K mg fa fd) (G : Gs P w K mg base fa fd k cl) : FnOk P w K mg base CX0 (k + 1) (fa 39) (fd 39) ["script"] (spD K 1 (fn39 cl)) :=
  fn_ok T.F39 sc39 fun cdv A outer s H E hr => (dss_cons (ds_if (dt_not (dt_tru (de_call0 G.c37 hr (by rfl) T.g37 T.F37.kp T.b37))) (dss_one (ds_ret de_bl)) dss_nil)
    (dss_cons (ds_set (fun te h => ps_set sc39.nd rfl (by first | exact Or.inl rfl | exact Or.inr rfl) h) (de_call G.c23 hr (by rfl) T.g23 T.F23.kp T.b23 (dr_val (de_var (pv 0)) (dr_val de_int dr_nil)) (rl_val (rl_val (rl_nil rfl)))))
    (dss_one (ds_ret (de_call1 (cr_all rfl) us_all (by rfl) T.z_all boot_all (de_lc rfl sc39.nd (di_rng1 (by rfl) T.z_range (da_cons (de_call1 call_len_seq us_len (by rfl) T.z_len boot_len (de_var (pv 1))) da_nil)) (own := [("k", 2)]) (blkOk_by (by kernel_rfl)) (fun _ _ _ _ _ => (dg_name (pg_name sc39.nd rfl (by first | exact Or.inl rfl | exact Or.inr rfl)))) (fun _ _ _ _ _ => dts_nil) (fun _ _ _ _ _ => (de_callO G.c38 hr (by rfl) T.g38 T.F38.kp T.b38 (de_call G.c21 hr (by rfl) T.g21 T.F21.kp T.b21 (dr_val (de_var (pv 1)) (dr_val (de_var (pv 2)) dr_nil)) (rl_val (rl_val (rl_nil rfl)))) rfl)) (by decide)))))))
theorem all_ok (T : Top K mg fa fd) : ∀ k : Nat, Gs P w K mg base fa fd k (run k)
  | 0 => ⟨fn_zero, fn_zero, fn_zero, fn_zero, fn_zero, fn_zero, fn_zero, fn_zero, fn_zero, fn_zero, fn_zero, fn_zero, fn_zero, fn_zero, fn_zero, fn_zero, fn_zero, fn_zero, fn_zero, fn_zero, fn_zero, fn_zero, fn_zero, fn_zero, fn_zero, fn_zero, fn_zero, fn_zero, fn_zero, fn_zero, fn_zero, fn_zero⟩
  | k + 1 => ⟨ok4 T (all_ok T k), ok7 T (all_ok T k), ok8 T (all_ok T k), ok10 T (all_ok T k), ok11 T (all_ok T k), ok12 T (all_ok T k), ok13 T (all_ok T k), ok14 T (all_ok T k), ok15 T (all_ok T k), ok16 T (all_ok T k), ok17 T (all_ok T k), ok18 T (all_ok T k), ok19 T (all_ok T k), ok21 T (all_ok T k), ok22 T (all_ok T k), ok23 T (all_ok T k), ok24 T (all_ok T k), ok25 T (all_ok T k), ok26 T (all_ok T k), ok27 T (all_ok T k), ok28 T (all_ok T k), ok29 T (all_ok T k), ok30 T (all_ok T k), ok31 T (all_ok T k), ok32 T (all_ok T k), ok33 T (all_ok T k), ok34 T (all_ok T k), ok35 T (all_ok T k), ok36 T (all_ok T k), ok37 T (all_ok T k), ok38 T (all_ok T k), ok39 T (all_ok T k)⟩
end
/-! ### what the top has written -/
theorem all_mk {l : PySem.W.OpenLaw} {w : World} {K : PySem.W.Frag} {h : Heap} {mg : Str → Option Value} {fl f4 f7 f8 f10 f11 f12 f13 f14 f15 f16 f17 f18 f19 f21 f22 f23 f24 f25 f26 f27 f28 f29 f30 f31 f32 f33 f34 f35 f36 f37 f38 f39 : Addr} (X : K.In h) (G : h.Ns mainGlobals mg) (hfa : mg "law" = some (.ref fl))
    {od4 an4 od7 an7 od8 an8 od10 an10 od11 an11 od12 an12 od13 an13 od14 an14 od15 an15 od16 an16 od17 an17 od18 an18 od19 an19 od21 an21 od22 an22 od23 an23 od24 an24 od25 an25 od26 an26 od27 an27 od28 an28 od29 an29 od30 an30 od31 an31 od32 an32 od33 an33 od34 an34 od35 an35 od36 an36 od37 an37 od38 an38 od39 an39 : Option Addr} {sl4 sl7 sl8 sl10 sl11 sl12 sl13 sl14 sl15 sl16 sl17 sl18 sl19 sl21 sl22 sl23 sl24 sl25 sl26 sl27 sl28 sl29 sl30 sl31 sl32 sl33 sl34 sl35 sl36 sl37 sl38 sl39 : Array (Option Value)} {oc4 kV4 dc4 pm4 cd4 ct4 oc7 kV7 dc7 pm7 cd7 ct7 oc8 kV8 dc8 pm8 cd8 ct8 oc10 kV10 dc10 pm10 cd10 ct10 oc11 kV11 dc11 pm11 cd11 ct11 oc12 kV12 dc12 pm12 cd12 ct12 oc13 kV13 dc13 pm13 cd13 ct13 oc14 kV14 dc14 pm14 cd14 ct14 oc15 kV15 dc15 pm15 cd15 ct15 oc16 kV16 dc16 pm16 cd16 ct16 oc17 kV17 dc17 pm17 cd17 ct17 oc18 kV18 dc18 pm18 cd18 ct18 oc19 kV19 dc19 pm19 cd19 ct19 oc21 kV21 dc21 pm21 cd21 ct21 oc22 kV22 dc22 pm22 cd22 ct22 oc23 kV23 dc23 pm23 cd23 ct23 oc24 kV24 dc24 pm24 cd24 ct24 oc25 kV25 dc25 pm25 cd25 ct25 oc26 kV26 dc26 pm26 cd26 ct26 oc27 kV27 dc27 pm27 cd27 ct27 oc28 kV28 dc28 pm28 cd28 ct28 oc29 kV29 dc29 pm29 cd29 ct29 oc30 kV30 dc30 pm30 cd30 ct30 oc31 kV31 dc31 pm31 cd31 ct31 oc32 kV32 dc32 pm32 cd32 ct32 oc33 kV33 dc33 pm33 cd33 ct33 oc34 kV34 dc34 pm34 cd34 ct34 oc35 kV35 dc35 pm35 cd35 ct35 oc36 kV36 dc36 pm36 cd36 ct36 oc37 kV37 dc37 pm37 cd37 ct37 oc38 kV38 dc38 pm38 cd38 ct38 oc39 kV39 dc39 pm39 cd39 ct39 : Value}
    (a4 : PySem.W.nsIn K mainGlobals "frozen" = some (some (.ref f4))) (l4 : K.lookup f4 = some ⟨oc4, od4, .func (PySem.W.fnOf "frozen" "frozen" (defArgs (topS 4)) (defBody (topS 4)) (defScope (topS 4)) .none kV4 dc4 pm4 an4 cd4 ct4), sl4⟩) (c4 : PySem.W.codeIn K cd4 "frozen" = true) (k4 : PySem.W.keepIn K (.ref f4) = true)
    (a7 : PySem.W.nsIn K mainGlobals "fraction" = some (some (.ref f7))) (l7 : K.lookup f7 = some ⟨oc7, od7, .func (PySem.W.fnOf "fraction" "fraction" (defArgs (topS 7)) (defBody (topS 7)) (defScope (topS 7)) .none kV7 dc7 pm7 an7 cd7 ct7), sl7⟩) (c7 : PySem.W.codeIn K cd7 "fraction" = true) (k7 : PySem.W.keepIn K (.ref f7) = true)
    (a8 : PySem.W.nsIn K mainGlobals "plus" = some (some (.ref f8))) (l8 : K.lookup f8 = some ⟨oc8, od8, .func (PySem.W.fnOf "plus" "plus" (defArgs (topS 8)) (defBody (topS 8)) (defScope (topS 8)) .none kV8 dc8 pm8 an8 cd8 ct8), sl8⟩) (c8 : PySem.W.codeIn K cd8 "plus" = true) (k8 : PySem.W.keepIn K (.ref f8) = true)
    (a10 : PySem.W.nsIn K mainGlobals "_go_together" = some (some (.ref f10))) (l10 : K.lookup f10 = some ⟨oc10, od10, .func (PySem.W.fnOf "_go_together" "_go_together" (defArgs (topS 10)) (defBody (topS 10)) (defScope (topS 10)) .none kV10 dc10 pm10 an10 cd10 ct10), sl10⟩) (c10 : PySem.W.codeIn K cd10 "_go_together" = true) (k10 : PySem.W.keepIn K (.ref f10) = true)
    (a11 : PySem.W.nsIn K mainGlobals "_place_to_join" = some (some (.ref f11))) (l11 : K.lookup f11 = some ⟨oc11, od11, .func (PySem.W.fnOf "_place_to_join" "_place_to_join" (defArgs (topS 11)) (defBody (topS 11)) (defScope (topS 11)) .none kV11 dc11 pm11 an11 cd11 ct11), sl11⟩) (c11 : PySem.W.codeIn K cd11 "_place_to_join" = true) (k11 : PySem.W.keepIn K (.ref f11) = true)
    (a12 : PySem.W.nsIn K mainGlobals "_shortest" = some (some (.ref f12))) (l12 : K.lookup f12 = some ⟨oc12, od12, .func (PySem.W.fnOf "_shortest" "_shortest" (defArgs (topS 12)) (defBody (topS 12)) (defScope (topS 12)) .none kV12 dc12 pm12 an12 cd12 ct12), sl12⟩) (c12 : PySem.W.codeIn K cd12 "_shortest" = true) (k12 : PySem.W.keepIn K (.ref f12) = true)
    (a13 : PySem.W.nsIn K mainGlobals "normal_row" = some (some (.ref f13))) (l13 : K.lookup f13 = some ⟨oc13, od13, .func (PySem.W.fnOf "normal_row" "normal_row" (defArgs (topS 13)) (defBody (topS 13)) (defScope (topS 13)) .none kV13 dc13 pm13 an13 cd13 ct13), sl13⟩) (c13 : PySem.W.codeIn K cd13 "normal_row" = true) (k13 : PySem.W.keepIn K (.ref f13) = true)
    (a14 : PySem.W.nsIn K mainGlobals "is_same" = some (some (.ref f14))) (l14 : K.lookup f14 = some ⟨oc14, od14, .func (PySem.W.fnOf "is_same" "is_same" (defArgs (topS 14)) (defBody (topS 14)) (defScope (topS 14)) .none kV14 dc14 pm14 an14 cd14 ct14), sl14⟩) (c14 : PySem.W.codeIn K cd14 "is_same" = true) (k14 : PySem.W.keepIn K (.ref f14) = true)
    (a15 : PySem.W.nsIn K mainGlobals "_foremost" = some (some (.ref f15))) (l15 : K.lookup f15 = some ⟨oc15, od15, .func (PySem.W.fnOf "_foremost" "_foremost" (defArgs (topS 15)) (defBody (topS 15)) (defScope (topS 15)) .none kV15 dc15 pm15 an15 cd15 ct15), sl15⟩) (c15 : PySem.W.codeIn K cd15 "_foremost" = true) (k15 : PySem.W.keepIn K (.ref f15) = true)
    (a16 : PySem.W.nsIn K mainGlobals "least_order" = some (some (.ref f16))) (l16 : K.lookup f16 = some ⟨oc16, od16, .func (PySem.W.fnOf "least_order" "least_order" (defArgs (topS 16)) (defBody (topS 16)) (defScope (topS 16)) .none kV16 dc16 pm16 an16 cd16 ct16), sl16⟩) (c16 : PySem.W.codeIn K cd16 "least_order" = true) (k16 : PySem.W.keepIn K (.ref f16) = true)
    (a17 : PySem.W.nsIn K mainGlobals "_parts_of" = some (some (.ref f17))) (l17 : K.lookup f17 = some ⟨oc17, od17, .func (PySem.W.fnOf "_parts_of" "_parts_of" (defArgs (topS 17)) (defBody (topS 17)) (defScope (topS 17)) .none kV17 dc17 pm17 an17 cd17 ct17), sl17⟩) (c17 : PySem.W.codeIn K cd17 "_parts_of" = true) (k17 : PySem.W.keepIn K (.ref f17) = true)
    (a18 : PySem.W.nsIn K mainGlobals "normal_with" = some (some (.ref f18))) (l18 : K.lookup f18 = some ⟨oc18, od18, .func (PySem.W.fnOf "normal_with" "normal_with" (defArgs (topS 18)) (defBody (topS 18)) (defScope (topS 18)) .none kV18 dc18 pm18 an18 cd18 ct18), sl18⟩) (c18 : PySem.W.codeIn K cd18 "normal_with" = true) (k18 : PySem.W.keepIn K (.ref f18) = true)
    (a19 : PySem.W.nsIn K mainGlobals "is_same_with" = some (some (.ref f19))) (l19 : K.lookup f19 = some ⟨oc19, od19, .func (PySem.W.fnOf "is_same_with" "is_same_with" (defArgs (topS 19)) (defBody (topS 19)) (defScope (topS 19)) .none kV19 dc19 pm19 an19 cd19 ct19), sl19⟩) (c19 : PySem.W.codeIn K cd19 "is_same_with" = true) (k19 : PySem.W.keepIn K (.ref f19) = true)
    (a21 : PySem.W.nsIn K mainGlobals "_law_box" = some (some (.ref f21))) (l21 : K.lookup f21 = some ⟨oc21, od21, .func (PySem.W.fnOf "_law_box" "_law_box" (defArgs (topS 21)) (defBody (topS 21)) (defScope (topS 21)) .none kV21 dc21 pm21 an21 cd21 ct21), sl21⟩) (c21 : PySem.W.codeIn K cd21 "_law_box" = true) (k21 : PySem.W.keepIn K (.ref f21) = true)
    (a22 : PySem.W.nsIn K mainGlobals "_law_take" = some (some (.ref f22))) (l22 : K.lookup f22 = some ⟨oc22, od22, .func (PySem.W.fnOf "_law_take" "_law_take" (defArgs (topS 22)) (defBody (topS 22)) (defScope (topS 22)) .none kV22 dc22 pm22 an22 cd22 ct22), sl22⟩) (c22 : PySem.W.codeIn K cd22 "_law_take" = true) (k22 : PySem.W.keepIn K (.ref f22) = true)
    (a23 : PySem.W.nsIn K mainGlobals "_law_cells" = some (some (.ref f23))) (l23 : K.lookup f23 = some ⟨oc23, od23, .func (PySem.W.fnOf "_law_cells" "_law_cells" (defArgs (topS 23)) (defBody (topS 23)) (defScope (topS 23)) .none kV23 dc23 pm23 an23 cd23 ct23), sl23⟩) (c23 : PySem.W.codeIn K cd23 "_law_cells" = true) (k23 : PySem.W.keepIn K (.ref f23) = true)
    (a24 : PySem.W.nsIn K mainGlobals "_law_same" = some (some (.ref f24))) (l24 : K.lookup f24 = some ⟨oc24, od24, .func (PySem.W.fnOf "_law_same" "_law_same" (defArgs (topS 24)) (defBody (topS 24)) (defScope (topS 24)) .none kV24 dc24 pm24 an24 cd24 ct24), sl24⟩) (c24 : PySem.W.codeIn K cd24 "_law_same" = true) (k24 : PySem.W.keepIn K (.ref f24) = true)
    (a25 : PySem.W.nsIn K mainGlobals "_law_low" = some (some (.ref f25))) (l25 : K.lookup f25 = some ⟨oc25, od25, .func (PySem.W.fnOf "_law_low" "_law_low" (defArgs (topS 25)) (defBody (topS 25)) (defScope (topS 25)) .none kV25 dc25 pm25 an25 cd25 ct25), sl25⟩) (c25 : PySem.W.codeIn K cd25 "_law_low" = true) (k25 : PySem.W.keepIn K (.ref f25) = true)
    (a26 : PySem.W.nsIn K mainGlobals "_law_add" = some (some (.ref f26))) (l26 : K.lookup f26 = some ⟨oc26, od26, .func (PySem.W.fnOf "_law_add" "_law_add" (defArgs (topS 26)) (defBody (topS 26)) (defScope (topS 26)) .none kV26 dc26 pm26 an26 cd26 ct26), sl26⟩) (c26 : PySem.W.codeIn K cd26 "_law_add" = true) (k26 : PySem.W.keepIn K (.ref f26) = true)
    (a27 : PySem.W.nsIn K mainGlobals "_law_much" = some (some (.ref f27))) (l27 : K.lookup f27 = some ⟨oc27, od27, .func (PySem.W.fnOf "_law_much" "_law_much" (defArgs (topS 27)) (defBody (topS 27)) (defScope (topS 27)) .none kV27 dc27 pm27 an27 cd27 ct27), sl27⟩) (c27 : PySem.W.codeIn K cd27 "_law_much" = true) (k27 : PySem.W.keepIn K (.ref f27) = true)
    (a28 : PySem.W.nsIn K mainGlobals "_law_flows" = some (some (.ref f28))) (l28 : K.lookup f28 = some ⟨oc28, od28, .func (PySem.W.fnOf "_law_flows" "_law_flows" (defArgs (topS 28)) (defBody (topS 28)) (defScope (topS 28)) .none kV28 dc28 pm28 an28 cd28 ct28), sl28⟩) (c28 : PySem.W.codeIn K cd28 "_law_flows" = true) (k28 : PySem.W.keepIn K (.ref f28) = true)
    (a29 : PySem.W.nsIn K mainGlobals "_law_undone" = some (some (.ref f29))) (l29 : K.lookup f29 = some ⟨oc29, od29, .func (PySem.W.fnOf "_law_undone" "_law_undone" (defArgs (topS 29)) (defBody (topS 29)) (defScope (topS 29)) .none kV29 dc29 pm29 an29 cd29 ct29), sl29⟩) (c29 : PySem.W.codeIn K cd29 "_law_undone" = true) (k29 : PySem.W.keepIn K (.ref f29) = true)
    (a30 : PySem.W.nsIn K mainGlobals "_law_free" = some (some (.ref f30))) (l30 : K.lookup f30 = some ⟨oc30, od30, .func (PySem.W.fnOf "_law_free" "_law_free" (defArgs (topS 30)) (defBody (topS 30)) (defScope (topS 30)) .none kV30 dc30 pm30 an30 cd30 ct30), sl30⟩) (c30 : PySem.W.codeIn K cd30 "_law_free" = true) (k30 : PySem.W.keepIn K (.ref f30) = true)
    (a31 : PySem.W.nsIn K mainGlobals "_law_lets" = some (some (.ref f31))) (l31 : K.lookup f31 = some ⟨oc31, od31, .func (PySem.W.fnOf "_law_lets" "_law_lets" (defArgs (topS 31)) (defBody (topS 31)) (defScope (topS 31)) .none kV31 dc31 pm31 an31 cd31 ct31), sl31⟩) (c31 : PySem.W.codeIn K cd31 "_law_lets" = true) (k31 : PySem.W.keepIn K (.ref f31) = true)
    (a32 : PySem.W.nsIn K mainGlobals "_law_turns" = some (some (.ref f32))) (l32 : K.lookup f32 = some ⟨oc32, od32, .func (PySem.W.fnOf "_law_turns" "_law_turns" (defArgs (topS 32)) (defBody (topS 32)) (defScope (topS 32)) .none kV32 dc32 pm32 an32 cd32 ct32), sl32⟩) (c32 : PySem.W.codeIn K cd32 "_law_turns" = true) (k32 : PySem.W.keepIn K (.ref f32) = true)
    (a33 : PySem.W.nsIn K mainGlobals "_law_reached" = some (some (.ref f33))) (l33 : K.lookup f33 = some ⟨oc33, od33, .func (PySem.W.fnOf "_law_reached" "_law_reached" (defArgs (topS 33)) (defBody (topS 33)) (defScope (topS 33)) .none kV33 dc33 pm33 an33 cd33 ct33), sl33⟩) (c33 : PySem.W.codeIn K cd33 "_law_reached" = true) (k33 : PySem.W.keepIn K (.ref f33) = true)
    (a34 : PySem.W.nsIn K mainGlobals "_law_shortest" = some (some (.ref f34))) (l34 : K.lookup f34 = some ⟨oc34, od34, .func (PySem.W.fnOf "_law_shortest" "_law_shortest" (defArgs (topS 34)) (defBody (topS 34)) (defScope (topS 34)) .none kV34 dc34 pm34 an34 cd34 ct34), sl34⟩) (c34 : PySem.W.codeIn K cd34 "_law_shortest" = true) (k34 : PySem.W.keepIn K (.ref f34) = true)
    (a35 : PySem.W.nsIn K mainGlobals "_law_drawn_turns" = some (some (.ref f35))) (l35 : K.lookup f35 = some ⟨oc35, od35, .func (PySem.W.fnOf "_law_drawn_turns" "_law_drawn_turns" (defArgs (topS 35)) (defBody (topS 35)) (defScope (topS 35)) .none kV35 dc35 pm35 an35 cd35 ct35), sl35⟩) (c35 : PySem.W.codeIn K cd35 "_law_drawn_turns" = true) (k35 : PySem.W.keepIn K (.ref f35) = true)
    (a36 : PySem.W.nsIn K mainGlobals "_law_case_right" = some (some (.ref f36))) (l36 : K.lookup f36 = some ⟨oc36, od36, .func (PySem.W.fnOf "_law_case_right" "_law_case_right" (defArgs (topS 36)) (defBody (topS 36)) (defScope (topS 36)) .none kV36 dc36 pm36 an36 cd36 ct36), sl36⟩) (c36 : PySem.W.codeIn K cd36 "_law_case_right" = true) (k36 : PySem.W.keepIn K (.ref f36) = true)
    (a37 : PySem.W.nsIn K mainGlobals "_law_by_hand_right" = some (some (.ref f37))) (l37 : K.lookup f37 = some ⟨oc37, od37, .func (PySem.W.fnOf "_law_by_hand_right" "_law_by_hand_right" (defArgs (topS 37)) (defBody (topS 37)) (defScope (topS 37)) .none kV37 dc37 pm37 an37 cd37 ct37), sl37⟩) (c37 : PySem.W.codeIn K cd37 "_law_by_hand_right" = true) (k37 : PySem.W.keepIn K (.ref f37) = true)
    (a38 : PySem.W.nsIn K mainGlobals "_law_right" = some (some (.ref f38))) (l38 : K.lookup f38 = some ⟨oc38, od38, .func (PySem.W.fnOf "_law_right" "_law_right" (defArgs (topS 38)) (defBody (topS 38)) (defScope (topS 38)) .none kV38 dc38 pm38 an38 cd38 ct38), sl38⟩) (c38 : PySem.W.codeIn K cd38 "_law_right" = true) (k38 : PySem.W.keepIn K (.ref f38) = true)
    (a39 : PySem.W.nsIn K mainGlobals "law" = some (some (.ref f39))) (l39 : K.lookup f39 = some ⟨oc39, od39, .func (PySem.W.fnOf "law" "law" (defArgs (topS 39)) (defBody (topS 39)) (defScope (topS 39)) .none kV39 dc39 pm39 an39 cd39 ct39), sl39⟩) (c39 : PySem.W.codeIn K cd39 "law" = true) (k39 : PySem.W.keepIn K (.ref f39) = true)
    {moZERO : Addr} {odZERO : Option Addr} {nnZERO : Nat} {slZERO : Array (Option Value)} {tZERO0 tZERO1 : Tok}
    (m_ZERO : PySem.W.nsIn K mainGlobals "ZERO" = some (some (.ref moZERO))) (k_ZERO : K.lookup moZERO = some ⟨.type "tuple", odZERO, .seq #[.int (0) tZERO0, .int (1) tZERO1] nnZERO, slZERO⟩)
    (f_gcd : PySem.W.nsIn K mainGlobals "gcd" = some (some (.builtin "math.gcd")))
    (z_abs : PySem.W.nsIn K mainGlobals "abs" = some none) (z_all : PySem.W.nsIn K mainGlobals "all" = some none) (z_bool : PySem.W.nsIn K mainGlobals "bool" = some none) (z_enumerate : PySem.W.nsIn K mainGlobals "enumerate" = some none) (z_int : PySem.W.nsIn K mainGlobals "int" = some none) (z_isinstance : PySem.W.nsIn K mainGlobals "isinstance" = some none) (z_len : PySem.W.nsIn K mainGlobals "len" = some none) (z_list : PySem.W.nsIn K mainGlobals "list" = some none) (z_max : PySem.W.nsIn K mainGlobals "max" = some none) (z_min : PySem.W.nsIn K mainGlobals "min" = some none) (z_range : PySem.W.nsIn K mainGlobals "range" = some none) (z_sorted : PySem.W.nsIn K mainGlobals "sorted" = some none) (z_str : PySem.W.nsIn K mainGlobals "str" = some none) (z_tuple : PySem.W.nsIn K mainGlobals "tuple" = some none) (z_zip : PySem.W.nsIn K mainGlobals "zip" = some none) :
    ∃ fd : FuncData, (∀ (s : Shared) (v : Value), BindsTo s fd ⟨[v], []⟩ [("script", v)]) ∧ ∀ base : Heap, K.In base → base.Ns mainGlobals mg → FnOk l.prog w K mg base CX0 60 fl fd ["script"] (spD K 1 (run 60 39)) := by
  have e : fl = f39 := by
    have e := hfa.symm.trans (PySem.W.mg_of X G a39)
    injection e with e
    injection e with e
  rw [e]
  let fa : Nat → Addr := fun i => match i with | 4 => f4 | 7 => f7 | 8 => f8 | 10 => f10 | 11 => f11 | 12 => f12 | 13 => f13 | 14 => f14 | 15 => f15 | 16 => f16 | 17 => f17 | 18 => f18 | 19 => f19 | 21 => f21 | 22 => f22 | 23 => f23 | 24 => f24 | 25 => f25 | 26 => f26 | 27 => f27 | 28 => f28 | 29 => f29 | 30 => f30 | 31 => f31 | 32 => f32 | 33 => f33 | 34 => f34 | 35 => f35 | 36 => f36 | 37 => f37 | 38 => f38 | 39 => f39 | _ => f39
  let fd : Nat → FuncData := fun i => match i with | 4 => PySem.W.fnOf "frozen" "frozen" (defArgs (topS 4)) (defBody (topS 4)) (defScope (topS 4)) .none kV4 dc4 pm4 an4 cd4 ct4 | 7 => PySem.W.fnOf "fraction" "fraction" (defArgs (topS 7)) (defBody (topS 7)) (defScope (topS 7)) .none kV7 dc7 pm7 an7 cd7 ct7 | 8 => PySem.W.fnOf "plus" "plus" (defArgs (topS 8)) (defBody (topS 8)) (defScope (topS 8)) .none kV8 dc8 pm8 an8 cd8 ct8 | 10 => PySem.W.fnOf "_go_together" "_go_together" (defArgs (topS 10)) (defBody (topS 10)) (defScope (topS 10)) .none kV10 dc10 pm10 an10 cd10 ct10 | 11 => PySem.W.fnOf "_place_to_join" "_place_to_join" (defArgs (topS 11)) (defBody (topS 11)) (defScope (topS 11)) .none kV11 dc11 pm11 an11 cd11 ct11 | 12 => PySem.W.fnOf "_shortest" "_shortest" (defArgs (topS 12)) (defBody (topS 12)) (defScope (topS 12)) .none kV12 dc12 pm12 an12 cd12 ct12 | 13 => PySem.W.fnOf "normal_row" "normal_row" (defArgs (topS 13)) (defBody (topS 13)) (defScope (topS 13)) .none kV13 dc13 pm13 an13 cd13 ct13 | 14 => PySem.W.fnOf "is_same" "is_same" (defArgs (topS 14)) (defBody (topS 14)) (defScope (topS 14)) .none kV14 dc14 pm14 an14 cd14 ct14 | 15 => PySem.W.fnOf "_foremost" "_foremost" (defArgs (topS 15)) (defBody (topS 15)) (defScope (topS 15)) .none kV15 dc15 pm15 an15 cd15 ct15 | 16 => PySem.W.fnOf "least_order" "least_order" (defArgs (topS 16)) (defBody (topS 16)) (defScope (topS 16)) .none kV16 dc16 pm16 an16 cd16 ct16 | 17 => PySem.W.fnOf "_parts_of" "_parts_of" (defArgs (topS 17)) (defBody (topS 17)) (defScope (topS 17)) .none kV17 dc17 pm17 an17 cd17 ct17 | 18 => PySem.W.fnOf "normal_with" "normal_with" (defArgs (topS 18)) (defBody (topS 18)) (defScope (topS 18)) .none kV18 dc18 pm18 an18 cd18 ct18 | 19 => PySem.W.fnOf "is_same_with" "is_same_with" (defArgs (topS 19)) (defBody (topS 19)) (defScope (topS 19)) .none kV19 dc19 pm19 an19 cd19 ct19 | 21 => PySem.W.fnOf "_law_box" "_law_box" (defArgs (topS 21)) (defBody (topS 21)) (defScope (topS 21)) .none kV21 dc21 pm21 an21 cd21 ct21 | 22 => PySem.W.fnOf "_law_take" "_law_take" (defArgs (topS 22)) (defBody (topS 22)) (defScope (topS 22)) .none kV22 dc22 pm22 an22 cd22 ct22 | 23 => PySem.W.fnOf "_law_cells" "_law_cells" (defArgs (topS 23)) (defBody (topS 23)) (defScope (topS 23)) .none kV23 dc23 pm23 an23 cd23 ct23 | 24 => PySem.W.fnOf "_law_same" "_law_same" (defArgs (topS 24)) (defBody (topS 24)) (defScope (topS 24)) .none kV24 dc24 pm24 an24 cd24 ct24 | 25 => PySem.W.fnOf "_law_low" "_law_low" (defArgs (topS 25)) (defBody (topS 25)) (defScope (topS 25)) .none kV25 dc25 pm25 an25 cd25 ct25 | 26 => PySem.W.fnOf "_law_add" "_law_add" (defArgs (topS 26)) (defBody (topS 26)) (defScope (topS 26)) .none kV26 dc26 pm26 an26 cd26 ct26 | 27 => PySem.W.fnOf "_law_much" "_law_much" (defArgs (topS 27)) (defBody (topS 27)) (defScope (topS 27)) .none kV27 dc27 pm27 an27 cd27 ct27 | 28 => PySem.W.fnOf "_law_flows" "_law_flows" (defArgs (topS 28)) (defBody (topS 28)) (defScope (topS 28)) .none kV28 dc28 pm28 an28 cd28 ct28 | 29 => PySem.W.fnOf "_law_undone" "_law_undone" (defArgs (topS 29)) (defBody (topS 29)) (defScope (topS 29)) .none kV29 dc29 pm29 an29 cd29 ct29 | 30 => PySem.W.fnOf "_law_free" "_law_free" (defArgs (topS 30)) (defBody (topS 30)) (defScope (topS 30)) .none kV30 dc30 pm30 an30 cd30 ct30 | 31 => PySem.W.fnOf "_law_lets" "_law_lets" (defArgs (topS 31)) (defBody (topS 31)) (defScope (topS 31)) .none kV31 dc31 pm31 an31 cd31 ct31 | 32 => PySem.W.fnOf "_law_turns" "_law_turns" (defArgs (topS 32)) (defBody (topS 32)) (defScope (topS 32)) .none kV32 dc32 pm32 an32 cd32 ct32 | 33 => PySem.W.fnOf "_law_reached" "_law_reached" (defArgs (topS 33)) (defBody (topS 33)) (defScope (topS 33)) .none kV33 dc33 pm33 an33 cd33 ct33 | 34 => PySem.W.fnOf "_law_shortest" "_law_shortest" (defArgs (topS 34)) (defBody (topS 34)) (defScope (topS 34)) .none kV34 dc34 pm34 an34 cd34 ct34 | 35 => PySem.W.fnOf "_law_drawn_turns" "_law_drawn_turns" (defArgs (topS 35)) (defBody (topS 35)) (defScope (topS 35)) .none kV35 dc35 pm35 an35 cd35 ct35 | 36 => PySem.W.fnOf "_law_case_right" "_law_case_right" (defArgs (topS 36)) (defBody (topS 36)) (defScope (topS 36)) .none kV36 dc36 pm36 an36 cd36 ct36 | 37 => PySem.W.fnOf "_law_by_hand_right" "_law_by_hand_right" (defArgs (topS 37)) (defBody (topS 37)) (defScope (topS 37)) .none kV37 dc37 pm37 an37 cd37 ct37 | 38 => PySem.W.fnOf "_law_right" "_law_right" (defArgs (topS 38)) (defBody (topS 38)) (defScope (topS 38)) .none kV38 dc38 pm38 an38 cd38 ct38 | 39 => PySem.W.fnOf "law" "law" (defArgs (topS 39)) (defBody (topS 39)) (defScope (topS 39)) .none kV39 dc39 pm39 an39 cd39 ct39 | _ => PySem.W.fnOf "law" "law" (defArgs (topS 39)) (defBody (topS 39)) (defScope (topS 39)) .none kV39 dc39 pm39 an39 cd39 ct39
  have F4 : Fun K "frozen" "frozen" (topS 4) (fa 4) (fd 4) := fun_mk (st := topS 4) l4 c4 k4
  have F7 : Fun K "fraction" "fraction" (topS 7) (fa 7) (fd 7) := fun_mk (st := topS 7) l7 c7 k7
  have F8 : Fun K "plus" "plus" (topS 8) (fa 8) (fd 8) := fun_mk (st := topS 8) l8 c8 k8
  have F10 : Fun K "_go_together" "_go_together" (topS 10) (fa 10) (fd 10) := fun_mk (st := topS 10) l10 c10 k10
  have F11 : Fun K "_place_to_join" "_place_to_join" (topS 11) (fa 11) (fd 11) := fun_mk (st := topS 11) l11 c11 k11
  have F12 : Fun K "_shortest" "_shortest" (topS 12) (fa 12) (fd 12) := fun_mk (st := topS 12) l12 c12 k12
  have F13 : Fun K "normal_row" "normal_row" (topS 13) (fa 13) (fd 13) := fun_mk (st := topS 13) l13 c13 k13
  have F14 : Fun K "is_same" "is_same" (topS 14) (fa 14) (fd 14) := fun_mk (st := topS 14) l14 c14 k14
  have F15 : Fun K "_foremost" "_foremost" (topS 15) (fa 15) (fd 15) := fun_mk (st := topS 15) l15 c15 k15
  have F16 : Fun K "least_order" "least_order" (topS 16) (fa 16) (fd 16) := fun_mk (st := topS 16) l16 c16 k16
  have F17 : Fun K "_parts_of" "_parts_of" (topS 17) (fa 17) (fd 17) := fun_mk (st := topS 17) l17 c17 k17
  have F18 : Fun K "normal_with" "normal_with" (topS 18) (fa 18) (fd 18) := fun_mk (st := topS 18) l18 c18 k18
  have F19 : Fun K "is_same_with" "is_same_with" (topS 19) (fa 19) (fd 19) := fun_mk (st := topS 19) l19 c19 k19
  have F21 : Fun K "_law_box" "_law_box" (topS 21) (fa 21) (fd 21) := fun_mk (st := topS 21) l21 c21 k21
  have F22 : Fun K "_law_take" "_law_take" (topS 22) (fa 22) (fd 22) := fun_mk (st := topS 22) l22 c22 k22
  have F23 : Fun K "_law_cells" "_law_cells" (topS 23) (fa 23) (fd 23) := fun_mk (st := topS 23) l23 c23 k23
  have F24 : Fun K "_law_same" "_law_same" (topS 24) (fa 24) (fd 24) := fun_mk (st := topS 24) l24 c24 k24
  have F25 : Fun K "_law_low" "_law_low" (topS 25) (fa 25) (fd 25) := fun_mk (st := topS 25) l25 c25 k25
  have F26 : Fun K "_law_add" "_law_add" (topS 26) (fa 26) (fd 26) := fun_mk (st := topS 26) l26 c26 k26
  have F27 : Fun K "_law_much" "_law_much" (topS 27) (fa 27) (fd 27) := fun_mk (st := topS 27) l27 c27 k27
  have F28 : Fun K "_law_flows" "_law_flows" (topS 28) (fa 28) (fd 28) := fun_mk (st := topS 28) l28 c28 k28
  have F29 : Fun K "_law_undone" "_law_undone" (topS 29) (fa 29) (fd 29) := fun_mk (st := topS 29) l29 c29 k29
  have F30 : Fun K "_law_free" "_law_free" (topS 30) (fa 30) (fd 30) := fun_mk (st := topS 30) l30 c30 k30
  have F31 : Fun K "_law_lets" "_law_lets" (topS 31) (fa 31) (fd 31) := fun_mk (st := topS 31) l31 c31 k31
  have F32 : Fun K "_law_turns" "_law_turns" (topS 32) (fa 32) (fd 32) := fun_mk (st := topS 32) l32 c32 k32
  have F33 : Fun K "_law_reached" "_law_reached" (topS 33) (fa 33) (fd 33) := fun_mk (st := topS 33) l33 c33 k33
  have F34 : Fun K "_law_shortest" "_law_shortest" (topS 34) (fa 34) (fd 34) := fun_mk (st := topS 34) l34 c34 k34
  have F35 : Fun K "_law_drawn_turns" "_law_drawn_turns" (topS 35) (fa 35) (fd 35) := fun_mk (st := topS 35) l35 c35 k35
  have F36 : Fun K "_law_case_right" "_law_case_right" (topS 36) (fa 36) (fd 36) := fun_mk (st := topS 36) l36 c36 k36
  have F37 : Fun K "_law_by_hand_right" "_law_by_hand_right" (topS 37) (fa 37) (fd 37) := fun_mk (st := topS 37) l37 c37 k37
  have F38 : Fun K "_law_right" "_law_right" (topS 38) (fa 38) (fd 38) := fun_mk (st := topS 38) l38 c38 k38
  have F39 : Fun K "law" "law" (topS 39) (fa 39) (fd 39) := fun_mk (st := topS 39) l39 c39 k39
  have T : Top K mg fa fd := ⟨F4,
    PySem.W.mg_of X G a4,
    (F4.binds (ps := ["value"]) fun _ _ _ _ _ _ us hl => match us, hl with | [_], _ => rfl),
    F7,
    PySem.W.mg_of X G a7,
    (F7.binds (ps := ["top", "bottom"]) fun _ _ _ _ _ _ us hl => match us, hl with | [_, _], _ => rfl),
    F8,
    PySem.W.mg_of X G a8,
    (F8.binds (ps := ["x", "y"]) fun _ _ _ _ _ _ us hl => match us, hl with | [_, _], _ => rfl),
    F10,
    PySem.W.mg_of X G a10,
    (F10.binds (ps := ["part", "other", "meets"]) fun _ _ _ _ _ _ us hl => match us, hl with | [_, _, _], _ => rfl),
    F11,
    PySem.W.mg_of X G a11,
    (F11.binds (ps := ["row", "part", "meets"]) fun _ _ _ _ _ _ us hl => match us, hl with | [_, _, _], _ => rfl),
    F12,
    PySem.W.mg_of X G a12,
    (F12.binds (ps := ["row", "meets"]) fun _ _ _ _ _ _ us hl => match us, hl with | [_, _], _ => rfl),
    F13,
    PySem.W.mg_of X G a13,
    (F13.binds (ps := ["row"]) fun _ _ _ _ _ _ us hl => match us, hl with | [_], _ => rfl),
    F14,
    PySem.W.mg_of X G a14,
    (F14.binds (ps := ["row", "other"]) fun _ _ _ _ _ _ us hl => match us, hl with | [_, _], _ => rfl),
    F15,
    PySem.W.mg_of X G a15,
    (F15.binds (ps := ["parts", "meets"]) fun _ _ _ _ _ _ us hl => match us, hl with | [_, _], _ => rfl),
    F16,
    PySem.W.mg_of X G a16,
    (F16.binds (ps := ["parts", "meets"]) fun _ _ _ _ _ _ us hl => match us, hl with | [_, _], _ => rfl),
    F17,
    PySem.W.mg_of X G a17,
    (F17.binds (ps := ["row"]) fun _ _ _ _ _ _ us hl => match us, hl with | [_], _ => rfl),
    F18,
    PySem.W.mg_of X G a18,
    (F18.binds (ps := ["row", "meets"]) fun _ _ _ _ _ _ us hl => match us, hl with | [_, _], _ => rfl),
    F19,
    PySem.W.mg_of X G a19,
    (F19.binds (ps := ["row", "other", "meets"]) fun _ _ _ _ _ _ us hl => match us, hl with | [_, _, _], _ => rfl),
    F21,
    PySem.W.mg_of X G a21,
    (F21.binds (ps := ["script", "k"]) fun _ _ _ _ _ _ us hl => match us, hl with | [_, _], _ => rfl),
    F22,
    PySem.W.mg_of X G a22,
    (F22.binds (ps := ["urn", "low_so"]) fun _ _ _ _ _ _ us hl => match us, hl with | [_, _], _ => rfl),
    F23,
    PySem.W.mg_of X G a23,
    (F23.binds (ps := ["script", "roof_so"]) fun _ _ _ _ _ _ us hl => match us, hl with | [_, _], _ => rfl),
    F24,
    PySem.W.mg_of X G a24,
    (F24.binds (ps := ["near", "due"]) fun _ _ _ _ _ _ us hl => match us, hl with | [_, _], _ => rfl),
    F25,
    PySem.W.mg_of X G a25,
    (F25.binds (ps := ["top_so", "down_so"]) fun _ _ _ _ _ _ us hl => match us, hl with | [_, _], _ => rfl),
    F26,
    PySem.W.mg_of X G a26,
    (F26.binds (ps := ["own", "far"]) fun _ _ _ _ _ _ us hl => match us, hl with | [_, _], _ => rfl),
    F27,
    PySem.W.mg_of X G a27,
    (F27.binds (ps := ["urn"]) fun _ _ _ _ _ _ us hl => match us, hl with | [_], _ => rfl),
    F28,
    PySem.W.mg_of X G a28,
    (F28.binds (ps := ["urn", "wide_so", "most_so"]) fun _ _ _ _ _ _ us hl => match us, hl with | [_, _, _], _ => rfl),
    F29,
    PySem.W.mg_of X G a29,
    (F29.binds (ps := ["flows_so"]) fun _ _ _ _ _ _ us hl => match us, hl with | [_], _ => rfl),
    F30,
    PySem.W.mg_of X G a30,
    (F30.binds (ps := ["one_so", "two_so", "lets_so"]) fun _ _ _ _ _ _ us hl => match us, hl with | [_, _, _], _ => rfl),
    F31,
    PySem.W.mg_of X G a31,
    (F31.binds (ps := ["urn", "wide_so"]) fun _ _ _ _ _ _ us hl => match us, hl with | [_, _], _ => rfl),
    F32,
    PySem.W.mg_of X G a32,
    (F32.binds (ps := ["flows_so", "lets_so"]) fun _ _ _ _ _ _ us hl => match us, hl with | [_, _], _ => rfl),
    F33,
    PySem.W.mg_of X G a33,
    (F33.binds (ps := ["flows_so", "lets_so"]) fun _ _ _ _ _ _ us hl => match us, hl with | [_, _], _ => rfl),
    F34,
    PySem.W.mg_of X G a34,
    (F34.binds (ps := ["flows_so", "lets_so"]) fun _ _ _ _ _ _ us hl => match us, hl with | [_, _], _ => rfl),
    F35,
    PySem.W.mg_of X G a35,
    (F35.binds (ps := ["urn", "flows_so", "lets_so"]) fun _ _ _ _ _ _ us hl => match us, hl with | [_, _, _], _ => rfl),
    F36,
    PySem.W.mg_of X G a36,
    (F36.binds (ps := ["urn", "flows_so", "lets_so"]) fun _ _ _ _ _ _ us hl => match us, hl with | [_, _, _], _ => rfl),
    F37,
    PySem.W.mg_of X G a37,
    (F37.binds (ps := []) fun _ _ _ _ _ _ us hl => match us, hl with | [], _ => rfl),
    F38,
    PySem.W.mg_of X G a38,
    (F38.binds (ps := ["urn"]) fun _ _ _ _ _ _ us hl => match us, hl with | [_], _ => rfl),
    F39,
    PySem.W.mg_of X G a39,
    (F39.binds (ps := ["script"]) fun _ _ _ _ _ _ us hl => match us, hl with | [_], _ => rfl),
    ⟨_, _, _, _, PySem.W.mg_of X G m_ZERO, k_ZERO, rfl, rfl, (by show 2 ≤ PySem.sizeLine; decide), (.cons ⟨_, rfl⟩ (.cons ⟨_, rfl⟩ .nil))⟩,
    PySem.W.mg_of X G f_gcd,
    PySem.W.mg_none_of X G z_abs,
    PySem.W.mg_none_of X G z_all,
    PySem.W.mg_none_of X G z_bool,
    PySem.W.mg_none_of X G z_enumerate,
    PySem.W.mg_none_of X G z_int,
    PySem.W.mg_none_of X G z_isinstance,
    PySem.W.mg_none_of X G z_len,
    PySem.W.mg_none_of X G z_list,
    PySem.W.mg_none_of X G z_max,
    PySem.W.mg_none_of X G z_min,
    PySem.W.mg_none_of X G z_range,
    PySem.W.mg_none_of X G z_sorted,
    PySem.W.mg_none_of X G z_str,
    PySem.W.mg_none_of X G z_tuple,
    PySem.W.mg_none_of X G z_zip⟩
  exact ⟨fd 39, fun s v => .of_eq rfl, fun base _ _ => (all_ok T 60).c39⟩
end K26

/-! rows where some parts go together: the stack of a row, up to what goes together -/
namespace Tr
abbrev Pr := Int × Int
abbrev Row := List Pr
structure Ok (c : Int → Int → Bool) : Prop where
  symm : ∀ a b, c a b = c b a
  irr : ∀ a, c a a = false
variable {c : Int → Int → Bool}
/-- what holds a part -/
def dep (c : Int → Int → Bool) (a : Int) (s : Row) : Row := s.filter fun l => !c l.1 a
/-- the uppermost that holds it is of it -/
def tops (c : Int → Int → Bool) (a : Int) (s : Row) : Bool := match dep c a s with
  | [] => false
  | l :: _ => l.1 == a
def join : Row → Pr → Row
  | [], _ => []
  | l :: s, p => if l.1 = p.1 then (if l.2 + p.2 = 0 then s else (p.1, l.2 + p.2) :: s) else l :: join s p
def push (c : Int → Int → Bool) (s : Row) (p : Pr) : Row := if tops c p.1 s = true then join s p else if p.2 = 0 then s else p :: s
def prj (a b : Int) (s : Row) : Row := s.filter fun l => l.1 == a || l.1 == b
def Eqc (c : Int → Int → Bool) (s t : Row) : Prop := ∀ a b, c a b = false → prj a b s = prj a b t
theorem eqc_refl (s : Row) : Eqc c s s := fun _ _ _ => rfl
theorem eqc_symm {s t : Row} (h : Eqc c s t) : Eqc c t s := fun a b k => (h a b k).symm
theorem eqc_trans {s t u : Row} (h : Eqc c s t) (g : Eqc c t u) : Eqc c s u := fun a b k => (h a b k).trans (g a b k)
theorem prj_cons (a b : Int) (l : Pr) (s : Row) : prj a b (l :: s) = if l.1 = a ∨ l.1 = b then l :: prj a b s else prj a b s := by
  unfold prj
  rw [List.filter_cons]
  simp only [Bool.or_eq_true, beq_iff_eq]
theorem dep_cons (a : Int) (l : Pr) (s : Row) : dep c a (l :: s) = if c l.1 a = false then l :: dep c a s else dep c a s := by
  unfold dep
  rw [List.filter_cons]
  simp only [Bool.not_eq_true']
theorem prj_join_in {p : Pr} {u v : Int} (h : p.1 = u ∨ p.1 = v) : ∀ s : Row, prj u v (join s p) = join (prj u v s) p
  | [] => rfl
  | l :: s => by
    by_cases e : l.1 = p.1
    · have hl : l.1 = u ∨ l.1 = v := by rw [e]; exact h
      rw [join, if_pos e, prj_cons, if_pos hl, join, if_pos e]
      split
      · rfl
      · rw [prj_cons, if_pos h]
    · rw [join, if_neg e, prj_cons, prj_cons]
      split
      · rw [join, if_neg e, prj_join_in h s]
      · exact prj_join_in h s
theorem prj_join_out {p : Pr} {u v : Int} (h1 : p.1 ≠ u) (h2 : p.1 ≠ v) : ∀ s : Row, prj u v (join s p) = prj u v s
  | [] => rfl
  | l :: s => by
    have hp : ¬(p.1 = u ∨ p.1 = v) := fun h => h.elim h1 h2
    by_cases e : l.1 = p.1
    · have hl : ¬(l.1 = u ∨ l.1 = v) := by rw [e]; exact hp
      rw [join, if_pos e, prj_cons, if_neg hl]
      split
      · rfl
      · rw [prj_cons, if_neg hp]
    · rw [join, if_neg e, prj_cons, prj_cons, prj_join_out h1 h2 s]
theorem dep_join_out {p : Pr} {q : Int} (h : c p.1 q = true) : ∀ s : Row, dep c q (join s p) = dep c q s
  | [] => rfl
  | l :: s => by
    by_cases e : l.1 = p.1
    · have hl : ¬ c l.1 q = false := by rw [e, h]; decide
      rw [join, if_pos e, dep_cons, if_neg hl]
      split
      · rfl
      · rw [dep_cons, if_neg (by rw [h]; decide)]
    · rw [join, if_neg e, dep_cons, dep_cons, dep_join_out h s]
theorem prj_dep (hc : Ok c) {a b : Int} (h : c a b = false) (s : Row) : prj a b s = (dep c a s).filter fun l => l.1 == a || l.1 == b := by
  unfold prj dep
  rw [List.filter_filter]
  refine List.filter_congr fun l _ => ?_
  by_cases h1 : l.1 = a
  · rw [h1, hc.irr]; simp
  · by_cases h2 : l.1 = b
    · rw [h2, hc.symm b a, h]; simp
    · simp [h1, h2]
theorem tops_spec {a : Int} {s : Row} : tops c a s = true ↔ ∃ l t, dep c a s = l :: t ∧ l.1 = a := by
  unfold tops
  split
  · rename_i h
    rw [h]; simp
  · rename_i l t h
    rw [h]; simp
/-- where it is uppermost, it is at the head of each projection -/
theorem tops_head (hc : Ok c) {a : Int} {s : Row} (h : tops c a s = true) : ∃ l, l.1 = a ∧ ∀ b, c a b = false → ∃ r, prj a b s = l :: r := by
  obtain ⟨l, t, h1, h2⟩ := tops_spec.mp h
  refine ⟨l, h2, fun b hb => ?_⟩
  rw [prj_dep hc hb, h1, List.filter_cons, if_pos (by simp [h2])]
  exact ⟨_, rfl⟩
theorem prj_comm (a b : Int) (s : Row) : prj a b s = prj b a s := by
  unfold prj
  refine List.filter_congr fun l _ => ?_
  rw [Bool.or_comm]
theorem tops_le (hc : Ok c) {a : Int} {s t : Row} (h : Eqc c s t) (k : tops c a s = true) : tops c a t = true := by
  obtain ⟨l, hl, hp⟩ := tops_head hc k
  cases ht : dep c a t with
  | nil =>
    obtain ⟨r, hr⟩ := hp a (hc.irr a)
    have := h a a (hc.irr a)
    rw [hr, prj_dep hc (hc.irr a), ht] at this
    cases this
  | cons m u =>
    by_cases e : m.1 = a
    · exact tops_spec.mpr ⟨m, u, ht, e⟩
    · exfalso
      have hm : c m.1 a = false := by
        have : m ∈ dep c a t := by rw [ht]; exact List.mem_cons_self ..
        unfold dep at this
        simpa using (List.mem_filter.mp this).2
      have hm' : c a m.1 = false := by rw [hc.symm]; exact hm
      obtain ⟨r, hr⟩ := hp m.1 hm'
      have := h a m.1 hm'
      rw [hr, prj_dep hc hm', ht, List.filter_cons, if_pos (by simp)] at this
      have e2 : l = m := by injection this
      rw [← e2] at e
      exact e hl
theorem tops_eq (hc : Ok c) {a : Int} {s t : Row} (h : Eqc c s t) : tops c a s = tops c a t := by
  cases hs : tops c a s with
  | true => exact (tops_le hc h hs).symm
  | false =>
    cases ht : tops c a t with
    | false => rfl
    | true => exact absurd (tops_le hc (eqc_symm h) ht) (by rw [hs]; decide)
theorem prj_push_in {p : Pr} {u v : Int} (h : p.1 = u ∨ p.1 = v) (s : Row) : prj u v (push c s p) = if tops c p.1 s = true then join (prj u v s) p else if p.2 = 0 then prj u v s else p :: prj u v s := by
  unfold push
  split
  · exact prj_join_in h s
  · split
    · rfl
    · rw [prj_cons, if_pos h]
theorem prj_push_out {p : Pr} {u v : Int} (h1 : p.1 ≠ u) (h2 : p.1 ≠ v) (s : Row) : prj u v (push c s p) = prj u v s := by
  unfold push
  split
  · exact prj_join_out h1 h2 s
  · split
    · rfl
    · rw [prj_cons, if_neg fun h => h.elim h1 h2]
theorem push_eq (hc : Ok c) {s t : Row} (h : Eqc c s t) (p : Pr) : Eqc c (push c s p) (push c t p) := fun u v k => by
  by_cases hp : p.1 = u ∨ p.1 = v
  · rw [prj_push_in hp, prj_push_in hp, tops_eq hc h, h u v k]
  · rw [prj_push_out (fun e => hp (.inl e)) (fun e => hp (.inr e)), prj_push_out (fun e => hp (.inl e)) (fun e => hp (.inr e)), h u v k]
theorem tops_push {p : Pr} {q : Int} (h : c p.1 q = true) (s : Row) : tops c q (push c s p) = tops c q s := by
  have e : dep c q (push c s p) = dep c q s := by
    unfold push
    split
    · exact dep_join_out h s
    · split
      · rfl
      · rw [dep_cons, if_neg (by rw [h]; decide)]
  unfold tops
  rw [e]
/-- two that go together, in any order -/
theorem push_swap (hc : Ok c) {p q : Pr} (h : c p.1 q.1 = true) (s : Row) : Eqc c (push c (push c s p) q) (push c (push c s q) p) := fun u v k => by
  have h' : c q.1 p.1 = true := by rw [hc.symm]; exact h
  have hpq : p.1 ≠ q.1 := fun e => by rw [e, hc.irr] at h; cases h
  by_cases hp : p.1 = u ∨ p.1 = v
  · have hq1 : q.1 ≠ u := fun e => by
      rcases hp with hp | hp
      · exact hpq (hp.trans e.symm)
      · rw [← e, ← hp, h'] at k; cases k
    have hq2 : q.1 ≠ v := fun e => by
      rcases hp with hp | hp
      · rw [← e, ← hp, h] at k; cases k
      · exact hpq (hp.trans e.symm)
    rw [prj_push_out hq1 hq2, prj_push_in hp, prj_push_in hp, tops_push h', prj_push_out hq1 hq2]
  · have hp1 : p.1 ≠ u := fun e => hp (.inl e)
    have hp2 : p.1 ≠ v := fun e => hp (.inr e)
    rw [prj_push_out hp1 hp2]
    by_cases hq : q.1 = u ∨ q.1 = v
    · rw [prj_push_in hq, prj_push_in hq, tops_push h, prj_push_out hp1 hp2]
    · have hq1 : q.1 ≠ u := fun e => hq (.inl e)
      have hq2 : q.1 ≠ v := fun e => hq (.inr e)
      rw [prj_push_out hq1 hq2, prj_push_out hq1 hq2, prj_push_out hp1 hp2]
/-! what has nothing to put together -/
def Red (c : Int → Int → Bool) : Row → Prop
  | [] => True
  | l :: s => l.2 ≠ 0 ∧ tops c l.1 s = false ∧ Red c s
theorem tops_tail {a : Int} {l : Pr} {s : Row} (h : tops c a (l :: s) = true) (e : l.1 ≠ a) : c l.1 a = true ∧ tops c a s = true := by
  obtain ⟨m, t, h1, h2⟩ := tops_spec.mp h
  rw [dep_cons] at h1
  by_cases hl : c l.1 a = false
  · rw [if_pos hl] at h1
    have : l = m := by injection h1
    rw [this] at e
    exact absurd h2 e
  · rw [if_neg hl] at h1
    exact ⟨by simpa using hl, tops_spec.mpr ⟨m, t, h1, h2⟩⟩
theorem red_join (hc : Ok c) {p : Pr} : ∀ s : Row, Red c s → tops c p.1 s = true → Red c (join s p)
  | [], h, _ => h
  | l :: s, ⟨h1, h2, h3⟩, ht => by
    by_cases e : l.1 = p.1
    · rw [join, if_pos e]
      split
      · exact h3
      · rename_i hz
        exact ⟨hz, by show tops c p.1 s = false; rw [← e]; exact h2, h3⟩
    · obtain ⟨k1, k2⟩ := tops_tail ht e
      rw [join, if_neg e]
      refine ⟨h1, ?_, red_join hc s h3 k2⟩
      have : dep c l.1 (join s p) = dep c l.1 s := dep_join_out (by rw [hc.symm]; exact k1) s
      unfold tops at h2 ⊢
      rw [this]; exact h2
theorem red_push (hc : Ok c) {s : Row} (h : Red c s) (p : Pr) : Red c (push c s p) := by
  unfold push
  split
  · rename_i ht
    exact red_join hc s h ht
  · rename_i ht
    split
    · exact h
    · rename_i hz
      exact ⟨hz, by simpa using ht, h⟩
theorem join_zero {a : Int} : ∀ s : Row, Red c s → join s (a, 0) = s
  | [], _ => rfl
  | l :: s, ⟨h1, h2, h3⟩ => by
    by_cases e : l.1 = a
    · rw [join, if_pos e, if_neg (by show ¬ l.2 + 0 = 0; rw [Int.add_zero]; exact h1)]
      show (a, l.2 + 0) :: s = l :: s
      rw [Int.add_zero, ← e]
    · rw [join, if_neg e, join_zero s h3]
theorem push_zero {a : Int} {s : Row} (h : Red c s) : push c s (a, 0) = s := by
  unfold push
  split
  · exact join_zero s h
  · exact if_pos rfl
/-- the uppermost one of a part, where it can be reached -/
theorem join_twice (hc : Ok c) {a x y : Int} : ∀ s : Row, Red c s → tops c a s = true →
    (tops c a (join s (a, x)) = true ∧ join (join s (a, x)) (a, y) = join s (a, x + y)) ∨
    (tops c a (join s (a, x)) = false ∧ ∀ u v, c u v = false → a = u ∨ a = v → ∃ r, prj u v (join s (a, x)) = r ∧ prj u v (join s (a, x + y)) = if y = 0 then r else (a, y) :: r)
  | [], _, h => by cases h
  | l :: s, ⟨h1, h2, h3⟩, ht => by
    by_cases e : l.1 = a
    · rw [join, if_pos e, join, if_pos e]
      by_cases hz : l.2 + x = 0
      · right
        have hz' : l.2 + (a, x).2 = 0 := hz
        rw [if_pos hz']
        refine ⟨by rw [← e]; exact h2, fun u v k hu => ⟨prj u v s, rfl, ?_⟩⟩
        have hy : l.2 + (a, x + y).2 = y := by show l.2 + (x + y) = y; omega
        rw [hy]
        split
        · rfl
        · rw [prj_cons, if_pos hu]
      · left
        have hz' : ¬ l.2 + (a, x).2 = 0 := hz
        rw [if_neg hz']
        refine ⟨tops_spec.mpr ⟨(a, l.2 + x), _, by rw [dep_cons, if_pos (hc.irr a)], rfl⟩, ?_⟩
        rw [join, if_pos rfl]
        show (if l.2 + x + y = 0 then s else (a, l.2 + x + y) :: s) = if l.2 + (x + y) = 0 then s else (a, l.2 + (x + y)) :: s
        rw [Int.add_assoc]
    · obtain ⟨k1, k2⟩ := tops_tail ht e
      rw [join, if_neg e, join, if_neg e]
      have hd : ∀ t, tops c a (l :: t) = tops c a t := fun t => by
        unfold tops
        rw [dep_cons, if_neg (by rw [k1]; decide)]
      rcases join_twice hc s h3 k2 (x := x) (y := y) with ⟨g1, g2⟩ | ⟨g1, g2⟩
      · left
        refine ⟨by rw [hd]; exact g1, ?_⟩
        rw [join, if_neg e, g2]
      · right
        refine ⟨by rw [hd]; exact g1, fun u v k hu => ?_⟩
        obtain ⟨r, q1, q2⟩ := g2 u v k hu
        have hl : ¬(l.1 = u ∨ l.1 = v) := fun h => by
          rcases h with h | h <;> rcases hu with hu | hu
          · exact e (h.trans hu.symm)
          · rw [h, hu] at k1; rw [k1] at k; cases k
          · rw [h, hu, hc.symm] at k1; rw [k1] at k; cases k
          · exact e (h.trans hu.symm)
        exact ⟨r, by rw [prj_cons, if_neg hl]; exact q1, by rw [join, if_neg e, prj_cons, if_neg hl]; exact q2⟩
theorem push_twice (hc : Ok c) {a x y : Int} {s : Row} (h : Red c s) : Eqc c (push c (push c s (a, x)) (a, y)) (push c s (a, x + y)) := by
  cases ht : tops c a s with
  | false =>
    by_cases hx : x = 0
    · subst hx
      rw [push_zero h, Int.zero_add]
      exact eqc_refl _
    · have e1 : push c s (a, x) = (a, x) :: s := by
        unfold push
        rw [if_neg (by rw [show tops c (a, x).1 s = false from ht]; decide), if_neg hx]
      have e2 : tops c a ((a, x) :: s) = true := tops_spec.mpr ⟨(a, x), _, by rw [dep_cons, if_pos (hc.irr a)], rfl⟩
      rw [e1]
      unfold push
      rw [if_pos (show tops c (a, y).1 ((a, x) :: s) = true from e2), if_neg (by rw [show tops c (a, x + y).1 s = false from ht]; decide), join, if_pos rfl]
      exact eqc_refl _
  | true =>
    have e1 : push c s (a, x) = join s (a, x) := by unfold push; rw [if_pos (show tops c (a, x).1 s = true from ht)]
    have e2 : push c s (a, x + y) = join s (a, x + y) := by unfold push; rw [if_pos (show tops c (a, x + y).1 s = true from ht)]
    rw [e1, e2]
    rcases join_twice hc s h ht (x := x) (y := y) with ⟨g1, g2⟩ | ⟨g1, g2⟩
    · unfold push
      rw [if_pos (show tops c (a, y).1 _ = true from g1), g2]
      exact eqc_refl _
    · intro u v k
      by_cases hu : a = u ∨ a = v
      · obtain ⟨r, q1, q2⟩ := g2 u v k hu
        rw [prj_push_in (p := (a, y)) hu, if_neg (by rw [show tops c (a, y).1 _ = false from g1]; decide), q1, q2]
      · have h1 : a ≠ u := fun e => hu (.inl e)
        have h2 : a ≠ v := fun e => hu (.inr e)
        rw [prj_push_out (p := (a, y)) h1 h2, prj_join_out (p := (a, x)) h1 h2, prj_join_out (p := (a, x + y)) h1 h2]
/-! rows -/
def stk (c : Int → Int → Bool) (r s : Row) : Row := r.foldl (push c) s
theorem stk_app (a b s : Row) : stk c (a ++ b) s = stk c b (stk c a s) := by unfold stk; rw [List.foldl_append]
theorem stk_eq (hc : Ok c) : ∀ (r : Row) {s t : Row}, Eqc c s t → Eqc c (stk c r s) (stk c r t)
  | [], _, _, h => h
  | p :: r, _, _, h => stk_eq hc r (push_eq hc h p)
theorem stk_red (hc : Ok c) : ∀ (r : Row) {s : Row}, Red c s → Red c (stk c r s)
  | [], _, h => h
  | p :: r, _, h => stk_red hc r (red_push hc h p)
/-- one behind all that it goes together with -/
theorem stk_over (hc : Ok c) {p : Pr} : ∀ (b s : Row), (∀ q ∈ b, c p.1 q.1 = true) → Eqc c (stk c (p :: b) s) (stk c (b ++ [p]) s)
  | [], s, _ => eqc_refl _
  | q :: b, s, h => by
    have h1 := push_swap hc (h q (List.mem_cons_self ..)) s
    have h2 := stk_over hc b (push c s q) fun z hz => h z (List.mem_cons_of_mem _ hz)
    exact eqc_trans (stk_eq hc b h1) h2
theorem stk_meet (hc : Ok c) {a x y : Int} {b s : Row} (hs : Red c s) (h : ∀ q ∈ b, c a q.1 = true) : Eqc c (stk c ((a, x) :: b ++ [(a, y)]) s) (stk c (b ++ [(a, x + y)]) s) := by
  have h1 := stk_over hc (p := (a, x)) b s h
  have h2 := push_eq hc h1 (a, y)
  rw [stk_app]
  refine eqc_trans h2 ?_
  rw [stk_app, stk_app]
  exact push_twice hc (stk_red hc b hs)
theorem stk_none {a : Int} {s : Row} (hs : Red c s) : stk c [(a, 0)] s = s := push_zero hs
/-- a row with nothing to put together is its own stack -/
theorem stk_self : ∀ s : Row, Red c s → stk c s.reverse [] = s
  | [], _ => rfl
  | l :: s, ⟨h1, h2, h3⟩ => by
    rw [List.reverse_cons, stk_app, stk_self s h3]
    show push c s l = _
    unfold push
    rw [if_neg (by rw [h2]; decide), if_neg h1]
/-- the row's class tells all rows that come of it -/
theorem stk_unique (hc : Ok c) {r h : Row} (hr : Red c h.reverse) (e : Eqc c (stk c h []) (stk c r [])) : Eqc c h.reverse (stk c r []) := by
  have := stk_self h.reverse hr
  rw [List.reverse_reverse] at this
  rw [← this]; exact e
theorem eqc_rev {s t : Row} (h : Eqc c s t) : Eqc c s.reverse t.reverse := fun a b k => by
  have := h a b k
  unfold prj at this ⊢
  rw [List.filter_reverse, List.filter_reverse, this]
end Tr

/-! layers: what is foremost, and the rest -/
namespace Tr
variable {c : Int → Int → Bool}
def fore (c : Int → Int → Bool) : List Int → Row → Row
  | _, [] => []
  | seen, p :: r => if seen.all (fun b => c p.1 b) = true then p :: fore c (p.1 :: seen) r else fore c (p.1 :: seen) r
def back (c : Int → Int → Bool) : List Int → Row → Row
  | _, [] => []
  | seen, p :: r => if seen.all (fun b => c p.1 b) = true then back c (p.1 :: seen) r else p :: back c (p.1 :: seen) r
/-- behind one of two that don't go together, none of both is foremost -/
theorem fore_none (hc : Ok c) {a b : Int} (h : c a b = false) : ∀ (r : Row) (seen : List Int), (a ∈ seen ∨ b ∈ seen) → prj a b (fore c seen r) = [] ∧ prj a b (back c seen r) = prj a b r
  | [], _, _ => ⟨rfl, rfl⟩
  | p :: r, seen, hs => by
    have ih := fore_none hc h r (p.1 :: seen) (hs.elim (fun k => .inl (List.mem_cons_of_mem _ k)) fun k => .inr (List.mem_cons_of_mem _ k))
    by_cases hp : p.1 = a ∨ p.1 = b
    · have hf : ¬ seen.all (fun b => c p.1 b) = true := fun k => by
        rw [List.all_eq_true] at k
        rcases hs with hs | hs <;> rcases hp with hp | hp
        · have := k a hs; rw [hp, hc.irr] at this; cases this
        · have := k a hs; rw [hp, hc.symm, h] at this; cases this
        · have := k b hs; rw [hp, h] at this; cases this
        · have := k b hs; rw [hp, hc.irr] at this; cases this
      rw [fore, if_neg hf, back, if_neg hf, prj_cons, if_pos hp, prj_cons, if_pos hp, ih.2]
      exact ⟨ih.1, rfl⟩
    · rw [fore, back, prj_cons, if_neg hp]
      split
      · rw [prj_cons, if_neg hp]; exact ih
      · rw [prj_cons, if_neg hp]; exact ih
theorem fore_back (hc : Ok c) {a b : Int} (h : c a b = false) : ∀ (r : Row) (seen : List Int), prj a b r = prj a b (fore c seen r) ++ prj a b (back c seen r)
  | [], _ => rfl
  | p :: r, seen => by
    have ih := fore_back hc h r (p.1 :: seen)
    rw [fore, back]
    by_cases hp : p.1 = a ∨ p.1 = b
    · have hn := fore_none hc h r (p.1 :: seen) (hp.elim (fun k => .inl (by rw [k]; exact List.mem_cons_self ..)) fun k => .inr (by rw [k]; exact List.mem_cons_self ..))
      split
      · rw [prj_cons, if_pos hp, prj_cons, if_pos hp, hn.1, hn.2]; rfl
      · rw [prj_cons, if_pos hp, prj_cons, if_pos hp, hn.1, hn.2]; rfl
    · split
      · rw [prj_cons, if_neg hp, prj_cons, if_neg hp]; exact ih
      · rw [prj_cons, if_neg hp, prj_cons, if_neg hp]; exact ih
theorem fore_short (hc : Ok c) {a b : Int} (h : c a b = false) : ∀ (r : Row) (seen : List Int), (prj a b (fore c seen r)).length ≤ 1
  | [], _ => Nat.zero_le _
  | p :: r, seen => by
    rw [fore]
    by_cases hp : p.1 = a ∨ p.1 = b
    · have hn := fore_none hc h r (p.1 :: seen) (hp.elim (fun k => .inl (by rw [k]; exact List.mem_cons_self ..)) fun k => .inr (by rw [k]; exact List.mem_cons_self ..))
      split
      · rw [prj_cons, if_pos hp, hn.1]; exact Nat.le_refl _
      · rw [hn.1]; exact Nat.zero_le _
    · have ih := fore_short hc h r (p.1 :: seen)
      split
      · rw [prj_cons, if_neg hp]; exact ih
      · exact ih
theorem mem_prj {a b : Int} {p : Pr} {r : Row} (hp : p ∈ r) (h : p.1 = a ∨ p.1 = b) : p ∈ prj a b r := by
  unfold prj
  exact List.mem_filter.mpr ⟨hp, by simpa using h⟩
theorem prj_mem {a b : Int} {p : Pr} {r : Row} (h : p ∈ prj a b r) : p ∈ r ∧ (p.1 = a ∨ p.1 = b) := by
  unfold prj at h
  obtain ⟨h1, h2⟩ := List.mem_filter.mp h
  exact ⟨h1, by simpa using h2⟩
/-- foremost is what stands at the head beside all that it doesn't go with -/
theorem fore_head (hc : Ok c) {p : Pr} {r : Row} {seen : List Int} (h : p ∈ fore c seen r) {b : Int} (hb : c p.1 b = false) : (prj p.1 b r).head? = some p := by
  rw [fore_back hc hb r seen]
  have h1 := fore_short hc hb r seen
  have h2 := mem_prj (a := p.1) (b := b) h (.inl rfl)
  match hl : prj p.1 b (fore c seen r), h1, h2 with
  | [], _, h2 => cases h2
  | [q], _, h2 => rw [List.mem_singleton] at h2; rw [h2]; rfl
  | _ :: _ :: _, h1, _ => simp at h1
theorem head_fore (hc : Ok c) {p : Pr} : ∀ (r : Row) (seen : List Int), (∀ b ∈ seen, c p.1 b = true) → (∀ b, c p.1 b = false → (prj p.1 b r).head? = some p) → p ∈ fore c seen r
  | [], _, _, h => by have := h p.1 (hc.irr _); cases this
  | q :: r, seen, hs, h => by
    by_cases hq : q.1 = p.1
    · have h1 := h p.1 (hc.irr _)
      rw [prj_cons, if_pos (.inl hq)] at h1
      have e : q = p := by injection h1
      rw [fore, if_pos (by rw [List.all_eq_true]; intro b hb; rw [hq]; exact hs b hb), e]
      exact List.mem_cons_self ..
    · have hcq : c p.1 q.1 = true := by
        cases k : c p.1 q.1 with
        | true => rfl
        | false =>
          have h1 := h q.1 k
          rw [prj_cons, if_pos (.inr rfl)] at h1
          have e : q = p := by injection h1
          exact absurd (by rw [e]) hq
      have ih := head_fore hc r (q.1 :: seen) (fun b hb => by
        rcases List.mem_cons.mp hb with rfl | hb
        · exact hcq
        · exact hs b hb) fun b hb => by
          have h1 := h b hb
          rw [prj_cons, if_neg (fun k => by
            rcases k with k | k
            · exact hq k
            · rw [k, hb] at hcq; cases hcq)] at h1
          exact h1
      rw [fore]
      split
      · exact List.mem_cons_of_mem _ ih
      · exact ih
theorem fore_le (hc : Ok c) {r t : Row} (h : Eqc c r t) {p : Pr} (hp : p ∈ fore c [] r) : p ∈ fore c [] t :=
  head_fore hc t [] (fun _ k => by cases k) fun b hb => by rw [← h p.1 b hb]; exact fore_head hc hp hb
theorem fore_mem (hc : Ok c) {r t : Row} (h : Eqc c r t) (p : Pr) : p ∈ fore c [] r ↔ p ∈ fore c [] t := ⟨fore_le hc h, fore_le hc (eqc_symm h)⟩
theorem short_eq {l m : Row} (h1 : l.length ≤ 1) (h2 : m.length ≤ 1) (h : ∀ p, p ∈ l ↔ p ∈ m) : l = m := by
  match l, m, h1, h2 with
  | [], [], _, _ => rfl
  | [], [q], _, _ => exact absurd ((h q).mpr (List.mem_cons_self ..)) (by simp)
  | [p], [], _, _ => exact absurd ((h p).mp (List.mem_cons_self ..)) (by simp)
  | [p], [q], _, _ =>
    have := (h p).mp (List.mem_cons_self ..)
    rw [List.mem_singleton] at this
    rw [this]
theorem back_eq (hc : Ok c) {r t : Row} (h : Eqc c r t) : Eqc c (back c [] r) (back c [] t) := fun a b k => by
  have h1 := h a b k
  rw [fore_back hc k r [], fore_back hc k t []] at h1
  have e : prj a b (fore c [] r) = prj a b (fore c [] t) := short_eq (fore_short hc k r []) (fore_short hc k t []) fun p => by
    constructor
    · intro hp
      obtain ⟨h2, h3⟩ := prj_mem hp
      exact mem_prj ((fore_mem hc h p).mp h2) h3
    · intro hp
      obtain ⟨h2, h3⟩ := prj_mem hp
      exact mem_prj ((fore_mem hc h p).mpr h2) h3
  rw [e] at h1
  exact List.append_cancel_left h1
/-- of each part at most one is foremost -/
theorem fore_once (hc : Ok c) : ∀ (r : Row) (seen : List Int), (fore c seen r).Pairwise (fun p q => c p.1 q.1 = true) ∧ ∀ p ∈ fore c seen r, ∀ b ∈ seen, c p.1 b = true
  | [], _ => ⟨List.Pairwise.nil, fun _ h => by cases h⟩
  | p :: r, seen => by
    obtain ⟨h1, h2⟩ := fore_once hc r (p.1 :: seen)
    rw [fore]
    split
    · rename_i hs
      rw [List.all_eq_true] at hs
      refine ⟨List.pairwise_cons.mpr ⟨fun q hq => by rw [hc.symm]; exact h2 q hq p.1 (List.mem_cons_self ..), h1⟩, fun q hq b hb => ?_⟩
      rcases List.mem_cons.mp hq with rfl | hq
      · exact hs b hb
      · exact h2 q hq b (List.mem_cons_of_mem _ hb)
    · exact ⟨h1, fun q hq b hb => h2 q hq b (List.mem_cons_of_mem _ hb)⟩
theorem back_len : ∀ (r : Row) (seen : List Int), (fore c seen r).length + (back c seen r).length = r.length
  | [], _ => rfl
  | p :: r, seen => by
    have ih := back_len r (p.1 :: seen)
    rw [fore, back]
    split
    · rw [List.length_cons, List.length_cons]; omega
    · rw [List.length_cons, List.length_cons]; omega
theorem fore_ne (p : Pr) (r : Row) : fore c [] (p :: r) ≠ [] := by
  rw [fore, if_pos (by rfl)]
  simp
/-- sorted by part -/
def ins (p : Pr) : Row → Row
  | [] => [p]
  | q :: r => if p.1 ≤ q.1 then p :: q :: r else q :: ins p r
def srt (r : Row) : Row := r.foldr ins []
theorem ins_mem {p q : Pr} : ∀ {r : Row}, q ∈ ins p r ↔ q = p ∨ q ∈ r
  | [] => by simp [ins]
  | z :: r => by
    rw [ins]
    split
    · exact List.mem_cons
    · rw [List.mem_cons, ins_mem, List.mem_cons]
      constructor
      · rintro (h | h | h)
        · exact .inr (.inl h)
        · exact .inl h
        · exact .inr (.inr h)
      · rintro (h | h | h)
        · exact .inr (.inl h)
        · exact .inl h
        · exact .inr (.inr h)
theorem srt_mem {q : Pr} : ∀ {r : Row}, q ∈ srt r ↔ q ∈ r
  | [] => Iff.rfl
  | p :: r => by
    show q ∈ ins p (srt r) ↔ _
    rw [ins_mem, srt_mem, List.mem_cons]
theorem ins_asc {p : Pr} : ∀ {r : Row}, r.Pairwise (fun x y => x.1 < y.1) → (∀ q ∈ r, q.1 ≠ p.1) → (ins p r).Pairwise (fun x y => x.1 < y.1)
  | [], _, _ => by simp [ins]
  | z :: r, h, hp => by
    obtain ⟨h1, h2⟩ := List.pairwise_cons.mp h
    have hz := hp z (List.mem_cons_self ..)
    rw [ins]
    split
    · rename_i hle
      refine List.pairwise_cons.mpr ⟨fun q hq => ?_, h⟩
      rcases List.mem_cons.mp hq with rfl | hq
      · omega
      · have := h1 q hq; omega
    · rename_i hle
      refine List.pairwise_cons.mpr ⟨fun q hq => ?_, ins_asc h2 fun q hq => hp q (List.mem_cons_of_mem _ hq)⟩
      rcases ins_mem.mp hq with rfl | hq
      · omega
      · exact h1 q hq
theorem srt_asc : ∀ {r : Row}, r.Pairwise (fun x y => x.1 ≠ y.1) → (srt r).Pairwise (fun x y => x.1 < y.1)
  | [], _ => List.Pairwise.nil
  | p :: r, h => by
    obtain ⟨h1, h2⟩ := List.pairwise_cons.mp h
    exact ins_asc (srt_asc h2) fun q hq => fun e => h1 q (srt_mem.mp hq) e.symm
theorem asc_eq : ∀ {l m : Row}, l.Pairwise (fun x y => x.1 < y.1) → m.Pairwise (fun x y => x.1 < y.1) → (∀ p, p ∈ l ↔ p ∈ m) → l = m
  | [], [], _, _, _ => rfl
  | [], q :: m, _, _, h => absurd ((h q).mpr (List.mem_cons_self ..)) (by simp)
  | p :: l, [], _, _, h => absurd ((h p).mp (List.mem_cons_self ..)) (by simp)
  | p :: l, q :: m, h1, h2, h => by
    obtain ⟨a1, a2⟩ := List.pairwise_cons.mp h1
    obtain ⟨b1, b2⟩ := List.pairwise_cons.mp h2
    have e : p = q := by
      rcases List.mem_cons.mp ((h p).mp (List.mem_cons_self ..)) with e | hp
      · exact e
      · rcases List.mem_cons.mp ((h q).mpr (List.mem_cons_self ..)) with e | hq
        · exact e.symm
        · have := b1 p hp; have := a1 q hq; omega
    subst e
    congr 1
    refine asc_eq a2 b2 fun z => ?_
    have hz := h z
    rw [List.mem_cons, List.mem_cons] at hz
    constructor
    · intro k
      rcases hz.mp (.inr k) with e | e
      · subst e; have := a1 z k; omega
      · exact e
    · intro k
      rcases hz.mpr (.inr k) with e | e
      · subst e; have := b1 z k; omega
      · exact e
theorem fore_srt (hc : Ok c) {r t : Row} (h : Eqc c r t) : srt (fore c [] r) = srt (fore c [] t) := by
  have d : ∀ r : Row, (fore c [] r).Pairwise (fun x y => x.1 ≠ y.1) := fun r => (fore_once hc r []).1.imp fun k e => by rw [e, hc.irr] at k; cases k
  exact asc_eq (srt_asc (d r)) (srt_asc (d t)) fun p => by rw [srt_mem, srt_mem]; exact fore_mem hc h p
/-- the layers of a row -/
def lay (c : Int → Int → Bool) : Nat → Row → List Row
  | 0, _ => []
  | _, [] => []
  | n + 1, p :: r => srt (fore c [] (p :: r)) :: lay c n (back c [] (p :: r))
theorem eqc_nil (hc : Ok c) {t : Row} (h : Eqc c [] t) : t = [] := by
  cases t with
  | nil => rfl
  | cons p t =>
    have := h p.1 p.1 (hc.irr _)
    rw [prj_cons, if_pos (.inl rfl)] at this
    cases this
/-- alike rows have the same layers -/
theorem lay_eq (hc : Ok c) : ∀ (n : Nat) {r t : Row}, Eqc c r t → lay c n r = lay c n t
  | 0, _, _, _ => rfl
  | n + 1, [], t, h => by rw [eqc_nil hc h]
  | n + 1, p :: r, [], h => by have := eqc_nil hc (eqc_symm h); cases this
  | n + 1, p :: r, q :: t, h => by
    rw [lay, lay, fore_srt hc h, lay_eq hc n (back_eq hc h)]
/-- a row is alike its layers, one behind the other -/
theorem lay_flat (hc : Ok c) : ∀ (n : Nat) (r : Row), r.length ≤ n → Eqc c (lay c n r).flatten r
  | 0, r, h => by
    have : r = [] := List.eq_nil_of_length_eq_zero (by omega)
    rw [this]; exact eqc_refl _
  | n + 1, [], _ => eqc_refl _
  | n + 1, p :: r, h => fun a b k => by
    have hb := back_len (c := c) (p :: r) []
    have hf := fore_ne (c := c) p r
    have h0 : 0 < (fore c [] (p :: r)).length := List.length_pos_iff.mpr hf
    have ih := lay_flat hc n (back c [] (p :: r)) (by omega) a b k
    rw [lay, List.flatten_cons]
    have e1 : ∀ x y : Row, prj a b (x ++ y) = prj a b x ++ prj a b y := fun x y => by unfold prj; rw [List.filter_append]
    rw [e1, ih, fore_back hc k (p :: r) []]
    congr 1
    have hl : (prj a b (srt (fore c [] (p :: r)))).length ≤ 1 := by
      have hd : (prj a b (srt (fore c [] (p :: r)))).Pairwise (fun x y => x.1 < y.1) := by
        unfold prj
        exact (srt_asc ((fore_once hc (p :: r) []).1.imp fun k e => by rw [e, hc.irr] at k; cases k)).filter _
      match hm : prj a b (srt (fore c [] (p :: r))), hd with
      | [], _ => exact Nat.zero_le _
      | [_], _ => exact Nat.le_refl _
      | x :: y :: z, hd =>
        exfalso
        have m1 : x ∈ prj a b (srt (fore c [] (p :: r))) := by rw [hm]; exact List.mem_cons_self ..
        have m2 : y ∈ prj a b (srt (fore c [] (p :: r))) := by rw [hm]; exact List.mem_cons_of_mem _ (List.mem_cons_self ..)
        obtain ⟨m3, m4⟩ := prj_mem m1
        obtain ⟨m5, m6⟩ := prj_mem m2
        have s1 := mem_prj (srt_mem.mp m3) m4
        have s2 := mem_prj (srt_mem.mp m5) m6
        have hlt : x.1 < y.1 := (List.pairwise_cons.mp hd).1 y (List.mem_cons_self ..)
        have hs := fore_short hc k (p :: r) []
        match hq : prj a b (fore c [] (p :: r)), hs, s1, s2 with
        | [], _, s1, _ => cases s1
        | [w], _, s1, s2 =>
          rw [List.mem_singleton] at s1 s2
          rw [s1, s2] at hlt; omega
        | _ :: _ :: _, hs, _, _ => simp at hs
    exact short_eq hl (fore_short hc k (p :: r) []) fun q => by
      constructor
      · intro hq
        obtain ⟨m1, m2⟩ := prj_mem hq
        exact mem_prj (srt_mem.mp m1) m2
      · intro hq
        obtain ⟨m1, m2⟩ := prj_mem hq
        exact mem_prj (srt_mem.mpr m1) m2
/-- alike exactly if the layers are the same -/
theorem lay_iff (hc : Ok c) {r t : Row} {n : Nat} (h1 : r.length ≤ n) (h2 : t.length ≤ n) : lay c n r = lay c n t ↔ Eqc c r t :=
  ⟨fun h => by
    have := lay_flat hc n r h1
    rw [h] at this
    exact eqc_trans (eqc_symm this) (lay_flat hc n t h2), lay_eq hc n⟩
end Tr

namespace K26
open PySem Vi PyProof.Rows
/-! fractions -/
abbrev ii (i : Int) : Option Sv := some (.imm (.int i))
def fr (q : Rat) : D := .tuple [.int q.num, .int (q.den : Int)]
structure IsFr (d : D) (q : Rat) : Prop where
  top : dIx d (.int 0) = some (.imm (.int q.num))
  bot : dIx d (.int 1) = some (.imm (.int (q.den : Int)))
theorem isFr (q : Rat) : IsFr (fr q) q := ⟨rfl, rfl⟩
theorem isFrL (q : Rat) : IsFr (.list [.int q.num, .int (q.den : Int)]) q := ⟨rfl, rfl⟩
theorem div_ok {j : Int} (h : 0 < j) (h2 : j < 2 ^ 250) : divOk j = true := decide_eq_true ⟨h, by
  have : j.natAbs.log2 < 250 := (Nat.log2_lt (by omega)).mpr (by omega)
  omega⟩
theorem mul_ok {i j : Int} (h1 : i.natAbs < 2 ^ 250) (h2 : j.natAbs < 2 ^ 250) : mulOk i j = true := by
  unfold mulOk
  rw [Bool.or_eq_true]
  refine .inr (decide_eq_true ?_)
  have a : i.natAbs.log2 < 250 := by
    by_cases h : i.natAbs = 0
    · rw [h]; decide
    · exact (Nat.log2_lt h).mpr h1
  have b : j.natAbs.log2 < 250 := by
    by_cases h : j.natAbs = 0
    · rw [h]; decide
    · exact (Nat.log2_lt h).mpr h2
  omega
theorem okD_int (i : Int) : okD (.int i) = true := rfl
theorem eqv_int (i j : Int) : PyData.eqv (.int i) (.int j) = (i == j) := by rw [PyData.eqv]
theorem eq_int (i j : Int) : dEq (.int i) (.int j) = some (.imm (.bool (i == j))) := by
  unfold dEq
  rw [okD_int, okD_int, eqv_int]; rfl
/-- the lowest terms -/
theorem low_rat (a : Int) (b : Nat) (hb : 0 < b) : (mkRat a b).num = a / ((Nat.gcd a.natAbs b : Nat) : Int) ∧ ((mkRat a b).den : Int) = (b : Int) / ((Nat.gcd a.natAbs b : Nat) : Int) := by
  rw [Rat.mkRat_def, dif_neg (by omega), Rat.normalize_eq]
  refine ⟨rfl, ?_⟩
  show ((b / Nat.gcd a.natAbs b : Nat) : Int) = _
  rw [Int.natCast_ediv]
theorem fraction_ok {cl : Nat → Fn} (a : Int) (b : Nat) (hb : 0 < b) (h2 : b < 2 ^ 200) : fn7 cl [.imm (.int a), .imm (.int (b : Int))] = some (.imm (fr (mkRat a b)), [none, none]) := by
  have hg : 0 < Nat.gcd a.natAbs b := Nat.gcd_pos_of_pos_right _ hb
  have hg2 : Nat.gcd a.natAbs b ≤ b := Nat.le_of_dvd hb (Nat.gcd_dvd_right _ _)
  obtain ⟨e1, e2⟩ := low_rat a b hb
  have hd : divOk ((Nat.gcd a.natAbs b : Nat) : Int) = true := div_ok (by omega) (by
    have : (2 : Int) ^ 200 < 2 ^ 250 := by decide
    have h3 : ((Nat.gcd a.natAbs b : Nat) : Int) < 2 ^ 200 := by exact_mod_cast Nat.lt_of_le_of_lt hg2 h2
    omega)
  have hab : Nat.gcd a.natAbs (b : Int).natAbs = Nat.gcd a.natAbs b := rfl
  have t1 : (mB (bin dEq (mVar 1) (mC (.int 0)))) [ii a, ii b, none] = some (false, [ii a, ii b, none]) := by
    have : ((b : Int) == 0) = false := by rw [beq_eq_false_iff_ne]; omega
    unfold mB
    rw [c_bin rfl rfl rfl rfl (eq_int (b : Int) 0), this]
  have t2 : (mB (bin dLt (mVar 1) (mC (.int 0)))) [ii a, ii b, ii ((Nat.gcd a.natAbs b : Nat) : Int)] = some (false, [ii a, ii b, ii ((Nat.gcd a.natAbs b : Nat) : Int)]) := by
    have : decide ((b : Int) < 0) = false := decide_eq_false (by omega)
    unfold mB
    rw [c_bin rfl rfl rfl rfl (show dLt (.int (b : Int)) (.int 0) = some (.imm (.bool (decide ((b : Int) < 0)))) from rfl), this]
  have d1 : dDiv (.int a) (.int ((Nat.gcd a.natAbs b : Nat) : Int)) = some (.imm (.int (mkRat a b).num)) := by
    show (if divOk _ = true then _ else _) = _
    rw [if_pos hd, e1]
  have d2 : dDiv (.int (b : Int)) (.int ((Nat.gcd a.natAbs b : Nat) : Int)) = some (.imm (.int ((mkRat a b).den : Int))) := by
    show (if divOk _ = true then _ else _) = _
    rw [if_pos hd, e2]
  unfold fn7
  refine c_fn (ρ0 := [ii a, ii b, none]) rfl rfl (c_seq (c_ifF t1 rfl) (c_seq (ρ1 := [ii a, ii b, ii ((Nat.gcd a.natAbs b : Nat) : Int)]) (c_set rfl rfl) (c_seq (c_ifF t2 rfl) (c_ret (r := .imm (fr (mkRat a b))) (c_tup (c_acons (c_bin rfl rfl rfl rfl d1) rfl (c_acons (c_bin rfl rfl rfl rfl d2) rfl c_anil)) rfl) rfl)))) rfl
/-- small ones -/
structure Sm (q : Rat) : Prop where
  num : q.num.natAbs < 2 ^ 90
  den : q.den < 2 ^ 90
theorem Sm.mul {q r : Rat} (h : Sm q) (k : Sm r) : q.den * r.den < 2 ^ 200 := by
  have : q.den * r.den ≤ 2 ^ 90 * 2 ^ 90 := Nat.mul_le_mul (Nat.le_of_lt h.den) (Nat.le_of_lt k.den)
  have h2 : (2 : Nat) ^ 90 * 2 ^ 90 < 2 ^ 200 := by decide
  omega
theorem lt250 {n : Nat} (h : n < 2 ^ 90) : n < 2 ^ 250 := Nat.lt_trans h (by decide)
theorem Frac_pos (q : Rat) : 0 < q.den := Nat.pos_of_ne_zero q.den_nz
def FracP (f : Fn) : Prop := ∀ (a : Int) (b : Nat), 0 < b → b < 2 ^ 200 → f [.imm (.int a), .imm (.int (b : Int))] = some (.imm (fr (mkRat a b)), [none, none])
theorem add_same {q r : Rat} (h : q.den = r.den) : mkRat (q.num + r.num) q.den = q + r := by
  have e1 := Rat.mkRat_add_mkRat q.num r.num q.den_nz r.den_nz
  rw [Rat.mkRat_self, Rat.mkRat_self] at e1
  rw [e1, ← h, ← Int.add_mul, Rat.mkRat_mul_right q.den_nz]
theorem add_cross (q r : Rat) : mkRat (q.num * (r.den : Int) + r.num * (q.den : Int)) (q.den * r.den) = q + r := by
  have e1 := Rat.mkRat_add_mkRat q.num r.num q.den_nz r.den_nz
  rw [Rat.mkRat_self, Rat.mkRat_self] at e1
  exact e1.symm
theorem mul_cross (q r : Rat) : mkRat (q.num * r.num) (q.den * r.den) = q * r := by
  have e1 := Rat.mkRat_mul_mkRat q.num r.num q.den r.den
  rw [Rat.mkRat_self, Rat.mkRat_self] at e1
  exact e1.symm
theorem mul_int {i j : Int} (h1 : i.natAbs < 2 ^ 90) (h2 : j.natAbs < 2 ^ 90) : dMul (.int i) (.int j) = some (.imm (.int (i * j))) := by
  show (if mulOk i j = true then _ else _) = _
  rw [if_pos (mul_ok (lt250 h1) (lt250 h2))]
theorem plus_ok {cl : Nat → Fn} (F : FracP (cl 7)) {d e : D} {q r : Rat} (hd : IsFr d q) (he : IsFr e r) (hq : Sm q) (hr : Sm r) : fn8 cl [.imm d, .imm e] = some (.imm (fr (q + r)), [none, none]) := by
  have x0 : ∀ ρ, ρ = [some (.imm d), some (.imm e)] → bin dIx (mVar 0) (mC (.int 0)) ρ = some (.val (.imm (.int q.num)), ρ) := fun ρ h => by subst h; exact c_bin rfl rfl rfl rfl hd.top
  have x1 : ∀ ρ, ρ = [some (.imm d), some (.imm e)] → bin dIx (mVar 0) (mC (.int 1)) ρ = some (.val (.imm (.int (q.den : Int))), ρ) := fun ρ h => by subst h; exact c_bin rfl rfl rfl rfl hd.bot
  have y0 : ∀ ρ, ρ = [some (.imm d), some (.imm e)] → bin dIx (mVar 1) (mC (.int 0)) ρ = some (.val (.imm (.int r.num)), ρ) := fun ρ h => by subst h; exact c_bin rfl rfl rfl rfl he.top
  have y1 : ∀ ρ, ρ = [some (.imm d), some (.imm e)] → bin dIx (mVar 1) (mC (.int 1)) ρ = some (.val (.imm (.int (r.den : Int))), ρ) := fun ρ h => by subst h; exact c_bin rfl rfl rfl rfl he.bot
  have t : (mB (bin dEq (bin dIx (mVar 0) (mC (.int 1))) (bin dIx (mVar 1) (mC (.int 1))))) [some (.imm d), some (.imm e)] = some ((q.den : Int) == (r.den : Int), [some (.imm d), some (.imm e)]) := c_b (c_bin (x1 _ rfl) (y1 _ rfl) rfl rfl (eq_int _ _))
  unfold fn8
  refine c_fn (ρ0 := [some (.imm d), some (.imm e)]) (ρ := [some (.imm d), some (.imm e)]) rfl rfl ?_ rfl
  by_cases h : q.den = r.den
  · rw [show ((q.den : Int) == (r.den : Int)) = true by rw [h]; exact beq_self_eq_true _] at t
    have f := F (q.num + r.num) q.den (Frac_pos q) (Nat.lt_trans hq.den (by decide))
    rw [add_same h] at f
    have c : mRet (mCall (cl 7) (rVal (bin dAdd (bin dIx (mVar 0) (mC (.int 0))) (bin dIx (mVar 1) (mC (.int 0)))) (rVal (bin dIx (mVar 0) (mC (.int 1))) rNil))) [some (.imm d), some (.imm e)] = some (.ret (.imm (fr (q + r))), [some (.imm d), some (.imm e)]) :=
      c_ret (c_call (c_rval (c_bin (x0 _ rfl) (y0 _ rfl) rfl rfl rfl) rfl (c_rval (x1 _ rfl) rfl rfl)) rfl rfl f rfl) rfl
    unfold mSeq
    rw [c_ifT t c]
  · have hb : ((q.den : Int) == (r.den : Int)) = false := by rw [beq_eq_false_iff_ne]; omega
    rw [hb] at t
    have f := F (q.num * (r.den : Int) + r.num * (q.den : Int)) (q.den * r.den) (Nat.mul_pos (Frac_pos q) (Frac_pos r)) (hq.mul hr)
    rw [add_cross, Int.natCast_mul] at f
    have m1 := mul_int (i := q.num) (j := (r.den : Int)) hq.num (by exact hr.den)
    have m2 := mul_int (i := r.num) (j := (q.den : Int)) hr.num (by exact hq.den)
    have m3 := mul_int (i := (q.den : Int)) (j := (r.den : Int)) (by exact hq.den) (by exact hr.den)
    exact c_seq (c_ifF t rfl) (c_ret (c_call (c_rval (c_bin (c_bin (x0 _ rfl) (y1 _ rfl) rfl rfl m1) (c_bin (y0 _ rfl) (x1 _ rfl) rfl rfl m2) rfl rfl rfl) rfl (c_rval (c_bin (x1 _ rfl) (y1 _ rfl) rfl rfl m3) rfl rfl)) rfl rfl f rfl) rfl)


def eB : MS := mPar 2 3 (mVar 3) (bin dMod (un dInt (mVar 2)) (mVar 3))
def eT : MT := mB (bin dGt (mVar 3) (mC (.int 0)))
theorem e_stop {x0 x1 x2 : Option Sv} : eT [x0, x1, x2, ii ((0 : Nat) : Int)] = some (false, [x0, x1, x2, ii ((0 : Nat) : Int)]) := rfl
theorem e_go {x0 x1 x2 : Option Sv} {f : Nat} (h : 0 < f) : eT [x0, x1, x2, ii (f : Int)] = some (true, [x0, x1, x2, ii (f : Int)]) := by
  have : decide ((0 : Int) < (f : Int)) = true := decide_eq_true (by omega)
  unfold eT
  rw [c_b (c_bin rfl rfl rfl rfl (show dGt (.int (f : Int)) (.int 0) = some (.imm (.bool (decide ((0 : Int) < (f : Int))))) from rfl)), this]
theorem e_step {x0 x1 : Option Sv} {n f : Nat} (h : 0 < f) : eB [x0, x1, ii (n : Int), ii (f : Int)] = some (.next, [x0, x1, ii (f : Int), ii ((n % f : Nat) : Int)]) := by
  have hm : dMod (.int (n : Int)) (.int (f : Int)) = some (.imm (.int ((n % f : Nat) : Int))) := by
    show (if decide ((0 : Int) < (f : Int)) = true then some (Sv.imm (.int ((n : Int) % (f : Int)))) else none) = _
    rw [if_pos (decide_eq_true (by omega)), Int.natCast_emod]
  have hi : dInt (.int (n : Int)) = some (.imm (.int (n : Int))) := rfl
  have h1 : un dInt (mVar 2) [x0, x1, ii (n : Int), ii (f : Int)] = some (.val (.imm (.int (n : Int))), [x0, x1, ii (n : Int), ii (f : Int)]) := c_un rfl rfl hi
  have h2 : bin dMod (un dInt (mVar 2)) (mVar 3) [x0, x1, ii (n : Int), ii (f : Int)] = some (.val (.imm (.int ((n % f : Nat) : Int))), [x0, x1, ii (n : Int), ii (f : Int)]) := c_bin h1 rfl rfl rfl hm
  unfold eB mPar
  rw [show mVar 3 [x0, x1, ii (n : Int), ii (f : Int)] = some (.slot 3, [x0, x1, ii (n : Int), ii (f : Int)]) from rfl]
  simp only [show take [x0, x1, ii (n : Int), ii (f : Int)] (.slot 3) = some (.imm (.int (f : Int)), [x0, x1, ii (n : Int), ii (f : Int)]) from rfl, h2, show take [x0, x1, ii (n : Int), ii (f : Int)] (.val (.imm (.int ((n % f : Nat) : Int)))) = some (.imm (.int ((n % f : Nat) : Int)), [x0, x1, ii (n : Int), ii (f : Int)]) from rfl]
  rfl
theorem euclid {x0 x1 : Option Sv} : ∀ (k n f m : Nat), f < 2 ^ k → whl eT eB (2 * k + 1 + m) [x0, x1, ii (n : Int), ii (f : Int)] = some (.next, [x0, x1, ii ((Nat.gcd n f : Nat) : Int), ii ((0 : Nat) : Int)]) := by
  intro k
  induction k with
  | zero =>
    intro n f m h
    obtain rfl : f = 0 := by simpa using h
    rw [show 2 * 0 + 1 + m = m + 1 by omega, Nat.gcd_zero_right]
    exact c_whF e_stop
  | succ k ih =>
    intro n f m h
    rw [show 2 * (k + 1) + 1 + m = (2 * k + 1 + (m + 1)) + 1 by omega]
    by_cases h0 : f = 0
    · subst h0
      rw [Nat.gcd_zero_right]
      exact c_whF e_stop
    · have hf : 0 < f := Nat.pos_of_ne_zero h0
      refine c_whT (e_go hf) (e_step hf) ?_
      rw [show 2 * k + 1 + (m + 1) = (2 * k + 1 + m) + 1 by omega]
      have hg : Nat.gcd n f = Nat.gcd f (n % f) := by rw [Nat.gcd_comm n f, Nat.gcd_rec f n, Nat.gcd_comm]
      have hr : n % f < f := Nat.mod_lt _ hf
      by_cases h1 : n % f = 0
      · rw [hg, h1, Nat.gcd_zero_right]
        exact c_whF e_stop
      · have hp : 0 < n % f := Nat.pos_of_ne_zero h1
        refine c_whT (e_go hp) (e_step hp) ?_
        have h2 : f % (n % f) < n % f := Nat.mod_lt _ hp
        have h3 : f % (n % f) ≤ f - n % f := by
          rw [Nat.mod_eq_sub_mod (Nat.le_of_lt hr)]
          exact Nat.mod_le _ _
        have h4 : f % (n % f) < 2 ^ k := by
          rw [Nat.pow_succ] at h
          omega
        rw [hg, Nat.gcd_comm f (n % f), Nat.gcd_rec (n % f) f, Nat.gcd_comm]
        exact ih (n % f) (f % (n % f)) m h4
theorem abs_int (a : Int) : dAbs (.int a) = some (.imm (.int (a.natAbs : Int))) := by
  show some (Sv.imm (.int (if a < 0 then -a else a))) = _
  congr 3
  split <;> omega
theorem gcd_div (a : Int) (b : Nat) (hb : 0 < b) (h2 : b < 2 ^ 200) : dDiv (.int a) (.int ((Nat.gcd a.natAbs b : Nat) : Int)) = some (.imm (.int (mkRat a b).num)) ∧ dDiv (.int (b : Int)) (.int ((Nat.gcd a.natAbs b : Nat) : Int)) = some (.imm (.int ((mkRat a b).den : Int))) := by
  have hg : 0 < Nat.gcd a.natAbs b := Nat.gcd_pos_of_pos_right _ hb
  have hg2 : Nat.gcd a.natAbs b ≤ b := Nat.le_of_dvd hb (Nat.gcd_dvd_right _ _)
  obtain ⟨e1, e2⟩ := low_rat a b hb
  have hd : divOk ((Nat.gcd a.natAbs b : Nat) : Int) = true := div_ok (by omega) (by
    have : (2 : Int) ^ 200 < 2 ^ 250 := by decide
    have h3 : ((Nat.gcd a.natAbs b : Nat) : Int) < 2 ^ 200 := by exact_mod_cast Nat.lt_of_le_of_lt hg2 h2
    omega)
  refine ⟨?_, ?_⟩
  · show (if divOk _ = true then _ else _) = _
    rw [if_pos hd, e1]
  · show (if divOk _ = true then _ else _) = _
    rw [if_pos hd, e2]
theorem low_ok {cl : Nat → Fn} (a : Int) (b : Nat) (hb : 0 < b) (h2 : b < 2 ^ 31) : fn25 cl [.imm (.int a), .imm (.int (b : Int))] = some (.imm (fr (mkRat a b)), [none, none]) := by
  obtain ⟨d1, d2⟩ := gcd_div a b hb (Nat.lt_trans h2 (by decide))
  have e := euclid (x0 := ii a) (x1 := ii b) 31 a.natAbs b 1 h2
  have p1 : un dAbs (mVar 0) [ii a, ii b, none, none] = some (.val (.imm (.int (a.natAbs : Int))), [ii a, ii b, none, none]) := c_un rfl rfl (abs_int a)
  have p2 : un dAbs (mVar 1) [ii a, ii b, none, none] = some (.val (.imm (.int (b : Int))), [ii a, ii b, none, none]) := c_un rfl rfl (abs_int (b : Int))
  have p : mPar 2 3 (un dAbs (mVar 0)) (un dAbs (mVar 1)) [ii a, ii b, none, none] = some (.next, [ii a, ii b, ii (a.natAbs : Int), ii (b : Int)]) := c_par p1 rfl p2 rfl rfl
  have t : (mB (bin dLt (mVar 1) (mC (.int 0)))) [ii a, ii b, ii ((Nat.gcd a.natAbs b : Nat) : Int), ii ((0 : Nat) : Int)] = some (false, [ii a, ii b, ii ((Nat.gcd a.natAbs b : Nat) : Int), ii ((0 : Nat) : Int)]) := by
    have : decide ((b : Int) < 0) = false := decide_eq_false (by omega)
    rw [c_b (c_bin rfl rfl rfl rfl (show dLt (.int (b : Int)) (.int 0) = some (.imm (.bool (decide ((b : Int) < 0)))) from rfl)), this]
  unfold fn25
  exact c_fn (ρ0 := [ii a, ii b, none, none]) rfl rfl (c_seq p (c_seq e (c_seq (c_ifF t rfl) (c_ret (r := .imm (fr (mkRat a b))) (c_tup (c_acons (c_bin rfl rfl rfl rfl d1) rfl (c_acons (c_bin rfl rfl rfl rfl d2) rfl c_anil)) rfl) rfl)))) rfl
/-- the law's sums and products -/
structure Sd (q : Rat) : Prop where
  num : q.num.natAbs < 2 ^ 90
  den : q.den < 2 ^ 15
theorem Sd.sm {q : Rat} (h : Sd q) : Sm q := ⟨h.num, Nat.lt_trans h.den (by decide)⟩
theorem Sd.mul {q r : Rat} (h : Sd q) (k : Sd r) : q.den * r.den < 2 ^ 31 := by
  have : q.den * r.den ≤ 2 ^ 15 * 2 ^ 15 := Nat.mul_le_mul (Nat.le_of_lt h.den) (Nat.le_of_lt k.den)
  have h2 : (2 : Nat) ^ 15 * 2 ^ 15 < 2 ^ 31 := by decide
  omega
def LowP (f : Fn) : Prop := ∀ (a : Int) (b : Nat), 0 < b → b < 2 ^ 31 → f [.imm (.int a), .imm (.int (b : Int))] = some (.imm (fr (mkRat a b)), [none, none])
theorem ladd_ok {cl : Nat → Fn} (F : LowP (cl 25)) {d e : D} {q r : Rat} (hd : IsFr d q) (he : IsFr e r) (hq : Sd q) (hr : Sd r) : fn26 cl [.imm d, .imm e] = some (.imm (fr (q + r)), [none, none]) := by
  have f := F (q.num * (r.den : Int) + r.num * (q.den : Int)) (q.den * r.den) (Nat.mul_pos (Frac_pos q) (Frac_pos r)) (hq.mul hr)
  rw [add_cross, Int.natCast_mul] at f
  have m1 := mul_int (i := q.num) (j := (r.den : Int)) hq.num hr.sm.den
  have m2 := mul_int (i := r.num) (j := (q.den : Int)) hr.num hq.sm.den
  have m3 := mul_int (i := (q.den : Int)) (j := (r.den : Int)) hq.sm.den hr.sm.den
  unfold fn26
  exact c_fn (ρ0 := [some (.imm d), some (.imm e)]) rfl rfl (c_ret (c_call (c_rval (c_bin (c_bin (c_bin rfl rfl rfl rfl hd.top) (c_bin rfl rfl rfl rfl he.bot) rfl rfl m1) (c_bin (c_bin rfl rfl rfl rfl he.top) (c_bin rfl rfl rfl rfl hd.bot) rfl rfl m2) rfl rfl rfl) rfl (c_rval (c_bin (c_bin rfl rfl rfl rfl hd.bot) (c_bin rfl rfl rfl rfl he.bot) rfl rfl m3) rfl rfl)) rfl rfl f rfl) rfl) rfl

theorem c_cons_ret {mg : MG} {m : MS} {d : D} {ds : List D} {ρ ρ1 ρ2 : Fm} {r : Sv} (h1 : mg d ρ = some ρ1) (h2 : m ρ1 = some (.ret r, ρ2)) : loop mg m (d :: ds) ρ = some (.ret r, ρ2) := by
  rw [loop, h1]
  simp only [h2]
theorem c_seqR {m n : MS} {ρ ρ1 : Fm} {r : Sv} (h : m ρ = some (.ret r, ρ1)) : mSeq m n ρ = some (.ret r, ρ1) := by unfold mSeq; rw [h]
/-! rows: pairs (part, k), k for k / 36 -/
abbrev Pr := Int × Int
abbrev Row := List Pr
def v36 (k : Int) : Rat := mkRat k 36
def f36 (k : Int) : D := fr (v36 k)
def prD (p : Pr) : D := .tuple [.int p.1, f36 p.2]
def dsD (r : Row) : List D := r.map prD
def pushS : Row → Pr → Row
  | [], p => if p.2 = 0 then [] else [p]
  | l :: s, p => if l.1 = p.1 then (if l.2 + p.2 = 0 then s else (p.1, l.2 + p.2) :: s) else if p.2 = 0 then l :: s else p :: l :: s
def nfS (r : Row) : Row := r.foldl pushS []
def nf (r : Row) : Row := (nfS r).reverse
/-- what stands for a pair -/
def IsPr (d : D) (p : Pr) : Prop := ∃ e, (d = .tuple [.int p.1, e] ∨ d = .list [.int p.1, e]) ∧ IsFr e (v36 p.2)
theorem isPr (p : Pr) : IsPr (prD p) p := ⟨f36 p.2, .inl rfl, isFr _⟩
theorem v_add (k l : Int) : v36 k + v36 l = v36 (k + l) := by
  unfold v36
  rw [Rat.mkRat_add_mkRat k l (by decide) (by decide), ← Int.add_mul, Rat.mkRat_mul_right (by decide)]
theorem v_zero : v36 0 = 0 := by unfold v36; rw [Rat.zero_mkRat]
theorem v_num (k : Int) : (v36 k).num = 0 ↔ k = 0 := by
  rw [Rat.num_eq_zero]
  unfold v36
  exact Rat.mkRat_eq_zero (by decide)
theorem v_sd {k : Int} (h : k.natAbs < 2 ^ 80) : Sd (v36 k) := by
  have e := low_rat k 36 (by decide)
  have hg : 0 < Nat.gcd k.natAbs 36 := Nat.gcd_pos_of_pos_right _ (by decide)
  refine ⟨?_, ?_⟩
  · show (mkRat k 36).num.natAbs < _
    rw [e.1]
    have h1 : (k / ((Nat.gcd k.natAbs 36 : Nat) : Int)).natAbs ≤ k.natAbs := by
      rw [Int.natAbs_ediv_of_dvd]
      · exact Nat.div_le_self _ _
      · exact Int.natAbs_dvd_natAbs.mp (by simpa using Nat.gcd_dvd_left k.natAbs 36)
    exact Nat.lt_of_le_of_lt h1 (Nat.lt_trans h (by decide))
  · have h2 : ((mkRat k 36).den : Int) ≤ 36 := by
      rw [e.2]
      exact Int.ediv_le_self _ (by decide)
    show (mkRat k 36).den < _
    have : (36 : Nat) < 2 ^ 15 := by decide
    omega
theorem hasD_nil (x : D) : hasD x [] = false := rfl
theorem ok_two (a b : Int) : okD (.tuple [.int a, .int b]) = true := by
  show (PyData.canLay0 (.tuple [.int a, .int b]) && decide (PyData.depth (.tuple [.int a, .int b]) ≤ 64)) = true
  simp [PyData.canLay0, PyData.canLayAll0, PyData.depth, PyData.depthAll]

theorem last_at (ds : List D) (d : D) : L2.atI (ds ++ [d]) ((ds.length : Nat) : Int) = some d := by
  rw [L2.atI_nat (List.getElem?_concat_length ..)]
theorem downD_cons (lo : Int) (n : Nat) : downD lo (n + 1) = .int lo :: (downD lo (n + 1)).tail := by
  unfold downD
  rw [List.range_succ_eq_map, List.map_cons, List.tail_cons]
  have : lo + ((0 : Nat) : Int) * (-1) = lo := by omega
  rw [this]
/-- the place to join at -/
theorem down_nil {x1 x2 x3 : Option Sv} : mIDown (mCons (bin dSub (un dLen (mVar 0)) (mC (.int 1))) (mCons (un dNeg (mC (.int 1))) (mCons (un dNeg (mC (.int 1))) mNil))) [some (.own .par []), x1, x2, x3] = some ([], [some (.own .par []), x1, x2, x3]) := by
  have h0 : bin dSub (un dLen (mVar 0)) (mC (.int 1)) [some (.own .par []), x1, x2, x3] = some (.val (.imm (.int (-1))), [some (.own .par []), x1, x2, x3]) := c_bin (c_un rfl rfl (show dLen (.list []) = some (.imm (.int 0)) from rfl)) rfl rfl rfl rfl
  unfold mIDown
  rw [c_acons h0 rfl (c_acons (c_un rfl rfl rfl) rfl (c_acons (c_un rfl rfl rfl) rfl c_anil))]
  have r2 : rngOk (-1) = true := rfl
  show (if (rngOk (-1) && rngOk (-1)) = true then some (downD (-1) ((-1 : Int) - -1).toNat, [some (.own .par []), x1, x2, x3]) else none) = _
  rw [r2, show ((-1 : Int) - -1).toNat = 0 by decide]
  rfl
theorem place_nil {cl : Nat → Fn} (k : Int) : fn11 cl [.own .par [], .imm (.int k), .imm (.tuple [])] = some (.imm .none, [some [], none, none]) := by
  unfold fn11
  exact c_fn (ρ0 := [some (.own .par []), ii k, some (.imm (.tuple [])), none]) rfl rfl (c_seq (c_for down_nil c_nil) (c_ret rfl rfl)) rfl
theorem c_down {ma : MA} {ρ ρ1 : Fm} {i j : Int} {n : Nat} (h : ma ρ = some ([.int i, .int j, .int (-1)], ρ1)) (h1 : rngOk i = true) (h2 : rngOk j = true) (h3 : (i - j).toNat = n) : mIDown ma ρ = some (downD i n, ρ1) := by
  subst h3
  unfold mIDown
  rw [h]
  show (if (rngOk i && rngOk j) = true then some (downD i (i - j).toNat, ρ1) else none) = _
  rw [h1, h2]
  rfl
theorem last_0 {L : List D} {n : Nat} (hlen : L.length = n + 1) {x1 x2 x3 : Option Sv} : bin dSub (un dLen (mVar 0)) (mC (.int 1)) [some (.own .par L), x1, x2, x3] = some (.val (.imm (.int (n : Int))), [some (.own .par L), x1, x2, x3]) := by
  have hs : dSub (.int (L.length : Int)) (.int 1) = some (.imm (.int (n : Int))) := by
    show some (Sv.imm (.int ((L.length : Int) - 1))) = _
    rw [hlen, show (((n + 1 : Nat) : Int) - 1) = (n : Int) by omega]
  exact c_bin (c_un rfl rfl (show dLen (.list L) = some (.imm (.int (L.length : Int))) from rfl)) rfl rfl rfl hs
theorem last_1 {ρ : Fm} : un dNeg (mC (.int 1)) ρ = some (.val (.imm (.int (-1))), ρ) := rfl
theorem down_last {L : List D} {n : Nat} (hlen : L.length = n + 1) (hn : n ≤ 900) {x1 x2 x3 : Option Sv} : mIDown (mCons (bin dSub (un dLen (mVar 0)) (mC (.int 1))) (mCons (un dNeg (mC (.int 1))) (mCons (un dNeg (mC (.int 1))) mNil))) [some (.own .par L), x1, x2, x3] = some (.int (n : Int) :: (downD (n : Int) (n + 1)).tail, [some (.own .par L), x1, x2, x3]) := by
  have h3 : ((n : Int) - -1).toNat = n + 1 := by omega
  rw [← downD_cons]
  exact c_down (c_acons (last_0 hlen) rfl (c_acons last_1 rfl (c_acons last_1 rfl c_anil))) (c_rng (by omega)) (c_rng (by omega)) h3
theorem at_last {L : List D} {n : Nat} {j : Int} {e : D} (ha : L2.atI L (n : Int) = some (.tuple [.int j, e])) {x1 x2 : Option Sv} : bin dIx (bin dIx (mVar 0) (mVar 3)) (mC (.int 0)) [some (.own .par L), x1, x2, ii (n : Int)] = some (.val (.imm (.int j)), [some (.own .par L), x1, x2, ii (n : Int)]) := by
  have h1 : dIx (.list L) (.int (n : Int)) = some (.imm (.tuple [.int j, e])) := by
    show (L2.atI L (n : Int)).map Sv.imm = _
    rw [ha]; rfl
  exact c_bin (c_bin rfl rfl rfl rfl h1) rfl rfl rfl rfl


end K26

namespace K26
open PySem Vi PyProof.Rows
theorem c_skip {ρ : Fm} : mNext ρ = some (.next, ρ) := rfl
def EV (me : ME) (ρ : Fm) (d : D) : Prop := ∃ pr, me ρ = some (pr, ρ) ∧ frz ρ pr = some (d, ρ) ∧ peek ρ pr = some d
theorem ev_val {me : ME} {ρ : Fm} {d : D} (h : me ρ = some (.val (.imm d), ρ)) : EV me ρ d := ⟨_, h, rfl, rfl⟩
theorem ev_own {me : ME} {ρ : Fm} {ds : List D} {b : Kd} (h : me ρ = some (.val (.own b ds), ρ)) (hb : b.isL = true := by rfl) : EV me ρ (.list ds) := by
  cases b <;> first | exact absurd hb (by decide) | exact ⟨_, h, rfl, rfl⟩
theorem ev_var {ρ : Fm} {i : Nat} {d : D} (h : ρ[i]? = some (some (.imm d))) : EV (mVar i) ρ d := by
  refine ⟨.slot i, ?_, ?_, ?_⟩
  · unfold mVar; rw [h]
  · unfold frz; simp only [h]
  · unfold peek; simp only [h]; rfl
theorem ev_c {ρ : Fm} {d : D} : EV (mC d) ρ d := ev_val rfl
theorem v_call1 {me : ME} {ρ : Fm} {d : D} {r : Sv} {f : Fn} (h : EV me ρ d) (e : f [.imm d] = some (r, [none])) : mCall f (rVal me rNil) ρ = some (.val r, ρ) := by
  obtain ⟨pr, h1, h2, _⟩ := h
  exact c_call (c_rval h1 h2 rfl) rfl rfl e rfl
theorem v_call2 {me mf : ME} {ρ : Fm} {d e : D} {r : Sv} {f : Fn} (h : EV me ρ d) (k : EV mf ρ e) (q : f [.imm d, .imm e] = some (r, [none, none])) : mCall f (rVal me (rVal mf rNil)) ρ = some (.val r, ρ) := by
  obtain ⟨pr, h1, h2, _⟩ := h
  obtain ⟨ps, k1, k2, _⟩ := k
  exact c_call (c_rval h1 h2 (c_rval k1 k2 rfl)) rfl rfl q rfl
theorem v_call3 {me mf mg : ME} {ρ : Fm} {d e g : D} {r : Sv} {f : Fn} (h : EV me ρ d) (k : EV mf ρ e) (l : EV mg ρ g) (q : f [.imm d, .imm e, .imm g] = some (r, [none, none, none])) : mCall f (rVal me (rVal mf (rVal mg rNil))) ρ = some (.val r, ρ) := by
  obtain ⟨pr, h1, h2, _⟩ := h
  obtain ⟨ps, k1, k2, _⟩ := k
  obtain ⟨pt, l1, l2, _⟩ := l
  exact c_call (c_rval h1 h2 (c_rval k1 k2 (c_rval l1 l2 rfl))) rfl rfl q rfl
theorem e_call1 {me : ME} {ρ : Fm} {d r : D} {f : Fn} (h : EV me ρ d) (e : f [.imm d] = some (.imm r, [none])) : EV (mCall f (rVal me rNil)) ρ r := ev_val (v_call1 h e)
theorem e_call2 {me mf : ME} {ρ : Fm} {d e r : D} {f : Fn} (h : EV me ρ d) (k : EV mf ρ e) (q : f [.imm d, .imm e] = some (.imm r, [none, none])) : EV (mCall f (rVal me (rVal mf rNil))) ρ r := ev_val (v_call2 h k q)
theorem e_call3 {me mf mg : ME} {ρ : Fm} {d e g r : D} {f : Fn} (h : EV me ρ d) (k : EV mf ρ e) (l : EV mg ρ g) (q : f [.imm d, .imm e, .imm g] = some (.imm r, [none, none, none])) : EV (mCall f (rVal me (rVal mf (rVal mg rNil)))) ρ r := ev_val (v_call3 h k l q)
def EA (ma : MA) (ρ : Fm) (ds : List D) : Prop := ma ρ = some (ds, ρ)
theorem ea_nil {ρ : Fm} : EA mNil ρ [] := rfl
theorem ea_cons {me : ME} {ma : MA} {ρ : Fm} {d : D} {ds : List D} (h : EV me ρ d) (k : EA ma ρ ds) : EA (mCons me ma) ρ (d :: ds) := by
  obtain ⟨pr, h1, h2, _⟩ := h
  exact c_acons h1 h2 k
theorem v_lst {ma : MA} {ρ : Fm} {ds : List D} (h : EA ma ρ ds) (hl : ds.length ≤ 10000) : mLst ma ρ = some (.val (.own .loc ds), ρ) := c_lst h (c_fits hl)
theorem e_tup {ma : MA} {ρ : Fm} {ds : List D} (h : EA ma ρ ds) (hl : ds.length ≤ 10000) : EV (mTup ma) ρ (.tuple ds) := ev_val (c_tup h (c_fits hl))
theorem e_bin {f : D → D → Option Sv} {ma mb : ME} {ρ : Fm} {d e r : D} (h : EV ma ρ d) (k : EV mb ρ e) (q : f d e = some (.imm r)) : EV (bin f ma mb) ρ r := by
  obtain ⟨pr, h1, _, h3⟩ := h
  obtain ⟨ps, k1, _, k3⟩ := k
  exact ev_val (c_bin h1 k1 h3 k3 q)
theorem e_un {f : D → Option Sv} {ma : ME} {ρ : Fm} {d r : D} (h : EV ma ρ d) (q : f d = some (.imm r)) : EV (un f ma) ρ r := by
  obtain ⟨pr, h1, _, h3⟩ := h
  exact ev_val (c_un h1 h3 q)
/-- an own list grows -/
theorem s_grow {i : Nat} {me : ME} {ρ : Fm} {b b2 : Kd} {ds es : List D} (h0 : ρ[i]? = some (some (.own b ds))) (h : me ρ = some (.val (.own b2 es), ρ)) (hl : ds.length + es.length ≤ 10000) (hb : b.isL = true := by rfl) (hb2 : b2.isL = true := by rfl) : mSet i (bin dAdd (mVar i) me) ρ = some (.next, ρ.set i (some (.own .loc (ds ++ es)))) := by
  cases b <;> cases b2 <;> first | exact absurd hb (by decide) | exact absurd hb2 (by decide) | (
    have hv : mVar i ρ = some (.slot i, ρ) := by unfold mVar; rw [h0]
    have hp : peek ρ (.slot i) = some (.list ds) := by unfold peek; simp only [h0]; rfl
    exact c_set (c_bin hv h hp rfl (c_addL hl)) rfl)
theorem e_grow {i : Nat} {me : ME} {ρ : Fm} {b b2 : Kd} {ds es : List D} (h0 : ρ[i]? = some (some (.own b ds))) (h : me ρ = some (.val (.own b2 es), ρ)) (hl : ds.length + es.length ≤ 10000) (hb : b.isL = true := by rfl) (hb2 : b2.isL = true := by rfl) : bin dAdd (mVar i) me ρ = some (.val (.own .loc (ds ++ es)), ρ) := by
  cases b <;> cases b2 <;> first | exact absurd hb (by decide) | exact absurd hb2 (by decide) | (
    have hv : mVar i ρ = some (.slot i, ρ) := by unfold mVar; rw [h0]
    have hp : peek ρ (.slot i) = some (.list ds) := by unfold peek; simp only [h0]; rfl
    exact c_bin hv h hp rfl (c_addL hl))
theorem v_rep {ma : MA} {ρ : Fm} {d : D} {k : Nat} (h : EA ma ρ [d]) (hk : k ≤ 1000) : mRep (mLst ma) (mC (.int (k : Int))) ρ = some (.val (.own .loc (List.replicate k d)), ρ) := by
  have h1 := v_lst h (by simp)
  have hd : decide (-(2 ^ 63) ≤ (k : Int) ∧ (k : Int) < 2 ^ 63 ∧ ([d] : List D).length * ((k : Int)).toNat ≤ sizeLine) = true := decide_eq_true ⟨by omega, by omega, by rw [Int.toNat_natCast]; simp [sizeLine]; omega⟩
  have hf : ∀ n : Nat, (List.replicate n [d]).flatten = List.replicate n d := fun n => by
    induction n with
    | zero => rfl
    | succ n ih => rw [List.replicate_succ, List.flatten_cons, ih]; rfl
  unfold mRep
  rw [h1]
  show (if decide (-(2 ^ 63) ≤ (k : Int) ∧ (k : Int) < 2 ^ 63 ∧ ([d] : List D).length * ((k : Int)).toNat ≤ sizeLine) = true then some (PR.val (Sv.own .loc (List.replicate ((k : Int)).toNat [d]).flatten), ρ) else none) = _
  rw [if_pos hd, Int.toNat_natCast, hf]

theorem c_orTT {a b : MT} {ρ ρ1 : Fm} (h : a ρ = some (true, ρ1)) : mOrT a b ρ = some (true, ρ1) := by unfold mOrT; rw [h]
theorem c_orTF {a b : MT} {ρ ρ1 : Fm} {x : Option (Bool × Fm)} (h : a ρ = some (false, ρ1)) (h2 : b ρ1 = x) : mOrT a b ρ = x := by unfold mOrT; rw [h]; exact h2
theorem t_call {me : ME} {ρ : Fm} {b : Bool} (h : me ρ = some (.val (.imm (.bool b)), ρ)) : mNotT (mTru me) ρ = some (!b, ρ) := c_not (c_tru h rfl (by cases b <;> rfl))
theorem t_tru {me : ME} {ρ : Fm} {b : Bool} (h : me ρ = some (.val (.imm (.bool b)), ρ)) : mTru me ρ = some (b, ρ) := c_tru h rfl (by cases b <;> rfl)
abbrev nn : Option Sv := some (.imm .none)
abbrev zz : Option Sv := some (.imm (f36 0))
abbrev SF (x0 : Option Sv) (m : D) (L : List D) (part : Int) (e : D) (x5 x6 x7 : Option Sv) : Fm := [x0, some (.imm m), some (.own .loc L), ii part, some (.imm e), x5, x6, x7]
theorem z36 : f36 0 = .tuple ([0, 1].map .int) := by
  unfold f36 fr
  rw [v_zero]; rfl
/-- at, before where there is nothing to join at -/
theorem step_none {m : D} {x0 x6 x7 : Option Sv} {L : List D} {part : Int} {e : D} : (mIfS (mB (bin dIs (mVar 5) (mC .none))) (mPar 5 6 (un dLen (mVar 2)) (mC (.tuple ([0, 1].map .int)))) (mSet 6 (bin dIx (bin dIx (mVar 2) (mVar 5)) (mC (.int 1))))) (SF x0 m L part e nn x6 x7) = some (.next, SF x0 m L part e (ii (L.length : Int)) zz x7) := by
  have p1 : un dLen (mVar 2) (SF x0 m L part e nn x6 x7) = some (.val (.imm (.int (L.length : Int))), SF x0 m L part e nn x6 x7) := c_un rfl rfl (show dLen (.list L) = some (.imm (.int (L.length : Int))) from rfl)
  have hp : mPar 5 6 (un dLen (mVar 2)) (mC (.tuple ([0, 1].map .int))) (SF x0 m L part e nn x6 x7) = some (.next, SF x0 m L part e (ii (L.length : Int)) zz x7) := by
    have := c_par (i := 5) (j := 6) p1 rfl (show mC (.tuple ([0, 1].map .int)) (SF x0 m L part e nn x6 x7) = some (.val (.imm (.tuple ([0, 1].map .int))), SF x0 m L part e nn x6 x7) from rfl) rfl rfl
    rw [← z36] at this
    exact this
  exact c_ifT (c_b (b := true) (c_bin rfl rfl rfl rfl rfl)) hp
theorem step_at {m : D} {x0 x6 x7 : Option Sv} {L : List D} {n : Nat} {j : Int} {g : D} {part : Int} {e : D} (ha : L2.atI L (n : Int) = some (.tuple [.int j, g])) : (mIfS (mB (bin dIs (mVar 5) (mC .none))) (mPar 5 6 (un dLen (mVar 2)) (mC (.tuple ([0, 1].map .int)))) (mSet 6 (bin dIx (bin dIx (mVar 2) (mVar 5)) (mC (.int 1))))) (SF x0 m L part e (ii (n : Int)) x6 x7) = some (.next, SF x0 m L part e (ii (n : Int)) (some (.imm g)) x7) := by
  have h1 : dIx (.list L) (.int (n : Int)) = some (.imm (.tuple [.int j, g])) := by
    show (L2.atI L (n : Int)).map Sv.imm = _
    rw [ha]; rfl
  exact c_ifF (c_b (b := false) (c_bin rfl rfl rfl rfl rfl)) (c_set (c_bin (c_bin rfl rfl rfl rfl h1) rfl rfl rfl rfl) rfl)
/-- what is put in -/
theorem mif_T {t : MT} {a b : ME} {ρ ρ1 : Fm} {x : Option (PR × Fm)} (h : t ρ = some (true, ρ1)) (h2 : a ρ1 = x) : mIf t a b ρ = x := by unfold mIf; rw [h]; exact h2
theorem mif_F {t : MT} {a b : ME} {ρ ρ1 : Fm} {x : Option (PR × Fm)} (h : t ρ = some (false, ρ1)) (h2 : b ρ1 = x) : mIf t a b ρ = x := by unfold mIf; rw [h]; exact h2
theorem step_new {m : D} {x0 x5 x6 : Option Sv} {L : List D} {part k : Int} {e : D} : mIf (mTru (bin dIx (mVar 7) (mC (.int 0)))) (mLst (mCons (mTup (mCons (mVar 3) (mCons (mVar 7) mNil))) mNil)) (mLst mNil) (SF x0 m L part e x5 x6 (some (.imm (f36 k)))) = some (.val (.own .loc (if k = 0 then [] else [prD (part, k)])), SF x0 m L part e x5 x6 (some (.imm (f36 k)))) := by
  have t : mTru (bin dIx (mVar 7) (mC (.int 0))) (SF x0 m L part e x5 x6 (some (.imm (f36 k)))) = some ((v36 k).num != 0, SF x0 m L part e x5 x6 (some (.imm (f36 k)))) := c_tru (c_bin rfl rfl rfl rfl rfl) rfl rfl
  by_cases h : k = 0
  · rw [show ((v36 k).num != 0) = false by rw [bne_eq_false_iff_eq]; exact (v_num k).mpr h] at t
    rw [if_pos h]
    exact mif_F t (c_lst c_anil rfl)
  · rw [show ((v36 k).num != 0) = true by rw [bne_iff_ne]; exact fun z => h ((v_num k).mp z)] at t
    rw [if_neg h]
    exact mif_T t (c_lst (c_acons (c_tup (c_acons rfl rfl (c_acons rfl rfl c_anil)) rfl) rfl c_anil) rfl)
theorem c_slx {i : Nat} {ma mc : MO} {me : ME} {ρ ρ1 : Fm} {b b0 : Kd} {ys ds : List D} {a c : Nat} (h1 : me ρ = some (.val (.own b0 ys), ρ1)) (h2 : ρ1[i]? = some (some (.own b ds))) (h3 : ma ρ1 = some (some (a : Int), ρ1)) (h4 : mc ρ1 = some (some (c : Int), ρ1)) (h5 : a ≤ c) (h6 : a ≤ ds.length) (h7 : ds.length + ys.length ≤ 10000) (hb : b.isL = true := by rfl) (hb0 : b0.isL = true := by rfl) :
    mSlx i ma mc me ρ = some (.next, ρ1.set i (some (.own b (ds.take a ++ ys ++ ds.drop c)))) := by
  have f : fits (ds.length + ys.length) = true := c_fits h7
  have g1 : decide ((0 : Int) ≤ (a : Int)) = true := decide_eq_true (by omega)
  have g2 : decide ((a : Int) ≤ (c : Int)) = true := decide_eq_true (by omega)
  have g3 : decide ((a : Int) ≤ (ds.length : Int)) = true := decide_eq_true (by omega)
  unfold mSlx
  cases b <;> cases b0 <;> first | exact absurd hb (by decide) | exact absurd hb0 (by decide) | (rw [h1]; simp only [h2, h3, h4, g1, g2, g3, f, Bool.and_self, if_true, Int.toNat_natCast])
theorem step_put {m : D} {x0 x6 : Option Sv} {L : List D} {a : Nat} {part k : Int} {e : D} (ha : a ≤ L.length) (hl : L.length ≤ 900) : mSlx 2 (mPart (mVar 5)) (mPart (bin dAdd (mVar 5) (mC (.int 1)))) (mIf (mTru (bin dIx (mVar 7) (mC (.int 0)))) (mLst (mCons (mTup (mCons (mVar 3) (mCons (mVar 7) mNil))) mNil)) (mLst mNil)) (SF x0 m L part e (ii (a : Int)) x6 (some (.imm (f36 k)))) = some (.next, SF x0 m (L.take a ++ (if k = 0 then [] else [prD (part, k)]) ++ L.drop (a + 1)) part e (ii (a : Int)) x6 (some (.imm (f36 k)))) := by
  have n := step_new (m := m) (x0 := x0) (x5 := ii (a : Int)) (x6 := x6) (L := L) (part := part) (k := k) (e := e)
  have hy : (if k = 0 then ([] : List D) else [prD (part, k)]).length ≤ 1 := by split <;> simp
  generalize (if k = 0 then ([] : List D) else [prD (part, k)]) = ys at *
  have h4 : mPart (bin dAdd (mVar 5) (mC (.int 1))) (SF x0 m L part e (ii (a : Int)) x6 (some (.imm (f36 k)))) = some (some ((a + 1 : Nat) : Int), SF x0 m L part e (ii (a : Int)) x6 (some (.imm (f36 k)))) := rfl
  exact c_slx (a := a) (c := a + 1) n rfl rfl h4 (by omega) ha (by omega)

theorem dsD_app (a b : Row) : dsD (a ++ b) = dsD a ++ dsD b := by unfold dsD; rw [List.map_append]
theorem dsD_len (a : Row) : (dsD a).length = a.length := by unfold dsD; rw [List.length_map]
def norm (r : Row) : Nat := (r.map fun p => p.2.natAbs).sum
theorem norm_cons (p : Pr) (r : Row) : norm (p :: r) = p.2.natAbs + norm r := by unfold norm; rw [List.map_cons, List.sum_cons]
theorem norm_mem {r : Row} {p : Pr} (h : p ∈ r) : p.2.natAbs ≤ norm r := by
  induction r with
  | nil => cases h
  | cons q r ih =>
    rw [norm_cons]
    rcases List.mem_cons.mp h with rfl | h
    · omega
    · have := ih h; omega
inductive IsPrs : List D → Row → Prop
  | nil : IsPrs [] []
  | cons {d : D} {p : Pr} {ds : List D} {r : Row} : IsPr d p → IsPrs ds r → IsPrs (d :: ds) (p :: r)
theorem isPrs : ∀ r : Row, IsPrs (dsD r) r
  | [] => .nil
  | p :: r => .cons (isPr p) (isPrs r)
def rowD (r : Row) : D := .tuple (dsD r)
theorem c_cmap {α : Type} {mg : MG} {me : ME} {vs : List Nat} {ρ : Fm} (f g : α → D) : ∀ (l : List α), (∀ a ∈ l, ∃ ρ1 pr ρ3 ρ4, mg (f a) ρ = some ρ1 ∧ me ρ1 = some (pr, ρ3) ∧ frz ρ3 pr = some (g a, ρ4) ∧ wipeA ρ4 vs = ρ) → cloop mg mYes me vs (l.map f) ρ = some (l.map g, ρ)
  | [], _ => rfl
  | a :: l, h => by
    obtain ⟨ρ1, pr, ρ3, ρ4, h1, h2, h3, h4⟩ := h a (List.mem_cons_self ..)
    have ih := c_cmap f g l fun b hb => h b (List.mem_cons_of_mem _ hb)
    exact c_ccons (ρ2 := ρ1) h1 rfl h2 h3 (by rw [h4]; exact ih)

theorem v_bin {f : D → D → Option Sv} {ma mb : ME} {ρ : Fm} {d e : D} {r : Sv} (h : EV ma ρ d) (k : EV mb ρ e) (q : f d e = some r) : bin f ma mb ρ = some (.val r, ρ) := by
  obtain ⟨pr, h1, _, h3⟩ := h
  obtain ⟨ps, k1, _, k3⟩ := k
  exact c_bin h1 k1 h3 k3 q

/-! which parts go together -/
def metD (M : List (Int × Int)) : D := .tuple (M.map toP)
def cM (M : List (Int × Int)) (a b : Int) : Bool := decide ((min a b, max a b) ∈ M)
structure MOk (M : List (Int × Int)) : Prop where
  lt : ∀ p ∈ M, p.1 < p.2
  len : M.length ≤ 100
theorem cM_ok {M : List (Int × Int)} (h : MOk M) : Tr.Ok (cM M) :=
  ⟨fun a b => by unfold cM; rw [Int.min_comm, Int.max_comm], fun a => by
    unfold cM
    refine decide_eq_false fun k => ?_
    have := h.lt _ k
    simp at this⟩
theorem lay_m : ∀ M : List (Int × Int), PyData.canLayAll0 (M.map toP) = true
  | [] => by rw [List.map_nil, PyData.canLayAll0]
  | p :: M => by
    rw [List.map_cons, PyData.canLayAll0, lay_m M]
    unfold toP
    simp [PyData.canLay0, PyData.canLayAll0]
theorem dep_m : ∀ M : List (Int × Int), PyData.depthAll (M.map toP) ≤ 1
  | [] => by rw [List.map_nil, PyData.depthAll]; decide
  | p :: M => by
    rw [List.map_cons, PyData.depthAll]
    refine Nat.max_le.mpr ⟨?_, dep_m M⟩
    unfold toP
    simp [PyData.depth, PyData.depthAll]
theorem ok_m (M : List (Int × Int)) : okD (metD M) = true := by
  show (PyData.canLay0 (metD M) && decide (PyData.depth (metD M) ≤ 64)) = true
  have := dep_m M
  unfold metD
  rw [PyData.canLay0, PyData.depth, lay_m, decide_eq_true (by omega)]; rfl
theorem has_m (x y : Int) (M : List (Int × Int)) : hasD (.tuple [.int x, .int y]) (M.map toP) = decide ((x, y) ∈ M) := by
  unfold hasD
  rw [Bool.eq_iff_iff, List.any_eq_true, decide_eq_true_eq]
  have e : ∀ p : Int × Int, PyData.eqv (toP p) (.tuple [.int x, .int y]) = true ↔ p = (x, y) := fun p => by
    unfold toP
    simp only [PyData.eqv, PyData.eqvAll, Bool.and_true, Bool.and_eq_true, beq_iff_eq]
    constructor
    · rintro ⟨h1, h2⟩; exact Prod.ext h1 h2
    · intro h; rw [h]; exact ⟨rfl, rfl⟩
  constructor
  · rintro ⟨z, hz, h⟩
    obtain ⟨p, hp, rfl⟩ := List.mem_map.mp hz
    rw [← (e p).mp h]; exact hp
  · intro h
    exact ⟨toP (x, y), List.mem_map.mpr ⟨(x, y), h, rfl⟩, (e _).mpr rfl⟩
def TogP (f : Fn) (M : List (Int × Int)) : Prop := ∀ a b : Int, f [.imm (.int a), .imm (.int b), .imm (metD M)] = some (.imm (.bool (cM M a b)), [none, none, none])
theorem go_fn (cl : Nat → Fn) : fn30 cl = fn10 cl := rfl
theorem tog_ok {cl : Nat → Fn} (M : List (Int × Int)) : TogP (fn10 cl) M := fun a b => by
  have v0 : EV (mVar 0) [ii a, ii b, some (.imm (metD M))] (.int a) := ev_var rfl
  have v1 : EV (mVar 1) [ii a, ii b, some (.imm (metD M))] (.int b) := ev_var rfl
  have v2 : EV (mVar 2) [ii a, ii b, some (.imm (metD M))] (metD M) := ev_var rfl
  have k1 : EV (mA dMin2 (mCons (mVar 0) (mCons (mVar 1) mNil))) [ii a, ii b, some (.imm (metD M))] (.int (min a b)) := by
    refine ev_val ?_
    unfold mA
    rw [ea_cons v0 (ea_cons v1 ea_nil)]
    show some (PR.val (Sv.imm (.int (if b < a then b else a))), _) = _
    congr 4
    congr 1
    split <;> omega
  have k2 : EV (mA dMax2 (mCons (mVar 0) (mCons (mVar 1) mNil))) [ii a, ii b, some (.imm (metD M))] (.int (max a b)) := by
    refine ev_val ?_
    unfold mA
    rw [ea_cons v0 (ea_cons v1 ea_nil)]
    show some (PR.val (Sv.imm (.int (if b > a then b else a))), _) = _
    congr 4
    congr 1
    split <;> omega
  have q : dInT false (.tuple [.int (min a b), .int (max a b)]) (metD M) = some (.imm (.bool (cM M a b))) := by
    have h1 : okD (.tuple [.int (min a b), .int (max a b)]) = true := ok_two _ _
    show (if (okD (.tuple [.int (min a b), .int (max a b)]) && okD (metD M)) = true then some (Sv.imm (.bool (hasD (.tuple [.int (min a b), .int (max a b)]) (M.map toP)))) else none) = _
    rw [if_pos (by rw [h1, ok_m]; rfl), has_m]; rfl
  unfold fn10
  exact c_fn (ρ0 := [ii a, ii b, some (.imm (metD M))]) rfl rfl (c_ret (v_bin (e_tup (ea_cons k1 (ea_cons k2 ea_nil)) (by simp)) v2 q) rfl) rfl
/-! the place to join at -/
section
variable {c : Int → Int → Bool}
theorem split_T {a : Int} : ∀ {s : Row}, Tr.tops c a s = true → ∃ A l B, s = A ++ l :: B ∧ l.1 = a ∧ ∀ q ∈ A, q.1 ≠ a ∧ c q.1 a = true
  | [], h => by cases h
  | l :: s, h => by
    by_cases e : l.1 = a
    · exact ⟨[], l, s, rfl, e, fun _ k => by cases k⟩
    · obtain ⟨k1, k2⟩ := Tr.tops_tail h e
      obtain ⟨A, m, B, h1, h2, h3⟩ := split_T k2
      exact ⟨l :: A, m, B, by rw [h1]; rfl, h2, fun q hq => by
        rcases List.mem_cons.mp hq with rfl | hq
        · exact ⟨e, k1⟩
        · exact h3 q hq⟩
theorem join_split {p : Pr} {l : Pr} {B : Row} (e : l.1 = p.1) : ∀ {A : Row}, (∀ q ∈ A, q.1 ≠ p.1) → Tr.join (A ++ l :: B) p = A ++ (if l.2 + p.2 = 0 then [] else [(p.1, l.2 + p.2)]) ++ B
  | [], _ => by
    show Tr.join (l :: B) p = _
    rw [Tr.join, if_pos e]
    split <;> rfl
  | q :: A, h => by
    show Tr.join (q :: (A ++ l :: B)) p = _
    rw [Tr.join, if_neg (h q (List.mem_cons_self ..)), join_split e fun z hz => h z (List.mem_cons_of_mem _ hz)]
    rfl
end
def pB (cl : Nat → Fn) : MS := (mSeq (mIfS (mB (bin dEq (bin dIx (bin dIx (mVar 0) (mVar 3)) (mC (.int 0))) (mVar 1))) (mRet (mVar 3)) mNext) (mIfS (mNotT (mTru (mCall (cl 10) (rVal (bin dIx (bin dIx (mVar 0) (mVar 3)) (mC (.int 0))) (rVal (mVar 1) (rVal (mVar 2) rNil)))))) (mRet (mC .none)) mNext))
theorem place_fn (cl : Nat → Fn) : fn11 cl = mFn 4 3 (mSeq (mFor (mIDown (mCons (bin dSub (un dLen (mVar 0)) (mC (.int 1))) (mCons (un dNeg (mC (.int 1))) (mCons (un dNeg (mC (.int 1))) mNil)))) (mN 3) (pB cl)) (mRet (mC .none))) := rfl
abbrev PF (L : List D) (a : Int) (M : List (Int × Int)) (x3 : Option Sv) : Fm := [some (.own .par L), ii a, some (.imm (metD M)), x3]
theorem pB_here {cl : Nat → Fn} {M : List (Int × Int)} {L : List D} {n : Nat} {j : Int} {e : D} (ha : L2.atI L (n : Int) = some (.tuple [.int j, e])) : pB cl (PF L j M (ii (n : Int))) = some (.ret (.imm (.int (n : Int))), PF L j M (ii (n : Int))) := by
  have x0 := at_last ha (x1 := ii j) (x2 := some (.imm (metD M)))
  have t1 := c_b (c_bin x0 (show mVar 1 (PF L j M (ii (n : Int))) = some (.slot 1, PF L j M (ii (n : Int))) from rfl) rfl rfl (eq_int j j))
  rw [beq_self_eq_true] at t1
  exact c_seqR (c_ifT t1 (c_ret rfl rfl))
theorem pB_else {cl : Nat → Fn} {M : List (Int × Int)} (T : TogP (cl 10) M) {L : List D} {n : Nat} {j a : Int} {e : D} (ha : L2.atI L (n : Int) = some (.tuple [.int j, e])) (h : j ≠ a) : pB cl (PF L a M (ii (n : Int))) = some (if cM M j a = true then .next else .ret (.imm .none), PF L a M (ii (n : Int))) := by
  have x0 := at_last ha (x1 := ii a) (x2 := some (.imm (metD M)))
  have t1 := c_b (c_bin x0 (show mVar 1 (PF L a M (ii (n : Int))) = some (.slot 1, PF L a M (ii (n : Int))) from rfl) rfl rfl (eq_int j a))
  rw [beq_eq_false_iff_ne.mpr h] at t1
  have k : mCall (cl 10) (rVal (bin dIx (bin dIx (mVar 0) (mVar 3)) (mC (.int 0))) (rVal (mVar 1) (rVal (mVar 2) rNil))) (PF L a M (ii (n : Int))) = some (.val (.imm (.bool (cM M j a))), PF L a M (ii (n : Int))) := c_call (c_rval x0 rfl rfl) rfl rfl (T j a) rfl
  have t2 := t_call k
  cases hc : cM M j a with
  | true => rw [hc] at t2; exact c_seq (c_ifF t1 c_skip) (c_ifF t2 c_skip)
  | false => rw [hc] at t2; exact c_seq (c_ifF t1 c_skip) (c_ifT t2 (c_ret rfl rfl))
theorem down_succ (n : Nat) : downD (n : Int) (n + 1) = .int (n : Int) :: downD ((n : Int) - 1) n := by
  unfold downD
  rw [List.range_succ_eq_map, List.map_cons, List.map_map]
  refine List.cons_eq_cons.mpr ⟨by simp, List.map_congr_left fun k _ => ?_⟩
  show PyData.int ((n : Int) + ((k + 1 : Nat) : Int) * (-1)) = PyData.int ((n : Int) - 1 + (k : Int) * (-1))
  congr 1; omega
theorem at_mid (l : Pr) (s X : Row) : L2.atI (dsD ((l :: s).reverse ++ X)) (s.length : Int) = some (.tuple [.int l.1, f36 l.2]) := by
  refine L2.atI_nat ?_
  rw [List.reverse_cons, List.append_assoc, dsD_app, List.getElem?_append_right (by rw [dsD_len, List.length_reverse]; exact Nat.le_refl _), dsD_len, List.length_reverse, Nat.sub_self]
  rfl
theorem place_loop {cl : Nat → Fn} {M : List (Int × Int)} (hc : Tr.Ok (cM M)) (T : TogP (cl 10) M) {a : Int} {L : List D} : ∀ (s X : Row) (x3 : Option Sv), L = dsD (s.reverse ++ X) →
    (∀ A l B, Tr.tops (cM M) a s = true → s = A ++ l :: B → l.1 = a → (∀ q ∈ A, q.1 ≠ a) → ∃ y3, loop (mN 3) (pB cl) (downD ((s.length : Int) - 1) s.length) (PF L a M x3) = some (.ret (.imm (.int (B.length : Int))), PF L a M y3)) ∧
    (Tr.tops (cM M) a s = false → ∃ fl y3, loop (mN 3) (pB cl) (downD ((s.length : Int) - 1) s.length) (PF L a M x3) = some (fl, PF L a M y3) ∧ (fl = .next ∨ fl = .ret (.imm .none)))
  | [], X, x3, _ => ⟨(fun A l B h => by cases h), fun _ => ⟨.next, x3, rfl, .inl rfl⟩⟩
  | m :: s, X, x3, hL => by
    have ha : L2.atI L (s.length : Int) = some (.tuple [.int m.1, f36 m.2]) := by rw [hL]; exact at_mid m s X
    have hd : downD (((m :: s).length : Int) - 1) (m :: s).length = .int (s.length : Int) :: downD ((s.length : Int) - 1) s.length := by
      rw [List.length_cons, show (((s.length + 1 : Nat) : Int) - 1) = (s.length : Int) by omega]
      exact down_succ s.length
    rw [hd]
    obtain ⟨i1, i2⟩ := place_loop hc T (a := a) (L := L) s (m :: X) (ii (s.length : Int)) (by rw [hL, List.reverse_cons, List.append_assoc]; rfl)
    by_cases e : m.1 = a
    · refine ⟨fun A l B ht hs hl hA => ?_, fun ht => ?_⟩
      · have hA0 : A = [] := by
          cases A with
          | nil => rfl
          | cons q A =>
            have hq : m = q := by injection hs
            exact absurd (hq ▸ e) (hA q (List.mem_cons_self ..))
        subst hA0
        have hB : s = B := by injection hs
        subst hB
        subst e
        exact ⟨_, c_cons_ret (ρ1 := PF L m.1 M (ii (s.length : Int))) rfl (pB_here ha)⟩
      · subst e
        have : Tr.tops (cM M) m.1 (m :: s) = true := Tr.tops_spec.mpr ⟨m, _, by rw [Tr.dep_cons, if_pos (hc.irr _)], rfl⟩
        rw [this] at ht; cases ht
    · have pe := pB_else T ha e
      cases hcm : cM M m.1 a with
      | true =>
        rw [hcm, if_pos rfl] at pe
        have ht2 : ∀ b, Tr.tops (cM M) a (m :: s) = b → Tr.tops (cM M) a s = b := fun b hb => by
          unfold Tr.tops at hb ⊢
          rw [Tr.dep_cons, if_neg (by rw [hcm]; decide)] at hb
          exact hb
        refine ⟨fun A l B ht hs hl hA => ?_, fun ht => ?_⟩
        · cases A with
          | nil =>
            have : m = l := by injection hs
            exact absurd (this ▸ hl) e
          | cons q A =>
            have h2 : s = A ++ l :: B := by injection hs
            obtain ⟨y3, g⟩ := i1 A l B (ht2 _ ht) h2 hl fun z hz => hA z (List.mem_cons_of_mem _ hz)
            exact ⟨y3, c_cons (ρ1 := PF L a M (ii (s.length : Int))) rfl pe g⟩
        · obtain ⟨fl, y3, g, h⟩ := i2 (ht2 _ ht)
          exact ⟨fl, y3, c_cons (ρ1 := PF L a M (ii (s.length : Int))) rfl pe g, h⟩
      | false =>
        rw [hcm, if_neg (by decide)] at pe
        refine ⟨fun A l B ht hs hl hA => ?_, fun _ => ⟨_, _, c_cons_ret (ρ1 := PF L a M (ii (s.length : Int))) rfl pe, .inr rfl⟩⟩
        obtain ⟨k1, _⟩ := Tr.tops_tail ht e
        rw [hcm] at k1; cases k1
def FzP (f : Fn) (d e : D) : Prop := f [.imm d] = some (.imm e, [none])
theorem fz_int {cl : Nat → Fn} (i : Int) : FzP (fn4 cl) (.int i) (.int i) := by
  have t : mNotT (mTru (un (dIsi2 Ty.list Ty.tuple) (mVar 0))) [ii i, none, none] = some (true, [ii i, none, none]) := c_not (b := false) (c_tru (c_un rfl rfl rfl) rfl rfl)
  unfold FzP fn4
  exact c_fn (ρ0 := [ii i, none, none]) rfl rfl (c_seqR (c_ifT t (c_ret rfl rfl))) rfl
theorem fz_loop {α : Type} {cl : Nat → Fn} {x0 : Option Sv} (f g : α → D) : ∀ (l : List α) (acc : List D) (x2 : Option Sv), (∀ a ∈ l, FzP (cl 4) (f a) (g a)) → acc.length + l.length ≤ 9000 → ∃ y2, loop (mN 2) (mDrop (mApp 1 (mCall (cl 4) (rVal (mVar 2) rNil)))) (l.map f) [x0, some (.own .loc acc), x2] = some (.next, [x0, some (.own .loc (acc ++ l.map g)), y2])
  | [], acc, x2, _, _ => ⟨x2, by rw [List.map_nil, List.map_nil, List.append_nil]; rfl⟩
  | a :: l, acc, x2, h, hl => by
    rw [List.length_cons] at hl
    have h1 := h a (List.mem_cons_self ..)
    obtain ⟨y2, e⟩ := fz_loop f g l (acc ++ [g a]) (some (.imm (f a))) (fun b hb => h b (List.mem_cons_of_mem _ hb)) (by rw [List.length_append]; simp; omega)
    have c : mCall (cl 4) (rVal (mVar 2) rNil) [x0, some (.own .loc acc), some (.imm (f a))] = some (.val (.imm (g a)), [x0, some (.own .loc acc), some (.imm (f a))]) := c_call (c_rval rfl rfl rfl) rfl rfl h1 rfl
    have b := c_app (i := 1) (ρ := [x0, some (.own .loc acc), some (.imm (f a))]) rfl c rfl rfl (c_fits (by omega))
    refine ⟨y2, ?_⟩
    rw [List.map_cons, List.map_cons]
    refine c_cons rfl (c_drop b) ?_
    rw [← List.append_cons] at e
    exact e
theorem fz_seq {α : Type} {cl : Nat → Fn} (f g : α → D) (l : List α) (d : D) (hd : d = .tuple (l.map f) ∨ d = .list (l.map f)) (h : ∀ a ∈ l, FzP (cl 4) (f a) (g a)) (hl : l.length ≤ 9000) : FzP (fn4 cl) d (.tuple (l.map g)) := by
  obtain ⟨y2, e⟩ := fz_loop (x0 := some (.imm d)) f g l [] none h (by simpa using hl)
  rw [List.nil_append] at e
  have t : mNotT (mTru (un (dIsi2 Ty.list Ty.tuple) (mVar 0))) [some (.imm d), none, none] = some (false, [some (.imm d), none, none]) := by
    rcases hd with rfl | rfl <;> exact c_not (b := true) (c_tru (c_un rfl rfl rfl) rfl rfl)
  have hi : mISeq (mVar 0) [some (.imm d), some (.own .loc []), none] = some (l.map f, [some (.imm d), some (.own .loc []), none]) := by
    rcases hd with rfl | rfl <;> rfl
  unfold FzP fn4
  exact c_fn (ρ0 := [some (.imm d), none, none]) rfl rfl (c_seq (c_ifF t c_skip) (c_seq (ρ1 := [some (.imm d), some (.own .loc []), none]) rfl (c_seq (c_for hi e) (c_ret (c_un rfl rfl rfl) rfl)))) rfl

def PlaceP (f : Fn) (M : List (Int × Int)) : Prop := ∀ (s : Row) (a : Int), s.length ≤ 900 →
  (∀ A l B, Tr.tops (cM M) a s = true → s = A ++ l :: B → l.1 = a → (∀ q ∈ A, q.1 ≠ a) → f [.own .par (dsD s.reverse), .imm (.int a), .imm (metD M)] = some (.imm (.int (B.length : Int)), [some (dsD s.reverse), none, none])) ∧
  (Tr.tops (cM M) a s = false → f [.own .par (dsD s.reverse), .imm (.int a), .imm (metD M)] = some (.imm .none, [some (dsD s.reverse), none, none]))
theorem place_ok {cl : Nat → Fn} {M : List (Int × Int)} (hc : Tr.Ok (cM M)) (T : TogP (cl 10) M) : PlaceP (fn11 cl) M := fun s a hl => by
  have hlen : (dsD s.reverse).length = s.length := by rw [dsD_len, List.length_reverse]
  obtain ⟨i1, i2⟩ := place_loop hc T (a := a) (L := dsD s.reverse) s [] none (by rw [List.append_nil])
  have hi : mIDown (mCons (bin dSub (un dLen (mVar 0)) (mC (.int 1))) (mCons (un dNeg (mC (.int 1))) (mCons (un dNeg (mC (.int 1))) mNil))) (PF (dsD s.reverse) a M none) = some (downD ((s.length : Int) - 1) s.length, PF (dsD s.reverse) a M none) := by
    have hs : dSub (.int ((dsD s.reverse).length : Int)) (.int 1) = some (.imm (.int ((s.length : Int) - 1))) := by
      show some (Sv.imm (.int (((dsD s.reverse).length : Int) - 1))) = _
      rw [hlen]
    have k : bin dSub (un dLen (mVar 0)) (mC (.int 1)) (PF (dsD s.reverse) a M none) = some (.val (.imm (.int ((s.length : Int) - 1))), PF (dsD s.reverse) a M none) := c_bin (c_un rfl rfl (show dLen (.list (dsD s.reverse)) = some (.imm (.int ((dsD s.reverse).length : Int))) from rfl)) rfl rfl rfl hs
    exact c_down (c_acons k rfl (c_acons last_1 rfl (c_acons last_1 rfl c_anil))) (c_rng (by omega)) (c_rng (by omega)) (by omega)
  rw [place_fn]
  generalize dsD s.reverse = L at *
  refine ⟨fun A l B h1 h2 h3 h4 => ?_, fun h => ?_⟩
  · obtain ⟨y3, g⟩ := i1 A l B h1 h2 h3 h4
    exact c_fn (ρ0 := PF L a M none) rfl rfl (c_seqR (c_for hi g)) rfl
  · obtain ⟨fl, y3, g, hf | hf⟩ := i2 h
    · subst hf
      exact c_fn (ρ0 := PF L a M none) rfl rfl (c_seq (c_for hi g) (c_ret rfl rfl)) rfl
    · subst hf
      exact c_fn (ρ0 := PF L a M none) rfl rfl (c_seqR (c_for hi g)) rfl
/-! the shortest form -/
def PlusP (f : Fn) : Prop := ∀ (d e : D) (q r : Rat), IsFr d q → IsFr e r → Sm q → Sm r → f [.imm d, .imm e] = some (.imm (fr (q + r)), [none, none])
theorem plus36 {f : Fn} (P : PlusP f) {a k : Int} (ha : a.natAbs < 2 ^ 80) (hk : k.natAbs < 2 ^ 80) : f [.imm (f36 a), .imm (f36 k)] = some (.imm (f36 (a + k)), [none, none]) := by
  have := P (f36 a) (f36 k) (v36 a) (v36 k) (isFr _) (isFr _) (v_sd ha).sm (v_sd hk).sm
  rw [v_add] at this
  exact this
def sB (cl : Nat → Fn) : MS := (mSeq (mSet 5 (mCall (cl 11) (rSlot 2 (rVal (mVar 3) (rVal (mVar 1) rNil))))) (mSeq (mIfS (mB (bin dIs (mVar 5) (mC .none))) (mPar 5 6 (un dLen (mVar 2)) (mC (.tuple ([0, 1].map .int)))) (mSet 6 (bin dIx (bin dIx (mVar 2) (mVar 5)) (mC (.int 1))))) (mSeq (mSet 7 (mCall (cl 8) (rVal (mVar 6) (rVal (mVar 4) rNil)))) (mSlx 2 (mPart (mVar 5)) (mPart (bin dAdd (mVar 5) (mC (.int 1)))) (mIf (mTru (bin dIx (mVar 7) (mC (.int 0)))) (mLst (mCons (mTup (mCons (mVar 3) (mCons (mVar 7) mNil))) mNil)) (mLst mNil))))))
theorem short_fn (cl : Nat → Fn) : fn12 cl = mFn 8 2 (mSeq (mSet 2 (mLst mNil)) (mSeq (mFor (mISeq (mVar 0)) (mGseq 2 (mGcons (mN 3) (mGcons (mN 4) mGnil))) (sB cl)) (mRet (mVar 2)))) := rfl
def lm (s : Row) : Prop := ∀ p ∈ s, p.2.natAbs < 2 ^ 80
theorem call5 {cl : Nat → Fn} {x0 x5 x6 x7 : Option Sv} {m : D} {L : List D} {part : Int} {e r : D} (h : cl 11 [.own .par L, .imm (.int part), .imm m] = some (.imm r, [some L, none, none])) : mSet 5 (mCall (cl 11) (rSlot 2 (rVal (mVar 3) (rVal (mVar 1) rNil)))) (SF x0 m L part e x5 x6 x7) = some (.next, SF x0 m L part e (some (.imm r)) x6 x7) :=
  c_set (c_call (as := [.s 2, .v (.int part), .v m]) rfl rfl rfl h rfl) rfl
theorem call7 {cl : Nat → Fn} {x0 x5 x7 : Option Sv} {m : D} {L : List D} {part : Int} {e g : D} {k : Int} (h : cl 8 [.imm g, .imm e] = some (.imm (f36 k), [none, none])) : mSet 7 (mCall (cl 8) (rVal (mVar 6) (rVal (mVar 4) rNil))) (SF x0 m L part e x5 (some (.imm g)) x7) = some (.next, SF x0 m L part e x5 (some (.imm g)) (some (.imm (f36 k)))) :=
  c_set (c_call rfl rfl rfl h rfl) rfl
theorem short_step {cl : Nat → Fn} {M : List (Int × Int)} (P : PlusP (cl 8)) (Q : PlaceP (cl 11) M) {x0 x5 x6 x7 : Option Sv} (s : Row) (p : Pr) (hs : lm s) (hp : p.2.natAbs < 2 ^ 80) (hl : s.length ≤ 800) :
    ∃ y5 y6 y7, sB cl (SF x0 (metD M) (dsD s.reverse) p.1 (f36 p.2) x5 x6 x7) = some (.next, SF x0 (metD M) (dsD (Tr.push (cM M) s p).reverse) p.1 (f36 p.2) y5 y6 y7) := by
  have h0 : (0 : Int).natAbs < 2 ^ 80 := by decide
  have hlen : (dsD s.reverse).length = s.length := by rw [dsD_len, List.length_reverse]
  obtain ⟨q1, q2⟩ := Q s p.1 (by omega)
  have one : ∀ k : Int, (if k = 0 then ([] : List D) else [prD (p.1, k)]) = dsD (if k = 0 then [] else [(p.1, k)]) := fun k => by split <;> rfl
  have rev : ∀ k : Int, (if k = 0 then ([] : Row) else [(p.1, k)]).reverse = if k = 0 then [] else [(p.1, k)] := fun k => by split <;> rfl
  cases ht : Tr.tops (cM M) p.1 s with
  | true =>
    obtain ⟨A, l, B, e1, e2, e3⟩ := split_T ht
    have c := q1 A l B ht e1 e2 fun q hq => (e3 q hq).1
    have hr : s.reverse = (l :: B).reverse ++ A.reverse := by rw [e1, List.reverse_append]
    have ha := at_mid l B A.reverse
    rw [← hr] at ha
    have q := plus36 P (hs l (by rw [e1]; simp)) hp
    have hB : B.length < s.length := by rw [e1, List.length_append, List.length_cons]; omega
    have pt := step_put (m := metD M) (x0 := x0) (x6 := some (.imm (f36 l.2))) (L := dsD s.reverse) (a := B.length) (part := p.1) (k := l.2 + p.2) (e := f36 p.2) (by omega) (by omega)
    have hj : dsD (Tr.push (cM M) s p).reverse = (dsD s.reverse).take B.length ++ (if l.2 + p.2 = 0 then ([] : List D) else [prD (p.1, l.2 + p.2)]) ++ (dsD s.reverse).drop (B.length + 1) := by
      unfold Tr.push
      rw [if_pos ht, e1, join_split e2 fun q hq => (e3 q hq).1, one, List.reverse_append, List.reverse_append, rev, dsD_app, dsD_app, List.reverse_append, List.reverse_cons, dsD_app, dsD_app]
      have hb : (dsD B.reverse).length = B.length := by rw [dsD_len, List.length_reverse]
      rw [List.append_assoc (dsD B.reverse), List.take_left' hb, List.drop_append, hb, List.drop_of_length_le (by rw [hb]; omega), show B.length + 1 - B.length = 1 by omega]
      simp [dsD]
    rw [hj]
    generalize dsD s.reverse = L at *
    exact ⟨_, _, _, c_seq (call5 c) (c_seq (step_at ha) (c_seq (call7 q) pt))⟩
  | false =>
    have c := q2 ht
    have q := plus36 P h0 hp
    rw [Int.zero_add] at q
    have pt := step_put (m := metD M) (x0 := x0) (x6 := zz) (L := dsD s.reverse) (a := (dsD s.reverse).length) (part := p.1) (k := p.2) (e := f36 p.2) (Nat.le_refl _) (by omega)
    have hj : dsD (Tr.push (cM M) s p).reverse = (dsD s.reverse).take (dsD s.reverse).length ++ (if p.2 = 0 then ([] : List D) else [prD (p.1, p.2)]) ++ (dsD s.reverse).drop ((dsD s.reverse).length + 1) := by
      unfold Tr.push
      rw [if_neg (by rw [ht]; decide), List.take_length, List.drop_of_length_le (by omega), List.append_nil]
      split
      · rw [List.append_nil]
      · rw [List.reverse_cons, dsD_app]; rfl
    rw [hj]
    generalize dsD s.reverse = L at *
    exact ⟨_, _, _, c_seq (call5 c) (c_seq step_none (c_seq (call7 q) pt))⟩
/-! sizes -/
theorem join_norm : ∀ (s : Row) (p : Pr), norm (Tr.join s p) ≤ norm s + p.2.natAbs
  | [], p => by simp [Tr.join, norm]
  | l :: s, p => by
    have ih := join_norm s p
    have hab := Int.natAbs_add_le l.2 p.2
    rw [Tr.join, norm_cons]
    split
    · split
      · omega
      · rw [norm_cons]; show (l.2 + p.2).natAbs + norm s ≤ _; omega
    · rw [norm_cons]; omega
theorem join_len : ∀ (s : Row) (p : Pr), (Tr.join s p).length ≤ s.length
  | [], p => Nat.le_refl _
  | l :: s, p => by
    have ih := join_len s p
    rw [Tr.join]
    split
    · split
      · simp
      · simp
    · simp only [List.length_cons]; omega
theorem push_norm {c : Int → Int → Bool} (s : Row) (p : Pr) : norm (Tr.push c s p) ≤ norm s + p.2.natAbs := by
  unfold Tr.push
  split
  · exact join_norm s p
  · split
    · omega
    · rw [norm_cons]; omega
theorem push_len {c : Int → Int → Bool} (s : Row) (p : Pr) : (Tr.push c s p).length ≤ s.length + 1 := by
  unfold Tr.push
  split
  · have := join_len s p; omega
  · split
    · omega
    · simp
theorem norm_lm {s : Row} (h : norm s < 2 ^ 80) : lm s := fun p hp => Nat.lt_of_le_of_lt (norm_mem hp) h
theorem short_loop {cl : Nat → Fn} {M : List (Int × Int)} (P : PlusP (cl 8)) (Q : PlaceP (cl 11) M) {x0 : Option Sv} : ∀ (r s : Row) (x3 x4 x5 x6 x7 : Option Sv), norm s + norm r < 2 ^ 80 → s.length + r.length ≤ 800 →
    ∃ y3 y4 y5 y6 y7, loop (mGseq 2 (mGcons (mN 3) (mGcons (mN 4) mGnil))) (sB cl) (dsD r) [x0, some (.imm (metD M)), some (.own .loc (dsD s.reverse)), x3, x4, x5, x6, x7] = some (.next, [x0, some (.imm (metD M)), some (.own .loc (dsD (Tr.stk (cM M) r s).reverse)), y3, y4, y5, y6, y7])
  | [], s, x3, x4, x5, x6, x7, _, _ => ⟨x3, x4, x5, x6, x7, rfl⟩
  | p :: r, s, x3, x4, x5, x6, x7, h1, h2 => by
    rw [norm_cons] at h1
    rw [List.length_cons] at h2
    have n1 := push_norm (c := cM M) s p
    have n2 := push_len (c := cM M) s p
    obtain ⟨y5, y6, y7, e⟩ := short_step P Q (x0 := x0) (x5 := x5) (x6 := x6) (x7 := x7) s p (norm_lm (by omega)) (by omega) (by omega)
    obtain ⟨z3, z4, z5, z6, z7, g⟩ := short_loop P Q (x0 := x0) r (Tr.push (cM M) s p) (ii p.1) (some (.imm (f36 p.2))) y5 y6 y7 (by omega) (by omega)
    exact ⟨z3, z4, z5, z6, z7, c_cons (ρ1 := SF x0 (metD M) (dsD s.reverse) p.1 (f36 p.2) x5 x6 x7) rfl e g⟩
def ShortP (f : Fn) (M : List (Int × Int)) : Prop := ∀ r : Row, norm r < 2 ^ 80 → r.length ≤ 800 → f [.imm (rowD r), .imm (metD M)] = some (.own .loc (dsD (Tr.stk (cM M) r []).reverse), [none, none])
theorem short_ok {cl : Nat → Fn} {M : List (Int × Int)} (P : PlusP (cl 8)) (Q : PlaceP (cl 11) M) : ShortP (fn12 cl) M := fun r hn hl => by
  obtain ⟨y3, y4, y5, y6, y7, e⟩ := short_loop P Q (x0 := some (.imm (rowD r))) r [] none none none none none (by simp [norm] at *; omega) (by simpa using hl)
  rw [short_fn]
  exact c_fn (ρ0 := [some (.imm (rowD r)), some (.imm (metD M)), none, none, none, none, none, none]) rfl rfl (c_seq (c_set (c_lst c_anil rfl) rfl) (c_seq (c_for (ds := dsD r) (ρ1 := [some (.imm (rowD r)), some (.imm (metD M)), some (.own .loc []), none, none, none, none, none]) rfl e) (c_ret rfl rfl))) rfl

end K26

namespace K26
open PySem Vi PyProof.Rows
/-! sorted -/
theorem key_pr (p : Pr) : W.keyToks (prD p) = [.inl 1, .inl p.1, .inl 1, .inl 1, .inl (v36 p.2).num, .inl 1, .inl ((v36 p.2).den : Int), .inl 0, .inl 0] := by
  simp [W.keyToks, W.keyToksAll, prD, f36, fr]
theorem le_pr {p q : Pr} (h : p.1 ≠ q.1) : leD (prD p) (prD q) = decide (p.1 ≤ q.1) := by
  unfold leD W.dataLe W.sortLe
  simp only [id, key_pr]
  by_cases h1 : q.1 < p.1
  · have h2 : ¬ p.1 < q.1 := by omega
    have h3 : ¬ p.1 ≤ q.1 := by omega
    simp [PyProof.Rows.listOrd, PyProof.Rows.lexLt, PyProof.Rows.itemLt, PyProof.Rows.itemOrd, h1, h2, h3]
  · have h2 : p.1 < q.1 := by omega
    have h3 : p.1 ≤ q.1 := by omega
    simp [PyProof.Rows.listOrd, PyProof.Rows.lexLt, PyProof.Rows.itemLt, PyProof.Rows.itemOrd, h1, h2, h3]
theorem ins_pr {p : Pr} : ∀ {r : Row}, (∀ q ∈ r, p.1 ≠ q.1) → Vi.ins leD (prD p) (dsD r) = dsD (Tr.ins p r)
  | [], _ => rfl
  | q :: r, h => by
    have e := le_pr (h q (List.mem_cons_self ..))
    show (if leD (prD p) (prD q) = true then prD p :: prD q :: dsD r else prD q :: Vi.ins leD (prD p) (dsD r)) = dsD (if p.1 ≤ q.1 then p :: q :: r else q :: Tr.ins p r)
    rw [e, ins_pr fun z hz => h z (List.mem_cons_of_mem _ hz)]
    by_cases hl : p.1 ≤ q.1
    · rw [if_pos (decide_eq_true hl), if_pos hl]; rfl
    · rw [if_neg (by rw [decide_eq_false hl]; decide), if_neg hl]; rfl
theorem sort_pr : ∀ {r : Row}, r.Pairwise (fun x y => x.1 ≠ y.1) → sortD (dsD r) = dsD (Tr.srt r)
  | [], _ => rfl
  | p :: r, h => by
    obtain ⟨h1, h2⟩ := List.pairwise_cons.mp h
    show Vi.ins leD (prD p) (sortD (dsD r)) = dsD (Tr.ins p (Tr.srt r))
    rw [sort_pr h2, ins_pr fun q hq => h1 q (Tr.srt_mem.mp hq)]
theorem lay_pr (p : Pr) : PyData.canLay0 (prD p) = true := by
  unfold prD f36 fr
  simp [PyData.canLay0, PyData.canLayAll0]
theorem dep_pr (p : Pr) : PyData.depth (prD p) ≤ 2 := by
  unfold prD f36 fr
  simp [PyData.depth, PyData.depthAll]
theorem ok_pr (p : Pr) : okD (prD p) = true := by
  show (PyData.canLay0 (prD p) && decide (PyData.depth (prD p) ≤ 64)) = true
  have := dep_pr p
  rw [lay_pr, decide_eq_true (by omega)]; rfl
theorem sortOk_pr {r : Row} (hl : r.length ≤ 9000) : sortOk (dsD r) = true := by
  have m : ∀ d ∈ dsD r, ∃ p : Pr, d = prD p := fun d hd => by
    unfold dsD at hd
    obtain ⟨p, _, rfl⟩ := List.mem_map.mp hd
    exact ⟨p, rfl⟩
  have h1 : alikeAllB (dsD r) = true := by
    unfold alikeAllB
    rw [List.all_eq_true]
    intro d hd
    rw [List.all_eq_true]
    intro e he
    obtain ⟨p, rfl⟩ := m d hd
    obtain ⟨q, rfl⟩ := m e he
    simp [W.alike, W.alikeAll, prD, f36, fr]
  have h2 : (dsD r).all headB = true := by
    rw [List.all_eq_true]
    intro d hd
    obtain ⟨p, rfl⟩ := m d hd
    rfl
  have h3 : (dsD r).all okD = true := by
    rw [List.all_eq_true]
    intro d hd
    obtain ⟨p, rfl⟩ := m d hd
    exact ok_pr p
  have h4 : fits (dsD r).length = true := c_fits (by rw [dsD_len]; omega)
  unfold sortOk
  rw [h1, h2, h3, h4]; rfl
theorem sorted_pr {r : Row} (hl : r.length ≤ 9000) (h : r.Pairwise fun x y => x.1 ≠ y.1) : dSortW (.list (dsD r)) = some (.own .loc (dsD (Tr.srt r))) := by
  show (if sortOk (dsD r) = true then some (Sv.own .loc (sortD (dsD r))) else _) = _
  rw [if_pos (sortOk_pr hl), sort_pr h]
/-! what is foremost -/
def ix (c : Int → Int → Bool) : List Int → List Int → List Nat
  | _, [] => []
  | pre, a :: r => if pre.all (fun b => c a b) = true then pre.length :: ix c (pre ++ [a]) r else ix c (pre ++ [a]) r
def fT (cl : Nat → Fn) : MT := (mTru (un dAll (mComp (mISeq (mSl (mVar 0) mNoPart (mPart (mVar 2)))) (mN 4) mYes (mCall (cl 10) (rVal (mVar 3) (rVal (mVar 4) (rVal (mVar 1) rNil)))) [4])))
theorem fore_fn (cl : Nat → Fn) : fn15 cl = mFn 5 2 (mRet (mComp (mIEnum (mCons (mVar 0) mNil)) (mGtup 2 (mGcons (mN 2) (mGcons (mN 3) mGnil))) (fT cl) (mVar 2) [2, 3])) := rfl
abbrev FF (ps : List Int) (M : List (Int × Int)) (x2 x3 : Option Sv) : Fm := [some (.imm (.list (ps.map .int))), some (.imm (metD M)), x2, x3, none]
theorem bools_of {α : Type} (g : α → Bool) : ∀ l : List α, boolsOf (l.map fun d => .bool (g d)) = some (l.map g)
  | [] => rfl
  | d :: l => by rw [List.map_cons, boolsOf, bools_of g l]; rfl
theorem all_of {α : Type} (g : α → Bool) (l : List α) : dAll (.list (l.map fun d => .bool (g d))) = some (.imm (.bool (l.all g))) := by
  show (boolsOf (l.map fun d => .bool (g d))).map _ = _
  rw [bools_of]
  simp [List.all_map, Function.comp_def]
theorem cut_to (L : List D) (k : Nat) (h : k ≤ L.length) : Vi.cutD L none (some (k : Int)) = L.take k := by
  unfold Vi.cutD
  rw [HT.sIx_none, HT.sIx_nat, Nat.min_eq_left h]
  simp
theorem fT_ok {cl : Nat → Fn} {M : List (Int × Int)} (T : TogP (cl 10) M) {ps pre r : List Int} (a : Int) (h : ps = pre ++ a :: r) (hl : ps.length ≤ 900) : fT cl (FF ps M (ii (pre.length : Int)) (ii a)) = some (pre.all (fun b => cM M a b), FF ps M (ii (pre.length : Int)) (ii a)) := by
  have hs : mSl (mVar 0) mNoPart (mPart (mVar 2)) (FF ps M (ii (pre.length : Int)) (ii a)) = some (.val (.own .loc (Vi.cutD (ps.map .int) none (some (pre.length : Int)))), FF ps M (ii (pre.length : Int)) (ii a)) := rfl
  have ht : (ps.map PyData.int).take pre.length = pre.map .int := by
    rw [h, List.map_append, List.take_left' (by rw [List.length_map])]
  rw [cut_to _ _ (by rw [List.length_map, h, List.length_append]; omega), ht] at hs
  have hi : mISeq (mSl (mVar 0) mNoPart (mPart (mVar 2))) (FF ps M (ii (pre.length : Int)) (ii a)) = some (pre.map .int, FF ps M (ii (pre.length : Int)) (ii a)) := by
    unfold mISeq
    rw [hs]; rfl
  have e := c_cmap (mg := mN 4) (me := mCall (cl 10) (rVal (mVar 3) (rVal (mVar 4) (rVal (mVar 1) rNil)))) (vs := [4]) (ρ := FF ps M (ii (pre.length : Int)) (ii a)) PyData.int (fun b => .bool (cM M a b)) pre fun b hb => by
    have v3 : EV (mVar 3) [some (.imm (.list (ps.map .int))), some (.imm (metD M)), ii (pre.length : Int), ii a, ii b] (.int a) := ev_var rfl
    have v4 : EV (mVar 4) [some (.imm (.list (ps.map .int))), some (.imm (metD M)), ii (pre.length : Int), ii a, ii b] (.int b) := ev_var rfl
    have v1 : EV (mVar 1) [some (.imm (.list (ps.map .int))), some (.imm (metD M)), ii (pre.length : Int), ii a, ii b] (metD M) := ev_var rfl
    exact ⟨_, _, _, _, rfl, v_call3 v3 v4 v1 (T a b), rfl, rfl⟩
  have hf : fits (pre.map fun b => PyData.bool (cM M a b)).length = true := c_fits (by rw [List.length_map]; rw [h, List.length_append] at hl; omega)
  exact t_tru (c_un (f := dAll) (c_comp hi rfl e hf rfl) rfl (all_of _ pre))
theorem fore_loop {cl : Nat → Fn} {M : List (Int × Int)} (T : TogP (cl 10) M) {ps : List Int} (hl : ps.length ≤ 900) : ∀ (r pre : List Int), ps = pre ++ r → cloop (mGtup 2 (mGcons (mN 2) (mGcons (mN 3) mGnil))) (fT cl) (mVar 2) [2, 3] (enumD pre.length (r.map .int)) (FF ps M none none) = some ((ix (cM M) pre r).map fun k : Nat => .int (k : Int), FF ps M none none)
  | [], _, _ => rfl
  | a :: r, pre, h => by
    have ih := fore_loop T hl r (pre ++ [a]) (by rw [h, List.append_assoc]; rfl)
    rw [List.length_append] at ih
    have t := fT_ok T a h hl
    rw [ix]
    cases hb : pre.all (fun b => cM M a b) with
    | true =>
      rw [hb] at t
      rw [if_pos rfl]
      exact c_ccons (ρ1 := FF ps M (ii (pre.length : Int)) (ii a)) rfl t rfl rfl ih
    | false =>
      rw [hb] at t
      rw [if_neg (by decide)]
      exact c_cskip (ρ1 := FF ps M (ii (pre.length : Int)) (ii a)) rfl t ih
def ForeP (f : Fn) (M : List (Int × Int)) : Prop := ∀ ps : List Int, ps.length ≤ 900 → f [.imm (.list (ps.map .int)), .imm (metD M)] = some (.own .loc ((ix (cM M) [] ps).map fun k : Nat => .int (k : Int)), [none, none])
theorem ix_len (c : Int → Int → Bool) : ∀ (r pre : List Int), (ix c pre r).length ≤ r.length
  | [], _ => Nat.zero_le _
  | a :: r, pre => by
    have ih := ix_len c r (pre ++ [a])
    rw [ix]
    split
    · simp only [List.length_cons]; omega
    · simp only [List.length_cons]; omega
theorem fore_ok {cl : Nat → Fn} {M : List (Int × Int)} (T : TogP (cl 10) M) : ForeP (fn15 cl) M := fun ps hl => by
  have e := fore_loop T hl ps [] rfl
  have h := ix_len (cM M) ps []
  have hf : fits ((ix (cM M) [] ps).map fun k : Nat => PyData.int (k : Int)).length = true := c_fits (by rw [List.length_map]; omega)
  rw [fore_fn]
  exact c_fn (ρ0 := FF ps M none none) rfl rfl (c_ret (c_comp (ds := enumD 0 (ps.map .int)) (ρ1 := FF ps M none none) rfl rfl e hf rfl) rfl) rfl
/-- the places of what is foremost, and those elsewhere -/
theorem ix_fore {c : Int → Int → Bool} {L : Row} : ∀ (r X : Row) (pre : List Int) (seen : List Int), L = X ++ r → pre.length = X.length → (∀ b, b ∈ pre ↔ b ∈ seen) →
    (ix c pre (r.map Prod.fst)).map (fun k => L[k]?) = (Tr.fore c seen r).map some
  | [], _, _, _, _, _, _ => rfl
  | p :: r, X, pre, seen, h, hl, hm => by
    have ih := ix_fore (c := c) (L := L) r (X ++ [p]) (pre ++ [p.1]) (p.1 :: seen) (by rw [h, List.append_assoc]; rfl) (by rw [List.length_append, List.length_append, hl]; rfl) fun b => by
      rw [List.mem_append, List.mem_singleton, List.mem_cons, hm]
      exact Or.comm
    have ha : pre.all (fun b => c p.1 b) = seen.all (fun b => c p.1 b) := by
      rw [Bool.eq_iff_iff, List.all_eq_true, List.all_eq_true]
      exact ⟨fun k b hb => k b ((hm b).mpr hb), fun k b hb => k b ((hm b).mp hb)⟩
    rw [List.map_cons, ix, Tr.fore, ha]
    split
    · rw [List.map_cons, List.map_cons, ih, hl, h, List.getElem?_append_right (Nat.le_refl _), Nat.sub_self]; rfl
    · exact ih
theorem ix_ge {c : Int → Int → Bool} : ∀ (r pre : List Int) (k : Nat), k ∈ ix c pre r → pre.length ≤ k
  | [], _, _, h => by cases h
  | a :: r, pre, k, h => by
    have ih := ix_ge (c := c) r (pre ++ [a]) k
    rw [List.length_append] at ih
    rw [ix] at h
    split at h
    · rcases List.mem_cons.mp h with h | h
      · omega
      · have := ih h; simp at this; omega
    · have := ih h; simp at this; omega
theorem ix_back {c : Int → Int → Bool} {K : List Nat} : ∀ (r : Row) (pre seen : List Int), (∀ b, b ∈ pre ↔ b ∈ seen) → (∀ k, pre.length ≤ k → (k ∈ K ↔ k ∈ ix c pre (r.map Prod.fst))) →
    (Tr.back c seen r) = ((r.zipIdx pre.length).filter fun x => !decide (x.2 ∈ K)).map Prod.fst
  | [], _, _, _, _ => rfl
  | p :: r, pre, seen, hm, hK => by
    have ha : pre.all (fun b => c p.1 b) = seen.all (fun b => c p.1 b) := by
      rw [Bool.eq_iff_iff, List.all_eq_true, List.all_eq_true]
      exact ⟨fun k b hb => k b ((hm b).mpr hb), fun k b hb => k b ((hm b).mp hb)⟩
    have ih := ix_back (c := c) (K := K) r (pre ++ [p.1]) (p.1 :: seen) (fun b => by
      rw [List.mem_append, List.mem_singleton, List.mem_cons, hm]
      exact Or.comm) (fun k hk => by
      rw [List.length_append] at hk
      have hk' : pre.length + 1 ≤ k := hk
      rw [hK k (by omega), List.map_cons, ix]
      split
      · rw [List.mem_cons]
        exact ⟨fun h => h.elim (fun e => by omega) id, .inr⟩
      · exact Iff.rfl)
    rw [List.length_append] at ih
    have hk0 := hK pre.length (Nat.le_refl _)
    rw [List.map_cons, ix] at hk0
    rw [List.zipIdx_cons, List.filter_cons, Tr.back, ← ha, ih]
    split
    · rename_i hs
      rw [if_pos hs] at hk0
      have : pre.length ∈ K := hk0.mpr (List.mem_cons_self ..)
      simp [this]
    · rename_i hs
      rw [if_neg hs] at hk0
      have : ¬ pre.length ∈ K := fun h => by
        have := ix_ge _ _ _ (hk0.mp h)
        rw [List.length_append] at this
        simp at this
        omega
      simp [this]
/-! the parts of a row -/
def PartsP (f : Fn) : Prop := ∀ r : Row, r.length ≤ 900 → f [.imm (.list (dsD r))] = some (.own .loc ((r.map Prod.fst).map .int), [none])
theorem parts_ok {cl : Nat → Fn} : PartsP (fn17 cl) := fun r hl => by
  have e := c_cmap (mg := mGseq 2 (mGcons (mN 1) (mGcons (mN 2) mGnil))) (me := mVar 1) (vs := [1, 2]) (ρ := [some (.imm (.list (dsD r))), none, none]) prD (fun p => .int p.1) r fun p hp => ⟨_, _, _, _, rfl, rfl, rfl, rfl⟩
  have hf : fits (r.map fun p => PyData.int p.1).length = true := c_fits (by rw [List.length_map]; omega)
  rw [List.map_map]
  unfold fn17
  exact c_fn (ρ0 := [some (.imm (.list (dsD r))), none, none]) rfl rfl (c_ret (c_comp (ds := dsD r) (ρ1 := [some (.imm (.list (dsD r))), none, none]) rfl rfl e hf rfl) rfl) rfl

end K26

namespace K26
open PySem Vi PyProof.Rows
/-! layers -/
abbrev ll (L : List D) : Option Sv := some (.imm (.list L))
abbrev oo (L : List D) : Option Sv := some (.own .loc L)
def Ls (s : Option Sv) (L : List D) : Prop := s = ll L ∨ s = oo L

abbrev kD (K : List Nat) : List D := K.map fun k : Nat => .int (k : Int)

theorem stk_len {c : Int → Int → Bool} : ∀ (r s : Row), (Tr.stk c r s).length ≤ s.length + r.length
  | [], s => Nat.le_refl _
  | p :: r, s => by
    have h1 := stk_len (c := c) r (Tr.push c s p)
    have h2 := push_len (c := c) s p
    show (Tr.stk c r (Tr.push c s p)).length ≤ _
    rw [List.length_cons]; omega

end K26

namespace Tr
variable {c : Int → Int → Bool}
/-! the least order of all alike -/
def dropF (a : Int) : Row → Row
  | [] => []
  | l :: s => if l.1 = a then s else l :: dropF a s
theorem dropF_split {p : Pr} {B : Row} : ∀ {A : Row}, (∀ q ∈ A, q.1 ≠ p.1) → dropF p.1 (A ++ p :: B) = A ++ B
  | [], _ => by show dropF p.1 (p :: B) = B; rw [dropF, if_pos rfl]
  | q :: A, h => by
    show dropF p.1 (q :: (A ++ p :: B)) = q :: (A ++ B)
    rw [dropF, if_neg (h q (List.mem_cons_self ..)), dropF_split fun z hz => h z (List.mem_cons_of_mem _ hz)]
def lo (c : Int → Int → Bool) : Nat → Row → Row
  | 0, _ => []
  | n + 1, r => match srt (fore c [] r) with
    | [] => []
    | p :: _ => p :: lo c n (dropF p.1 r)
theorem fore_split (hc : Ok c) {p : Pr} : ∀ {r : Row} {seen : List Int}, p ∈ fore c seen r → ∃ A B, r = A ++ p :: B ∧ ∀ q ∈ A, c p.1 q.1 = true
  | [], _, h => by cases h
  | q :: r, seen, h => by
    have rest : p ∈ fore c (q.1 :: seen) r → ∃ A B, q :: r = A ++ p :: B ∧ ∀ z ∈ A, c p.1 z.1 = true := fun k => by
      obtain ⟨A, B, h1, h2⟩ := fore_split hc k
      have h3 := (fore_once hc r (q.1 :: seen)).2 p k q.1 (List.mem_cons_self ..)
      exact ⟨q :: A, B, by rw [h1]; rfl, fun z hz => by
        rcases List.mem_cons.mp hz with rfl | hz
        · exact h3
        · exact h2 z hz⟩
    rw [fore] at h
    split at h
    · rcases List.mem_cons.mp h with rfl | h
      · exact ⟨[], r, rfl, fun _ k => by cases k⟩
      · exact rest h
    · exact rest h
theorem dropF_prj (hc : Ok c) {p : Pr} {r : Row} (h : p ∈ fore c [] r) : Eqc c (p :: dropF p.1 r) r ∧ (dropF p.1 r).length + 1 = r.length := by
  obtain ⟨A, B, h1, h2⟩ := fore_split hc h
  have hA : ∀ q ∈ A, q.1 ≠ p.1 := fun q hq e => by
    have := h2 q hq
    rw [e, hc.irr] at this
    cases this
  rw [h1, dropF_split hA]
  refine ⟨fun a b k => ?_, by simp; omega⟩
  have app : ∀ x y : Row, prj a b (x ++ y) = prj a b x ++ prj a b y := fun x y => by unfold prj; rw [List.filter_append]
  by_cases hp : p.1 = a ∨ p.1 = b
  · have hn : prj a b A = [] := by
      unfold prj
      rw [List.filter_eq_nil_iff]
      intro q hq hab
      have h3 := h2 q hq
      have h4 : q.1 = a ∨ q.1 = b := by simpa using hab
      rcases hp with hp | hp <;> rcases h4 with h4 | h4
      · rw [hp, h4, hc.irr] at h3; cases h3
      · rw [hp, h4, k] at h3; cases h3
      · rw [hp, h4, hc.symm, k] at h3; cases h3
      · rw [hp, h4, hc.irr] at h3; cases h3
    rw [prj_cons, if_pos hp, app, app, hn, prj_cons, if_pos hp]; rfl
  · rw [prj_cons, if_neg hp, app, app, prj_cons, if_neg hp]
theorem tail_eq (hc : Ok c) {p : Pr} {r t : Row} (h : Eqc c (p :: r) (p :: t)) : Eqc c r t := fun a b k => by
  have := h a b k
  rw [prj_cons, prj_cons] at this
  split at this
  · injection this
  · exact this
theorem srt_head {r : Row} {p : Pr} {t : Row} (h : srt r = p :: t) : p ∈ r := srt_mem.mp (by rw [h]; exact List.mem_cons_self ..)
theorem lo_eq (hc : Ok c) : ∀ (n : Nat) {r t : Row}, Eqc c r t → lo c n r = lo c n t
  | 0, _, _, _ => rfl
  | n + 1, r, t, h => by
    rw [lo, lo, fore_srt hc h]
    split
    · rfl
    · rename_i p u hs
      have h1 := dropF_prj hc (srt_head (r := fore c [] t) hs)
      have h2 := dropF_prj hc (srt_head (r := fore c [] r) (by rw [fore_srt hc h]; exact hs))
      rw [lo_eq hc n (tail_eq hc (p := p) (eqc_trans h2.1 (eqc_trans h (eqc_symm h1.1))))]
theorem lo_self (hc : Ok c) : ∀ (n : Nat) (r : Row), r.length ≤ n → Eqc c (lo c n r) r ∧ (lo c n r).length = r.length
  | 0, r, h => by
    have : r = [] := List.eq_nil_of_length_eq_zero (by omega)
    rw [this]; exact ⟨eqc_refl _, rfl⟩
  | n + 1, [], h => by
    have : lo c (n + 1) [] = [] := rfl
    rw [this]; exact ⟨eqc_refl _, rfl⟩
  | n + 1, q :: r, h => by
    rw [lo]
    have hf := fore_ne (c := c) q r
    split
    · rename_i hs
      exfalso
      cases hfo : fore c [] (q :: r) with
      | nil => exact hf hfo
      | cons z u =>
        have : z ∈ srt (fore c [] (q :: r)) := srt_mem.mpr (by rw [hfo]; exact List.mem_cons_self ..)
        rw [hs] at this
        cases this
    · rename_i p u hs
      have h1 := dropF_prj hc (srt_head (r := fore c [] (q :: r)) hs)
      have ih := lo_self hc n (dropF p.1 (q :: r)) (by omega)
      refine ⟨eqc_trans ?_ h1.1, by rw [List.length_cons, ih.2]; exact h1.2⟩
      intro a b k
      rw [prj_cons, prj_cons, ih.1 a b k]
theorem lo_iff (hc : Ok c) {r t : Row} {n : Nat} (h1 : r.length ≤ n) (h2 : t.length ≤ n) : lo c n r = lo c n t ↔ Eqc c r t :=
  ⟨fun h => by
    have := (lo_self hc n r h1).1
    rw [h] at this
    exact eqc_trans (eqc_symm this) (lo_self hc n t h2).1, lo_eq hc n⟩
/-- the least of what is foremost -/
theorem least_head (hc : Ok c) {r : Row} {p : Pr} (hp : p ∈ fore c [] r) (hl : ∀ q ∈ fore c [] r, p.1 ≤ q.1) : ∃ t, srt (fore c [] r) = p :: t := by
  have hd : (fore c [] r).Pairwise (fun x y => x.1 ≠ y.1) := (fore_once hc r []).1.imp fun k e => by rw [e, hc.irr] at k; cases k
  have ha := srt_asc hd
  have hm := srt_mem.mpr hp
  cases hs : srt (fore c [] r) with
  | nil => rw [hs] at hm; cases hm
  | cons z t =>
    rw [hs] at hm ha
    rcases List.mem_cons.mp hm with e | hm
    · exact ⟨t, by rw [e]⟩
    · have h1 := (List.pairwise_cons.mp ha).1 p hm
      have h2 := hl z (srt_mem.mp (by rw [hs]; exact List.mem_cons_self ..))
      omega
end Tr

namespace K26
open PySem Vi PyProof.Rows
theorem ix_spec {c : Int → Int → Bool} : ∀ (r pre : List Int) (k : Nat), k ∈ ix c pre r → ∃ A a B, r = A ++ a :: B ∧ k = pre.length + A.length ∧ ∀ b ∈ A, c a b = true
  | [], _, _, h => by cases h
  | x :: r, pre, k, h => by
    have rest : k ∈ ix c (pre ++ [x]) r → ∃ A a B, x :: r = A ++ a :: B ∧ k = pre.length + A.length ∧ ∀ b ∈ A, c a b = true := fun g => by
      obtain ⟨A, a, B, h1, h2, h3⟩ := ix_spec r (pre ++ [x]) k g
      have hx : c a x = true := by
        have : ∀ (r pre : List Int) (k : Nat) (A : List Int) (a : Int) (B : List Int), r = A ++ a :: B → k = pre.length + A.length → k ∈ ix c pre r → ∀ b ∈ pre, c a b = true := by
          intro r
          induction r with
          | nil => intro pre k A a B e; cases A <;> cases e
          | cons y r ih =>
            intro pre k A a B e ek hk b hb
            rw [ix] at hk
            cases A with
            | nil =>
              have hy : y = a := by injection e
              subst hy
              split at hk
              · rename_i hs
                rw [List.all_eq_true] at hs
                exact hs b hb
              · have := ix_ge _ _ _ hk
                rw [List.length_append] at this
                simp at this ek
                omega
            | cons z A =>
              have e2 : r = A ++ a :: B := by injection e
              have hk2 : k ∈ ix c (pre ++ [y]) r := by
                split at hk
                · rcases List.mem_cons.mp hk with hk | hk
                  · simp at ek; omega
                  · exact hk
                · exact hk
              exact ih (pre ++ [y]) k A a B e2 (by rw [List.length_append]; simp at ek ⊢; omega) hk2 b (List.mem_append_left _ hb)
        exact this r (pre ++ [x]) k A a B h1 h2 g x (List.mem_append_right _ (List.mem_cons_self ..))
      exact ⟨x :: A, a, B, by rw [h1]; rfl, by rw [h2, List.length_append]; simp; omega, fun b hb => by
        rcases List.mem_cons.mp hb with rfl | hb
        · exact hx
        · exact h3 b hb⟩
    rw [ix] at h
    split at h
    · rcases List.mem_cons.mp h with h | h
      · exact ⟨[], x, r, rfl, by simp [h], fun _ g => by cases g⟩
      · exact rest h
    · exact rest h
theorem erase_fore {c : Int → Int → Bool} (hc : Tr.Ok c) {l : Row} {k : Nat} {p : Pr} (hk : k ∈ ix c [] (l.map Prod.fst)) (hp : l[k]? = some p) : Tr.dropF p.1 l = l.eraseIdx k := by
  obtain ⟨A, a, B, h1, h2, h3⟩ := ix_spec _ _ _ hk
  have h2' : k = A.length := by simpa using h2
  have hlt : k < l.length := (List.getElem?_eq_some_iff.mp hp).1
  have hs : l = l.take k ++ p :: l.drop (k + 1) := by
    have e := (List.getElem?_eq_some_iff.mp hp).2
    conv => lhs; rw [← List.take_append_drop k l, List.drop_eq_getElem_cons hlt, e]
  have hm : l.map Prod.fst = (l.take k).map Prod.fst ++ p.1 :: (l.drop (k + 1)).map Prod.fst := by
    conv => lhs; rw [hs]
    rw [List.map_append]; rfl
  rw [hm] at h1
  have hlen : ((l.take k).map Prod.fst).length = A.length := by rw [List.length_map, List.length_take]; omega
  obtain ⟨e1, e2⟩ := List.append_inj h1 hlen
  have e3 : p.1 = a := by injection e2
  have hA : ∀ q ∈ l.take k, q.1 ≠ p.1 := fun q hq e => by
    have := h3 q.1 (by rw [← e1]; exact List.mem_map.mpr ⟨q, hq, rfl⟩)
    rw [← e3, e, hc.irr] at this
    cases this
  conv => lhs; rw [hs]
  rw [Tr.dropF_split hA, List.eraseIdx_eq_take_drop_succ]
/-! the least pair -/
abbrev tp (x : Int × Nat) : D := .tuple [.int x.1, .int (x.2 : Int)]
theorem key_tp (x : Int × Nat) : W.keyToks (tp x) = [.inl 1, .inl x.1, .inl 1, .inl (x.2 : Int), .inl 0] := by
  simp [W.keyToks, W.keyToksAll]
theorem lt_tp {x y : Int × Nat} (h : x.1 ≠ y.1) : W.dataLt (tp x) (tp y) = decide (x.1 < y.1) := by
  unfold W.dataLt
  simp only [key_tp]
  by_cases h1 : x.1 < y.1
  · have h2 : ¬ y.1 < x.1 := by omega
    simp [PyProof.Rows.lexLt, PyProof.Rows.itemLt, PyProof.Rows.itemOrd, h1, h2]
  · have h2 : y.1 < x.1 := by omega
    simp [PyProof.Rows.lexLt, PyProof.Rows.itemLt, PyProof.Rows.itemOrd, h1, h2]
theorem min_fold : ∀ (xs : List (Int × Nat)) (x : Int × Nat), (x :: xs).Pairwise (fun a b => a.1 ≠ b.1) → ∃ m ∈ x :: xs, W.minD (tp x) (xs.map tp) = tp m ∧ ∀ q ∈ x :: xs, m.1 ≤ q.1
  | [], x, _ => ⟨x, List.mem_cons_self .., rfl, fun q hq => by rw [List.mem_singleton.mp hq]; exact Int.le_refl _⟩
  | y :: xs, x, h => by
    obtain ⟨h1, h2⟩ := List.pairwise_cons.mp h
    obtain ⟨h3, h4⟩ := List.pairwise_cons.mp h2
    have hxy := h1 y (List.mem_cons_self ..)
    have e : W.dataLt (tp y) (tp x) = decide (y.1 < x.1) := lt_tp fun k => hxy k.symm
    by_cases hlt : y.1 < x.1
    · obtain ⟨m, m1, m2, m3⟩ := min_fold xs y h2
      refine ⟨m, List.mem_cons_of_mem _ m1, ?_, fun q hq => ?_⟩
      · show W.minD (if W.dataLt (tp y) (tp x) = true then tp y else tp x) (xs.map tp) = _
        rw [e, if_pos (decide_eq_true hlt)]; exact m2
      · rcases List.mem_cons.mp hq with rfl | hq
        · have := m3 y (List.mem_cons_self ..); omega
        · exact m3 q hq
    · obtain ⟨m, m1, m2, m3⟩ := min_fold xs x (List.pairwise_cons.mpr ⟨fun z hz => h1 z (List.mem_cons_of_mem _ hz), h4⟩)
      refine ⟨m, ?_, ?_, fun q hq => ?_⟩
      · rcases List.mem_cons.mp m1 with rfl | m1
        · exact List.mem_cons_self ..
        · exact List.mem_cons_of_mem _ (List.mem_cons_of_mem _ m1)
      · show W.minD (if W.dataLt (tp y) (tp x) = true then tp y else tp x) (xs.map tp) = _
        rw [e, if_neg (by rw [decide_eq_false hlt]; decide)]; exact m2
      · rcases List.mem_cons.mp hq with rfl | hq
        · exact m3 q (List.mem_cons_self ..)
        · rcases List.mem_cons.mp hq with rfl | hq
          · have := m3 x (List.mem_cons_self ..); omega
          · exact m3 q (List.mem_cons_of_mem _ hq)
theorem minOk_tp (xs : List (Int × Nat)) : minOk (xs.map tp) = true := by
  have m : ∀ d ∈ xs.map tp, ∃ x : Int × Nat, d = tp x := fun d hd => by
    obtain ⟨x, _, rfl⟩ := List.mem_map.mp hd
    exact ⟨x, rfl⟩
  have h1 : alikeAllB (xs.map tp) = true := by
    unfold alikeAllB
    rw [List.all_eq_true]
    intro d hd
    rw [List.all_eq_true]
    intro e he
    obtain ⟨p, rfl⟩ := m d hd
    obtain ⟨q, rfl⟩ := m e he
    simp [W.alike, W.alikeAll]
  have h2 : (xs.map tp).all notNone = true := by
    rw [List.all_eq_true]
    intro d hd
    obtain ⟨p, rfl⟩ := m d hd
    rfl
  have h3 : (xs.map tp).all okD = true := by
    rw [List.all_eq_true]
    intro d hd
    obtain ⟨p, rfl⟩ := m d hd
    exact ok_two _ _
  have h4 : ∀ xs : List (Int × Nat), PyData.depthAll (xs.map tp) ≤ 1 := by
    intro xs
    induction xs with
    | nil => rw [List.map_nil, PyData.depthAll]; decide
    | cons x xs ih =>
      rw [List.map_cons, PyData.depthAll]
      refine Nat.max_le.mpr ⟨?_, ih⟩
      simp [PyData.depth, PyData.depthAll]
  unfold minOk
  rw [h1, h2, h3, decide_eq_true (Nat.le_trans (h4 xs) (by decide))]; rfl
theorem min_tp {xs : List (Int × Nat)} (hne : xs ≠ []) (h : xs.Pairwise fun a b => a.1 ≠ b.1) : ∃ m ∈ xs, dMinL (.list (xs.map tp)) = some (.imm (tp m)) ∧ ∀ q ∈ xs, m.1 ≤ q.1 := by
  cases xs with
  | nil => exact absurd rfl hne
  | cons x xs =>
    obtain ⟨m, m1, m2, m3⟩ := min_fold xs x h
    refine ⟨m, m1, ?_, m3⟩
    have this : minOk (tp x :: xs.map tp) = true := minOk_tp (x :: xs)
    show (if minOk (tp x :: xs.map tp) = true then some (Sv.imm (W.minD (tp x) (xs.map tp))) else none) = _
    rw [if_pos this, m2]
/-! the least order -/
def zp : List Nat → Row → List (Int × Nat)
  | k :: K, p :: r => (p.1, k) :: zp K r
  | _, _ => []
theorem zp_mem {L : Row} : ∀ {K : List Nat} {r : Row}, K.map (fun k => L[k]?) = r.map some → ∀ {a : Int} {k : Nat}, (a, k) ∈ zp K r → ∃ p ∈ r, p.1 = a ∧ L[k]? = some p ∧ k ∈ K
  | [], [], _, _, _, h => by cases h
  | [], _ :: _, h, _, _, _ => by cases h
  | _ :: _, [], h, _, _, _ => by cases h
  | k0 :: K, p :: r, h, a, k, hm => by
    have h1 : L[k0]? = some p := by injection h
    have h2 : K.map (fun k => L[k]?) = r.map some := by injection h
    rcases List.mem_cons.mp hm with e | hm
    · injection e with e1 e2
      exact ⟨p, List.mem_cons_self .., e1.symm, by rw [e2]; exact h1, by rw [e2]; exact List.mem_cons_self ..⟩
    · obtain ⟨q, q1, q2, q3, q4⟩ := zp_mem h2 hm
      exact ⟨q, List.mem_cons_of_mem _ q1, q2, q3, List.mem_cons_of_mem _ q4⟩
theorem mem_zp {L : Row} : ∀ {K : List Nat} {r : Row}, K.map (fun k => L[k]?) = r.map some → ∀ p ∈ r, ∃ k, (p.1, k) ∈ zp K r
  | [], [], _, _, h => by cases h
  | [], _ :: _, h, _, _ => by cases h
  | _ :: _, [], h, _, _ => by cases h
  | k0 :: K, q :: r, h, p, hm => by
    have h2 : K.map (fun k => L[k]?) = r.map some := by injection h
    rcases List.mem_cons.mp hm with rfl | hm
    · exact ⟨k0, List.mem_cons_self ..⟩
    · obtain ⟨k, hk⟩ := mem_zp h2 p hm
      exact ⟨k, List.mem_cons_of_mem _ hk⟩
theorem zp_ne {L : Row} : ∀ {K : List Nat} {r : Row}, K.map (fun k => L[k]?) = r.map some → r.Pairwise (fun x y => x.1 ≠ y.1) → (zp K r).Pairwise fun a b => a.1 ≠ b.1
  | [], [], _, _ => List.Pairwise.nil
  | [], _ :: _, h, _ => by cases h
  | _ :: _, [], h, _ => by cases h
  | k0 :: K, q :: r, h, hp => by
    have h2 : K.map (fun k => L[k]?) = r.map some := by injection h
    obtain ⟨p1, p2⟩ := List.pairwise_cons.mp hp
    refine List.pairwise_cons.mpr ⟨fun x hx => ?_, zp_ne h2 p2⟩
    obtain ⟨p, m1, m2, _⟩ := zp_mem (a := x.1) (k := x.2) h2 hx
    show q.1 ≠ x.1
    rw [← m2]
    exact p1 p m1

end K26

namespace K26
open PySem Vi PyProof.Rows
theorem lay_ds : ∀ r : Row, PyData.canLayAll0 (dsD r) = true
  | [] => by rw [show dsD [] = [] from rfl, PyData.canLayAll0]
  | p :: r => by rw [show dsD (p :: r) = prD p :: dsD r from rfl, PyData.canLayAll0, lay_pr, lay_ds r]; rfl
theorem dep_ds : ∀ r : Row, PyData.depthAll (dsD r) ≤ 2
  | [] => by rw [show dsD [] = [] from rfl, PyData.depthAll]; decide
  | p :: r => by
    rw [show dsD (p :: r) = prD p :: dsD r from rfl, PyData.depthAll]
    exact Nat.max_le.mpr ⟨dep_pr p, dep_ds r⟩
theorem ok_lst (r : Row) : okD (.list (dsD r)) = true := by
  show (PyData.canLay0 (.list (dsD r)) && decide (PyData.depth (.list (dsD r)) ≤ 64)) = true
  have := dep_ds r
  rw [PyData.canLay0, PyData.depth, lay_ds, decide_eq_true (by omega)]; rfl
theorem ok_tup (r : Row) : okD (.tuple (dsD r)) = true := by
  show (PyData.canLay0 (.tuple (dsD r)) && decide (PyData.depth (.tuple (dsD r)) ≤ 64)) = true
  have := dep_ds r
  rw [PyData.canLay0, PyData.depth, lay_ds, decide_eq_true (by omega)]; rfl
theorem v_inj {k l : Int} (h : v36 k = v36 l) : k = l := by
  unfold v36 at h
  rw [Rat.mkRat_eq_iff (by decide) (by decide)] at h
  omega
theorem v_ext {k l : Int} (h1 : (v36 k).num = (v36 l).num) (h2 : (v36 k).den = (v36 l).den) : k = l := v_inj (Rat.ext h1 h2)
theorem eqv_f36 (k l : Int) : PyData.eqv (f36 k) (f36 l) = decide (k = l) := by
  unfold f36 fr
  simp only [PyData.eqv, PyData.eqvAll, Bool.and_true]
  by_cases h : k = l
  · subst h; simp
  · rw [decide_eq_false h]
    cases h1 : ((v36 k).num == (v36 l).num) with
    | false => rfl
    | true =>
      cases h2 : (((v36 k).den : Int) == ((v36 l).den : Int)) with
      | false => rfl
      | true => exact absurd (v_ext (beq_iff_eq.mp h1) (by have := beq_iff_eq.mp h2; omega)) h
theorem eqv_pr (p q : Pr) : PyData.eqv (prD p) (prD q) = decide (p = q) := by
  have h := eqv_f36 p.2 q.2
  unfold prD
  simp only [PyData.eqv, PyData.eqvAll, h, Bool.and_true]
  obtain ⟨a, k⟩ := p
  obtain ⟨b, l⟩ := q
  simp only [Prod.mk.injEq, Bool.decide_and]
  congr 1
theorem eqv_ds : ∀ a b : Row, PyData.eqvAll (dsD a) (dsD b) = decide (a = b)
  | [], [] => by simp [dsD, PyData.eqvAll]
  | [], _ :: _ => by simp [dsD, PyData.eqvAll]
  | _ :: _, [] => by simp [dsD, PyData.eqvAll]
  | p :: a, q :: b => by
    have ih := eqv_ds a b
    have hp := eqv_pr p q
    show PyData.eqvAll (prD p :: dsD a) (prD q :: dsD b) = _
    rw [PyData.eqvAll, ih, hp]
    simp only [List.cons.injEq, Bool.decide_and]
theorem eq_row (a b : Row) : dEq (rowD a) (rowD b) = some (.imm (.bool (decide (a = b)))) := by
  unfold dEq rowD
  rw [ok_tup, ok_tup, PyData.eqv, eqv_ds]; rfl
theorem c_compB {mg : MG} {mt : MT} {me : ME} {vs : List Nat} {i : Nat} {ρ ρ2 ρ3 : Fm} {b : Kd} {ds es : List D} (h0 : ρ[i]? = some (some (.own b ds))) (h1 : (!vs.contains i && vsOk (ρ.set i none) vs) = true) (h3 : cloop mg mt me vs ds (wipeA (ρ.set i none) vs) = some (es, ρ2)) (h4 : fits es.length = true) (h5 : (restA ρ2 (ρ.set i none) vs).set i (some (.own b ds)) = ρ3) (hb : b.isL = true := by rfl) : mCompB i mg mt me vs ρ = some (.val (.own .loc es), ρ3) := by
  unfold mCompB
  cases b <;> first | exact absurd hb (by decide) | simp only [h0, h1, h3, h4, h5, if_true]

def oA : MS := mSet 4 (mCompB 2 (mN 7) mYes (bin dIx (mVar 0) (mVar 7)) [7])
def oM (cl : Nat → Fn) : MS := (mAsgG (un dMinL (mComp (mISeq (mCall (cl 15) (rVal (mVar 4) (rVal (mVar 1) rNil)))) (mN 7) mYes (mTup (mCons (bin dIx (mVar 4) (mVar 7)) (mCons (mVar 7) mNil))) [7])) (mGtup 2 (mGcons (mN 5) (mGcons (mN 6) mGnil))))
def oP : MS := (mDrop (mApp 3 (mPopAt 2 (mVar 6))))
theorem order_fn (cl : Nat → Fn) : fn16 cl = mFn 8 2 (mSeq (mPar 2 3 (mLRng (un dLen (mVar 0))) (mLst mNil)) (mSeq (whl (mTru (mVar 2)) (mSeq oA (mSeq (oM cl) oP)) 64) (mRet (mVar 3)))) := rfl
abbrev il (ps : List Int) : List D := ps.map .int
abbrev OF (ps : List Int) (M : List (Int × Int)) (left found : List D) (x4 x5 x6 : Option Sv) : Fm := [some (.imm (.list (il ps))), some (.imm (metD M)), oo left, oo found, x4, x5, x6, none]
/-- places and what stands there -/
abbrev Qs := List (Nat × Pr)
def At (L : Row) (Q : Qs) : Prop := ∀ x ∈ Q, L[x.1]? = some x.2
section
variable {cl : Nat → Fn} {M : List (Int × Int)} {L : Row} {found : List D} {x4 x5 x6 : Option Sv}
theorem oA_loop : ∀ Q : Qs, At L Q → cloop (mN 7) mYes (bin dIx (mVar 0) (mVar 7)) [7] (kD (Q.map Prod.fst)) [some (.imm (.list (il (L.map Prod.fst)))), some (.imm (metD M)), none, oo found, x4, x5, x6, none] = some (il (Q.map fun x => x.2.1), [some (.imm (.list (il (L.map Prod.fst)))), some (.imm (metD M)), none, oo found, x4, x5, x6, none])
  | [], _ => rfl
  | x :: Q, h => by
    have h1 := h x (List.mem_cons_self ..)
    have hx : dIx (.list (il (L.map Prod.fst))) (.int (x.1 : Int)) = some (.imm (.int x.2.1)) := by
      show (L2.atI (il (L.map Prod.fst)) (x.1 : Int)).map Sv.imm = _
      rw [L2.atI_nat (show (il (L.map Prod.fst))[x.1]? = some (.int x.2.1) by rw [List.getElem?_map, List.getElem?_map, h1]; rfl)]; rfl
    exact c_ccons (ρ1 := [some (.imm (.list (il (L.map Prod.fst)))), some (.imm (metD M)), none, oo found, x4, x5, x6, ii (x.1 : Int)]) rfl rfl (c_bin rfl rfl rfl rfl hx) rfl (oA_loop Q fun y hy => h y (List.mem_cons_of_mem _ hy))
theorem oA_ok {Q : Qs} (h : At L Q) (hl : Q.length ≤ 900) : oA (OF (L.map Prod.fst) M (kD (Q.map Prod.fst)) found x4 x5 x6) = some (.next, OF (L.map Prod.fst) M (kD (Q.map Prod.fst)) found (oo (il (Q.map fun x => x.2.1))) x5 x6) := by
  have e := oA_loop (M := M) (found := found) (x4 := x4) (x5 := x5) (x6 := x6) Q h
  have hf : fits (il (Q.map fun x => x.2.1)).length = true := c_fits (by rw [List.length_map, List.length_map]; omega)
  have b : mCompB 2 (mN 7) mYes (bin dIx (mVar 0) (mVar 7)) [7] (OF (L.map Prod.fst) M (kD (Q.map Prod.fst)) found x4 x5 x6) = some (.val (.own .loc (il (Q.map fun x => x.2.1))), OF (L.map Prod.fst) M (kD (Q.map Prod.fst)) found x4 x5 x6) := c_compB rfl rfl e hf rfl
  exact c_set b rfl
theorem oM_loop {ps : List Int} {left : List D} {l : Row} : ∀ (K : List Nat) (r : Row), K.map (fun k => l[k]?) = r.map some → cloop (mN 7) mYes (mTup (mCons (bin dIx (mVar 4) (mVar 7)) (mCons (mVar 7) mNil))) [7] (kD K) (OF ps M left found (ll (il (l.map Prod.fst))) x5 x6) = some ((zp K r).map tp, OF ps M left found (ll (il (l.map Prod.fst))) x5 x6)
  | [], [], _ => rfl
  | [], _ :: _, h => by cases h
  | _ :: _, [], h => by cases h
  | k :: K, p :: r, h => by
    have h1 : l[k]? = some p := by injection h
    have h2 : K.map (fun k => l[k]?) = r.map some := by injection h
    have hx : dIx (.list (il (l.map Prod.fst))) (.int (k : Int)) = some (.imm (.int p.1)) := by
      show (L2.atI (il (l.map Prod.fst)) (k : Int)).map Sv.imm = _
      rw [L2.atI_nat (show (il (l.map Prod.fst))[k]? = some (.int p.1) by rw [List.getElem?_map, List.getElem?_map, h1]; rfl)]; rfl
    have v4 : EV (mVar 4) [some (.imm (.list (il ps))), some (.imm (metD M)), oo left, oo found, ll (il (l.map Prod.fst)), x5, x6, ii (k : Int)] (.list (il (l.map Prod.fst))) := ev_var rfl
    have v7 : EV (mVar 7) [some (.imm (.list (il ps))), some (.imm (metD M)), oo left, oo found, ll (il (l.map Prod.fst)), x5, x6, ii (k : Int)] (.int (k : Int)) := ev_var rfl
    obtain ⟨pr, g1, g2, _⟩ := e_tup (ea_cons (e_bin v4 v7 hx) (ea_cons v7 ea_nil)) (by simp)
    exact c_ccons (ρ1 := [some (.imm (.list (il ps))), some (.imm (metD M)), oo left, oo found, ll (il (l.map Prod.fst)), x5, x6, ii (k : Int)]) rfl rfl g1 g2 (oM_loop K r h2)
theorem oM_ok (hc : Tr.Ok (cM M)) (F : ForeP (cl 15) M) {ps : List Int} {left : List D} {l : Row} (hne : l ≠ []) (hl : l.length ≤ 900) : ∃ (k : Nat) (p : Pr), oM cl (OF ps M left found (oo (il (l.map Prod.fst))) x5 x6) = some (.next, OF ps M left found (ll (il (l.map Prod.fst))) (ii p.1) (ii (k : Int))) ∧ l[k]? = some p ∧ (∃ t, Tr.srt (Tr.fore (cM M) [] l) = p :: t) ∧ Tr.dropF p.1 l = l.eraseIdx k := by
  have f := F (l.map Prod.fst) (by rw [List.length_map]; exact hl)
  have hx := ix_fore (c := cM M) (L := l) l [] [] [] rfl rfl fun b => Iff.rfl
  have hpw : (Tr.fore (cM M) [] l).Pairwise fun x y => x.1 ≠ y.1 := (Tr.fore_once hc l []).1.imp fun k e => by rw [e, hc.irr] at k; cases k
  have hz : zp (ix (cM M) [] (l.map Prod.fst)) (Tr.fore (cM M) [] l) ≠ [] := by
    intro e
    cases hl2 : l with
    | nil => exact hne hl2
    | cons q r =>
      cases hf : Tr.fore (cM M) [] l with
      | nil => rw [hl2] at hf; exact Tr.fore_ne q r hf
      | cons z u =>
        obtain ⟨k, hk⟩ := mem_zp hx z (by rw [hf]; exact List.mem_cons_self ..)
        rw [e] at hk; cases hk
  obtain ⟨⟨a, k⟩, m1, m2, m3⟩ := min_tp hz (zp_ne hx hpw)
  obtain ⟨p, q1, q2, q3, q4⟩ := zp_mem hx m1
  subst q2
  have hlen := ix_len (cM M) (l.map Prod.fst) []
  refine ⟨k, p, ?_, q3, Tr.least_head hc q1 fun q hq => ?_, erase_fore hc q4 q3⟩
  · have c : mCall (cl 15) (rVal (mVar 4) (rVal (mVar 1) rNil)) (OF ps M left found (oo (il (l.map Prod.fst))) x5 x6) = some (.val (.own .loc (kD (ix (cM M) [] (l.map Prod.fst)))), OF ps M left found (ll (il (l.map Prod.fst))) x5 x6) := c_call (as := [.v (.list (il (l.map Prod.fst))), .v (metD M)]) rfl rfl rfl f rfl
    have hi : mISeq (mCall (cl 15) (rVal (mVar 4) (rVal (mVar 1) rNil))) (OF ps M left found (oo (il (l.map Prod.fst))) x5 x6) = some (kD (ix (cM M) [] (l.map Prod.fst)), OF ps M left found (ll (il (l.map Prod.fst))) x5 x6) := by
      unfold mISeq
      rw [c]; rfl
    have e := oM_loop (M := M) (found := found) (x5 := x5) (x6 := x6) (ps := ps) (left := left) (l := l) _ _ hx
    have zl : (zp (ix (cM M) [] (l.map Prod.fst)) (Tr.fore (cM M) [] l)).length ≤ 900 := by
      have : ∀ (K : List Nat) (r : Row), (zp K r).length ≤ K.length := by
        intro K
        induction K with
        | nil => exact fun r => Nat.le_refl _
        | cons k K ih => intro r; cases r with
          | nil => exact Nat.zero_le _
          | cons p r => rw [zp, List.length_cons, List.length_cons]; have := ih r; omega
      have := this (ix (cM M) [] (l.map Prod.fst)) (Tr.fore (cM M) [] l)
      rw [List.length_map] at hlen
      omega
    have hf : fits ((zp (ix (cM M) [] (l.map Prod.fst)) (Tr.fore (cM M) [] l)).map tp).length = true := c_fits (by rw [List.length_map]; omega)
    have mm := c_un (f := dMinL) (c_comp hi rfl e hf rfl) rfl m2
    unfold oM mAsgG
    rw [mm]
    rfl
  · obtain ⟨j, hj⟩ := mem_zp hx q hq
    exact m3 _ hj
theorem oP_ok {ps : List Int} {Q : Qs} {k : Nat} {x : Nat × Pr} (hk : Q[k]? = some x) (hl : found.length ≤ 900) (hq : Q.length ≤ 900) : oP (OF ps M (kD (Q.map Prod.fst)) found x4 x5 (ii (k : Int))) = some (.next, OF ps M (kD ((Q.eraseIdx k).map Prod.fst)) (found ++ [.int (x.1 : Int)]) x4 x5 (ii (k : Int))) := by
  have hlt := (List.getElem?_eq_some_iff.mp hk).1
  have h1 : (kD (Q.map Prod.fst))[k]? = some (.int (x.1 : Int)) := by rw [List.getElem?_map, List.getElem?_map, hk]; rfl
  have hs : seqIndex? (k : Int) (kD (Q.map Prod.fst)).length = some k := by
    rw [List.length_map, List.length_map]
    unfold seqIndex?
    dsimp only
    have h0 : ¬ ((k : Int) < 0) := by omega
    have h9 : (decide ((0 : Int) ≤ (k : Int)) && decide ((k : Int) < (Q.length : Int))) = true := by
      rw [decide_eq_true (by omega), decide_eq_true (by omega)]; rfl
    rw [if_neg h0, if_pos h9, Int.toNat_natCast]
  have p : mPopAt 2 (mVar 6) (OF ps M (kD (Q.map Prod.fst)) found x4 x5 (ii (k : Int))) = some (.val (.imm (.int (x.1 : Int))), OF ps M (kD ((Q.eraseIdx k).map Prod.fst)) found x4 x5 (ii (k : Int))) := by
    have hd : decide (-(2 ^ 63) ≤ (k : Int) ∧ (k : Int) < 2 ^ 63) = true := decide_eq_true ⟨by omega, by omega⟩
    show (match seqIndex? (k : Int) (kD (Q.map Prod.fst)).length with
      | some j => match (kD (Q.map Prod.fst))[j]? with
        | some d => if decide (-(2 ^ 63) ≤ (k : Int) ∧ (k : Int) < 2 ^ 63) = true then some (PR.val (.imm d), (OF ps M (kD (Q.map Prod.fst)) found x4 x5 (ii (k : Int))).set 2 (some (.own .loc ((kD (Q.map Prod.fst)).eraseIdx j)))) else none
        | none => none
      | none => none) = _
    rw [hs]
    dsimp only
    rw [h1]
    dsimp only
    rw [if_pos hd]
    have : (kD (Q.map Prod.fst)).eraseIdx k = kD ((Q.eraseIdx k).map Prod.fst) := by rw [List.eraseIdx_eq_take_drop_succ, List.eraseIdx_eq_take_drop_succ]; simp [kD, List.map_take, List.map_drop]
    rw [this]; rfl
  exact c_drop (c_app (i := 3) (b2 := .loc) (ys := found) rfl p rfl rfl (c_fits (by omega)))
end

end K26

/-! what the law does: a heap, and levels by heights -/
namespace Tr
variable {c : Int → Int → Bool}
theorem heap_step (hc : Ok c) {a x y : Int} {A B C : Row} (h : ∀ q ∈ B, c a q.1 = true) : Eqc c (stk c (A ++ B ++ (if x + y = 0 then [] else [(a, x + y)]) ++ C) []) (stk c (A ++ (a, x) :: B ++ (a, y) :: C) []) := by
  have hs := stk_red hc A (s := []) trivial
  have e1 : A ++ (a, x) :: B ++ (a, y) :: C = A ++ ((a, x) :: B ++ [(a, y)]) ++ C := by simp
  have e2 : A ++ B ++ (if x + y = 0 then [] else [(a, x + y)]) ++ C = A ++ (B ++ (if x + y = 0 then [] else [(a, x + y)])) ++ C := by simp
  rw [e1, e2, stk_app (A ++ ((a, x) :: B ++ [(a, y)])) C, stk_app A ((a, x) :: B ++ [(a, y)]), stk_app (A ++ (B ++ if x + y = 0 then [] else [(a, x + y)])) C, stk_app A (B ++ if x + y = 0 then [] else [(a, x + y)])]
  refine stk_eq hc C ?_
  refine eqc_trans ?_ (eqc_symm (stk_meet hc hs h))
  split
  · rename_i hz
    rw [hz, List.append_nil, stk_app, stk_none (stk_red hc B hs)]
    exact eqc_refl _
  · exact eqc_refl _
theorem heap_zero (hc : Ok c) : ∀ (r s : Row), Red c s → stk c (r.filter fun p => decide (p.2 ≠ 0)) s = stk c r s
  | [], s, _ => rfl
  | p :: r, s, hs => by
    rw [List.filter_cons]
    by_cases h : p.2 = 0
    · rw [if_neg (by simp [h])]
      have e : push c s p = s := by
        have : p = (p.1, 0) := by rw [← h]
        rw [this]; exact push_zero hs
      rw [heap_zero hc r s hs]
      show stk c r s = stk c r (push c s p)
      rw [e]
    · rw [if_pos (by simp [h])]
      exact heap_zero hc r (push c s p) (red_push hc hs p)
/-- no two can be put together -/
def NP (c : Int → Int → Bool) (l : Row) : Prop := ∀ (A : Row) (p : Pr) (B : Row) (q : Pr) (C : Row), l = A ++ p :: B ++ q :: C → q.1 = p.1 → ∃ b ∈ B, c p.1 b.1 = false
theorem split_tops {a : Int} : ∀ {s : Row}, tops c a s = true → ∃ A l B, s = A ++ l :: B ∧ l.1 = a ∧ ∀ q ∈ A, c q.1 a = true
  | [], h => by cases h
  | l :: s, h => by
    by_cases e : l.1 = a
    · exact ⟨[], l, s, rfl, e, fun _ k => by cases k⟩
    · obtain ⟨k1, k2⟩ := tops_tail h e
      obtain ⟨A, m, B, h1, h2, h3⟩ := split_tops k2
      exact ⟨l :: A, m, B, by rw [h1]; rfl, h2, fun q hq => by
        rcases List.mem_cons.mp hq with rfl | hq
        · exact k1
        · exact h3 q hq⟩
theorem np_red (hc : Ok c) : ∀ s : Row, (∀ p ∈ s, p.2 ≠ 0) → NP c s.reverse → Red c s
  | [], _, _ => trivial
  | p :: s, hz, h => by
    refine ⟨hz p (List.mem_cons_self ..), ?_, np_red hc s (fun q hq => hz q (List.mem_cons_of_mem _ hq)) fun A x B y C e k => ?_⟩
    · cases ht : tops c p.1 s with
      | false => rfl
      | true =>
        exfalso
        obtain ⟨A, l, B, h1, h2, h3⟩ := split_tops ht
        obtain ⟨b, hb, hcb⟩ := h B.reverse l A.reverse p [] (by rw [List.reverse_cons, h1, List.reverse_append, List.reverse_cons]; simp) h2.symm
        have := h3 b (List.mem_reverse.mp hb)
        rw [h2, hc.symm] at hcb
        rw [hcb] at this
        cases this
    · exact h A x B y (C ++ [p]) (by rw [List.reverse_cons, e]; simp) k
theorem heap_end (hc : Ok c) {l r : Row} (hz : ∀ p ∈ l, p.2 ≠ 0) (h : NP c l) (e : Eqc c (stk c l []) (stk c r [])) : Eqc c l (stk c r []).reverse := by
  have hr : Red c l.reverse := np_red hc l.reverse (fun p hp => hz p (List.mem_reverse.mp hp)) (by rw [List.reverse_reverse]; exact h)
  have := eqc_rev (stk_unique hc hr e)
  rwa [List.reverse_reverse] at this
/-! levels by heights -/
def mx (l : List Nat) : Nat := l.foldr max 0
theorem mx_low : ∀ l : List Nat, mx ((l.filter fun h => h != 1).map fun h => h - 1) = mx l - 1
  | [] => rfl
  | h :: l => by
    have ih := mx_low l
    show _ = max h (mx l) - 1
    rw [List.filter_cons]
    by_cases e : h = 1
    · rw [if_neg (by simp [e]), ih, e]; omega
    · rw [if_pos (by simp [e]), List.map_cons]
      show max (h - 1) (mx _) = _
      rw [ih]; omega
def hold (c : Int → Int → Bool) (a : Int) (seen : List (Int × Nat)) : List Nat := (seen.filter fun q => !c q.1 a).map Prod.snd
def hs (c : Int → Int → Bool) : List (Int × Nat) → Row → List Nat
  | _, [] => []
  | seen, p :: r => (1 + mx (hold c p.1 seen)) :: hs c (seen ++ [(p.1, 1 + mx (hold c p.1 seen))]) r
def low (seen : List (Int × Nat)) : List (Int × Nat) := (seen.filter fun q => q.2 != 1).map fun q => (q.1, q.2 - 1)
theorem hold_low (a : Int) : ∀ seen : List (Int × Nat), hold c a (low seen) = ((hold c a seen).filter fun h => h != 1).map fun h => h - 1
  | [] => rfl
  | q :: seen => by
    have ih := hold_low a seen
    unfold hold low at ih ⊢
    rw [List.filter_cons, List.filter_cons]
    by_cases e1 : q.2 = 1 <;> by_cases e2 : c q.1 a = true <;> simp [e1, e2] at ih ⊢ <;> simpa using ih
theorem low_app (x y : List (Int × Nat)) : low (x ++ y) = low x ++ low y := by unfold low; rw [List.filter_append, List.map_append]
theorem mx_pos {l : List Nat} (h : ∀ x ∈ l, 1 ≤ x) : mx l = 0 ↔ l = [] := by
  cases l with
  | nil => exact ⟨fun _ => rfl, fun _ => rfl⟩
  | cons x l =>
    have := h x (List.mem_cons_self ..)
    constructor
    · intro e
      have e' : max x (mx l) = 0 := e
      omega
    · intro e; cases e
theorem hs_spec (hc : Ok c) : ∀ (r : Row) (seen : List (Int × Nat)) (sp : List Int), (∀ b, b ∈ sp ↔ b ∈ seen.map Prod.fst) → (∀ q ∈ seen, 1 ≤ q.2) →
    fore c sp r = ((r.zip (hs c seen r)).filter fun x => x.2 == 1).map Prod.fst ∧
    (back c sp r).zip (hs c (low seen) (back c sp r)) = ((r.zip (hs c seen r)).filter fun x => x.2 != 1).map fun x => (x.1, x.2 - 1)
  | [], _, _, _, _ => ⟨rfl, rfl⟩
  | p :: r, seen, sp, hm, hp => by
    have hpos : ∀ x ∈ hold c p.1 seen, 1 ≤ x := fun x hx => by
      unfold hold at hx
      obtain ⟨q, hq, rfl⟩ := List.mem_map.mp hx
      exact hp q (List.mem_filter.mp hq).1
    have key : sp.all (fun b => c p.1 b) = decide (mx (hold c p.1 seen) = 0) := by
      rw [Bool.eq_iff_iff, List.all_eq_true, decide_eq_true_eq, mx_pos hpos]
      unfold hold
      rw [List.map_eq_nil_iff, List.filter_eq_nil_iff]
      constructor
      · intro h q hq
        have := h q.1 ((hm q.1).mpr (List.mem_map.mpr ⟨q, hq, rfl⟩))
        rw [hc.symm] at this
        simp [this]
      · intro h b hb
        obtain ⟨q, hq, rfl⟩ := List.mem_map.mp ((hm b).mp hb)
        have := h q hq
        rw [hc.symm]
        simpa using this
    have ih := hs_spec hc r (seen ++ [(p.1, 1 + mx (hold c p.1 seen))]) (p.1 :: sp) (fun b => by
      rw [List.mem_cons, List.map_append, List.mem_append, hm]
      simp only [List.map_cons, List.map_nil, List.mem_singleton]
      exact Or.comm) (fun q hq => by
        rcases List.mem_append.mp hq with hq | hq
        · exact hp q hq
        · rw [List.mem_singleton] at hq
          rw [hq]; show 1 ≤ 1 + _; omega)
    rw [low_app] at ih
    rw [hs, List.zip_cons_cons, List.filter_cons, List.filter_cons, fore, back, key]
    by_cases h0 : mx (hold c p.1 seen) = 0
    · have el : low [(p.1, 1 + mx (hold c p.1 seen))] = [] := by rw [h0]; rfl
      rw [el, List.append_nil] at ih
      rw [if_pos (decide_eq_true h0), if_pos (decide_eq_true h0), if_pos (by rw [h0]; rfl), if_neg (by simp [h0]), List.map_cons, ih.1]
      exact ⟨rfl, ih.2⟩
    · have el : low [(p.1, 1 + mx (hold c p.1 seen))] = [(p.1, mx (hold c p.1 seen))] := by
        unfold low
        rw [List.filter_cons, if_pos (by simp; exact h0)]
        simp
      rw [el] at ih
      have hd : ¬ decide (mx (hold c p.1 seen) = 0) = true := by rw [decide_eq_false h0]; decide
      have hml : 1 + mx (hold c p.1 (low seen)) = mx (hold c p.1 seen) := by rw [hold_low, mx_low]; omega
      rw [if_neg hd, if_neg hd, if_neg (by simp; exact h0), if_pos (by simp; exact h0), List.map_cons, hs, List.zip_cons_cons, hml, ih.1, ih.2]
      refine ⟨rfl, ?_⟩
      congr 2
      show mx (hold c p.1 seen) = 1 + mx (hold c p.1 seen) - 1
      omega
/-- those of a height -/
def lev (c : Int → Int → Bool) (l : Row) (m : Nat) : Row := ((l.zip (hs c [] l)).filter fun x => x.2 == m).map Prod.fst
theorem lev_one (hc : Ok c) (l : Row) : lev c l 1 = fore c [] l := ((hs_spec hc l [] [] (fun _ => Iff.rfl) fun _ h => by cases h).1).symm
theorem lev_back (hc : Ok c) (l : Row) (m : Nat) (hm : 1 ≤ m) : lev c (back c [] l) m = lev c l (m + 1) := by
  have h := (hs_spec hc l [] [] (fun _ => Iff.rfl) fun _ h => by cases h).2
  have h' : (back c [] l).zip (hs c [] (back c [] l)) = ((l.zip (hs c [] l)).filter fun x => x.2 != 1).map fun x => (x.1, x.2 - 1) := h
  unfold lev
  rw [h', List.filter_map, List.map_map, List.filter_filter]
  congr 1
  refine List.filter_congr fun x _ => ?_
  show ((x.2 - 1 == m) && (x.2 != 1)) = (x.2 == m + 1)
  rw [Bool.eq_iff_iff]
  simp
  omega
def top (c : Int → Int → Bool) (l : Row) : Nat := mx (hs c [] l)
theorem hs_len (c : Int → Int → Bool) : ∀ (r : Row) (seen : List (Int × Nat)), (hs c seen r).length = r.length
  | [], _ => rfl
  | p :: r, seen => by rw [hs, List.length_cons, List.length_cons, hs_len c r]
theorem mx_map_low (l : Row) (k : List Nat) (h : k.length = l.length) : mx (((l.zip k).filter fun x => x.2 != 1).map fun x => x.2 - 1) = mx k - 1 := by
  have e : ((l.zip k).filter fun x => x.2 != 1).map (fun x => x.2 - 1) = (k.filter fun x => x != 1).map fun x => x - 1 := by
    have e2 : k = (l.zip k).map Prod.snd := by rw [List.map_snd_zip]; omega
    conv => rhs; rw [e2]
    rw [List.filter_map, List.map_map]; rfl
  rw [e, mx_low]
theorem top_back (hc : Ok c) (l : Row) : top c (back c [] l) = top c l - 1 := by
  have h := (hs_spec hc l [] [] (fun _ => Iff.rfl) fun _ h => by cases h).2
  have h' : (back c [] l).zip (hs c [] (back c [] l)) = ((l.zip (hs c [] l)).filter fun x => x.2 != 1).map fun x => (x.1, x.2 - 1) := h
  have e : hs c [] (back c [] l) = ((l.zip (hs c [] l)).filter fun x => x.2 != 1).map fun x => x.2 - 1 := by
    have := congrArg (List.map Prod.snd) h'
    rw [List.map_snd_zip (by rw [hs_len]; exact Nat.le_refl _), List.map_map] at this
    exact this
  unfold top
  rw [e, mx_map_low l _ (hs_len c l [])]
/-- the levels are the layers -/
theorem lev_lay (hc : Ok c) : ∀ (n : Nat) (l : Row), l.length ≤ n → (List.range' 1 (top c l)).map (fun m => srt (lev c l m)) = lay c n l
  | 0, l, h => by
    have : l = [] := List.eq_nil_of_length_eq_zero (by omega)
    rw [this]; rfl
  | n + 1, [], _ => rfl
  | n + 1, p :: r, h => by
    have hb := back_len (c := c) (p :: r) []
    have h0 : 0 < (fore c [] (p :: r)).length := List.length_pos_iff.mpr (fore_ne p r)
    have ht := top_back hc (p :: r)
    have h1 : 1 ≤ top c (p :: r) := by
      unfold top
      rw [hs]
      show 1 ≤ max (1 + _) _
      omega
    have ih := lev_lay hc n (back c [] (p :: r)) (by omega)
    rw [ht] at ih
    obtain ⟨k, hk⟩ : ∃ k, top c (p :: r) = k + 1 := ⟨top c (p :: r) - 1, by omega⟩
    rw [hk, show k + 1 - 1 = k by omega] at ih
    rw [hk, List.range'_succ, List.map_cons, lev_one hc, lay, ← ih]
    congr 1
    rw [show (1 : Nat) + 1 = 1 + 1 from rfl, ← List.map_add_range' (a := 1), List.map_map]
    refine List.map_congr_left fun m hm => ?_
    have := (List.mem_range'_1.mp hm).1
    show srt (lev c (p :: r) (1 + m)) = srt (lev c (back c [] (p :: r)) m)
    rw [lev_back hc _ m this, Nat.add_comm]
end Tr

/-! alike rows have alike stacks; all go together, and none -/
namespace Tr
variable {c : Int → Int → Bool}
theorem head_split (hc : Ok c) {p : Pr} {s t : Row} (h : Eqc c (p :: s) t) : ∃ A B, t = A ++ p :: B ∧ (∀ q ∈ A, c p.1 q.1 = true) ∧ Eqc c s (A ++ B) := by
  have hp : p ∈ fore c [] (p :: s) := by
    rw [fore, if_pos (by rfl)]; exact List.mem_cons_self ..
  have ht := (fore_mem hc h p).mp hp
  obtain ⟨A, B, h1, h2⟩ := fore_split hc ht
  have hA : ∀ q ∈ A, q.1 ≠ p.1 := fun q hq e => by
    have := h2 q hq
    rw [e, hc.irr] at this
    cases this
  have h3 := (dropF_prj hc ht).1
  rw [h1, dropF_split hA] at h3
  refine ⟨A, B, h1, h2, tail_eq hc (p := p) (eqc_trans h (eqc_symm ?_))⟩
  rw [h1]; exact h3
theorem stk_alike (hc : Ok c) : ∀ (r : Row) {t s u : Row}, Eqc c r t → Eqc c s u → Eqc c (stk c r s) (stk c t u)
  | [], t, s, u, h, k => by rw [eqc_nil hc h]; exact k
  | p :: r, t, s, u, h, k => by
    obtain ⟨A, B, h1, h2, h3⟩ := head_split hc h
    have e1 := stk_over hc (p := p) A u h2
    have e2 : stk c t u = stk c B (stk c (A ++ [p]) u) := by rw [h1, ← stk_app, List.append_assoc]; rfl
    have e3 : stk c (A ++ B) (push c u p) = stk c B (stk c (p :: A) u) := by rw [stk_app]; rfl
    rw [e2]
    have ih := stk_alike hc r h3 (push_eq hc k p)
    rw [e3] at ih
    exact eqc_trans ih (stk_eq hc B e1)
theorem red_nil : Red c [] := trivial
theorem stk_of (hc : Ok c) {h r : Row} (e : Eqc c h (stk c r []).reverse) : Eqc c (stk c h []).reverse (stk c r []).reverse := by
  have k := stk_alike hc h e (eqc_refl [])
  rw [stk_self _ (stk_red hc r red_nil)] at k
  exact eqc_rev k
theorem eqc_len (hc : Ok c) : ∀ (r : Row) {t : Row}, Eqc c r t → r.length = t.length
  | [], t, h => by rw [eqc_nil hc h]
  | p :: r, t, h => by
    obtain ⟨A, B, h1, _, h3⟩ := head_split hc h
    have := eqc_len hc r h3
    rw [h1, List.length_cons, this]; simp; omega
/-- two that go together change places -/
theorem stk_swap (hc : Ok c) {p q : Pr} (h : c p.1 q.1 = true) (A B : Row) : Eqc c (stk c (A ++ p :: q :: B) []) (stk c (A ++ q :: p :: B) []) := by
  rw [stk_app, stk_app]
  exact stk_eq hc B (push_swap hc h _)
/-- one and its undoing put in -/
theorem stk_put (hc : Ok c) {a x : Int} (A B : Row) : Eqc c (stk c (A ++ (a, x) :: (a, -x) :: B) []) (stk c (A ++ B) []) := by
  rw [stk_app, stk_app]
  have hr : Red c (stk c A []) := stk_red hc A red_nil
  have h := push_twice hc (a := a) (x := x) (y := -x) hr
  rw [Int.add_right_neg, push_zero hr] at h
  exact stk_eq hc B h
/-! none go together -/
theorem fore_alone (h : ∀ a b, c a b = false) : ∀ (r : Row) (a : Int) (seen : List Int), fore c (a :: seen) r = [] ∧ back c (a :: seen) r = r
  | [], _, _ => ⟨rfl, rfl⟩
  | p :: r, a, seen => by
    have hn : ¬ (a :: seen).all (fun b => c p.1 b) = true := fun k => by
      rw [List.all_eq_true] at k
      have := k a (List.mem_cons_self ..)
      rw [h] at this; cases this
    have ih := fore_alone h r p.1 (a :: seen)
    rw [fore, if_neg hn, back, if_neg hn, ih.1, ih.2]
    exact ⟨rfl, rfl⟩
theorem lay_alone (h : ∀ a b, c a b = false) : ∀ (n : Nat) (r : Row), r.length ≤ n → lay c n r = r.map fun p => [p]
  | 0, r, hl => by
    have : r = [] := List.eq_nil_of_length_eq_zero (by omega)
    rw [this]; rfl
  | n + 1, [], _ => rfl
  | n + 1, p :: r, hl => by
    have ih := fore_alone h r p.1 []
    have e1 : fore c [] (p :: r) = [p] := by rw [fore, if_pos (by rfl), ih.1]
    have e2 : back c [] (p :: r) = r := by rw [back, if_pos (by rfl), ih.2]
    rw [lay, e1, e2, lay_alone h n r (by rw [List.length_cons] at hl; omega)]; rfl
/-! all go together -/
theorem red_once (hc : Ok c) : ∀ {s : Row}, Red c s → (∀ p ∈ s, ∀ q ∈ s, p.1 ≠ q.1 → c p.1 q.1 = true) → s.Pairwise fun p q => p.1 ≠ q.1
  | [], _, _ => List.Pairwise.nil
  | l :: s, h, hf => by
    refine List.pairwise_cons.mpr ⟨fun q hq e => ?_, red_once hc h.2.2 fun p hp q hq => hf p (List.mem_cons_of_mem _ hp) q (List.mem_cons_of_mem _ hq)⟩
    have ht : tops c l.1 s = true := by
      have hm : q ∈ dep c l.1 s := by
        unfold dep
        rw [List.mem_filter]
        exact ⟨hq, by rw [← e, hc.irr]; rfl⟩
      cases hd : dep c l.1 s with
      | nil => rw [hd] at hm; cases hm
      | cons z t =>
        have hz : z ∈ dep c l.1 s := by rw [hd]; exact List.mem_cons_self ..
        unfold dep at hz
        rw [List.mem_filter] at hz
        refine tops_spec.mpr ⟨z, t, hd, ?_⟩
        apply Classical.byContradiction
        intro hne
        have := hf z (List.mem_cons_of_mem _ hz.1) l (List.mem_cons_self ..) hne
        rw [this] at hz
        simp at hz
    rw [h.2.1] at ht
    cases ht
theorem fore_all : ∀ (r : Row) (seen : List Int), (∀ p ∈ r, ∀ b ∈ seen, c p.1 b = true) → r.Pairwise (fun p q => c q.1 p.1 = true) → fore c seen r = r ∧ back c seen r = []
  | [], _, _, _ => ⟨rfl, rfl⟩
  | p :: r, seen, h, k => by
    rw [List.pairwise_cons] at k
    have hy : seen.all (fun b => c p.1 b) = true := List.all_eq_true.mpr fun b hb => h p (List.mem_cons_self ..) b hb
    have ih := fore_all r (p.1 :: seen) (fun q hq b hb => by
      rcases List.mem_cons.mp hb with rfl | hb
      · exact k.1 q hq
      · exact h q (List.mem_cons_of_mem _ hq) b hb) k.2
    rw [fore, if_pos hy, back, if_pos hy, ih.1, ih.2]
    exact ⟨rfl, rfl⟩
theorem lay_nil : ∀ n : Nat, lay c n [] = []
  | 0 => rfl
  | _ + 1 => rfl
theorem lay_full (hc : Ok c) {r : Row} {n : Nat} (hn : 0 < n) (h : r.Pairwise fun p q => p.1 ≠ q.1) (hf : ∀ p ∈ r, ∀ q ∈ r, p.1 ≠ q.1 → c p.1 q.1 = true) : lay c n r = if r = [] then [] else [srt r] := by
  cases r with
  | nil => rw [lay_nil, if_pos rfl]
  | cons p r =>
    obtain ⟨m, rfl⟩ : ∃ m, n = m + 1 := ⟨n - 1, by omega⟩
    have k : (p :: r).Pairwise (fun p q => c q.1 p.1 = true) := by
      have : ∀ t : Row, (∀ z ∈ t, z ∈ p :: r) → t.Pairwise (fun p q => p.1 ≠ q.1) → t.Pairwise (fun p q => c q.1 p.1 = true) := by
        intro t
        induction t with
        | nil => exact fun _ _ => List.Pairwise.nil
        | cons z t ih =>
          intro h1 h2
          rw [List.pairwise_cons] at h2 ⊢
          exact ⟨fun q hq => hf q (h1 q (List.mem_cons_of_mem _ hq)) z (h1 z (List.mem_cons_self ..)) (Ne.symm (h2.1 q hq)), ih (fun w hw => h1 w (List.mem_cons_of_mem _ hw)) h2.2⟩
      exact this _ (fun _ hz => hz) h
    have e := fore_all (c := c) (p :: r) [] (fun _ _ _ hb => by cases hb) k
    rw [lay, e.1, e.2, lay_nil, if_neg (by simp)]
/-! sums -/
def sm (j : Int) (r : Row) : Int := (r.map fun p => if p.1 = j then p.2 else 0).sum
theorem sm_cons (j : Int) (p : Pr) (r : Row) : sm j (p :: r) = (if p.1 = j then p.2 else 0) + sm j r := by unfold sm; rw [List.map_cons, List.sum_cons]
theorem sm_app (j : Int) (a b : Row) : sm j (a ++ b) = sm j a + sm j b := by unfold sm; rw [List.map_append, List.sum_append]
theorem sm_rev (j : Int) : ∀ r : Row, sm j r.reverse = sm j r
  | [] => rfl
  | p :: r => by
    have : sm j [] = 0 := rfl
    rw [List.reverse_cons, sm_app, sm_rev j r, sm_cons, sm_cons, this]; omega
theorem sm_join (j : Int) {p : Pr} : ∀ {s : Row}, (∃ l ∈ s, l.1 = p.1) → sm j (join s p) = sm j s + (if p.1 = j then p.2 else 0)
  | [], h => by obtain ⟨l, h, _⟩ := h; cases h
  | l :: s, h => by
    rw [join, sm_cons]
    by_cases he : l.1 = p.1
    · rw [if_pos he, he]
      by_cases hz : l.2 + p.2 = 0
      · rw [if_pos hz]
        split <;> omega
      · rw [if_neg hz, sm_cons]
        show (if p.1 = j then l.2 + p.2 else 0) + sm j s = _
        split <;> omega
    · rw [if_neg he, sm_cons, sm_join j (s := s)]
      · omega
      · obtain ⟨q, hq, e⟩ := h
        rcases List.mem_cons.mp hq with rfl | hq
        · exact absurd e he
        · exact ⟨q, hq, e⟩
theorem sm_push (j : Int) (s : Row) (p : Pr) : sm j (push c s p) = sm j s + (if p.1 = j then p.2 else 0) := by
  unfold push
  split
  · rename_i ht
    obtain ⟨l, t, h1, h2⟩ := tops_spec.mp ht
    refine sm_join j ⟨l, ?_, h2⟩
    have : l ∈ dep c p.1 s := by rw [h1]; exact List.mem_cons_self ..
    exact (List.mem_filter.mp this).1
  · split
    · rename_i hz
      rw [hz]; split <;> omega
    · rw [sm_cons]; omega
theorem sm_stk (j : Int) : ∀ (r s : Row), sm j (stk c r s) = sm j s + sm j r
  | [], s => by
    have : sm j [] = 0 := rfl
    rw [this]; show sm j s = _; omega
  | p :: r, s => by
    have := sm_stk j r (push c s p)
    rw [sm_push] at this
    rw [sm_cons]
    show sm j (stk c r (push c s p)) = _
    omega
theorem part_join {p l : Pr} : ∀ {s : Row}, l ∈ join s p → (∃ q ∈ s, q.1 = l.1)
  | [], h => by cases h
  | q :: s, h => by
    rw [join] at h
    by_cases he : q.1 = p.1
    · rw [if_pos he] at h
      split at h
      · exact ⟨l, List.mem_cons_of_mem _ h, rfl⟩
      · rcases List.mem_cons.mp h with rfl | h
        · exact ⟨q, List.mem_cons_self .., he⟩
        · exact ⟨l, List.mem_cons_of_mem _ h, rfl⟩
    · rw [if_neg he] at h
      rcases List.mem_cons.mp h with rfl | h
      · exact ⟨l, List.mem_cons_self .., rfl⟩
      · obtain ⟨z, hz, e⟩ := part_join h
        exact ⟨z, List.mem_cons_of_mem _ hz, e⟩
theorem part_stk {P : Int → Prop} : ∀ (r s : Row), (∀ p ∈ r, P p.1) → (∀ p ∈ s, P p.1) → ∀ p ∈ stk c r s, P p.1
  | [], s, _, h => h
  | p :: r, s, h, k => by
    refine part_stk r (push c s p) (fun q hq => h q (List.mem_cons_of_mem _ hq)) fun q hq => ?_
    unfold push at hq
    split at hq
    · obtain ⟨z, hz, e⟩ := part_join hq
      rw [← e]; exact k z hz
    · split at hq
      · exact k q hq
      · rcases List.mem_cons.mp hq with rfl | hq
        · exact h q (List.mem_cons_self ..)
        · exact k q hq
theorem red_ne : ∀ {s : Row}, Red c s → ∀ p ∈ s, p.2 ≠ 0
  | [], _, _, h => by cases h
  | l :: s, h, p, hp => by
    rcases List.mem_cons.mp hp with rfl | hp
    · exact h.1
    · exact red_ne h.2.2 p hp
theorem sm_out {j : Int} : ∀ {s : Row}, (∀ p ∈ s, p.1 ≠ j) → sm j s = 0
  | [], _ => rfl
  | p :: s, h => by
    rw [sm_cons, if_neg (h p (List.mem_cons_self ..)), sm_out fun q hq => h q (List.mem_cons_of_mem _ hq)]; rfl
theorem sm_mem : ∀ {s : Row}, s.Pairwise (fun p q => p.1 ≠ q.1) → ∀ p ∈ s, sm p.1 s = p.2
  | [], _, _, h => by cases h
  | l :: s, h, p, hp => by
    rw [List.pairwise_cons] at h
    rw [sm_cons]
    rcases List.mem_cons.mp hp with rfl | hp
    · rw [if_pos rfl, sm_out fun q hq => Ne.symm (h.1 q hq)]; omega
    · rw [if_neg (h.1 p hp), sm_mem h.2 p hp]; omega
/-- the sums that are not nought -/
def rest (w : Nat) (r : Row) : Row := ((List.range w).map fun k : Nat => ((k : Int), sm (k : Int) r)).filter fun p => decide (p.2 ≠ 0)
theorem rest_asc (w : Nat) (r : Row) : (rest w r).Pairwise fun x y => x.1 < y.1 := by
  unfold rest
  refine List.Pairwise.filter _ ?_
  rw [List.pairwise_map]
  exact (List.pairwise_lt_range (n := w)).imp fun h => by show (_ : Int) < _; omega
theorem full_lay (hc : Ok c) {w n : Nat} (hn : 0 < n) {r : Row} (hr : ∀ p ∈ r, 0 ≤ p.1 ∧ p.1 < (w : Int)) (hf : ∀ a b : Int, 0 ≤ a → a < w → 0 ≤ b → b < w → a ≠ b → c a b = true) :
    lay c n (stk c r []).reverse = if rest w r = [] then [] else [rest w r] := by
  have hp := part_stk (c := c) (P := fun a => 0 ≤ a ∧ a < (w : Int)) r [] hr (fun _ h => by cases h)
  have hred : Red c (stk c r []) := stk_red hc r red_nil
  have hall : ∀ p ∈ stk c r [], ∀ q ∈ stk c r [], p.1 ≠ q.1 → c p.1 q.1 = true := fun p h1 q h2 h3 => hf _ _ (hp p h1).1 (hp p h1).2 (hp q h2).1 (hp q h2).2 h3
  have hone := red_once hc hred hall
  have hone' : (stk c r []).reverse.Pairwise fun p q => p.1 ≠ q.1 := by
    rw [List.pairwise_reverse]; exact hone.imp fun h => Ne.symm h
  have hs : ∀ j, sm j (stk c r []) = sm j r := fun j => by rw [sm_stk]; show (0 : Int) + _ = _; omega
  have hm : ∀ p, p ∈ (stk c r []).reverse ↔ p ∈ rest w r := fun p => by
    rw [List.mem_reverse]
    unfold rest
    rw [List.mem_filter, List.mem_map]
    constructor
    · intro h
      have h1 := hp p h
      refine ⟨⟨p.1.toNat, List.mem_range.mpr (by omega), ?_⟩, decide_eq_true (red_ne hred p h)⟩
      have h2 := sm_mem hone p h
      rw [hs] at h2
      have h3 : ((p.1.toNat : Nat) : Int) = p.1 := by omega
      rw [h3, h2]
    · rintro ⟨⟨k, hk, rfl⟩, h2⟩
      have h2 : sm (k : Int) r ≠ 0 := of_decide_eq_true h2
      apply Classical.byContradiction
      intro hno
      have : ∀ p ∈ stk c r [], p.1 ≠ (k : Int) := fun p h e => by
        have h3 := sm_mem hone p h
        rw [e, hs] at h3
        exact hno (by rw [h3, ← e]; exact h)
      have h3 := sm_out this
      rw [hs] at h3
      exact h2 h3
  have he : srt (stk c r []).reverse = rest w r := asc_eq (srt_asc hone') (rest_asc w r) fun p => by rw [srt_mem]; exact hm p
  rw [lay_full hc hn hone' fun p h1 q h2 => hall p (List.mem_reverse.mp h1) q (List.mem_reverse.mp h2)]
  by_cases hz : (stk c r []).reverse = []
  · have : rest w r = [] := by rw [← he, hz]; rfl
    rw [if_pos hz, if_pos this]
  · have : rest w r ≠ [] := fun e => hz (List.eq_nil_iff_forall_not_mem.mpr fun p h => by have := (hm p).mp h; rw [e] at this; cases this)
    rw [if_neg hz, if_neg this, he]
end Tr

namespace K26
open PySem Vi PyProof.Rows
theorem erase_at {L : Row} {Q : Qs} (h : At L Q) (k : Nat) : At L (Q.eraseIdx k) := fun x hx => h x (List.mem_of_mem_eraseIdx hx)
theorem order_loop {cl : Nat → Fn} {M : List (Int × Int)} (hM : MOk M) (F : ForeP (cl 15) M) {L : Row} : ∀ (n fuel : Nat) (Q : Qs) (found : List D) (x4 x5 x6 : Option Sv), Q.length ≤ n → n < fuel → n ≤ 800 → found.length + n ≤ 850 → At L Q →
    ∃ (K left : List Nat) (y4 y5 y6 : Option Sv), whl (mTru (mVar 2)) (mSeq oA (mSeq (oM cl) oP)) fuel (OF (L.map Prod.fst) M (kD (Q.map Prod.fst)) found x4 x5 x6) = some (.next, OF (L.map Prod.fst) M (kD left) (found ++ kD K) y4 y5 y6) ∧ K.map (fun k => L[k]?) = (Tr.lo (cM M) n (Q.map Prod.snd)).map some := by
  have hc := cM_ok hM
  have tru : ∀ (Q : Qs) (found : List D) (x4 x5 x6 : Option Sv), mTru (mVar 2) (OF (L.map Prod.fst) M (kD (Q.map Prod.fst)) found x4 x5 x6) = some (!Q.isEmpty, OF (L.map Prod.fst) M (kD (Q.map Prod.fst)) found x4 x5 x6) := fun Q found x4 x5 x6 => by
    have e : dTru (.list (kD (Q.map Prod.fst))) = some (!Q.isEmpty) := by cases Q <;> rfl
    exact c_tru rfl rfl e
  intro n
  induction n with
  | zero =>
    intro fuel Q found x4 x5 x6 h1 h2 h3 h4 h5
    obtain ⟨f, rfl⟩ : ∃ f, fuel = f + 1 := ⟨fuel - 1, by omega⟩
    have : Q = [] := List.eq_nil_of_length_eq_zero (by omega)
    subst this
    exact ⟨[], [], x4, x5, x6, by rw [show kD [] = ([] : List D) from rfl, List.append_nil]; exact c_whF (tru [] found x4 x5 x6), rfl⟩
  | succ n ih =>
    intro fuel Q found x4 x5 x6 h1 h2 h3 h4 h5
    obtain ⟨f, rfl⟩ : ∃ f, fuel = f + 1 := ⟨fuel - 1, by omega⟩
    by_cases hQ : Q = []
    · subst hQ
      exact ⟨[], [], x4, x5, x6, by rw [show kD [] = ([] : List D) from rfl, List.append_nil]; exact c_whF (tru [] found x4 x5 x6), rfl⟩
    · have t := tru Q found x4 x5 x6
      have hne : (!Q.isEmpty) = true := by cases Q with
        | nil => exact absurd rfl hQ
        | cons _ _ => rfl
      rw [hne] at t
      have a := oA_ok (M := M) (found := found) (x4 := x4) (x5 := x5) (x6 := x6) h5 (by omega)
      have hm : (Q.map fun x => x.2.1) = (Q.map Prod.snd).map Prod.fst := by rw [List.map_map]; rfl
      rw [hm] at a
      obtain ⟨k, p, b, hk, ⟨u, hs⟩, he⟩ := oM_ok (found := found) (x5 := x5) (x6 := x6) (ps := L.map Prod.fst) (left := kD (Q.map Prod.fst)) hc F (l := Q.map Prod.snd) (by intro e; exact hQ (List.map_eq_nil_iff.mp e)) (by rw [List.length_map]; omega)
      rw [List.getElem?_map] at hk
      obtain ⟨x, hx, hxp⟩ := Option.map_eq_some_iff.mp hk
      have hxl := h5 x (List.mem_of_getElem? hx)
      have c := oP_ok (M := M) (found := found) (x4 := ll (il ((Q.map Prod.snd).map Prod.fst))) (x5 := ii p.1) (ps := L.map Prod.fst) hx (by omega) (by omega)
      have hlt := (List.getElem?_eq_some_iff.mp hx).1
      have hel := List.length_eraseIdx_of_lt hlt
      obtain ⟨K, left, y4, y5, y6, g, hK⟩ := ih f (Q.eraseIdx k) (found ++ [.int (x.1 : Int)]) (ll (il ((Q.map Prod.snd).map Prod.fst))) (ii p.1) (ii (k : Int)) (by omega) (by omega) (by omega) (by rw [List.length_append]; simp; omega) (erase_at h5 k)
      refine ⟨x.1 :: K, left, y4, y5, y6, c_whT t (c_seq a (c_seq b c)) ?_, ?_⟩
      · rw [List.append_assoc] at g
        exact g
      · have hme : (Q.eraseIdx k).map Prod.snd = (Q.map Prod.snd).eraseIdx k := by
          rw [List.eraseIdx_eq_take_drop_succ, List.eraseIdx_eq_take_drop_succ]
          simp [List.map_take, List.map_drop]
        rw [hme, ← he] at hK
        rw [Tr.lo, hs, List.map_cons, List.map_cons, hK, hxl, hxp]
def OrdP (f : Fn) (M : List (Int × Int)) : Prop := ∀ l : Row, l.length ≤ 60 → ∃ K : List Nat, f [.imm (.list (il (l.map Prod.fst))), .imm (metD M)] = some (.own .loc (kD K), [none, none]) ∧ K.map (fun k => l[k]?) = (Tr.lo (cM M) 60 l).map some
theorem all_at (L : Row) : ∀ (r X : Row), L = X ++ r → At L ((r.zipIdx X.length).map fun x => (x.2, x.1)) ∧ ((r.zipIdx X.length).map fun x => (x.2, x.1)).map Prod.snd = r ∧ kD (((r.zipIdx X.length).map fun x => (x.2, x.1)).map Prod.fst) = rngD (X.length : Int) r.length
  | [], X, _ => ⟨(fun _ h => by cases h), rfl, rfl⟩
  | p :: r, X, h => by
    obtain ⟨i1, i2, i3⟩ := all_at L r (X ++ [p]) (by rw [h, List.append_assoc]; rfl)
    rw [List.length_append] at i1 i2 i3
    rw [List.zipIdx_cons, List.map_cons]
    refine ⟨fun x hx => ?_, ?_, ?_⟩
    · rcases List.mem_cons.mp hx with rfl | hx
      · show L[X.length]? = some p
        rw [h, List.getElem?_append_right (Nat.le_refl _), Nat.sub_self]; rfl
      · exact i1 x hx
    · rw [List.map_cons]; exact congrArg (p :: ·) i2
    · rw [List.map_cons]
      show PyData.int (X.length : Int) :: kD _ = _
      have : rngD (X.length : Int) (p :: r).length = .int (X.length : Int) :: rngD ((X.length : Int) + 1) r.length := by
        unfold rngD
        rw [List.length_cons, List.range_succ_eq_map, List.map_cons, List.map_map]
        refine List.cons_eq_cons.mpr ⟨by simp, List.map_congr_left fun k _ => ?_⟩
        show PyData.int ((X.length : Int) + ((k + 1 : Nat) : Int)) = PyData.int ((X.length : Int) + 1 + (k : Int))
        congr 1; omega
      rw [this]
      exact congrArg (_ :: ·) i3
theorem order_ok {cl : Nat → Fn} {M : List (Int × Int)} (hM : MOk M) (F : ForeP (cl 15) M) : OrdP (fn16 cl) M := fun l hl => by
  obtain ⟨a1, a2, a3⟩ := all_at l l [] rfl
  obtain ⟨K, left, y4, y5, y6, g, hK⟩ := order_loop hM F (L := l) 60 64 ((l.zipIdx 0).map fun x => (x.2, x.1)) [] none none none (by rw [List.length_map, List.length_zipIdx]; exact hl) (by omega) (by omega) (by simp) a1
  have a3' : kD (((l.zipIdx 0).map fun x => (x.2, x.1)).map Prod.fst) = rngD 0 l.length := a3
  have a2' : ((l.zipIdx 0).map fun x => (x.2, x.1)).map Prod.snd = l := a2
  rw [a3', List.nil_append] at g
  rw [a2'] at hK
  refine ⟨K, ?_, hK⟩
  have v0 : EV (mVar 0) [some (.imm (.list (il (l.map Prod.fst)))), some (.imm (metD M)), none, none, none, none, none, none] (.list (il (l.map Prod.fst))) := ev_var rfl
  have hlen : dLen (.list (il (l.map Prod.fst))) = some (.imm (.int (l.length : Int))) := by
    show some (Sv.imm (.int ((il (l.map Prod.fst)).length : Int))) = _
    rw [List.length_map, List.length_map]
  obtain ⟨pr, g1, _, g3⟩ := e_un v0 hlen
  have k1 : mLRng (un dLen (mVar 0)) [some (.imm (.list (il (l.map Prod.fst)))), some (.imm (metD M)), none, none, none, none, none, none] = some (.val (.own .loc (rngD 0 l.length)), [some (.imm (.list (il (l.map Prod.fst)))), some (.imm (metD M)), none, none, none, none, none, none]) := by
    have h1 : rngOk (l.length : Int) = true := c_rng (by omega)
    have h2 : decide ((l.length : Int) ≤ 16777216) = true := decide_eq_true (by omega)
    unfold mLRng
    rw [g1]
    simp only [g3, h1, h2, Bool.and_self, if_true, Int.toNat_natCast]
  have s1 := c_par (i := 2) (j := 3) k1 rfl (c_lst (as := mNil) (ρ1 := [some (.imm (.list (il (l.map Prod.fst)))), some (.imm (metD M)), none, none, none, none, none, none]) c_anil rfl) rfl rfl
  rw [order_fn]
  exact c_fn (ρ0 := [some (.imm (.list (il (l.map Prod.fst)))), some (.imm (metD M)), none, none, none, none, none, none]) rfl rfl (c_seq s1 (c_seq g (c_ret rfl rfl))) rfl
/-! the least form, and whether two are the same -/
abbrev nw (M : List (Int × Int)) (r : Row) : Row := Tr.lo (cM M) 60 (Tr.stk (cM M) r []).reverse
def WithP (f : Fn) (M : List (Int × Int)) : Prop := ∀ r : Row, norm r < 2 ^ 80 → r.length ≤ 60 → f [.imm (rowD r), .imm (metD M)] = some (.imm (rowD (nw M r)), [none, none])
theorem pick3 {x0 : Option Sv} {M : List (Int × Int)} {L : Row} : ∀ (K : List Nat) (r : Row), K.map (fun k => L[k]?) = r.map some → cloop (mN 3) mYes (bin dIx (mVar 2) (mVar 3)) [3] (kD K) [x0, some (.imm (metD M)), ll (dsD L), none] = some (dsD r, [x0, some (.imm (metD M)), ll (dsD L), none])
  | [], [], _ => rfl
  | [], _ :: _, h => by cases h
  | _ :: _, [], h => by cases h
  | k :: K, p :: r, h => by
    have h1 : L[k]? = some p := by injection h
    have h2 : K.map (fun k => L[k]?) = r.map some := by injection h
    have hx : dIx (.list (dsD L)) (.int (k : Int)) = some (.imm (prD p)) := by
      show (L2.atI (dsD L) (k : Int)).map Sv.imm = _
      rw [L2.atI_nat (show (dsD L)[k]? = some (prD p) by unfold dsD; rw [List.getElem?_map, h1]; rfl)]; rfl
    have v2 : EV (mVar 2) [x0, some (.imm (metD M)), ll (dsD L), ii (k : Int)] (.list (dsD L)) := ev_var rfl
    have v5 : EV (mVar 3) [x0, some (.imm (metD M)), ll (dsD L), ii (k : Int)] (.int (k : Int)) := ev_var rfl
    exact c_ccons (ρ1 := [x0, some (.imm (metD M)), ll (dsD L), ii (k : Int)]) rfl rfl (v_bin v2 v5 hx) rfl (pick3 K r h2)
theorem with_ok {cl : Nat → Fn} {M : List (Int × Int)} (hM : MOk M) (Z : FzP (cl 4) (metD M) (metD M)) (S : ShortP (cl 12) M) (O : OrdP (cl 16) M) (P : PartsP (cl 17)) : WithP (fn18 cl) M := fun r hn hl => by
  have hs := stk_len (c := cM M) r []
  have hs' : (Tr.stk (cM M) r []).reverse.length ≤ 60 := by rw [List.length_reverse]; simpa using Nat.le_trans hs (by simpa using hl)
  have hS := S r hn (by omega)
  have hlo := Tr.lo_self (cM_ok hM) 60 (Tr.stk (cM M) r []).reverse hs'
  unfold nw
  generalize (Tr.stk (cM M) r []).reverse = l at *
  obtain ⟨K, o1, o2⟩ := O l hs'
  have v1 : EV (mVar 1) [some (.imm (rowD r)), some (.imm (metD M)), none, none] (metD M) := ev_var rfl
  have v0 : EV (mVar 0) [some (.imm (rowD r)), some (.imm (metD M)), none, none] (rowD r) := ev_var rfl
  have s1 : mSet 1 (mCall (cl 4) (rVal (mVar 1) rNil)) [some (.imm (rowD r)), some (.imm (metD M)), none, none] = some (.next, [some (.imm (rowD r)), some (.imm (metD M)), none, none]) := c_set (v_call1 v1 Z) rfl
  have s2 : mSet 2 (mCall (cl 12) (rVal (mVar 0) (rVal (mVar 1) rNil))) [some (.imm (rowD r)), some (.imm (metD M)), none, none] = some (.next, [some (.imm (rowD r)), some (.imm (metD M)), oo (dsD l), none]) := c_set (v_call2 v0 v1 hS) rfl
  have k17 : mCall (cl 17) (rVal (mVar 2) rNil) [some (.imm (rowD r)), some (.imm (metD M)), oo (dsD l), none] = some (.val (.own .loc (il (l.map Prod.fst))), [some (.imm (rowD r)), some (.imm (metD M)), ll (dsD l), none]) := c_call (as := [.v (.list (dsD l))]) rfl rfl rfl (P l (by omega)) rfl
  have k16 : mCall (cl 16) (rVal (mCall (cl 17) (rVal (mVar 2) rNil)) (rVal (mVar 1) rNil)) [some (.imm (rowD r)), some (.imm (metD M)), oo (dsD l), none] = some (.val (.own .loc (kD K)), [some (.imm (rowD r)), some (.imm (metD M)), ll (dsD l), none]) := c_call (c_rval k17 rfl (c_rval (me := mVar 1) (pr := .slot 1) (ρ2 := [some (.imm (rowD r)), some (.imm (metD M)), ll (dsD l), none]) rfl rfl rfl)) rfl rfl o1 rfl
  have hi : mISeq (mCall (cl 16) (rVal (mCall (cl 17) (rVal (mVar 2) rNil)) (rVal (mVar 1) rNil))) [some (.imm (rowD r)), some (.imm (metD M)), oo (dsD l), none] = some (kD K, [some (.imm (rowD r)), some (.imm (metD M)), ll (dsD l), none]) := by
    unfold mISeq
    rw [k16]; rfl
  have e := pick3 (x0 := some (.imm (rowD r))) (M := M) K _ o2
  have hf : fits (dsD (Tr.lo (cM M) 60 l)).length = true := c_fits (by rw [dsD_len, hlo.2]; omega)
  unfold fn18
  exact c_fn (ρ0 := [some (.imm (rowD r)), some (.imm (metD M)), none, none]) rfl rfl (c_seq s1 (c_seq s2 (c_ret (c_un (f := dTuple) (c_comp hi rfl e hf rfl) rfl rfl) rfl))) rfl
def SameP (f : Fn) (M : List (Int × Int)) : Prop := ∀ x y : Row, norm x < 2 ^ 80 → x.length ≤ 60 → norm y < 2 ^ 80 → y.length ≤ 60 → f [.imm (rowD x), .imm (rowD y), .imm (metD M)] = some (.imm (.bool (decide (nw M x = nw M y))), [none, none, none])
theorem same_with_ok {cl : Nat → Fn} {M : List (Int × Int)} (W : WithP (cl 18) M) : SameP (fn19 cl) M := fun x y h1 h2 h3 h4 => by
  have v0 : EV (mVar 0) [some (.imm (rowD x)), some (.imm (rowD y)), some (.imm (metD M))] (rowD x) := ev_var rfl
  have v1 : EV (mVar 1) [some (.imm (rowD x)), some (.imm (rowD y)), some (.imm (metD M))] (rowD y) := ev_var rfl
  have v2 : EV (mVar 2) [some (.imm (rowD x)), some (.imm (rowD y)), some (.imm (metD M))] (metD M) := ev_var rfl
  unfold fn19
  exact c_fn (ρ0 := [some (.imm (rowD x)), some (.imm (rowD y)), some (.imm (metD M))]) rfl rfl (c_ret (v_bin (e_call2 v0 v2 (W x h1 h2)) (e_call2 v1 v2 (W y h3 h4)) (eq_row _ _)) rfl) rfl
/-- alike, exactly if the least forms, the layers and the stacks are -/
theorem nw_iff {M : List (Int × Int)} (hM : MOk M) {x y : Row} (h1 : x.length ≤ 60) (h2 : y.length ≤ 60) : nw M x = nw M y ↔ Tr.Eqc (cM M) (Tr.stk (cM M) x []).reverse (Tr.stk (cM M) y []).reverse := by
  have hs := stk_len (c := cM M) x []
  have ht := stk_len (c := cM M) y []
  exact Tr.lo_iff (cM_ok hM) (by rw [List.length_reverse]; simpa using Nat.le_trans hs (by simpa using h1)) (by rw [List.length_reverse]; simpa using Nat.le_trans ht (by simpa using h2))
def NormalP (f : Fn) : Prop := ∀ r : Row, norm r < 2 ^ 80 → r.length ≤ 800 → f [.imm (rowD r)] = some (.imm (rowD (Tr.stk (cM []) r []).reverse), [none])
theorem normal_ok {cl : Nat → Fn} (S : ShortP (cl 12) []) : NormalP (fn13 cl) := fun r h1 h2 => by
  have v0 : EV (mVar 0) [some (.imm (rowD r))] (rowD r) := ev_var rfl
  unfold fn13
  exact c_fn (ρ0 := [some (.imm (rowD r))]) rfl rfl (c_ret (c_un (f := dTuple) (v_call2 v0 (e_tup ea_nil (by simp)) (S r h1 h2)) rfl rfl) rfl) rfl

def LaddP (f : Fn) : Prop := ∀ (d e : D) (q r : Rat), IsFr d q → IsFr e r → Sd q → Sd r → f [.imm d, .imm e] = some (.imm (fr (q + r)), [none, none])

theorem norm_app (a b : Row) : norm (a ++ b) = norm a + norm b := by unfold norm; rw [List.map_append, List.sum_append]

end K26

namespace K26
open PySem Vi PyProof.Rows
theorem v_neg (k : Int) : v36 (-k) = -(v36 k) := by unfold v36; rw [Rat.neg_mkRat]
theorem f_neg (k : Int) : f36 (-k) = .tuple [.int (-(v36 k).num), .int ((v36 k).den : Int)] := by
  unfold f36 fr
  rw [v_neg]; rfl

def inv (r : Row) : Row := r.reverse.map fun p => (p.1, -p.2)
theorem undone_ok {cl : Nat → Fn} {r : Row} (hl : r.length ≤ 900) : fn29 cl [.imm (rowD r)] = some (.imm (rowD (inv r)), [none]) := by
  have e := c_cmap (mg := mGseq 2 (mGcons (mN 1) (mGcons (mN 2) mGnil))) (me := mTup (mCons (mVar 1) (mCons (mTup (mCons (bin dSub (mC (.int 0)) (bin dIx (mVar 2) (mC (.int 0)))) (mCons (bin dIx (mVar 2) (mC (.int 1))) mNil))) mNil))) (vs := [1, 2]) (ρ := [some (.imm (rowD r)), none, none]) prD (fun p => prD (p.1, -p.2)) r.reverse fun p hp => by
    have hs : dSub (.int 0) (.int (v36 p.2).num) = some (.imm (.int (-(v36 p.2).num))) := by
      show some (Sv.imm (.int (0 - (v36 p.2).num))) = _
      rw [Int.zero_sub]
    have hx : dIx (f36 p.2) (.int 0) = some (.imm (.int (v36 p.2).num)) := rfl
    have hy : dIx (f36 p.2) (.int 1) = some (.imm (.int ((v36 p.2).den : Int))) := rfl
    have ht : prD (p.1, -p.2) = .tuple [.int p.1, .tuple [.int (-(v36 p.2).num), .int ((v36 p.2).den : Int)]] := by
      unfold prD
      rw [f_neg]
    refine ⟨[some (.imm (rowD r)), ii p.1, some (.imm (f36 p.2))], .val (.imm (prD (p.1, -p.2))), [some (.imm (rowD r)), ii p.1, some (.imm (f36 p.2))], [some (.imm (rowD r)), ii p.1, some (.imm (f36 p.2))], rfl, ?_, rfl, rfl⟩
    rw [ht]
    exact c_tup (c_acons rfl rfl (c_acons (c_tup (c_acons (c_bin rfl (c_bin rfl rfl rfl rfl hx) rfl rfl hs) rfl (c_acons (c_bin rfl rfl rfl rfl hy) rfl c_anil)) rfl) rfl c_anil)) rfl
  have hi : mISeq (un dRev (mVar 0)) [some (.imm (rowD r)), none, none] = some (r.reverse.map prD, [some (.imm (rowD r)), none, none]) := by
    have h1 : un dRev (mVar 0) [some (.imm (rowD r)), none, none] = some (.val (.imm (.tuple (r.reverse.map prD))), [some (.imm (rowD r)), none, none]) := by
      refine c_un rfl rfl (show dRev (rowD r) = some (.imm (.tuple (r.reverse.map prD))) from ?_)
      show some (Sv.imm (.tuple (dsD r).reverse)) = _
      unfold dsD
      rw [List.map_reverse]
    unfold mISeq
    rw [h1]
    rfl
  have hinv : dsD (inv r) = r.reverse.map fun p => prD (p.1, -p.2) := by unfold dsD inv; rw [List.map_map]; rfl
  have hf : fits (r.reverse.map fun p => prD (p.1, -p.2)).length = true := c_fits (by rw [List.length_map, List.length_reverse]; omega)
  unfold fn29
  rw [show rowD (inv r) = .tuple (r.reverse.map fun p => prD (p.1, -p.2)) by unfold rowD; rw [hinv]]
  exact c_fn (ρ0 := [some (.imm (rowD r)), none, none]) rfl rfl (c_ret (c_un (c_comp hi rfl e hf rfl) rfl rfl) rfl) rfl



end K26

namespace K26
open PySem Vi PyProof.Rows
theorem c_andTT {a b : MT} {ρ ρ1 : Fm} {x : Option (Bool × Fm)} (h : a ρ = some (true, ρ1)) (h2 : b ρ1 = x) : mAndT a b ρ = x := by unfold mAndT; rw [h]; exact h2
theorem c_andTF {a b : MT} {ρ ρ1 : Fm} (h : a ρ = some (false, ρ1)) : mAndT a b ρ = some (false, ρ1) := by unfold mAndT; rw [h]
theorem fits_of {n : Nat} (h : n ≤ 10000) : fits n = true := decide_eq_true (by unfold sizeLine; omega)
abbrev bx (a b c : Int) : List D := [.int a, .int b, .int c]
theorem mul_small {i j : Int} (h : -(2 ^ 64) < j ∧ j < 2 ^ 64) : mulOk i j = true := by
  unfold mulOk; rw [Bool.or_eq_true, Bool.or_eq_true]; exact .inl (.inr (decide_eq_true h))
theorem mul_small' {i j : Int} (h : -(2 ^ 64) < i ∧ i < 2 ^ 64) : mulOk i j = true := by
  unfold mulOk; rw [Bool.or_eq_true, Bool.or_eq_true]; exact .inl (.inl (decide_eq_true h))
theorem div_small {j : Int} (h : 0 < j) (h2 : j < 1000000000) : divOk j = true := decide_eq_true ⟨h, by
  have : j.natAbs.log2 < 64 := (Nat.log2_lt (by omega)).mpr (by omega)
  omega⟩
theorem at0 (a b c : Int) : L2.atI (bx a b c) 0 = some (.int a) := rfl
theorem at1 (a b c : Int) : L2.atI (bx a b c) 1 = some (.int b) := rfl
theorem at2 (a b c : Int) : L2.atI (bx a b c) 2 = some (.int c) := rfl
theorem take_ok {K : Nat} {a b c n : Int} (hn : 0 < n) (hn2 : n < 1000000) (hc : 0 ≤ c) (hc2 : c < 1000000) :
    ∃ v a' c' : Int, run (K + 1) 22 [.own .par (bx a b c), .imm (.int n)] = some (.imm (.int v), [some (bx a' b c'), none]) ∧ 0 ≤ v ∧ v < n ∧ 0 ≤ c' ∧ c' ≤ c + 1 := by
  have i0 : L2.ixN 3 0 = some 0 := rfl
  have i2 : L2.ixN 3 2 = some 2 := rfl
  by_cases ha : 0 < a
  · refine ⟨a % n, a / n, c, ?_, Int.emod_nonneg _ (by omega), Int.emod_lt_of_pos _ hn, hc, by omega⟩
    have hd := div_small hn (by omega)
    show fn22 (run K) _ = _
    simp [fits_of, mFn, mSeq, mSet, put, take, frz, peek, mVar, mC, bin, un, mIfS, mNotT, mTru, mRet, mNext, mLst, mNil, mCons, mTup, mFor, mISeq, mN, mDrop, mApp, mCall, rVal, rNil, argsOf, slotsOf, nodupB, Vi.backTo, give, outsOf, Sv.toD, itemsOf, dTru, dIsi2, dIsi, tyN, isT, dTuple, dList, mGtup, mGcons, mGnil, mYes, mComp, mComp2, wipeA, restA, vsOk, dSort, dAdd, dIx, dLen, mIf, mB, dCmpI, dNeg, mAndT, mIEnum, mStore, rSlot, dInt, dMod, dMul, dDiv, dAbs, dPow, mSl, mPart, mNoPart, dCut, mOr, fn22, at0, ha, hn, hd, i0]
  · have key : ∃ z : Int, run (K + 1) 22 [.own .par (bx a b c), .imm (.int n)] = some (.imm (.int (z % n)), [some (bx a b (c + 1)), none]) := by
      let once : Int := ((b + 48271 * (c + 1)) * (39373 + (c + 1))) % 2147483647
      let far : Int := once % 40009 + 7
      let again : Int := ((once + (c + 1) + b / 1000003) * far) % 2147483629
      refine ⟨((again * 48271 + once) % 2147483587) / 64, ?_⟩
      show fn22 (run K) _ = _
      have m1 : mulOk 48271 (c + 1) = true := mul_small' (by decide)
      have m2 : ∀ z : Int, mulOk z (39373 + (c + 1)) = true := fun z => mul_small (by omega)
      have m3 : ∀ z w : Int, mulOk z (w % 40009 + 7) = true := fun z w => mul_small (by have := Int.emod_nonneg w (show (40009 : Int) ≠ 0 by omega); have := Int.emod_lt_of_pos w (show (0 : Int) < 40009 by omega); omega)
      have m4 : ∀ z : Int, mulOk z 48271 = true := fun z => mul_small (by decide)
      have d1 : divOk 1000003 = true := rfl
      have d2 : divOk 64 = true := rfl
      simp [fits_of, mFn, mSeq, mSet, put, take, frz, peek, mVar, mC, bin, un, mIfS, mNotT, mTru, mRet, mNext, mLst, mNil, mCons, mTup, mFor, mISeq, mN, mDrop, mApp, mCall, rVal, rNil, argsOf, slotsOf, nodupB, Vi.backTo, give, outsOf, Sv.toD, itemsOf, dTru, dIsi2, dIsi, tyN, isT, dTuple, dList, mGtup, mGcons, mGnil, mYes, mComp, mComp2, wipeA, restA, vsOk, dSort, dAdd, dIx, dLen, mIf, mB, dCmpI, dNeg, mAndT, mIEnum, mStore, rSlot, dInt, dMod, dMul, dDiv, dAbs, dPow, mSl, mPart, mNoPart, dCut, mOr, fn22, at0, at1, at2, ha, hn, i2, m1, m2, m3, m4, d1, d2, once, far, again]
    obtain ⟨z, e⟩ := key
    exact ⟨z % n, a, c + 1, e, Int.emod_nonneg _ (by omega), Int.emod_lt_of_pos _ hn, by omega, by omega⟩
def TakeP (f : Fn) (b : Int) : Prop := ∀ a c n : Int, 0 < n → n < 1000000 → 0 ≤ c → c < 1000000 → ∃ v a' c' : Int, f [.own .par (bx a b c), .imm (.int n)] = some (.imm (.int v), [some (bx a' b c'), none]) ∧ 0 ≤ v ∧ v < n ∧ 0 ≤ c' ∧ c' ≤ c + 1
theorem take_P (K : Nat) (b : Int) : TakeP (run (K + 1) 22) b := fun a c n h1 h2 h3 h4 => take_ok h1 h2 h3 h4

theorem fz_two {cl : Nat → Fn} (x y : D) (h1 : FzP (cl 4) x x) (h2 : FzP (cl 4) y y) : FzP (fn4 cl) (.tuple [x, y]) (.tuple [x, y]) :=
  fz_seq (α := D) id id [x, y] _ (.inl rfl) (fun a ha => by
    rcases List.mem_cons.mp ha with rfl | ha
    · exact h1
    · rw [List.mem_singleton.mp ha]; exact h2) (by simp [fits_of, mFn, mSeq, mSet, put, take, frz, peek, mVar, mC, bin, un, mIfS, mNotT, mTru, mRet, mNext, mLst, mNil, mCons, mTup, mFor, mISeq, mN, mDrop, mApp, mCall, rVal, rNil, argsOf, slotsOf, nodupB, Vi.backTo, give, outsOf, Sv.toD, itemsOf, dTru, dIsi2, dIsi, tyN, isT, dTuple, dList, mGtup, mGcons, mGnil, mYes, mComp, mComp2, wipeA, restA, vsOk, dSort, dAdd, dIx, dLen, mIf, mB, dCmpI, dNeg, mAndT, mIEnum, mStore, rSlot, dInt, dMod, dMul, dDiv, dAbs, dPow, mSl, mPart, mNoPart, dCut, mOr])
theorem fz_1 (K : Nat) (i : Int) : FzP (run (K + 1) 4) (.int i) (.int i) := by
  unfold FzP
  rw [rs4]
  exact fz_int i
theorem fz_2 (K : Nat) (k : Int) : FzP (run (K + 2) 4) (f36 k) (f36 k) := by
  have := fz_two (cl := run (K + 1)) _ _ (fz_1 K (v36 k).num) (fz_1 K ((v36 k).den : Int))
  unfold FzP at *
  rw [rs4]
  exact this
theorem fz_3 (K : Nat) (p : Pr) : FzP (run (K + 3) 4) (prD p) (prD p) := by
  have := fz_two (cl := run (K + 2)) _ _ (fz_1 (K + 1) p.1) (fz_2 K p.2)
  unfold FzP at *
  rw [rs4]
  exact this
theorem fz_row (K : Nat) (r : Row) (hl : r.length ≤ 9000) : FzP (run (K + 4) 4) (rowD r) (rowD r) := by
  have := fz_seq (cl := run (K + 3)) prD prD r (rowD r) (.inl rfl) (fun p _ => fz_3 K p) hl
  unfold FzP at *
  rw [rs4]
  exact this
theorem fz_nil (K : Nat) : FzP (run (K + 4) 4) (.tuple []) (.tuple []) := fz_row K [] (by decide)


theorem cut_off (L : List D) (k : Nat) (h : k ≤ L.length) : Vi.cutD L (some (k : Int)) none = L.drop k := by
  unfold Vi.cutD
  rw [HT.sIx_nat, HT.sIx_none, Nat.min_eq_left h, List.take_of_length_le (by simp [fits_of, mFn, mSeq, mSet, put, take, frz, peek, mVar, mC, bin, un, mIfS, mNotT, mTru, mRet, mNext, mLst, mNil, mCons, mTup, mFor, mISeq, mN, mDrop, mApp, mCall, rVal, rNil, argsOf, slotsOf, nodupB, Vi.backTo, give, outsOf, Sv.toD, itemsOf, dTru, dIsi2, dIsi, tyN, isT, dTuple, dList, mGtup, mGcons, mGnil, mYes, mComp, mComp2, wipeA, restA, vsOk, dSort, dAdd, dIx, dLen, mIf, mB, dCmpI, dNeg, mAndT, mIEnum, mStore, rSlot, dInt, dMod, dMul, dDiv, dAbs, dPow, mSl, mPart, mNoPart, dCut, mOr])]


theorem norm_take (r : Row) (k : Nat) : norm (r.take k) + norm (r.drop k) = norm r := by rw [← norm_app, List.take_append_drop]
theorem norm_rev (r : Row) : norm r.reverse = norm r := by unfold norm; rw [List.map_reverse, List.sum_reverse]
theorem ds_tk (r : Row) (k : Nat) : (dsD r).take k = dsD (r.take k) := by unfold dsD; rw [List.map_take]
theorem ds_dp (r : Row) (k : Nat) : (dsD r).drop k = dsD (r.drop k) := by unfold dsD; rw [List.map_drop]
theorem add_rows (a b : Row) (h : a.length + b.length ≤ 9000) : dAdd (.tuple (dsD a)) (.tuple (dsD b)) = some (.imm (.tuple (dsD (a ++ b)))) := by
  rw [c_addT (by rw [dsD_len, dsD_len]; omega), dsD_app]
/-- the frame of _law_near -/

theorem c_store {i : Nat} {mk me : ME} {ρ ρ1 ρ2 ρ3 : Fm} {pr pk : PR} {d : D} {b b1 : Kd} {ds ds1 : List D} {k : Int} {j : Nat} (h1 : me ρ = some (pr, ρ1)) (h2 : frz ρ1 pr = some (d, ρ2)) (h3 : ρ2[i]? = some (some (.own b1 ds1))) (h4 : mk ρ2 = some (pk, ρ3)) (h5 : peek ρ3 pk = some (.int k)) (h6 : ρ3[i]? = some (some (.own b ds))) (h7 : L2.ixN ds.length k = some j) (hb : b.isL = true := by rfl) (hb1 : b1.isL = true := by rfl) : mStore i mk me ρ = some (.next, ρ3.set i (some (.own b (ds.set j d)))) := by
  unfold mStore
  cases b <;> cases b1 <;> first | exact absurd hb (by decide) | exact absurd hb1 (by decide) | (rw [h1]; simp only [h2, h3, h4, h5, h6, h7])

theorem c_rslot {i : Nat} {mr : MR} {ρ ρ1 : Fm} {b : Kd} {ds : List D} {as : List AR} (h : ρ[i]? = some (some (.own b ds))) (h2 : mr ρ = some (as, ρ1)) : rSlot i mr ρ = some (.s i :: as, ρ1) := by
  unfold rSlot
  rw [h]
  simp only [h2]



/-! drawn fractions and rows -/
def much : List Int := [6, -6, 3, -3, 12, 2, -12, 6, -6, 0]
def muchE : MA := (mCons (mTup (mCons (mC (.int 1)) (mCons (mC (.int 1)) mNil))) (mCons (mTup (mCons (un dNeg (mC (.int 1))) (mCons (mC (.int 1)) mNil))) (mCons (mTup (mCons (mC (.int 1)) (mCons (mC (.int 2)) mNil))) (mCons (mTup (mCons (un dNeg (mC (.int 1))) (mCons (mC (.int 2)) mNil))) (mCons (mTup (mCons (mC (.int 2)) (mCons (mC (.int 1)) mNil))) (mCons (mTup (mCons (mC (.int 1)) (mCons (mC (.int 3)) mNil))) (mCons (mTup (mCons (un dNeg (mC (.int 2))) (mCons (mC (.int 1)) mNil))) (mCons (mTup (mCons (mC (.int 1)) (mCons (mC (.int 1)) mNil))) (mCons (mTup (mCons (un dNeg (mC (.int 1))) (mCons (mC (.int 1)) mNil))) (mCons (mTup (mCons (mC (.int 0)) (mCons (mC (.int 1)) mNil))) mNil))))))))))
theorem much_fn (cl : Nat → Fn) : fn27 cl = mFn 1 1 (mRet (bin dIx (mTup muchE) (mCall (cl 22) (rSlot 0 (rVal (mC (.int 10)) rNil))))) := rfl
theorem much_list : (much.map fun j => f36 (6 * j)) = [.tuple [.int 1, .int 1], .tuple [.int (-1), .int 1], .tuple [.int 1, .int 2], .tuple [.int (-1), .int 2], .tuple [.int 2, .int 1], .tuple [.int 1, .int 3], .tuple [.int (-2), .int 1], .tuple [.int 1, .int 1], .tuple [.int (-1), .int 1], .tuple [.int 0, .int 1]] := by kernel_rfl
theorem much_ev (ρ : Fm) : mTup muchE ρ = some (.val (.imm (.tuple (much.map fun j => f36 (6 * j)))), ρ) := by
  rw [much_list]; rfl
def MuchP (f : Fn) (b : Int) : Prop := ∀ a c : Int, 0 ≤ c → c < 900000 → ∃ j a' c' : Int, f [.own .par (bx a b c)] = some (.imm (f36 (6 * j)), [some (bx a' b c')]) ∧ j ∈ much ∧ 0 ≤ c' ∧ c' ≤ c + 1
theorem much_ok {cl : Nat → Fn} {b : Int} (T : TakeP (cl 22) b) : MuchP (fn27 cl) b := by
  intro a c hc hc2
  obtain ⟨v, a', c', e, v1, v2, c1, c2⟩ := T a c 10 (by omega) (by omega) hc (by omega)
  obtain ⟨n, rfl⟩ : ∃ n : Nat, v = n := ⟨v.toNat, by omega⟩
  have hn : n < much.length := by show n < 10; omega
  have hx : dIx (.tuple (much.map fun j => f36 (6 * j))) (.int (n : Int)) = some (.imm (f36 (6 * much[n]))) := by
    show (L2.atI (much.map fun j => f36 (6 * j)) (n : Int)).map Sv.imm = _
    rw [L2.atI_nat (show (much.map fun j => f36 (6 * j))[n]? = some (f36 (6 * much[n])) by rw [List.getElem?_map, List.getElem?_eq_getElem hn]; rfl)]
    rfl
  refine ⟨much[n], a', c', ?_, List.getElem_mem hn, c1, c2⟩
  rw [much_fn]
  exact c_fn (ρ0 := [some (.own .par (bx a b c))]) rfl rfl (c_ret (c_bin (much_ev _) (c_call rfl rfl rfl e rfl) rfl rfl hx) rfl) rfl
/-- the rows that are drawn -/
structure Fl (w : Int) (r : Row) : Prop where
  part : ∀ p ∈ r, 0 ≤ p.1 ∧ p.1 < w
  six : ∀ p ∈ r, ∃ j ∈ much, p.2 = 6 * j
def flE (cl : Nat → Fn) : ME := (mTup (mCons (mCall (cl 22) (rSlot 0 (rVal (mVar 1) rNil))) (mCons (mCall (cl 27) (rSlot 0 rNil)) mNil)))
theorem flows_fn (cl : Nat → Fn) : fn28 cl = mFn 4 3 (mRet (un dTuple (mComp (mIRng1 (mCons (mCall (cl 22) (rSlot 0 (rVal (bin dAdd (mVar 2) (mC (.int 1))) rNil))) mNil)) (mN 3) mYes (flE cl) [3]))) := rfl
theorem flows_loop {cl : Nat → Fn} {b : Int} (T : TakeP (cl 22) b) (U : MuchP (cl 27) b) {w : Int} (hw : 0 < w) (hw2 : w < 1000) {x2 : Option Sv} : ∀ (ds : List D) (a c : Int), 0 ≤ c → c + 2 * ds.length < 100000 →
    ∃ (r : Row) (a' c' : Int), cloop (mN 3) mYes (flE cl) [3] ds [some (.own .par (bx a b c)), ii w, x2, none] = some (dsD r, [some (.own .par (bx a' b c')), ii w, x2, none]) ∧ r.length = ds.length ∧ Fl w r ∧ 0 ≤ c' ∧ c' ≤ c + 2 * ds.length := by
  intro ds
  induction ds with
  | nil => intro a c h1 _; exact ⟨[], a, c, rfl, rfl, ⟨fun p hp => (by cases hp), fun p hp => (by cases hp)⟩, h1, by simp [fits_of, mFn, mSeq, mSet, put, take, frz, peek, mVar, mC, bin, un, mIfS, mNotT, mTru, mRet, mNext, mLst, mNil, mCons, mTup, mFor, mISeq, mN, mDrop, mApp, mCall, rVal, rNil, argsOf, slotsOf, nodupB, Vi.backTo, give, outsOf, Sv.toD, itemsOf, dTru, dIsi2, dIsi, tyN, isT, dTuple, dList, mGtup, mGcons, mGnil, mYes, mComp, mComp2, wipeA, restA, vsOk, dSort, dAdd, dIx, dLen, mIf, mB, dCmpI, dNeg, mAndT, mIEnum, mStore, rSlot, dInt, dMod, dMul, dDiv, dAbs, dPow, mSl, mPart, mNoPart, dCut, mOr]⟩
  | cons d ds ih =>
    intro a c h1 h2
    simp only [List.length_cons] at h2
    obtain ⟨v, a1, c1, e1, v1, v2, p1, p2⟩ := T a c w hw (by omega) h1 (by omega)
    obtain ⟨j, a2, c2, e2, hj, p3, p4⟩ := U a1 c1 p1 (by omega)
    obtain ⟨r, a3, c3, e3, k1, k2, k3, k4⟩ := ih a2 c2 p3 (by omega)
    refine ⟨(v, 6 * j) :: r, a3, c3, ?_, by rw [List.length_cons, List.length_cons, k1], ⟨fun p hp => ?_, fun p hp => ?_⟩, k3, by rw [List.length_cons]; omega⟩
    · exact c_ccons (ρ1 := [some (.own .par (bx a b c)), ii w, x2, some (.imm d)]) rfl rfl (c_tup (c_acons (c_call (as := [.s 0, .v (.int w)]) rfl rfl rfl e1 rfl) rfl (c_acons (c_call (as := [.s 0]) rfl rfl rfl e2 rfl) rfl c_anil)) rfl) rfl e3
    · rcases List.mem_cons.mp hp with rfl | hp
      · exact ⟨v1, v2⟩
      · exact k2.part p hp
    · rcases List.mem_cons.mp hp with rfl | hp
      · exact ⟨j, hj, rfl⟩
      · exact k2.six p hp
theorem flows_ok {cl : Nat → Fn} {b : Int} (T : TakeP (cl 22) b) (U : MuchP (cl 27) b) {w m : Nat} (hw : 0 < w) (hw2 : w < 1000) (hm : m ≤ 500) {a c : Int} (h1 : 0 ≤ c) (h2 : c < 10000) :
    ∃ (r : Row) (a' c' : Int), fn28 cl [.own .par (bx a b c), .imm (.int (w : Int)), .imm (.int (m : Int))] = some (.imm (rowD r), [some (bx a' b c'), none, none]) ∧ r.length ≤ m ∧ Fl w r ∧ 0 ≤ c' ∧ c' ≤ c + 1 + 2 * m := by
  obtain ⟨v, a1, c1, e1, v1, v2, p1, p2⟩ := T a c ((m : Int) + 1) (by omega) (by omega) h1 (by omega)
  obtain ⟨n, rfl⟩ : ∃ n : Nat, v = n := ⟨v.toNat, by omega⟩
  have hlen : (rngD 0 n).length = n := rngD_len 0 n
  obtain ⟨r, a2, c2, e2, k1, k2, k3, k4⟩ := flows_loop T U (w := (w : Int)) (by omega) (by omega) (x2 := ii (m : Int)) (rngD 0 n) a1 c1 p1 (by omega)
  rw [hlen] at k1 k4
  refine ⟨r, a2, c2, ?_, by omega, k2, k3, by omega⟩
  have hf : fits (dsD r).length = true := c_fits (by rw [dsD_len]; omega)
  have hi : mIRng1 (mCons (mCall (cl 22) (rSlot 0 (rVal (bin dAdd (mVar 2) (mC (.int 1))) rNil))) mNil) [some (.own .par (bx a b c)), ii (w : Int), ii (m : Int), none] = some (rngD 0 n, [some (.own .par (bx a1 b c1)), ii (w : Int), ii (m : Int), none]) :=
    c_rng1 (c_acons (c_call (as := [.s 0, .v (.int ((m : Int) + 1))]) rfl rfl rfl e1 rfl) rfl c_anil) (by omega)
  rw [flows_fn]
  exact c_fn (ρ0 := [some (.own .par (bx a b c)), ii (w : Int), ii (m : Int), none]) rfl rfl (c_ret (c_un (c_comp hi rfl e2 hf rfl) rfl rfl) rfl) rfl
theorem at_tup {L : List D} {k : Nat} {d : D} (h : L[k]? = some d) : dIx (.tuple L) (.int (k : Int)) = some (.imm d) := by
  show (L2.atI L (k : Int)).map Sv.imm = _
  rw [L2.atI_nat h]; rfl

/-- the frame of _law_near -/

theorem much_le {j : Int} (h : j ∈ much) : (6 * j).natAbs ≤ 72 := by
  have : ∀ j ∈ much, (6 * j).natAbs ≤ 72 := by decide
  exact this j h

theorem lt_b {ρ : Fm} {ma mb : ME} {x y : Int} (h1 : ma ρ = some (.val (.imm (.int x)), ρ)) (h2 : mb ρ = some (.val (.imm (.int y)), ρ)) : mB (bin dLt ma mb) ρ = some (decide (x < y), ρ) := c_b (c_bin h1 h2 rfl rfl rfl)

end K26

namespace K26
open PySem Vi PyProof.Rows
/-! which parts go together, drawn -/
def tE (cl : Nat → Fn) : MT := (mB (bin dEq (mCall (cl 22) (rSlot 0 (rVal (mC (.int 2)) rNil))) (mC (.int 0))))
def pE : ME := (mTup (mCons (mVar 3) (mCons (mVar 4) mNil)))
def oE (cl : Nat → Fn) : MS := (mSet 2 (bin dAdd (mVar 2) (mComp (mIRng2 (mCons (bin dAdd (mVar 3) (mC (.int 1))) (mCons (mVar 1) mNil))) (mN 4) (tE cl) pE [4])))
theorem lets_fn (cl : Nat → Fn) : fn31 cl = mFn 5 2 (mSeq (mSet 2 (mLst mNil)) (mSeq (mFor (mIRng1 (mCons (mVar 1) mNil)) (mN 3) (oE cl)) (mRet (un dTuple (mVar 2))))) := rfl
theorem rng_ints (lo : Int) (n : Nat) : ∃ ks : List Int, rngD lo n = ks.map .int ∧ ks.length = n ∧ ∀ k ∈ ks, lo ≤ k ∧ k < lo + n := by
  refine ⟨(List.range n).map fun k : Nat => lo + (k : Int), ?_, by simp, fun k hk => ?_⟩
  · unfold rngD
    rw [List.map_map]; rfl
  · obtain ⟨m, hm, rfl⟩ := List.mem_map.mp hk
    have := List.mem_range.mp hm
    omega
theorem lets_in {cl : Nat → Fn} {b : Int} (T : TakeP (cl 22) b) {w j : Int} {x2 : Option Sv} : ∀ (ks : List Int) (a c : Int), (∀ k ∈ ks, j < k) → 0 ≤ c → c + ks.length < 900000 →
    ∃ (M : List (Int × Int)) (a' c' : Int), cloop (mN 4) (tE cl) pE [4] (ks.map .int) [some (.own .par (bx a b c)), ii w, x2, ii j, none] = some (M.map toP, [some (.own .par (bx a' b c')), ii w, x2, ii j, none]) ∧ (∀ p ∈ M, p.1 < p.2) ∧ M.length ≤ ks.length ∧ 0 ≤ c' ∧ c' ≤ c + ks.length
  | [], a, c, _, h1, _ => ⟨[], a, c, rfl, by simp, Nat.le_refl _, h1, by simp⟩
  | k :: ks, a, c, h, h1, h2 => by
    rw [List.length_cons] at h2
    obtain ⟨v, a1, c1, e, v1, v2, p1, p2⟩ := T a c 2 (by omega) (by omega) h1 (by omega)
    obtain ⟨M, a2, c2, g, m1, m2, p3, p4⟩ := lets_in T ks a1 c1 (fun z hz => h z (List.mem_cons_of_mem _ hz)) p1 (by omega)
    have t : tE cl [some (.own .par (bx a b c)), ii w, x2, ii j, ii k] = some (v == 0, [some (.own .par (bx a1 b c1)), ii w, x2, ii j, ii k]) := c_b (c_bin (c_call (as := [.s 0, .v (.int 2)]) rfl rfl rfl e rfl) rfl rfl rfl (eq_int v 0))
    rw [List.map_cons]
    cases hv : (v == 0) with
    | true =>
      rw [hv] at t
      refine ⟨(j, k) :: M, a2, c2, c_ccons (ρ1 := [some (.own .par (bx a b c)), ii w, x2, ii j, ii k]) rfl t (c_tup (c_acons rfl rfl (c_acons rfl rfl c_anil)) rfl) rfl g, fun p hp => ?_, by rw [List.length_cons, List.length_cons]; omega, p3, by rw [List.length_cons]; omega⟩
      rcases List.mem_cons.mp hp with rfl | hp
      · exact h k (List.mem_cons_self ..)
      · exact m1 p hp
    | false =>
      rw [hv] at t
      exact ⟨M, a2, c2, c_cskip (ρ1 := [some (.own .par (bx a b c)), ii w, x2, ii j, ii k]) rfl t g, m1, by rw [List.length_cons]; omega, p3, by rw [List.length_cons]; omega⟩
theorem lets_loop {cl : Nat → Fn} {b : Int} (T : TakeP (cl 22) b) {w : Nat} (hw : w ≤ 4) : ∀ (js : List Int) (M : List (Int × Int)) (a c : Int) (x3 : Option Sv), (∀ j ∈ js, 0 ≤ j ∧ j < (w : Int)) → js.length ≤ 4 → M.length + 4 * js.length ≤ 90 → (∀ p ∈ M, p.1 < p.2) → 0 ≤ c → c + 4 * js.length < 90000 →
    ∃ (M' : List (Int × Int)) (a' c' : Int) (y3 : Option Sv), loop (mN 3) (oE cl) (js.map .int) [some (.own .par (bx a b c)), ii (w : Int), oo (M.map toP), x3, none] = some (.next, [some (.own .par (bx a' b c')), ii (w : Int), oo (M'.map toP), y3, none]) ∧ (∀ p ∈ M', p.1 < p.2) ∧ M'.length ≤ M.length + 4 * js.length ∧ 0 ≤ c' ∧ c' ≤ c + 4 * js.length
  | [], M, a, c, x3, _, _, _, h, h1, _ => ⟨M, a, c, x3, rfl, h, Nat.le_refl _, h1, by simp⟩
  | j :: js, M, a, c, x3, hj, hl, hm, h, h1, h2 => by
    rw [List.length_cons] at hl hm h2
    have hj0 := hj j (List.mem_cons_self ..)
    obtain ⟨ks, k1, k2, k3⟩ := rng_ints (j + 1) ((w : Int) - (j + 1)).toNat
    obtain ⟨N, a1, c1, e, n1, n2, p1, p2⟩ := lets_in T (w := (w : Int)) (j := j) (x2 := oo (M.map toP)) ks a c (fun k hk => by have := k3 k hk; omega) h1 (by omega)
    rw [← k1] at e
    have hi : mIRng2 (mCons (bin dAdd (mVar 3) (mC (.int 1))) (mCons (mVar 1) mNil)) [some (.own .par (bx a b c)), ii (w : Int), oo (M.map toP), ii j, none] = some (rngD (j + 1) ((w : Int) - (j + 1)).toNat, [some (.own .par (bx a b c)), ii (w : Int), oo (M.map toP), ii j, none]) :=
      c_rng2 (c_acons (c_bin rfl rfl rfl rfl rfl) rfl (c_acons rfl rfl c_anil)) (by omega) (by omega) rfl
    have hc := c_comp (vs := [4]) hi rfl e (c_fits (by rw [List.length_map]; omega)) rfl
    have s : oE cl [some (.own .par (bx a b c)), ii (w : Int), oo (M.map toP), ii j, none] = some (.next, [some (.own .par (bx a1 b c1)), ii (w : Int), oo ((M ++ N).map toP), ii j, none]) := by
      rw [List.map_append]
      exact c_set (c_bin (ma := mVar 2) (p1 := .slot 2) (ρ := [some (.own .par (bx a b c)), ii (w : Int), oo (M.map toP), ii j, none]) (ρ1 := [some (.own .par (bx a b c)), ii (w : Int), oo (M.map toP), ii j, none]) rfl hc rfl rfl (c_addL (by rw [List.length_map, List.length_map]; omega))) rfl
    obtain ⟨M', a2, c2, y3, g, q1, q2, p3, p4⟩ := lets_loop T hw js (M ++ N) a1 c1 (ii j) (fun z hz => hj z (List.mem_cons_of_mem _ hz)) (by omega) (by rw [List.length_append]; omega) (fun p hp => by
      rcases List.mem_append.mp hp with hp | hp
      · exact h p hp
      · exact n1 p hp) p1 (by omega)
    rw [List.length_append] at q2
    exact ⟨M', a2, c2, y3, c_cons (ρ1 := [some (.own .par (bx a b c)), ii (w : Int), oo (M.map toP), ii j, none]) rfl s g, q1, by rw [List.length_cons]; omega, p3, by rw [List.length_cons]; omega⟩
def LetsP (f : Fn) (b : Int) : Prop := ∀ (w : Nat), w ≤ 4 → ∀ a c : Int, 0 ≤ c → c < 10000 → ∃ (M : List (Int × Int)) (a' c' : Int), f [.own .par (bx a b c), .imm (.int (w : Int))] = some (.imm (metD M), [some (bx a' b c'), none]) ∧ MOk M ∧ 0 ≤ c' ∧ c' ≤ c + 16
theorem lets_ok {cl : Nat → Fn} {b : Int} (T : TakeP (cl 22) b) : LetsP (fn31 cl) b := fun w hw a c h1 h2 => by
  obtain ⟨js, k1, k2, k3⟩ := rng_ints 0 w
  obtain ⟨M, a1, c1, y3, g, m1, m2, p1, p2⟩ := lets_loop T hw js [] a c none (fun j hj => by have := k3 j hj; omega) (by omega) (by simp; omega) (by simp) h1 (by omega)
  rw [← k1] at g
  refine ⟨M, a1, c1, ?_, ⟨m1, by simp at m2; omega⟩, p1, by omega⟩
  have hi : mIRng1 (mCons (mVar 1) mNil) [some (.own .par (bx a b c)), ii (w : Int), oo [], none, none] = some (rngD 0 w, [some (.own .par (bx a b c)), ii (w : Int), oo [], none, none]) := c_rng1 (c_acons rfl rfl c_anil) (by omega)
  rw [lets_fn]
  exact c_fn (ρ0 := [some (.own .par (bx a b c)), ii (w : Int), none, none, none]) rfl rfl (c_seq (c_set (c_lst c_anil rfl) rfl) (c_seq (c_for hi g) (c_ret (c_un rfl rfl rfl) rfl))) rfl

theorem len_row (r : Row) : dLen (rowD r) = some (.imm (.int (r.length : Int))) := by
  show some (Sv.imm (.int ((dsD r).length : Int))) = _
  rw [dsD_len]
theorem rev_row (r : Row) : dRev (rowD r) = some (.imm (rowD r.reverse)) := by
  show some (Sv.imm (.tuple (dsD r).reverse)) = _
  unfold rowD dsD
  rw [List.map_reverse]
theorem row_at {r : Row} {k : Nat} {p : Pr} (h : r[k]? = some p) : dIx (rowD r) (.int (k : Int)) = some (.imm (prD p)) := at_tup (by unfold dsD; rw [List.getElem?_map, h]; rfl)

def UndP (f : Fn) : Prop := ∀ r : Row, r.length ≤ 900 → f [.imm (rowD r)] = some (.imm (rowD (inv r)), [none])

end K26

namespace K26
open PySem Vi PyProof.Rows
/-! layers as data -/
def layD (X : List Row) : D := .tuple (X.map rowD)
theorem lay_rows : ∀ X : List Row, PyData.canLayAll0 (X.map rowD) = true
  | [] => by rw [List.map_nil, PyData.canLayAll0]
  | r :: X => by
    have h : PyData.canLay0 (rowD r) = true := by unfold rowD; rw [PyData.canLay0]; exact lay_ds r
    rw [List.map_cons, PyData.canLayAll0, lay_rows X, h]; rfl
theorem dep_rows : ∀ X : List Row, PyData.depthAll (X.map rowD) ≤ 3
  | [] => by rw [List.map_nil, PyData.depthAll]; decide
  | r :: X => by
    have h : PyData.depth (rowD r) ≤ 3 := by unfold rowD; rw [PyData.depth]; have := dep_ds r; omega
    rw [List.map_cons, PyData.depthAll]
    exact Nat.max_le.mpr ⟨h, dep_rows X⟩
theorem ok_lay (X : List Row) : okD (layD X) = true := by
  show (PyData.canLay0 (layD X) && decide (PyData.depth (layD X) ≤ 64)) = true
  have := dep_rows X
  unfold layD
  rw [PyData.canLay0, PyData.depth, lay_rows, decide_eq_true (by omega)]; rfl
theorem eqv_row (a b : Row) : PyData.eqv (rowD a) (rowD b) = decide (a = b) := by
  unfold rowD
  rw [PyData.eqv, eqv_ds]
theorem eqv_rows : ∀ A B : List Row, PyData.eqvAll (A.map rowD) (B.map rowD) = decide (A = B)
  | [], [] => by simp [PyData.eqvAll]
  | [], _ :: _ => by simp [PyData.eqvAll]
  | _ :: _, [] => by simp [PyData.eqvAll]
  | a :: A, b :: B => by
    rw [List.map_cons, List.map_cons, PyData.eqvAll, eqv_rows A B, eqv_row]
    simp only [List.cons.injEq, Bool.decide_and]
theorem eq_lay (A B : List Row) : dEq (layD A) (layD B) = some (.imm (.bool (decide (A = B)))) := by
  unfold dEq
  rw [ok_lay, ok_lay]
  unfold layD
  rw [PyData.eqv, eqv_rows]; rfl
/-! frozen -/
theorem fz_p (K : Nat) (p : Int × Int) : FzP (run (K + 2) 4) (toP p) (toP p) := by
  have := fz_two (cl := run (K + 1)) _ _ (fz_1 K p.1) (fz_1 K p.2)
  unfold FzP at *
  rw [rs4]
  exact this
theorem fz_met (K : Nat) {M : List (Int × Int)} (hl : M.length ≤ 9000) : FzP (run (K + 3) 4) (metD M) (metD M) := by
  have := fz_seq (cl := run (K + 2)) toP toP M (metD M) (.inl rfl) (fun p _ => fz_p K p) hl
  unfold FzP at *
  rw [rs4]
  exact this

/-! all that go together -/
def fullM : Nat → List (Int × Int)
  | 2 => [(0, 1)]
  | 3 => [(0, 1), (0, 2), (1, 2)]
  | _ => [(0, 1), (0, 2), (0, 3), (1, 2), (1, 3), (2, 3)]
theorem full_mok (w : Nat) : MOk (fullM w) := by
  unfold fullM
  split <;> exact ⟨by decide, by decide⟩
theorem full_all {w : Nat} (h1 : 2 ≤ w) (h2 : w ≤ 4) (a b : Int) (ha : 0 ≤ a) (ha2 : a < w) (hb : 0 ≤ b) (hb2 : b < w) (hab : a ≠ b) : cM (fullM w) a b = true := by
  have hw : w = 2 ∨ w = 3 ∨ w = 4 := by omega
  rcases hw with rfl | rfl | rfl
  · have h3 : a = 0 ∨ a = 1 := by omega
    have h4 : b = 0 ∨ b = 1 := by omega
    rcases h3 with rfl | rfl <;> rcases h4 with rfl | rfl <;> first | exact absurd rfl hab | rfl
  · have h3 : a = 0 ∨ a = 1 ∨ a = 2 := by omega
    have h4 : b = 0 ∨ b = 1 ∨ b = 2 := by omega
    rcases h3 with rfl | rfl | rfl <;> rcases h4 with rfl | rfl | rfl <;> first | exact absurd rfl hab | rfl
  · have h3 : a = 0 ∨ a = 1 ∨ a = 2 ∨ a = 3 := by omega
    have h4 : b = 0 ∨ b = 1 ∨ b = 2 ∨ b = 3 := by omega
    rcases h3 with rfl | rfl | rfl | rfl <;> rcases h4 with rfl | rfl | rfl | rfl <;> first | exact absurd rfl hab | rfl
theorem none_all (a b : Int) : cM [] a b = false := by unfold cM; simp
theorem mok_nil : MOk [] := ⟨by simp, by simp⟩

end K26

namespace K26
open PySem Vi PyProof.Rows
def smD : Nat → D → Bool
  | 0, .int _ => true
  | 0, .bool _ => true
  | k + 1, .list xs => decide (xs.length ≤ 10000) && xs.all (smD k)
  | k + 1, .tuple xs => decide (xs.length ≤ 10000) && xs.all (smD k)
  | k + 1, .int _ => true
  | k + 1, .bool _ => true
  | _, _ => false
def cSa (cl : Nat → Fn) : ME := mCall (cl 24) (rVal (mVar 2) (rVal (mVar 3) rNil))
theorem zip_self : ∀ ds : List D, zipD ds ds = ds.map fun d => .tuple [d, d]
  | [] => rfl
  | d :: ds => by rw [zipD, zip_self ds]; rfl
theorem cloop_same {cl : Nat → Fn} : ∀ (ds : List D) (g d : Option Sv), (∀ x ∈ ds, cl 24 [.imm x, .imm x] = some (.imm (.bool true), [none, none])) →
    cloop (mGtup 2 (mGcons (mN 2) (mGcons (mN 3) mGnil))) mYes (cSa cl) [2, 3] (ds.map fun d => .tuple [d, d]) [g, d, none, none] = some (ds.map fun _ => .bool true, [g, d, none, none])
  | [], _, _, _ => rfl
  | x :: ds, g, d, h => by
    have h0 := h x (List.mem_cons_self ..)
    have ih := cloop_same ds g d fun y hy => h y (List.mem_cons_of_mem _ hy)
    unfold cSa at ih ⊢
    simp [fits_of, mFn, mSeq, mSet, put, take, frz, peek, mVar, mC, bin, un, mIfS, mNotT, mTru, mRet, mNext, mLst, mNil, mCons, mTup, mFor, mISeq, mN, mDrop, mApp, mCall, rVal, rNil, argsOf, slotsOf, nodupB, Vi.backTo, give, outsOf, Sv.toD, itemsOf, dTru, dIsi2, dIsi, tyN, isT, dTuple, dList, mGtup, mGcons, mGnil, mYes, mComp, mComp2, wipeA, restA, vsOk, dSort, dAdd, dIx, dLen, mIf, mB, dCmpI, dNeg, mAndT, mIEnum, cloop, h0, ih]
theorem bools_true : ∀ ds : List D, boolsOf (ds.map fun _ => .bool true) = some (ds.map fun _ => true)
  | [] => rfl
  | d :: ds => by rw [List.map_cons, boolsOf, bools_true ds]; rfl
theorem okD_bool (b : Bool) : okD (.bool b) = true := rfl
theorem eqv_bool (a b : Bool) : PyData.eqv (.bool a) (.bool b) = (a == b) := by rw [PyData.eqv]
theorem all_true (ds : List D) : dAll (.list (ds.map fun _ => .bool true)) = some (.imm (.bool true)) := by
  show (boolsOf (ds.map fun _ => .bool true)).map _ = _
  rw [bools_true]
  simp [fits_of, mFn, mSeq, mSet, put, take, frz, peek, mVar, mC, bin, un, mIfS, mNotT, mTru, mRet, mNext, mLst, mNil, mCons, mTup, mFor, mISeq, mN, mDrop, mApp, mCall, rVal, rNil, argsOf, slotsOf, nodupB, Vi.backTo, give, outsOf, Sv.toD, itemsOf, dTru, dIsi2, dIsi, tyN, isT, dTuple, dList, mGtup, mGcons, mGnil, mYes, mComp, mComp2, wipeA, restA, vsOk, dSort, dAdd, dIx, dLen, mIf, mB, dCmpI, dNeg, mAndT, mIEnum]
theorem same_int {K : Nat} (i : Int) : run (K + 1) 24 [.imm (.int i), .imm (.int i)] = some (.imm (.bool true), [none, none]) := by
  rw [rs24]
  simp [fits_of, mFn, mSeq, mSet, put, take, frz, peek, mVar, mC, bin, un, mIfS, mNotT, mTru, mRet, mNext, mLst, mNil, mCons, mTup, mFor, mISeq, mN, mDrop, mApp, mCall, rVal, rNil, argsOf, slotsOf, nodupB, Vi.backTo, give, outsOf, Sv.toD, itemsOf, dTru, dIsi2, dIsi, tyN, isT, dTuple, dList, mGtup, mGcons, mGnil, mYes, mComp, mComp2, wipeA, restA, vsOk, dSort, dAdd, dIx, dLen, mIf, mB, dCmpI, dNeg, mAndT, mIEnum, fn24, mOrT, dIs, isNon, dEq, okD_int, eqv_int, mAnd, dNot]
theorem same_bool {K : Nat} (b : Bool) : run (K + 1) 24 [.imm (.bool b), .imm (.bool b)] = some (.imm (.bool true), [none, none]) := by
  cases b <;> kernel_rfl
theorem same_ok : ∀ (k : Nat) (d : D), smD k d = true → run (k + 1) 24 [.imm d, .imm d] = some (.imm (.bool true), [none, none])
  | 0, .int i, _ => same_int i
  | k + 1, .int i, _ => same_int i
  | 0, .bool i, _ => same_bool i
  | k + 1, .bool i, _ => same_bool i
  | k + 1, .list xs, h => by
    unfold smD at h
    simp only [Bool.and_eq_true, decide_eq_true_eq, List.all_eq_true] at h
    have e := cloop_same (cl := run (k + 1)) xs (some (.imm (.list xs))) (some (.imm (.list xs))) fun x hx => same_ok k x (h.2 x hx)
    have hf : fits xs.length = true := fits_of h.1
    have hz := zip_self xs
    rw [rs24]
    unfold cSa at e
    try simp [fits_of, mFn, mSeq, mSet, put, take, frz, peek, mVar, mC, bin, un, mIfS, mNotT, mTru, mRet, mNext, mLst, mNil, mCons, mTup, mFor, mISeq, mN, mDrop, mApp, mCall, rVal, rNil, argsOf, slotsOf, nodupB, Vi.backTo, give, outsOf, Sv.toD, itemsOf, dTru, dIsi2, dIsi, tyN, isT, dTuple, dList, mGtup, mGcons, mGnil, mYes, mComp, mComp2, wipeA, restA, vsOk, dSort, dAdd, dIx, dLen, mIf, mB, dCmpI, dNeg, mAndT, mIEnum] at e
    simp [fits_of, mFn, mSeq, mSet, put, take, frz, peek, mVar, mC, bin, un, mIfS, mNotT, mTru, mRet, mNext, mLst, mNil, mCons, mTup, mFor, mISeq, mN, mDrop, mApp, mCall, rVal, rNil, argsOf, slotsOf, nodupB, Vi.backTo, give, outsOf, Sv.toD, itemsOf, dTru, dIsi2, dIsi, tyN, isT, dTuple, dList, mGtup, mGcons, mGnil, mYes, mComp, mComp2, wipeA, restA, vsOk, dSort, dAdd, dIx, dLen, mIf, mB, dCmpI, dNeg, mAndT, mIEnum, fn24, dEq, dNe, okD_int, eqv_int, okD_bool, eqv_bool, mAnd, mIZip, hz, e, hf, all_true]
  | k + 1, .tuple xs, h => by
    unfold smD at h
    simp only [Bool.and_eq_true, decide_eq_true_eq, List.all_eq_true] at h
    have e := cloop_same (cl := run (k + 1)) xs (some (.imm (.tuple xs))) (some (.imm (.tuple xs))) fun x hx => same_ok k x (h.2 x hx)
    have hf : fits xs.length = true := fits_of h.1
    have hz := zip_self xs
    rw [rs24]
    unfold cSa at e
    try simp [fits_of, mFn, mSeq, mSet, put, take, frz, peek, mVar, mC, bin, un, mIfS, mNotT, mTru, mRet, mNext, mLst, mNil, mCons, mTup, mFor, mISeq, mN, mDrop, mApp, mCall, rVal, rNil, argsOf, slotsOf, nodupB, Vi.backTo, give, outsOf, Sv.toD, itemsOf, dTru, dIsi2, dIsi, tyN, isT, dTuple, dList, mGtup, mGcons, mGnil, mYes, mComp, mComp2, wipeA, restA, vsOk, dSort, dAdd, dIx, dLen, mIf, mB, dCmpI, dNeg, mAndT, mIEnum] at e
    simp [fits_of, mFn, mSeq, mSet, put, take, frz, peek, mVar, mC, bin, un, mIfS, mNotT, mTru, mRet, mNext, mLst, mNil, mCons, mTup, mFor, mISeq, mN, mDrop, mApp, mCall, rVal, rNil, argsOf, slotsOf, nodupB, Vi.backTo, give, outsOf, Sv.toD, itemsOf, dTru, dIsi2, dIsi, tyN, isT, dTuple, dList, mGtup, mGcons, mGnil, mYes, mComp, mComp2, wipeA, restA, vsOk, dSort, dAdd, dIx, dLen, mIf, mB, dCmpI, dNeg, mAndT, mIEnum, fn24, dEq, dNe, okD_int, eqv_int, okD_bool, eqv_bool, mAnd, mIZip, hz, e, hf, all_true]

theorem sm_int (k : Nat) (i : Int) : smD k (.int i) = true := by cases k <;> rfl
theorem sm_bool (k : Nat) (i : Bool) : smD k (.bool i) = true := by cases k <;> rfl
theorem sm_f36 (k : Nat) (i : Int) : smD (k + 1) (f36 i) = true := by
  simp [fits_of, mFn, mSeq, mSet, put, take, frz, peek, mVar, mC, bin, un, mIfS, mNotT, mTru, mRet, mNext, mLst, mNil, mCons, mTup, mFor, mISeq, mN, mDrop, mApp, mCall, rVal, rNil, argsOf, slotsOf, nodupB, Vi.backTo, give, outsOf, Sv.toD, itemsOf, dTru, dIsi2, dIsi, tyN, isT, dTuple, dList, mGtup, mGcons, mGnil, mYes, mComp, mComp2, wipeA, restA, vsOk, dSort, dAdd, dIx, dLen, mIf, mB, dCmpI, dNeg, mAndT, mIEnum, smD, f36, fr, sm_int]
theorem sm_pr (k : Nat) (p : Pr) : smD (k + 2) (prD p) = true := by
  simp [fits_of, mFn, mSeq, mSet, put, take, frz, peek, mVar, mC, bin, un, mIfS, mNotT, mTru, mRet, mNext, mLst, mNil, mCons, mTup, mFor, mISeq, mN, mDrop, mApp, mCall, rVal, rNil, argsOf, slotsOf, nodupB, Vi.backTo, give, outsOf, Sv.toD, itemsOf, dTru, dIsi2, dIsi, tyN, isT, dTuple, dList, mGtup, mGcons, mGnil, mYes, mComp, mComp2, wipeA, restA, vsOk, dSort, dAdd, dIx, dLen, mIf, mB, dCmpI, dNeg, mAndT, mIEnum, smD, prD, f36, fr, sm_int]
theorem sm_row (k : Nat) {r : Row} (hl : r.length ≤ 9000) : smD (k + 3) (rowD r) = true := by
  have h : ∀ x ∈ dsD r, smD (k + 2) x = true := fun x hx => by
    unfold dsD at hx
    obtain ⟨p, _, rfl⟩ := List.mem_map.mp hx
    exact sm_pr k p
  unfold rowD smD
  rw [dsD_len]
  simp only [Bool.and_eq_true, decide_eq_true_eq, List.all_eq_true]
  exact ⟨by omega, h⟩


end K26

namespace K26
open PySem Vi PyProof.Rows
/-! the numbers of the script -/
abbrev scD (ns : List Int) : D := .dict (ns.map fun n => (.int n, .none))
def cB : MS := (mSeq (mSet 5 (bin dMod (un dInt (mVar 3)) (mVar 1))) (mStore 2 (mVar 5) (bin dAdd (bin dIx (mVar 2) (mVar 5)) (bin dMul (mVar 4) (bin dAdd (mVar 3) (mC (.int 2)))))))
theorem cells_fn (cl : Nat → Fn) : fn23 cl = mFn 6 2 (mSeq (mSet 2 (mOr (un dList (mSl (mVar 0) mNoPart (mPart (mVar 1)))) (mLst (mCons (mC (.int 0)) mNil)))) (mSeq (mFor (mIEnum (mCons (mSl (mVar 0) (mPart (mVar 1)) (mPart (mC (.int 63)))) mNil)) (mGtup 2 (mGcons (mN 3) (mGcons (mN 4) mGnil))) cB) (mRet (mVar 2)))) := rfl
abbrev CF (x0 : Option Sv) (u v : Int) (x3 x4 x5 : Option Sv) : Fm := [x0, ii 2, some (.own .loc [.int u, .int v]), x3, x4, x5]
theorem cB_ok {x0 x5 : Option Sv} {u v n : Int} {k : Nat} (hk : k ≤ 1000) : ∃ u' v' y5, cB (CF x0 u v (ii k) (ii n) x5) = some (.next, CF x0 u' v' (ii k) (ii n) y5) := by
  have hm : mulOk n ((k : Int) + 2) = true := c_mul (by omega)
  have m : dMul (.int n) (.int ((k : Int) + 2)) = some (.imm (.int (n * ((k : Int) + 2)))) := by
    show (if mulOk n ((k : Int) + 2) = true then _ else _) = _
    rw [if_pos hm]
  have e1 : ∀ y, EV (mVar 3) (CF x0 u v (ii k) (ii n) y) (.int (k : Int)) := fun y => ev_var rfl
  have e2 : ∀ y, EV (mVar 4) (CF x0 u v (ii k) (ii n) y) (.int n) := fun y => ev_var rfl
  have e3 : EV (mVar 1) (CF x0 u v (ii k) (ii n) x5) (.int 2) := ev_var rfl
  have hmod : dMod (.int (k : Int)) (.int 2) = some (.imm (.int ((k : Int) % 2))) := rfl
  have e4 := e_bin (f := dMod) (e_un (f := dInt) (e1 x5) rfl) e3 hmod
  have s1 : mSet 5 (bin dMod (un dInt (mVar 3)) (mVar 1)) (CF x0 u v (ii k) (ii n) x5) = some (.next, CF x0 u v (ii k) (ii n) (ii ((k : Int) % 2))) := c_set (v_bin (e_un (f := dInt) (e1 x5) rfl) e3 hmod) rfl
  have h2 : (k : Int) % 2 = 0 ∨ (k : Int) % 2 = 1 := by omega
  rcases h2 with h2 | h2
  · rw [h2] at s1
    have hb : bin dIx (mVar 2) (mVar 5) (CF x0 u v (ii k) (ii n) (ii 0)) = some (.val (.imm (.int u)), CF x0 u v (ii k) (ii n) (ii 0)) := c_bin rfl rfl rfl rfl rfl
    have e5 := v_bin (f := dAdd) (ev_val hb) (e_bin (f := dMul) (e2 (ii 0)) (e_bin (f := dAdd) (e1 (ii 0)) (ev_c (d := .int 2)) rfl) m) rfl
    exact ⟨_, v, ii 0, c_seq s1 (c_store (j := 0) (k := 0) (ds := [.int u, .int v]) (ds1 := [.int u, .int v]) (b := .loc) (b1 := .loc) (i := 2) (ρ2 := CF x0 u v (ii k) (ii n) (ii 0)) (ρ3 := CF x0 u v (ii k) (ii n) (ii 0)) e5 rfl rfl rfl rfl rfl rfl)⟩
  · rw [h2] at s1
    have hb : bin dIx (mVar 2) (mVar 5) (CF x0 u v (ii k) (ii n) (ii 1)) = some (.val (.imm (.int v)), CF x0 u v (ii k) (ii n) (ii 1)) := c_bin rfl rfl rfl rfl rfl
    have e5 := v_bin (f := dAdd) (ev_val hb) (e_bin (f := dMul) (e2 (ii 1)) (e_bin (f := dAdd) (e1 (ii 1)) (ev_c (d := .int 2)) rfl) m) rfl
    exact ⟨u, _, ii 1, c_seq s1 (c_store (j := 1) (k := 1) (ds := [.int u, .int v]) (ds1 := [.int u, .int v]) (b := .loc) (b1 := .loc) (i := 2) (ρ2 := CF x0 u v (ii k) (ii n) (ii 1)) (ρ3 := CF x0 u v (ii k) (ii n) (ii 1)) e5 rfl rfl rfl rfl rfl rfl)⟩
theorem cells_loop {x0 : Option Sv} : ∀ (ns : List Int) (k : Nat) (u v : Int) (x3 x4 x5 : Option Sv), k + ns.length ≤ 900 → ∃ u' v' y3 y4 y5,
    loop (mGtup 2 (mGcons (mN 3) (mGcons (mN 4) mGnil))) cB (enumD k (ns.map .int)) (CF x0 u v x3 x4 x5) = some (.next, CF x0 u' v' y3 y4 y5)
  | [], k, u, v, x3, x4, x5, _ => ⟨u, v, x3, x4, x5, rfl⟩
  | n :: ns, k, u, v, x3, x4, x5, hk => by
    simp only [List.length_cons] at hk
    obtain ⟨u1, v1, y5, e1⟩ := cB_ok (x0 := x0) (x5 := x5) (u := u) (v := v) (n := n) (k := k) (by omega)
    obtain ⟨u2, v2, z3, z4, z5, e2⟩ := cells_loop (x0 := x0) ns (k + 1) u1 v1 (ii k) (ii n) y5 (by omega)
    exact ⟨u2, v2, z3, z4, z5, c_cons (ρ1 := CF x0 u v (ii k) (ii n) x5) rfl e1 e2⟩
theorem cut_ints (ns : List Int) (lo hi : Option Int) : ∃ ms : List Int, Vi.cutD (ns.map .int) lo hi = ms.map .int ∧ ms.length ≤ ns.length := by
  refine ⟨(ns.drop (HT.sIx ns.length 0 lo)).take (HT.sIx ns.length ns.length hi - HT.sIx ns.length 0 lo), ?_, ?_⟩
  · unfold Vi.cutD
    rw [List.length_map, ← List.map_drop, ← List.map_take]
  · rw [List.length_take, List.length_drop]; omega
theorem sc_keys (ns : List Int) : (ns.map fun n => ((.int n : D), (.none : D))).map Prod.fst = ns.map .int := by rw [List.map_map]; rfl
theorem first_two (x y : Int) (ns : List Int) : Vi.cutD ((x :: y :: ns).map PyData.int) none (some 2) = [.int x, .int y] := by
  unfold Vi.cutD
  rw [HT.sIx_none, show (some (2 : Int)) = some ((2 : Nat) : Int) from rfl, HT.sIx_nat]
  have : min 2 ((x :: y :: ns).map PyData.int).length = 2 := by simp
  rw [this]
  rfl
theorem cells_ok {cl : Nat → Fn} (ns : List Int) (h : ns.length ≤ 63) : ∃ ms : List Int, fn23 cl [.imm (scD ns), .imm (.int 2)] = some (.own .loc (ms.map .int), [none, none]) ∧ (ms.length = 1 ∨ ms.length = 2) := by
  match ns, h with
  | [], _ => exact ⟨[0], rfl, .inl rfl⟩
  | [x], _ => exact ⟨[x], by rw [cells_fn]; rfl, .inl rfl⟩
  | x :: y :: ns, h =>
    have hk := sc_keys (x :: y :: ns)
    obtain ⟨ms, e1, hl⟩ := cut_ints (x :: y :: ns) (some 2) (some 63)
    obtain ⟨u, v, y3, y4, y5, e3⟩ := cells_loop (x0 := some (.imm (scD (x :: y :: ns)))) ms 0 x y none none none (by omega)
    refine ⟨[u, v], ?_, .inr rfl⟩
    have e0 := first_two x y ns
    rw [← hk] at e0 e1
    unfold scD at e3 ⊢
    generalize ((x :: y :: ns).map fun n => ((.int n : D), (.none : D))) = kv at e0 e1 e3 ⊢
    have h1 : un dList (mSl (mVar 0) mNoPart (mPart (mVar 1))) [some (.imm (.dict kv)), ii 2, none, none, none, none] = some (.val (.own .loc [.int x, .int y]), [some (.imm (.dict kv)), ii 2, none, none, none, none]) := by
      have hs : mSl (mVar 0) mNoPart (mPart (mVar 1)) [some (.imm (.dict kv)), ii 2, none, none, none, none] = some (.val (.own .loc (Vi.cutD (kv.map Prod.fst) none (some 2))), [some (.imm (.dict kv)), ii 2, none, none, none, none]) := rfl
      rw [e0] at hs
      exact c_un hs rfl rfl
    have s1 : mSet 2 (mOr (un dList (mSl (mVar 0) mNoPart (mPart (mVar 1)))) (mLst (mCons (mC (.int 0)) mNil))) [some (.imm (.dict kv)), ii 2, none, none, none, none] = some (.next, CF (some (.imm (.dict kv))) x y none none none) := by
      refine c_set (pr := .val (.own .loc [.int x, .int y])) (ρ1 := [some (.imm (.dict kv)), ii 2, none, none, none, none]) ?_ rfl
      unfold mOr
      rw [h1]
      rfl
    have hi : mIEnum (mCons (mSl (mVar 0) (mPart (mVar 1)) (mPart (mC (.int 63)))) mNil) (CF (some (.imm (.dict kv))) x y none none none) = some (enumD 0 (ms.map .int), CF (some (.imm (.dict kv))) x y none none none) := by
      have hs : mSl (mVar 0) (mPart (mVar 1)) (mPart (mC (.int 63))) (CF (some (.imm (.dict kv))) x y none none none) = some (.val (.own .loc (Vi.cutD (kv.map Prod.fst) (some 2) (some 63))), CF (some (.imm (.dict kv))) x y none none none) := rfl
      rw [e1] at hs
      unfold mIEnum
      rw [c_acons hs rfl c_anil]
      rfl
    rw [cells_fn]
    exact c_fn (ρ0 := [some (.imm (.dict kv)), ii 2, none, none, none, none]) rfl rfl (c_seq s1 (c_seq (c_for hi e3) (c_ret rfl rfl))) rfl
theorem dGe_int (i j : Int) : dGe (.int i) (.int j) = some (.imm (.bool (decide (j ≤ i)))) := rfl
theorem box_ok {cl : Nat → Fn} {ms : List Int} {k : Nat} (hk : k < ms.length) (hk2 : k < 2) : ∃ a b : Int, fn21 cl [.imm (.list (ms.map .int)), .imm (.int (k : Int))] = some (.own .loc (bx a b 0), [none, none]) := by
  have hx : dIx (.list (ms.map .int)) (.int (k : Int)) = some (.imm (.int ms[k])) := by
    show (L2.atI (ms.map PyData.int) (k : Int)).map Sv.imm = _
    rw [L2.atI_nat (show (ms.map PyData.int)[k]? = some (.int ms[k]) by rw [List.getElem?_map, List.getElem?_eq_getElem hk]; rfl)]
    rfl
  have hlen : dLen (.list (ms.map .int)) = some (.imm (.int ((ms.length : Nat) : Int))) := by
    show some (Sv.imm (.int (((ms.map PyData.int).length : Nat) : Int))) = _
    rw [List.length_map]
  obtain ⟨s, hs⟩ : ∃ s, ms[k] = s := ⟨_, rfl⟩
  rw [hs] at hx
  clear hs
  generalize ms.length = n at *
  generalize ms.map PyData.int = L at *
  have v0 : ∀ y, EV (mVar 0) [some (.imm (.list L)), ii (k : Int), y] (.list L) := fun y => ev_var rfl
  have v1 : ∀ y, EV (mVar 1) [some (.imm (.list L)), ii (k : Int), y] (.int (k : Int)) := fun y => ev_var rfl
  have v2 : EV (mVar 2) [some (.imm (.list L)), ii (k : Int), ii s] (.int s) := ev_var rfl
  have t1 : mB (bin dLt (mVar 1) (un dLen (mVar 0))) [some (.imm (.list L)), ii (k : Int), none] = some (true, [some (.imm (.list L)), ii (k : Int), none]) := by
    have h := c_b (v_bin (f := dLt) (v1 none) (e_un (f := dLen) (v0 none) hlen) (show dLt (.int (k : Int)) (.int (n : Int)) = some (.imm (.bool (decide ((k : Int) < (n : Int))))) from rfl))
    rwa [decide_eq_true (show (k : Int) < (n : Int) by omega)] at h
  have s1 : mSet 2 (mIf (mB (bin dLt (mVar 1) (un dLen (mVar 0)))) (bin dIx (mVar 0) (mVar 1)) (mC (.int 0))) [some (.imm (.list L)), ii (k : Int), none] = some (.next, [some (.imm (.list L)), ii (k : Int), ii s]) :=
    c_set (mif_T t1 (v_bin (v0 none) (v1 none) hx)) rfl
  have habs : dAbs (.int s) = some (.imm (.int (if s < 0 then -s else s))) := rfl
  have hpow : dPow (.int 10) (.int 18) = some (.imm (.int 1000000000000000000)) := rfl
  generalize (if s < 0 then -s else s) = z at habs
  generalize hq : decide ((1000000000000000000 : Int) ≤ z) = q
  have hge : dGe (.int z) (.int 1000000000000000000) = some (.imm (.bool q)) := by rw [dGe_int, hq]
  have m1 : mulOk z (if q = true then 1 else 0) = true := c_mul (by cases q <;> decide)
  have hmul : dMul (.int z) (.int (if q = true then 1 else 0)) = some (.imm (.int (z * (if q = true then 1 else 0)))) := by
    show (if mulOk z _ = true then _ else _) = _
    rw [m1]; rfl
  have m2 : mulOk 39373 (k : Int) = true := c_mul (by omega)
  have hmul2 : dMul (.int 39373) (.int (k : Int)) = some (.imm (.int (39373 * (k : Int)))) := by
    show (if mulOk 39373 (k : Int) = true then some (Sv.imm (.int (39373 * (k : Int)))) else none) = _
    rw [if_pos m2]
  have a1 := e_un (f := dAbs) v2 habs
  have a2 := e_bin (f := dMul) a1 (e_un (f := dInt) (e_bin (f := dGe) a1 (e_bin (f := dPow) (ev_c (d := .int 10)) (ev_c (d := .int 18)) hpow) hge) (show dInt (.bool q) = some (.imm (.int (if q = true then 1 else 0))) from rfl)) hmul
  have hadd : ∀ x y : Int, dAdd (.int x) (.int y) = some (.imm (.int (x + y))) := fun x y => rfl
  have hint : dInt (.int s) = some (.imm (.int s)) := rfl
  have hmod : dMod (.int s) (.int 2305843009213693951) = some (.imm (.int (s % 2305843009213693951))) := rfl
  have a3 := e_bin (f := dAdd) (e_bin (f := dAdd) (e_bin (f := dMod) (e_un (f := dInt) v2 hint) (ev_c (d := .int 2305843009213693951)) hmod) (e_bin (f := dMul) (ev_c (d := .int 39373)) (v1 (ii s)) hmul2) (hadd _ _)) (ev_c (d := .int 13757)) (hadd _ _)
  have a4 := v_lst (ea_cons a2 (ea_cons a3 (ea_cons (ev_c (d := .int 0)) ea_nil))) (by simp)
  refine ⟨z * (if q = true then 1 else 0), s % 2305843009213693951 + 39373 * (k : Int) + 13757, ?_⟩
  unfold fn21
  exact c_fn (ρ0 := [some (.imm (.list L)), ii (k : Int), none]) rfl rfl (c_seq s1 (c_ret a4 rfl)) rfl
/-! the law -/
def oR (cl : Nat → Fn) : ME := (mCallO (cl 38) (mCall (cl 21) (rVal (mVar 1) (rVal (mVar 2) rNil))))
theorem law_fn (cl : Nat → Fn) : fn39 cl = mFn 3 1 (mSeq (mIfS (mNotT (mTru (mCall (cl 37) rNil))) (mRet (mC (.bool false))) mNext) (mSeq (mSet 1 (mCall (cl 23) (rVal (mVar 0) (rVal (mC (.int 2)) rNil)))) (mRet (un dAll (mComp (mIRng1 (mCons (un dLen (mVar 1)) mNil)) (mN 2) mYes (oR cl) [2]))))) := rfl
structure LawP (cl : Nat → Fn) : Prop where
  hand : cl 37 [] = some (.imm (.bool true), [])
  cells : ∀ ns : List Int, ns.length ≤ 63 → ∃ ms : List Int, cl 23 [.imm (scD ns), .imm (.int 2)] = some (.own .loc (ms.map .int), [none, none]) ∧ (ms.length = 1 ∨ ms.length = 2)
  box : ∀ (ms : List Int) (k : Nat), k < ms.length → k < 2 → ∃ a b : Int, cl 21 [.imm (.list (ms.map .int)), .imm (.int (k : Int))] = some (.own .loc (bx a b 0), [none, none])
  right : ∀ a b : Int, ∃ o, cl 38 [.own .par (bx a b 0)] = some (.imm (.bool true), [some o])
theorem oR_ok {cl : Nat → Fn} (P : LawP cl) {x0 x1 : Option Sv} {ms : List Int} {k : Nat} (hk : k < ms.length) (hk2 : k < 2) (h1 : x1 = some (.own .loc (ms.map .int)) ∨ x1 = some (.imm (.list (ms.map .int)))) : oR cl [x0, x1, ii (k : Int)] = some (.val (.imm (.bool true)), [x0, some (.imm (.list (ms.map .int))), ii (k : Int)]) := by
  obtain ⟨a, b, e⟩ := P.box ms k hk hk2
  obtain ⟨o, e2⟩ := P.right a b
  have hc : mCall (cl 21) (rVal (mVar 1) (rVal (mVar 2) rNil)) [x0, x1, ii (k : Int)] = some (.val (.own .loc (bx a b 0)), [x0, some (.imm (.list (ms.map .int))), ii (k : Int)]) := by
    rcases h1 with rfl | rfl
    · exact c_call (as := [.v (.list (ms.map .int)), .v (.int (k : Int))]) rfl rfl rfl e rfl
    · exact c_call (as := [.v (.list (ms.map .int)), .v (.int (k : Int))]) rfl rfl rfl e rfl
  unfold oR mCallO
  rw [hc]
  simp only [e2]
theorem law_gen {cl : Nat → Fn} (P : LawP cl) (ns : List Int) (hl : ns.length ≤ 63) : fn39 cl [.imm (scD ns)] = some (.imm (.bool true), [none]) := by
  obtain ⟨ms, e1, hm⟩ := P.cells ns hl
  have h2 : mCall (cl 37) rNil [some (.imm (scD ns)), none, none] = some (.val (.imm (.bool true)), [some (.imm (scD ns)), none, none]) := c_call rfl rfl rfl P.hand rfl
  have v0 : EV (mVar 0) [some (.imm (scD ns)), none, none] (scD ns) := ev_var rfl
  have s1 : mSet 1 (mCall (cl 23) (rVal (mVar 0) (rVal (mC (.int 2)) rNil))) [some (.imm (scD ns)), none, none] = some (.next, [some (.imm (scD ns)), some (.own .loc (ms.map .int)), none]) := c_set (v_call2 v0 ev_c e1) rfl
  have g : ∃ (es : List D) (x1 : Option Sv), cloop (mN 2) mYes (oR cl) [2] (rngD 0 ms.length) [some (.imm (scD ns)), some (.own .loc (ms.map .int)), none] = some (es, [some (.imm (scD ns)), x1, none]) ∧ fits es.length = true ∧ dAll (.list es) = some (.imm (.bool true)) := by
    rcases hm with hm | hm
    · have q := oR_ok P (x0 := some (.imm (scD ns))) (ms := ms) (k := 0) (by omega) (by omega) (.inl rfl)
      refine ⟨[.bool true], some (.imm (.list (ms.map .int))), ?_, rfl, rfl⟩
      rw [hm]
      exact c_ccons (ρ1 := [some (.imm (scD ns)), some (.own .loc (ms.map .int)), ii ((0 : Nat) : Int)]) rfl rfl q rfl rfl
    · have q := oR_ok P (x0 := some (.imm (scD ns))) (ms := ms) (k := 0) (by omega) (by omega) (.inl rfl)
      have q2 := oR_ok P (x0 := some (.imm (scD ns))) (ms := ms) (k := 1) (by omega) (by omega) (.inr rfl)
      refine ⟨[.bool true, .bool true], some (.imm (.list (ms.map .int))), ?_, rfl, rfl⟩
      rw [hm]
      exact c_ccons (ρ1 := [some (.imm (scD ns)), some (.own .loc (ms.map .int)), ii ((0 : Nat) : Int)]) rfl rfl q rfl (c_ccons (ρ1 := [some (.imm (scD ns)), some (.imm (.list (ms.map .int))), ii ((1 : Nat) : Int)]) rfl rfl q2 rfl rfl)
  obtain ⟨es, ρ2, g1, g2, g3⟩ := g
  have hlen : dLen (.list (ms.map .int)) = some (.imm (.int ((ms.length : Nat) : Int))) := by
    show some (Sv.imm (.int (((ms.map PyData.int).length : Nat) : Int))) = _
    rw [List.length_map]
  generalize scD ns = sc at *
  generalize ms.map PyData.int = L at *
  generalize ms.length = n at *
  have hi : mIRng1 (mCons (un dLen (mVar 1)) mNil) [some (.imm sc), some (.own .loc L), none] = some (rngD 0 n, [some (.imm sc), some (.own .loc L), none]) :=
    c_rng1 (c_acons (c_un rfl rfl hlen) rfl c_anil) (by omega)
  have hc := c_comp (vs := [2]) hi rfl g1 g2 rfl
  rw [law_fn]
  exact c_fn (ρ0 := [some (.imm sc), none, none]) rfl rfl (c_seq (c_ifF (c_not (b := true) (c_tru h2 rfl rfl)) rfl) (c_seq s1 (c_ret (c_un hc rfl g3) rfl))) rfl


end K26

namespace Tr
variable {c : Int → Int → Bool}
/-! turns: what is zero falls, neighbours of one part are joined, neighbours that go together change places -/
def turn2 (c : Int → Int → Bool) (p : Pr) : Row → List Row
  | [] => []
  | q :: t => if p.1 = q.1 then [(p.1, p.2 + q.2) :: t] else if c p.1 q.1 = true then [q :: p :: t] else []
def turn1 (c : Int → Int → Bool) (p : Pr) (r : Row) : List Row := (if p.2 = 0 then [r] else []) ++ turn2 c p r
def turns (c : Int → Int → Bool) : Row → List Row
  | [] => []
  | p :: r => turn1 c p r ++ (turns c r).map (p :: ·)
inductive Rch (c : Int → Int → Bool) (r : Row) : Row → Prop
  | refl : Rch c r r
  | step {t u : Row} : Rch c r t → u ∈ turns c t → Rch c r u
theorem Rch.one {r t : Row} (h : t ∈ turns c r) : Rch c r t := .step .refl h
theorem Rch.trans {r t u : Row} (h : Rch c r t) (k : Rch c t u) : Rch c r u := by
  induction k with
  | refl => exact h
  | step _ q ih => exact .step ih q
theorem turns_cons (p : Pr) {r t : Row} (h : t ∈ turns c r) : p :: t ∈ turns c (p :: r) := by
  unfold turns
  exact List.mem_append_right _ (List.mem_map.mpr ⟨t, h, rfl⟩)
theorem turns_app : ∀ (A : Row) {r t : Row}, t ∈ turns c r → A ++ t ∈ turns c (A ++ r)
  | [], _, _, h => h
  | p :: A, _, _, h => turns_cons p (turns_app A h)
theorem Rch.app (A : Row) {r t : Row} (h : Rch c r t) : Rch c (A ++ r) (A ++ t) := by
  induction h with
  | refl => exact .refl
  | step _ q ih => exact .step ih (turns_app A q)
theorem turn_drop (A B : Row) {p : Pr} (h : p.2 = 0) : A ++ B ∈ turns c (A ++ p :: B) := turns_app A (by
  unfold turns turn1
  rw [if_pos h]
  exact List.mem_append_left _ (List.mem_append_left _ (List.mem_cons_self ..)))
theorem turn_join (A B : Row) {p q : Pr} (h : p.1 = q.1) : A ++ (p.1, p.2 + q.2) :: B ∈ turns c (A ++ p :: q :: B) := turns_app A (by
  unfold turns turn1
  refine List.mem_append_left _ (List.mem_append_right _ ?_)
  rw [turn2, if_pos h]
  exact List.mem_cons_self ..)
theorem turn_swap (hc : Ok c) (A B : Row) {p q : Pr} (h : c p.1 q.1 = true) : A ++ q :: p :: B ∈ turns c (A ++ p :: q :: B) := turns_app A (by
  unfold turns turn1
  refine List.mem_append_left _ (List.mem_append_right _ ?_)
  rw [turn2, if_neg (fun e => by rw [e, hc.irr] at h; cases h), if_pos h]
  exact List.mem_cons_self ..)
theorem turns_inv : ∀ {r t : Row}, t ∈ turns c r → ∃ A B, (∃ p : Pr, p.2 = 0 ∧ r = A ++ p :: B ∧ t = A ++ B) ∨ (∃ p q : Pr, p.1 = q.1 ∧ r = A ++ p :: q :: B ∧ t = A ++ (p.1, p.2 + q.2) :: B) ∨ ∃ p q : Pr, c p.1 q.1 = true ∧ r = A ++ p :: q :: B ∧ t = A ++ q :: p :: B
  | [], _, h => by cases h
  | p :: r, t, h => by
    unfold turns at h
    rcases List.mem_append.mp h with h | h
    · unfold turn1 at h
      rcases List.mem_append.mp h with h | h
      · split at h
        · rename_i h0
          rw [List.mem_singleton] at h
          exact ⟨[], r, .inl ⟨p, h0, rfl, h⟩⟩
        · cases h
      · cases r with
        | nil => cases h
        | cons q s =>
          rw [turn2] at h
          split at h
          · rename_i e
            rw [List.mem_singleton] at h
            exact ⟨[], s, .inr (.inl ⟨p, q, e, rfl, h⟩)⟩
          · split at h
            · rename_i e
              rw [List.mem_singleton] at h
              exact ⟨[], s, .inr (.inr ⟨p, q, e, rfl, h⟩)⟩
            · cases h
    · obtain ⟨u, hu, rfl⟩ := List.mem_map.mp h
      obtain ⟨A, B, hx⟩ := turns_inv hu
      refine ⟨p :: A, B, ?_⟩
      rcases hx with ⟨x, h1, h2, h3⟩ | ⟨x, y, h1, h2, h3⟩ | ⟨x, y, h1, h2, h3⟩
      · exact .inl ⟨x, h1, by rw [h2]; rfl, by rw [h3]; rfl⟩
      · exact .inr (.inl ⟨x, y, h1, by rw [h2]; rfl, by rw [h3]; rfl⟩)
      · exact .inr (.inr ⟨x, y, h1, by rw [h2]; rfl, by rw [h3]; rfl⟩)
theorem turns_len {r t : Row} (h : t ∈ turns c r) : t.length ≤ r.length := by
  obtain ⟨A, B, ⟨p, h1, rfl, rfl⟩ | ⟨p, q, h1, rfl, rfl⟩ | ⟨p, q, h1, rfl, rfl⟩⟩ := turns_inv h <;> simp
theorem turns_stk (hc : Ok c) {r t : Row} (h : t ∈ turns c r) : Eqc c (stk c t []) (stk c r []) := by
  obtain ⟨A, B, ⟨p, h1, rfl, rfl⟩ | ⟨p, q, h1, rfl, rfl⟩ | ⟨p, q, h1, rfl, rfl⟩⟩ := turns_inv h
  · have hr : Red c (stk c A []) := stk_red hc A red_nil
    rw [stk_app, stk_app]
    obtain ⟨a, x⟩ := p
    have h1 : x = 0 := h1
    subst h1
    show Eqc c (stk c B (stk c A [])) (stk c B (push c (stk c A []) (a, 0)))
    rw [push_zero hr]
    exact eqc_refl _
  · have hr : Red c (stk c A []) := stk_red hc A red_nil
    rw [stk_app, stk_app]
    obtain ⟨a, x⟩ := p
    obtain ⟨b, y⟩ := q
    have h1 : a = b := h1
    subst h1
    exact eqc_symm (stk_eq hc B (push_twice hc hr))
  · exact stk_swap hc (by rw [hc.symm]; exact h1) A B
theorem rch_stk (hc : Ok c) {r t : Row} (h : Rch c r t) : Eqc c (stk c t []) (stk c r []) := by
  induction h with
  | refl => exact eqc_refl _
  | step _ q ih => exact eqc_trans (turns_stk hc q) ih
theorem join_le (p : Pr) : ∀ s : Row, (join s p).length ≤ s.length
  | [] => Nat.le_refl _
  | l :: s => by
    rw [join]
    split
    · split
      · simp
      · simp
    · have := join_le p s; simp; exact this
theorem push_le (s : Row) (p : Pr) : (push c s p).length ≤ s.length + 1 := by
  unfold push
  split
  · exact Nat.le_trans (join_le p s) (Nat.le_succ _)
  · split <;> simp
theorem stk_le : ∀ (r s : Row), (stk c r s).length ≤ s.length + r.length
  | [], s => Nat.le_refl _
  | p :: r, s => by
    have h1 := stk_le r (push c s p)
    have h2 := push_le (c := c) s p
    show (stk c r (push c s p)).length ≤ _
    rw [List.length_cons]; omega
theorem rch_low (hc : Ok c) {r t : Row} (h : Rch c r t) : (stk c r []).length ≤ t.length := by
  have h1 := eqc_len hc _ (rch_stk hc h)
  have h2 := stk_le (c := c) t []
  simp at h2; omega
/-! one past others -/
theorem rch_over (hc : Ok c) (p : Pr) : ∀ (B A C : Row), (∀ b ∈ B, c p.1 b.1 = true) → Rch c (A ++ p :: (B ++ C)) (A ++ B ++ p :: C)
  | [], A, C, _ => by simp; exact .refl
  | b :: B, A, C, h => by
    have h1 : Rch c (A ++ p :: (b :: B ++ C)) (A ++ b :: p :: (B ++ C)) := .one (turn_swap hc A _ (h b (List.mem_cons_self ..)))
    have h2 := rch_over hc p B (A ++ [b]) C fun x hx => h x (List.mem_cons_of_mem _ hx)
    have e1 : A ++ [b] ++ p :: (B ++ C) = A ++ b :: p :: (B ++ C) := by simp
    have e2 : A ++ [b] ++ B ++ p :: C = A ++ b :: B ++ p :: C := by simp
    rw [e1, e2] at h2
    exact h1.trans h2
theorem rch_front (hc : Ok c) (p : Pr) : ∀ (B A C : Row), (∀ b ∈ B, c p.1 b.1 = true) → Rch c (A ++ B ++ p :: C) (A ++ p :: (B ++ C))
  | [], A, C, _ => by simp; exact .refl
  | b :: B, A, C, h => by
    have h2 := rch_front hc p B (A ++ [b]) C fun x hx => h x (List.mem_cons_of_mem _ hx)
    have e1 : A ++ [b] ++ B ++ p :: C = A ++ b :: B ++ p :: C := by simp
    have e2 : A ++ [b] ++ p :: (B ++ C) = A ++ b :: p :: (B ++ C) := by simp
    rw [e1, e2] at h2
    refine h2.trans ?_
    have h3 := turn_swap hc A (B ++ C) (p := b) (q := p) (by rw [hc.symm]; exact h b (List.mem_cons_self ..))
    exact .one h3
/-- alike ones reach one another -/
theorem eqc_rch (hc : Ok c) : ∀ (u : Row) {t : Row}, Eqc c u t → Rch c t u
  | [], t, h => by rw [eqc_nil hc h]; exact .refl
  | p :: u, t, h => by
    obtain ⟨A, B, h1, h2, h3⟩ := head_split hc h
    subst h1
    have h4 := rch_front hc p A [] B h2
    exact h4.trans ((eqc_rch hc u h3).app [p])
theorem red_or (hc : Ok c) (t : Row) : Red c t.reverse ∨ ∃ u, Rch c t u ∧ u.length < t.length := by
  by_cases hz : ∀ p ∈ t, p.2 ≠ 0
  · by_cases hn : NP c t
    · exact .inl (np_red hc t.reverse (fun p hp => hz p (List.mem_reverse.mp hp)) (by rw [List.reverse_reverse]; exact hn))
    · right
      refine Classical.byContradiction fun hx => hn fun A p B q C e e2 => Classical.byContradiction fun hb => hx ?_
      have h2 : ∀ b ∈ B, c p.1 b.1 = true := fun b hb' => by
        cases h : c p.1 b.1 with
        | true => rfl
        | false => exact absurd ⟨b, hb', h⟩ hb
      subst e
      refine ⟨A ++ B ++ (p.1, p.2 + q.2) :: C, ?_, by simp⟩
      have h3 := rch_over hc p B A (q :: C) h2
      have e3 : A ++ p :: (B ++ q :: C) = A ++ p :: B ++ q :: C := by simp
      rw [e3] at h3
      exact h3.trans (.one (turn_join (A ++ B) C e2.symm))
  · right
    have ⟨p, hp⟩ : ∃ p, p ∈ t ∧ p.2 = 0 := Classical.byContradiction fun hx => hz fun p hp e => hx ⟨p, hp, e⟩
    obtain ⟨A, B, rfl⟩ := List.append_of_mem hp.1
    exact ⟨A ++ B, .one (turn_drop A B hp.2), by simp⟩
/-- the shortest that are reached: all that are alike to the stack -/
theorem short_iff (hc : Ok c) {r t : Row} : (Rch c r t ∧ t.length = (stk c r []).length) ↔ Eqc c t (stk c r []).reverse := by
  have fwd : ∀ {t : Row}, Rch c r t → t.length = (stk c r []).length → Eqc c t (stk c r []).reverse := fun {t} h hl => by
    rcases red_or hc t with hr | ⟨u, h1, h2⟩
    · have h3 := stk_self (c := c) t.reverse hr
      rw [List.reverse_reverse] at h3
      have h4 := rch_stk hc h
      rw [h3] at h4
      have h5 := eqc_rev h4
      rw [List.reverse_reverse] at h5
      exact h5
    · have := rch_low hc (h.trans h1)
      omega
  refine ⟨fun h => fwd h.1 h.2, fun h => ?_⟩
  have ex : ∀ (n : Nat) (t : Row), t.length ≤ n → Rch c r t → ∃ u, Rch c r u ∧ u.length = (stk c r []).length := by
    intro n
    induction n with
    | zero =>
      intro t hl h
      have := rch_low hc h
      exact ⟨t, h, by omega⟩
    | succ n ih =>
      intro t hl h
      rcases red_or hc t with hr | ⟨u, h1, h2⟩
      · have h3 := stk_self (c := c) t.reverse hr
        rw [List.reverse_reverse] at h3
        have h4 := eqc_len hc _ (rch_stk hc h)
        rw [h3, List.length_reverse] at h4
        exact ⟨t, h, h4⟩
      · exact ih u (by omega) (h.trans h1)
  obtain ⟨u, h1, h2⟩ := ex r.length r (Nat.le_refl _) .refl
  have h3 := fwd h1 h2
  refine ⟨h1.trans (eqc_rch hc t (eqc_trans h (eqc_symm h3))), ?_⟩
  rw [eqc_len hc _ h, List.length_reverse]
def lexLt : List Int → List Int → Prop
  | a :: as, b :: bs => a < b ∨ (a = b ∧ lexLt as bs)
  | _, _ => False
theorem fore_part (hc : Ok c) {p q : Pr} {r : Row} (hp : p ∈ fore c [] r) (hq : q ∈ fore c [] r) (h : p.1 = q.1) : p = q := by
  have h1 := fore_head hc hp (hc.irr p.1)
  have h2 := fore_head hc hq (hc.irr q.1)
  rw [h, h2] at h1
  exact (Option.some.inj h1).symm
theorem lo_least (hc : Ok c) : ∀ (n : Nat) {u s : Row}, s.length ≤ n → Eqc c u s → lo c n s = u ∨ lexLt ((lo c n s).map Prod.fst) (u.map Prod.fst)
  | 0, u, s, hl, h => by
    have hs : s = [] := List.eq_nil_of_length_eq_zero (by omega)
    subst hs
    left
    exact (eqc_nil hc (eqc_symm h)).symm
  | n + 1, [], s, hl, h => by
    rw [eqc_nil hc h]; left; rfl
  | n + 1, p :: u, s, hl, h => by
    have hp : p ∈ fore c [] s := (fore_mem hc h p).mp (by rw [fore, if_pos (by rfl)]; exact List.mem_cons_self ..)
    have hd : (fore c [] s).Pairwise (fun x y => x.1 ≠ y.1) := (fore_once hc s []).1.imp fun k e => by rw [e, hc.irr] at k; cases k
    have ha := srt_asc hd
    rw [lo]
    split
    · rename_i hs
      have := srt_mem.mpr hp
      rw [hs] at this; cases this
    · rename_i q z hs
      have hq : q ∈ fore c [] s := srt_head hs
      have hle : q.1 ≤ p.1 := by
        have h1 := srt_mem.mpr hp
        rw [hs] at h1 ha
        rcases List.mem_cons.mp h1 with e | h1
        · rw [e]; exact Int.le_refl _
        · exact Int.le_of_lt ((List.pairwise_cons.mp ha).1 p h1)
      by_cases hlt : q.1 < p.1
      · right; exact .inl hlt
      · have e : q.1 = p.1 := by omega
        have e' := fore_part hc hq hp e
        subst e'
        have h1 := dropF_prj hc hq
        have h2 : Eqc c u (dropF q.1 s) := tail_eq hc (p := q) (eqc_trans h (eqc_symm h1.1))
        rcases lo_least hc n (by omega) h2 with e | e
        · left; rw [e]
        · right; exact .inr ⟨rfl, e⟩
/-- what less lets go together reaches, more does too -/
theorem turns_more {d : Int → Int → Bool} (hc : Ok c) (hd : Ok d) {r t : Row} (h : t ∈ turns c r) (k : ∀ p ∈ r, ∀ q ∈ r, c p.1 q.1 = true → d p.1 q.1 = true) : t ∈ turns d r := by
  obtain ⟨A, B, ⟨p, h1, rfl, rfl⟩ | ⟨p, q, h1, rfl, rfl⟩ | ⟨p, q, h1, rfl, rfl⟩⟩ := turns_inv h
  · exact turn_drop A B h1
  · exact turn_join A B h1
  · exact turn_swap hd A B (k p (by simp) q (by simp) h1)
theorem turns_part {P : Int → Prop} {r t : Row} (h : t ∈ turns c r) (k : ∀ p ∈ r, P p.1) : ∀ p ∈ t, P p.1 := by
  obtain ⟨A, B, ⟨p, h1, rfl, rfl⟩ | ⟨p, q, h1, rfl, rfl⟩ | ⟨p, q, h1, rfl, rfl⟩⟩ := turns_inv h
  · exact fun x hx => k x (by rcases List.mem_append.mp hx with h | h <;> simp [h])
  · intro x hx
    rcases List.mem_append.mp hx with h | h
    · exact k x (by simp [h])
    · rcases List.mem_cons.mp h with rfl | h
      · exact k p (by simp)
      · exact k x (by simp [h])
  · exact fun x hx => k x (by
      rcases List.mem_append.mp hx with h | h
      · simp [h]
      · rcases List.mem_cons.mp h with rfl | h
        · simp
        · rcases List.mem_cons.mp h with rfl | h
          · simp
          · simp [h])
theorem rch_part {P : Int → Prop} {r t : Row} (h : Rch c r t) (k : ∀ p ∈ r, P p.1) : ∀ p ∈ t, P p.1 := by
  induction h with
  | refl => exact k
  | step _ q ih => exact turns_part q ih
theorem rch_more {d : Int → Int → Bool} (hc : Ok c) (hd : Ok d) {P : Int → Prop} (k : ∀ a b, P a → P b → c a b = true → d a b = true) {r t : Row} (h : Rch c r t) (hp : ∀ p ∈ r, P p.1) : Rch d r t := by
  induction h with
  | refl => exact .refl
  | step h1 q ih => exact .step ih (turns_more hc hd q fun x hx y hy => k x.1 y.1 (rch_part h1 hp x hx) (rch_part h1 hp y hy))
theorem stk_more {d : Int → Int → Bool} (hc : Ok c) (hd : Ok d) {P : Int → Prop} (k : ∀ a b, P a → P b → c a b = true → d a b = true) {r t : Row} (hr : ∀ p ∈ r, P p.1) (ht : ∀ p ∈ t, P p.1) (h : Eqc c (stk c r []) (stk c t [])) : Eqc d (stk d r []) (stk d t []) := by
  have h1 := (short_iff hc (r := r) (t := (stk c r []).reverse)).mpr (eqc_refl _)
  have h2 := (short_iff hc (r := t) (t := (stk c r []).reverse)).mpr (eqc_rev h)
  exact eqc_trans (eqc_symm (rch_stk hd (rch_more hc hd k h1.1 hr))) (rch_stk hd (rch_more hc hd k h2.1 ht))
end Tr

namespace Tr
variable {c : Int → Int → Bool}
/-! what is reached is little -/
theorem nodup_le {α : Type} [DecidableEq α] : ∀ (l D : List α), l.Nodup → (∀ x ∈ l, x ∈ D) → l.length ≤ D.length
  | [], _, _, _ => Nat.zero_le _
  | x :: l, D, hn, hs => by
    obtain ⟨h1, h2⟩ := List.nodup_cons.mp hn
    have hx : x ∈ D := hs x List.mem_cons_self
    have ih := nodup_le l (D.erase x) h2 fun y hy => by
      have hne : y ≠ x := fun e => h1 (e ▸ hy)
      exact (List.mem_erase_of_ne hne).2 (hs y (List.mem_cons_of_mem _ hy))
    have e := List.length_erase_of_mem hx
    have hp : 0 < D.length := List.length_pos_of_mem hx
    rw [List.length_cons]
    omega
def words (A : Nat) : Nat → List (List Nat)
  | 0 => [[]]
  | n + 1 => [] :: (List.range A).flatMap fun m => (words A n).map (m :: ·)
theorem flat_len (W : List (List Nat)) : ∀ L : List Nat, (L.flatMap fun m => W.map (m :: ·)).length = L.length * W.length
  | [] => by simp
  | x :: L => by
    rw [List.flatMap_cons, List.length_append, flat_len W L, List.length_map, List.length_cons, Nat.succ_mul, Nat.add_comm]
theorem words_len (A n : Nat) : (words A (n + 1)).length = 1 + A * (words A n).length := by
  rw [words, List.length_cons, flat_len, List.length_range, Nat.add_comm]
theorem words_mem (A : Nat) : ∀ (n : Nat) (ms : List Nat), ms.length ≤ n → (∀ m ∈ ms, m < A) → ms ∈ words A n
  | 0, ms, h, _ => by
    have : ms = [] := List.eq_nil_of_length_eq_zero (by omega)
    rw [this]; exact List.mem_cons_self ..
  | n + 1, [], _, _ => List.mem_cons_self ..
  | n + 1, m :: ms, h, k => by
    refine List.mem_cons_of_mem _ (List.mem_flatMap.mpr ⟨m, List.mem_range.mpr (k m (List.mem_cons_self ..)), List.mem_map.mpr ⟨ms, words_mem A n ms (by simpa using h) fun x hx => k x (List.mem_cons_of_mem _ hx), rfl⟩⟩)
def xa (r : Row) (i : Nat) : Int := (r[i]?.map Prod.snd).getD 0
def b0 (m : Nat) : Nat := m % 2
def b1 (m : Nat) : Nat := m / 2 % 2
def b2 (m : Nat) : Nat := m / 4 % 2
def b3 (m : Nat) : Nat := m / 8 % 2
def V (r : Row) (m : Nat) : Int := (b0 m : Int) * xa r 0 + (b1 m : Int) * xa r 1 + (b2 m : Int) * xa r 2 + (b3 m : Int) * xa r 3
theorem masks : ∀ m : Fin 16, ∀ k : Fin 16, m.val &&& k.val = 0 → m.val + k.val < 16 ∧ b0 (m.val + k.val) = b0 m.val + b0 k.val ∧ b1 (m.val + k.val) = b1 m.val + b1 k.val ∧ b2 (m.val + k.val) = b2 m.val + b2 k.val ∧ b3 (m.val + k.val) = b3 m.val + b3 k.val := by decide +kernel
theorem masks3 : ∀ m : Fin 16, ∀ k : Fin 16, ∀ j : Fin 16, m.val &&& k.val = 0 → m.val &&& j.val = 0 → k.val &&& j.val = 0 → (m.val + k.val) &&& j.val = 0 := by decide +kernel
theorem V_add (r : Row) {m k : Nat} (hm : m < 16) (hk : k < 16) (h : m &&& k = 0) : m + k < 16 ∧ V r (m + k) = V r m + V r k := by
  obtain ⟨h1, h2, h3, h4, h5⟩ := masks ⟨m, hm⟩ ⟨k, hk⟩ h
  refine ⟨h1, ?_⟩
  have h2 : b0 (m + k) = b0 m + b0 k := h2
  have h3 : b1 (m + k) = b1 m + b1 k := h3
  have h4 : b2 (m + k) = b2 m + b2 k := h4
  have h5 : b3 (m + k) = b3 m + b3 k := h5
  unfold V
  rw [h2, h3, h4, h5, Int.natCast_add, Int.natCast_add, Int.natCast_add, Int.natCast_add, Int.add_mul, Int.add_mul, Int.add_mul, Int.add_mul]
  have e : ∀ a b c d e f g h : Int, a + b + (c + d) + (e + f) + (g + h) = a + c + e + g + (b + d + f + h) := by intros; omega
  exact e _ _ _ _ _ _ _ _
def sy (r : Row) (z : Nat) : Pr := (((z / 16 : Nat) : Int), V r (z % 16))
def dj (y z : Nat) : Prop := (y % 16) &&& (z % 16) = 0
theorem dj_comm {y z : Nat} (h : dj y z) : dj z y := by unfold dj at *; rw [Nat.and_comm]; exact h
structure Lab (r t : Row) (ms : List Nat) : Prop where
  eq : t = ms.map (sy r)
  len : ms.length ≤ 4
  low : ∀ z ∈ ms, z < 48
  apart : ms.Pairwise dj
theorem lab_turn {r t u : Row} {ms : List Nat} (h : Lab r t ms) (k : u ∈ turns c t) : ∃ ms', Lab r u ms' := by
  obtain ⟨h1, h2, h3, h4⟩ := h
  obtain ⟨A, B, ⟨p, g1, e1, e2⟩ | ⟨p, q, g1, e1, e2⟩ | ⟨p, q, g1, e1, e2⟩⟩ := turns_inv k
  · rw [h1] at e1
    obtain ⟨a, b', rfl, ha, hb⟩ := List.map_eq_append_iff.mp e1
    obtain ⟨z, b, rfl, hz, hb⟩ := List.map_eq_cons_iff.mp hb
    refine ⟨a ++ b, by rw [e2, List.map_append, ha, hb], by simp at h2 ⊢; omega, fun x hx => h3 x (by
      rcases List.mem_append.mp hx with h | h <;> simp [h]), ?_⟩
    have := List.pairwise_append.mp h4
    exact List.pairwise_append.mpr ⟨this.1, (List.pairwise_cons.mp this.2.1).2, fun x hx y hy => this.2.2 x hx y (List.mem_cons_of_mem _ hy)⟩
  · rw [h1] at e1
    obtain ⟨a, b', rfl, ha, hb⟩ := List.map_eq_append_iff.mp e1
    obtain ⟨z, b', rfl, hz, hb⟩ := List.map_eq_cons_iff.mp hb
    obtain ⟨w, b, rfl, hw, hb⟩ := List.map_eq_cons_iff.mp hb
    have P := List.pairwise_append.mp h4
    have Q := List.pairwise_cons.mp P.2.1
    have Q2 := List.pairwise_cons.mp Q.2
    have d : dj z w := Q.1 w (List.mem_cons_self ..)
    have hz3 := h3 z (by simp)
    have hw3 := h3 w (by simp)
    have l1 : z % 16 < 16 := Nat.mod_lt _ (by decide)
    have l2 : w % 16 < 16 := Nat.mod_lt _ (by decide)
    obtain ⟨v1, v2⟩ := V_add r l1 l2 d
    have part : z / 16 = w / 16 := by
      rw [← hz, ← hw] at g1
      have : ((z / 16 : Nat) : Int) = ((w / 16 : Nat) : Int) := g1
      omega
    have n1 : (z / 16 * 16 + (z % 16 + w % 16)) / 16 = z / 16 := by omega
    have n2 : (z / 16 * 16 + (z % 16 + w % 16)) % 16 = z % 16 + w % 16 := by omega
    have dd : ∀ x, dj z x → dj w x → dj (z / 16 * 16 + (z % 16 + w % 16)) x := fun x k1 k2 => by
      unfold dj at *
      rw [n2]
      exact masks3 ⟨z % 16, l1⟩ ⟨w % 16, l2⟩ ⟨x % 16, Nat.mod_lt _ (by decide)⟩ d k1 k2
    refine ⟨a ++ (z / 16 * 16 + (z % 16 + w % 16)) :: b, ?_, by simp at h2 ⊢; omega, fun x hx => ?_, ?_⟩
    · rw [e2, List.map_append, List.map_cons, ha, hb]
      congr 2
      unfold sy
      rw [n1, n2, v2, ← hz, ← hw]
      rfl
    · rcases List.mem_append.mp hx with h | h
      · exact h3 x (by simp [h])
      · rcases List.mem_cons.mp h with rfl | h
        · omega
        · exact h3 x (by simp [h])
    · refine List.pairwise_append.mpr ⟨P.1, List.pairwise_cons.mpr ⟨fun x hx => dd x (Q.1 x (List.mem_cons_of_mem _ hx)) (Q2.1 x hx), Q2.2⟩, fun x hx y hy => ?_⟩
      rcases List.mem_cons.mp hy with rfl | hy
      · exact dj_comm (dd x (dj_comm (P.2.2 x hx z (by simp))) (dj_comm (P.2.2 x hx w (by simp))))
      · exact P.2.2 x hx y (by simp [hy])
  · rw [h1] at e1
    obtain ⟨a, b', rfl, ha, hb⟩ := List.map_eq_append_iff.mp e1
    obtain ⟨z, b', rfl, hz, hb⟩ := List.map_eq_cons_iff.mp hb
    obtain ⟨w, b, rfl, hw, hb⟩ := List.map_eq_cons_iff.mp hb
    have P := List.pairwise_append.mp h4
    have Q := List.pairwise_cons.mp P.2.1
    have Q2 := List.pairwise_cons.mp Q.2
    refine ⟨a ++ w :: z :: b, by rw [e2, List.map_append, List.map_cons, List.map_cons, ha, hz, hw, hb], by simp at h2 ⊢; omega, fun x hx => h3 x (by
      rcases List.mem_append.mp hx with h | h
      · simp [h]
      · rcases List.mem_cons.mp h with rfl | h
        · simp
        · rcases List.mem_cons.mp h with rfl | h <;> simp [*]), ?_⟩
    refine List.pairwise_append.mpr ⟨P.1, List.pairwise_cons.mpr ⟨fun x hx => ?_, List.pairwise_cons.mpr ⟨fun x hx => Q.1 x (List.mem_cons_of_mem _ hx), Q2.2⟩⟩, fun x hx y hy => P.2.2 x hx y (by
      rcases List.mem_cons.mp hy with rfl | h
      · simp
      · rcases List.mem_cons.mp h with rfl | h <;> simp [*])⟩
    rcases List.mem_cons.mp hx with rfl | hx
    · exact dj_comm (Q.1 w (List.mem_cons_self ..))
    · exact Q2.1 x hx
theorem lab_start {r : Row} (hl : r.length ≤ 4) (hp : ∀ p ∈ r, 0 ≤ p.1 ∧ p.1 < 3) : ∃ ms, Lab r r ms := by
  match r, hl, hp with
  | [], _, _ => exact ⟨[], ⟨rfl, by decide, fun _ h => (by cases h), List.Pairwise.nil⟩⟩
  | [(a, x)], _, hp =>
    have h0 := hp _ (List.mem_cons_self ..)
    obtain ⟨a, rfl⟩ := Int.eq_ofNat_of_zero_le h0.1
    have g0 : a < 3 := by have := h0.2; simp at this; omega
    refine ⟨[a * 16 + 1], ?_, by simp, by simp; omega, by simp⟩
    have e1 : (a * 16 + 1) / 16 = a := by omega
    have e2 : (a * 16 + 1) % 16 = 1 := by omega
    simp only [List.map_cons, List.map_nil, sy, e1, e2, V, xa, b0, b1, b2, b3]
    simp
  | [(a, x), (b, y)], _, hp =>
    have h0 := hp (a, x) (by simp)
    have h1 := hp (b, y) (by simp)
    obtain ⟨a, rfl⟩ := Int.eq_ofNat_of_zero_le h0.1
    obtain ⟨b, rfl⟩ := Int.eq_ofNat_of_zero_le h1.1
    have g0 : a < 3 := by have := h0.2; simp at this; omega
    have g1 : b < 3 := by have := h1.2; simp at this; omega
    have e1 : (a * 16 + 1) / 16 = a := by omega
    have e2 : (a * 16 + 1) % 16 = 1 := by omega
    have e3 : (b * 16 + 2) / 16 = b := by omega
    have e4 : (b * 16 + 2) % 16 = 2 := by omega
    have d1 : dj (a * 16 + 1) (b * 16 + 2) := by unfold dj; rw [e2, e4]; rfl
    refine ⟨[a * 16 + 1, b * 16 + 2], ?_, by simp, by simp; omega, .cons (fun y hy => by
      simp only [List.mem_cons, List.not_mem_nil, or_false] at hy
      subst hy; exact d1) (.cons (fun y hy => by cases hy) .nil)⟩
    simp only [List.map_cons, List.map_nil, sy, e1, e2, e3, e4, V, xa, b0, b1, b2, b3]
    simp
  | [(a, x), (b, y), (d, z)], _, hp =>
    have h0 := hp (a, x) (by simp)
    have h1 := hp (b, y) (by simp)
    have h2 := hp (d, z) (by simp)
    obtain ⟨a, rfl⟩ := Int.eq_ofNat_of_zero_le h0.1
    obtain ⟨b, rfl⟩ := Int.eq_ofNat_of_zero_le h1.1
    obtain ⟨d, rfl⟩ := Int.eq_ofNat_of_zero_le h2.1
    have g0 : a < 3 := by have := h0.2; simp at this; omega
    have g1 : b < 3 := by have := h1.2; simp at this; omega
    have g2 : d < 3 := by have := h2.2; simp at this; omega
    have e1 : (a * 16 + 1) / 16 = a := by omega
    have e2 : (a * 16 + 1) % 16 = 1 := by omega
    have e3 : (b * 16 + 2) / 16 = b := by omega
    have e4 : (b * 16 + 2) % 16 = 2 := by omega
    have e5 : (d * 16 + 4) / 16 = d := by omega
    have e6 : (d * 16 + 4) % 16 = 4 := by omega
    have d1 : dj (a * 16 + 1) (b * 16 + 2) := by unfold dj; rw [e2, e4]; rfl
    have d2 : dj (a * 16 + 1) (d * 16 + 4) := by unfold dj; rw [e2, e6]; rfl
    have d3 : dj (b * 16 + 2) (d * 16 + 4) := by unfold dj; rw [e4, e6]; rfl
    refine ⟨[a * 16 + 1, b * 16 + 2, d * 16 + 4], ?_, by simp, by simp; omega, .cons (fun y hy => by
      simp only [List.mem_cons, List.not_mem_nil, or_false] at hy
      rcases hy with rfl | rfl <;> assumption) (.cons (fun y hy => by
      simp only [List.mem_cons, List.not_mem_nil, or_false] at hy
      subst hy; exact d3) (.cons (fun y hy => by cases hy) .nil))⟩
    simp only [List.map_cons, List.map_nil, sy, e1, e2, e3, e4, e5, e6, V, xa, b0, b1, b2, b3]
    simp
  | [(a, x), (b, y), (d, z), (e, w)], _, hp =>
    have h0 := hp (a, x) (by simp)
    have h1 := hp (b, y) (by simp)
    have h2 := hp (d, z) (by simp)
    have h3 := hp (e, w) (by simp)
    obtain ⟨a, rfl⟩ := Int.eq_ofNat_of_zero_le h0.1
    obtain ⟨b, rfl⟩ := Int.eq_ofNat_of_zero_le h1.1
    obtain ⟨d, rfl⟩ := Int.eq_ofNat_of_zero_le h2.1
    obtain ⟨e, rfl⟩ := Int.eq_ofNat_of_zero_le h3.1
    have g0 : a < 3 := by have := h0.2; simp at this; omega
    have g1 : b < 3 := by have := h1.2; simp at this; omega
    have g2 : d < 3 := by have := h2.2; simp at this; omega
    have g3 : e < 3 := by have := h3.2; simp at this; omega
    have e1 : (a * 16 + 1) / 16 = a := by omega
    have e2 : (a * 16 + 1) % 16 = 1 := by omega
    have e3 : (b * 16 + 2) / 16 = b := by omega
    have e4 : (b * 16 + 2) % 16 = 2 := by omega
    have e5 : (d * 16 + 4) / 16 = d := by omega
    have e6 : (d * 16 + 4) % 16 = 4 := by omega
    have e7 : (e * 16 + 8) / 16 = e := by omega
    have e8 : (e * 16 + 8) % 16 = 8 := by omega
    have d1 : dj (a * 16 + 1) (b * 16 + 2) := by unfold dj; rw [e2, e4]; rfl
    have d2 : dj (a * 16 + 1) (d * 16 + 4) := by unfold dj; rw [e2, e6]; rfl
    have d3 : dj (b * 16 + 2) (d * 16 + 4) := by unfold dj; rw [e4, e6]; rfl
    have d4 : dj (a * 16 + 1) (e * 16 + 8) := by unfold dj; rw [e2, e8]; rfl
    have d5 : dj (b * 16 + 2) (e * 16 + 8) := by unfold dj; rw [e4, e8]; rfl
    have d6 : dj (d * 16 + 4) (e * 16 + 8) := by unfold dj; rw [e6, e8]; rfl
    refine ⟨[a * 16 + 1, b * 16 + 2, d * 16 + 4, e * 16 + 8], ?_, by simp, by simp; omega, .cons (fun y hy => by
      simp only [List.mem_cons, List.not_mem_nil, or_false] at hy
      rcases hy with rfl | rfl | rfl <;> assumption) (.cons (fun y hy => by
      simp only [List.mem_cons, List.not_mem_nil, or_false] at hy
      rcases hy with rfl | rfl <;> assumption) (.cons (fun y hy => by
      simp only [List.mem_cons, List.not_mem_nil, or_false] at hy
      subst hy; exact d6) (.cons (fun y hy => by cases hy) .nil)))⟩
    simp only [List.map_cons, List.map_nil, sy, e1, e2, e3, e4, e5, e6, e7, e8, V, xa, b0, b1, b2, b3]
    simp
  | _ :: _ :: _ :: _ :: _ :: _, hl, _ => simp at hl
theorem rch_lab {r t : Row} (h : Rch c r t) (hl : r.length ≤ 4) (hp : ∀ p ∈ r, 0 ≤ p.1 ∧ p.1 < 3) : ∃ ms, Lab r t ms := by
  induction h with
  | refl => exact lab_start hl hp
  | step _ q ih =>
    obtain ⟨ms, h⟩ := ih
    exact lab_turn h q
theorem few {r : Row} {S : List Row} (hl : r.length ≤ 4) (hp : ∀ p ∈ r, 0 ≤ p.1 ∧ p.1 < 3) (hn : S.Nodup) (h : ∀ t ∈ S, Rch c r t) : S.length ≤ 5421361 := by
  have h1 := nodup_le S ((words 48 4).map fun ms => ms.map (sy r)) hn fun t ht => by
    obtain ⟨ms, k⟩ := rch_lab (h t ht) hl hp
    exact List.mem_map.mpr ⟨ms, words_mem 48 4 ms k.len k.low, k.eq.symm⟩
  have e : (words 48 4).length = 5421361 := by
    rw [words_len, words_len, words_len, words_len]
    show 1 + 48 * (1 + 48 * (1 + 48 * (1 + 48 * 1))) = 5421361
    decide
  rw [List.length_map, e] at h1
  exact h1
theorem eqc_mem (hc : Ok c) {t s : Row} (h : Eqc c t s) {p : Pr} (hp : p ∈ t) : p ∈ s := by
  have h1 := mem_prj (a := p.1) (b := p.1) hp (.inl rfl)
  rw [h p.1 p.1 (hc.irr _)] at h1
  exact (prj_mem h1).1
theorem at_words {s : Row} (hl : s.length ≤ 4) : ∀ t : Row, (∀ p ∈ t, p ∈ s) → ∃ ms : List Nat, ms.length = t.length ∧ (∀ m ∈ ms, m < 4) ∧ ms.map (fun m => (s[m]?).getD (0, 0)) = t
  | [], _ => ⟨[], rfl, fun _ h => (by cases h), rfl⟩
  | p :: t, h => by
    obtain ⟨ms, h1, h2, h3⟩ := at_words hl t fun q hq => h q (List.mem_cons_of_mem _ hq)
    obtain ⟨m, hm, e⟩ := List.mem_iff_getElem.mp (h p (List.mem_cons_self ..))
    refine ⟨m :: ms, by rw [List.length_cons, List.length_cons, h1], fun x hx => ?_, ?_⟩
    · rcases List.mem_cons.mp hx with rfl | hx
      · omega
      · exact h2 x hx
    · rw [List.map_cons, h3, List.getElem?_eq_getElem hm, e]; rfl
theorem eqc_few (hc : Ok c) {s : Row} {X : List Row} (hl : s.length ≤ 4) (hn : X.Nodup) (h : ∀ t ∈ X, Eqc c t s) : X.length ≤ 341 := by
  have h1 := nodup_le X ((words 4 4).map fun ms => ms.map fun m => (s[m]?).getD (0, 0)) hn fun t ht => by
    obtain ⟨ms, k1, k2, k3⟩ := at_words hl t fun p hp => eqc_mem hc (h t ht) hp
    have := eqc_len hc _ (h t ht)
    exact List.mem_map.mpr ⟨ms, words_mem 4 4 ms (by omega) k2, k3⟩
  have e : (words 4 4).length = 341 := by
    rw [words_len, words_len, words_len, words_len]
    show 1 + 4 * (1 + 4 * (1 + 4 * (1 + 4 * 1))) = 341
    decide
  rw [List.length_map, e] at h1
  exact h1
/-! one by one -/
def addAll : List Row → List Row → List Row
  | S, [] => S
  | S, x :: xs => if x ∈ S then addAll S xs else addAll (S ++ [x]) xs
theorem addAll_pre : ∀ (xs S : List Row), ∃ N, addAll S xs = S ++ N
  | [], S => ⟨[], by rw [addAll, List.append_nil]⟩
  | x :: xs, S => by
    rw [addAll]
    split
    · exact addAll_pre xs S
    · obtain ⟨N, h⟩ := addAll_pre xs (S ++ [x])
      exact ⟨x :: N, by rw [h]; simp⟩
theorem addAll_mem {y : Row} : ∀ (xs S : List Row), y ∈ addAll S xs ↔ y ∈ S ∨ y ∈ xs
  | [], S => by rw [addAll]; simp
  | x :: xs, S => by
    rw [addAll]
    split
    · rename_i hx
      rw [addAll_mem xs S, List.mem_cons]
      constructor
      · rintro (h | h)
        · exact .inl h
        · exact .inr (.inr h)
      · rintro (h | rfl | h)
        · exact .inl h
        · exact .inl hx
        · exact .inr h
    · rw [addAll_mem xs (S ++ [x]), List.mem_append, List.mem_singleton, List.mem_cons, or_assoc]
theorem addAll_nodup : ∀ (xs S : List Row), S.Nodup → (addAll S xs).Nodup
  | [], S, h => by rw [addAll]; exact h
  | x :: xs, S, h => by
    rw [addAll]
    split
    · exact addAll_nodup xs S h
    · rename_i hx
      refine addAll_nodup xs _ (List.nodup_append.mpr ⟨h, by simp, fun a ha b hb e => ?_⟩)
      rw [List.mem_singleton] at hb
      exact hx (hb ▸ e ▸ ha)
theorem addAll_app : ∀ (xs ys S : List Row), addAll S (xs ++ ys) = addAll (addAll S xs) ys
  | [], ys, S => rfl
  | x :: xs, ys, S => by
    rw [List.cons_append, addAll, addAll]
    split
    · exact addAll_app xs ys S
    · exact addAll_app xs ys _
end Tr

namespace K26
open PySem Vi PyProof.Rows
/-! turns -/
abbrev rr (r : Row) : Option Sv := some (.imm (rowD r))
abbrev mm (M : List (Int × Int)) : Option Sv := some (.imm (metD M))
abbrev TF (r : Row) (M : List (Int × Int)) (L : List D) (x3 x4 x5 : Option Sv) : Fm := [rr r, mm M, oo L, x3, x4, x5]
def uD : MS := (mIfS (mB (bin dEq (bin dIx (bin dIx (bin dIx (mVar 0) (mVar 3)) (mC (.int 1))) (mC (.int 0))) (mC (.int 0)))) (mDrop (mApp 2 (bin dAdd (mSl (mVar 0) mNoPart (mPart (mVar 3))) (mSl (mVar 0) (mPart (bin dAdd (mVar 3) (mC (.int 1)))) mNoPart)))) mNext)
def uP : MS := (mPar 4 5 (bin dIx (mVar 0) (mVar 3)) (bin dIx (mVar 0) (bin dAdd (mVar 3) (mC (.int 1)))))
def uS : MS := (mDrop (mApp 2 (bin dAdd (bin dAdd (mSl (mVar 0) mNoPart (mPart (mVar 3))) (mTup (mCons (mVar 5) (mCons (mVar 4) mNil)))) (mSl (mVar 0) (mPart (bin dAdd (mVar 3) (mC (.int 2)))) mNoPart))))
def uN (cl : Nat → Fn) : ME := (mTup (mCons (mTup (mCons (bin dIx (mVar 4) (mC (.int 0))) (mCons (mCall (cl 26) (rVal (bin dIx (mVar 4) (mC (.int 1))) (rVal (bin dIx (mVar 5) (mC (.int 1))) rNil))) mNil))) mNil))
def uJ (cl : Nat → Fn) : MS := (mDrop (mApp 2 (bin dAdd (bin dAdd (mSl (mVar 0) mNoPart (mPart (mVar 3))) (uN cl)) (mSl (mVar 0) (mPart (bin dAdd (mVar 3) (mC (.int 2)))) mNoPart))))
def uT (cl : Nat → Fn) : MT := (mTru (mCall (cl 30) (rVal (bin dIx (mVar 4) (mC (.int 0))) (rVal (bin dIx (mVar 5) (mC (.int 0))) (rVal (mVar 1) rNil)))))
def uE : MT := (mB (bin dEq (bin dIx (mVar 4) (mC (.int 0))) (bin dIx (mVar 5) (mC (.int 0)))))
def uL : MT := (mB (bin dLt (bin dAdd (mVar 3) (mC (.int 1))) (un dLen (mVar 0))))
def uB (cl : Nat → Fn) : MS := mSeq uD (mIfS uL (mSeq uP (mIfS uE (uJ cl) (mIfS (uT cl) uS mNext))) mNext)
theorem turns_fn (cl : Nat → Fn) : fn32 cl = mFn 6 2 (mSeq (mSet 2 (mLst mNil)) (mSeq (mFor (mIRng1 (mCons (un dLen (mVar 0)) mNil)) (mN 3) (uB cl)) (mRet (mVar 2)))) := rfl
section
variable {cl : Nat → Fn} {M : List (Int × Int)} {r A B : Row} {p q : Pr} {L : List D} {k : Nat} {x3 x4 x5 : Option Sv}
theorem u_to (hs : k ≤ r.length) : mSl (mVar 0) mNoPart (mPart (mVar 3)) (TF r M L (ii (k : Int)) x4 x5) = some (.val (.imm (.tuple (dsD (r.take k)))), TF r M L (ii (k : Int)) x4 x5) := by
  have hc := cut_to (dsD r) k (by rw [dsD_len]; exact hs)
  rw [ds_tk] at hc
  have : mSl (mVar 0) mNoPart (mPart (mVar 3)) (TF r M L (ii (k : Int)) x4 x5) = some (.val (.imm (.tuple (Vi.cutD (dsD r) none (some (k : Int))))), TF r M L (ii (k : Int)) x4 x5) := rfl
  rw [this, hc]
theorem u_off1 (hs : k + 1 ≤ r.length) : mSl (mVar 0) (mPart (bin dAdd (mVar 3) (mC (.int 1)))) mNoPart (TF r M L (ii (k : Int)) x4 x5) = some (.val (.imm (.tuple (dsD (r.drop (k + 1))))), TF r M L (ii (k : Int)) x4 x5) := by
  have hc := cut_off (dsD r) (k + 1) (by rw [dsD_len]; exact hs)
  rw [ds_dp] at hc
  have : mSl (mVar 0) (mPart (bin dAdd (mVar 3) (mC (.int 1)))) mNoPart (TF r M L (ii (k : Int)) x4 x5) = some (.val (.imm (.tuple (Vi.cutD (dsD r) (some ((k + 1 : Nat) : Int)) none))), TF r M L (ii (k : Int)) x4 x5) := rfl
  rw [this, hc]
theorem u_off2 (hs : k + 2 ≤ r.length) : mSl (mVar 0) (mPart (bin dAdd (mVar 3) (mC (.int 2)))) mNoPart (TF r M L (ii (k : Int)) x4 x5) = some (.val (.imm (.tuple (dsD (r.drop (k + 2))))), TF r M L (ii (k : Int)) x4 x5) := by
  have hc := cut_off (dsD r) (k + 2) (by rw [dsD_len]; exact hs)
  rw [ds_dp] at hc
  have : mSl (mVar 0) (mPart (bin dAdd (mVar 3) (mC (.int 2)))) mNoPart (TF r M L (ii (k : Int)) x4 x5) = some (.val (.imm (.tuple (Vi.cutD (dsD r) (some ((k + 2 : Nat) : Int)) none))), TF r M L (ii (k : Int)) x4 x5) := rfl
  rw [this, hc]
theorem u_at (h : r[k]? = some p) : bin dIx (mVar 0) (mVar 3) (TF r M L (ii (k : Int)) x4 x5) = some (.val (.imm (prD p)), TF r M L (ii (k : Int)) x4 x5) := c_bin rfl rfl rfl rfl (row_at h)
theorem u_at1 (h : r[k + 1]? = some p) : bin dIx (mVar 0) (bin dAdd (mVar 3) (mC (.int 1))) (TF r M L (ii (k : Int)) x4 x5) = some (.val (.imm (prD p)), TF r M L (ii (k : Int)) x4 x5) := c_bin (t := .int ((k + 1 : Nat) : Int)) rfl (c_bin rfl rfl rfl rfl rfl) rfl rfl (row_at h)
theorem u_app {me : ME} {d : D} (h : me (TF r M L x3 x4 x5) = some (.val (.imm d), TF r M L x3 x4 x5)) (hl : L.length ≤ 900) : mDrop (mApp 2 me) (TF r M L x3 x4 x5) = some (.next, TF r M (L ++ [d]) x3 x4 x5) :=
  c_drop (c_app (b := .loc) (b2 := .loc) rfl h rfl rfl (c_fits (by omega)))
theorem uD_ok (hr : r = A ++ p :: B) (hl : L.length ≤ 900) (hz : r.length ≤ 900) : uD (TF r M L (ii (A.length : Int)) x4 x5) = some (.next, TF r M (L ++ (if p.2 = 0 then [rowD (A ++ B)] else [])) (ii (A.length : Int)) x4 x5) := by
  have hp : r[A.length]? = some p := by rw [hr]; simp
  have h1 : r.take A.length = A := by rw [hr]; simp
  have h2 : r.drop (A.length + 1) = B := by rw [hr]; simp
  have hlen : A.length + 1 + B.length = r.length := by rw [hr]; simp; omega
  have t : mB (bin dEq (bin dIx (bin dIx (bin dIx (mVar 0) (mVar 3)) (mC (.int 1))) (mC (.int 0))) (mC (.int 0))) (TF r M L (ii (A.length : Int)) x4 x5) = some ((v36 p.2).num == 0, TF r M L (ii (A.length : Int)) x4 x5) :=
    c_b (c_bin (c_bin (c_bin (u_at hp) rfl rfl rfl rfl) rfl rfl rfl rfl) rfl rfl rfl (eq_int _ _))
  by_cases h : p.2 = 0
  · rw [if_pos h]
    rw [show ((v36 p.2).num == 0) = true from beq_iff_eq.mpr ((v_num _).mpr h)] at t
    have a1 := u_to (M := M) (L := L) (x4 := x4) (x5 := x5) (r := r) (k := A.length) (by omega)
    have a2 := u_off1 (M := M) (L := L) (x4 := x4) (x5 := x5) (r := r) (k := A.length) (by omega)
    rw [h1] at a1
    rw [h2] at a2
    exact c_ifT t (u_app (c_bin a1 a2 rfl rfl (add_rows A B (by omega))) hl)
  · rw [if_neg h, List.append_nil]
    rw [show ((v36 p.2).num == 0) = false from beq_eq_false_iff_ne.mpr fun e => h ((v_num _).mp e)] at t
    exact c_ifF t rfl
theorem uB_ok (T : TogP (cl 30) M) (P : LaddP (cl 26)) (hr : r = A ++ p :: B) (hl : L.length ≤ 800) (hz : r.length ≤ 900) (hn : norm r < 2 ^ 80) : ∃ y4 y5, uB cl (TF r M L (ii (A.length : Int)) x4 x5) = some (.next, TF r M (L ++ (Tr.turn1 (cM M) p B).map fun t => rowD (A ++ t)) (ii (A.length : Int)) y4 y5) := by
  have hlen : A.length + 1 + B.length = r.length := by rw [hr]; simp; omega
  have s1 := uD_ok (M := M) (x4 := x4) (x5 := x5) hr (L := L) (by omega) hz
  have hL1 : (L ++ (if p.2 = 0 then [rowD (A ++ B)] else [])).length ≤ 801 := by split <;> simp <;> omega
  have split1 : (Tr.turn1 (cM M) p B).map (fun t => rowD (A ++ t)) = (if p.2 = 0 then [rowD (A ++ B)] else []) ++ (Tr.turn2 (cM M) p B).map fun t => rowD (A ++ t) := by
    unfold Tr.turn1
    rw [List.map_append]
    congr 1
    split <;> rfl
  rw [split1, ← List.append_assoc]
  generalize hL : L ++ (if p.2 = 0 then [rowD (A ++ B)] else []) = L1 at *
  have tl : uL (TF r M L1 (ii (A.length : Int)) x4 x5) = some (decide (((A.length : Int) + 1) < (r.length : Int)), TF r M L1 (ii (A.length : Int)) x4 x5) := c_b (c_bin (c_bin rfl rfl rfl rfl rfl) (c_un rfl rfl (len_row r)) rfl rfl rfl)
  cases B with
  | nil =>
    rw [show decide (((A.length : Int) + 1) < (r.length : Int)) = false from decide_eq_false (by simp at hlen; omega)] at tl
    exact ⟨x4, x5, c_seq s1 (by rw [Tr.turn2, List.map_nil, List.append_nil]; exact c_ifF tl rfl)⟩
  | cons q C =>
    rw [show decide (((A.length : Int) + 1) < (r.length : Int)) = true from decide_eq_true (by simp at hlen; omega)] at tl
    have hp : r[A.length]? = some p := by rw [hr]; simp
    have hq : r[A.length + 1]? = some q := by rw [hr]; simp
    have h1 : r.take A.length = A := by rw [hr]; simp
    have h2 : r.drop (A.length + 2) = C := by rw [hr]; simp
    have hlen2 : A.length + 2 + C.length = r.length := by rw [hr]; simp; omega
    have sP : uP (TF r M L1 (ii (A.length : Int)) x4 x5) = some (.next, TF r M L1 (ii (A.length : Int)) (some (.imm (prD p))) (some (.imm (prD q)))) := c_par (u_at hp) rfl (u_at1 hq) rfl rfl
    have tE : uE (TF r M L1 (ii (A.length : Int)) (some (.imm (prD p))) (some (.imm (prD q)))) = some (p.1 == q.1, TF r M L1 (ii (A.length : Int)) (some (.imm (prD p))) (some (.imm (prD q)))) := c_b (c_bin (c_bin rfl rfl rfl rfl rfl) (c_bin rfl rfl rfl rfl rfl) rfl rfl (eq_int _ _))
    have a1 := u_to (M := M) (L := L1) (x4 := some (.imm (prD p))) (x5 := some (.imm (prD q))) (r := r) (k := A.length) (by omega)
    have a2 := u_off2 (M := M) (L := L1) (x4 := some (.imm (prD p))) (x5 := some (.imm (prD q))) (r := r) (k := A.length) (by omega)
    rw [h1] at a1
    rw [h2] at a2
    refine ⟨some (.imm (prD p)), some (.imm (prD q)), c_seq s1 (c_ifT tl (c_seq sP ?_))⟩
    rw [Tr.turn2]
    by_cases he : p.1 = q.1
    · rw [if_pos he]
      rw [show (p.1 == q.1) = true from beq_iff_eq.mpr he] at tE
      refine c_ifT tE ?_
      have hpn : p.2.natAbs ≤ norm r := norm_mem (by rw [hr]; simp)
      have hqn : q.2.natAbs ≤ norm r := norm_mem (by rw [hr]; simp)
      have hadd := P (f36 p.2) (f36 q.2) _ _ (isFr _) (isFr _) (v_sd (by omega)) (v_sd (by omega))
      rw [v_add] at hadd
      have hN : uN cl (TF r M L1 (ii (A.length : Int)) (some (.imm (prD p))) (some (.imm (prD q)))) = some (.val (.imm (.tuple (dsD [(p.1, p.2 + q.2)]))), TF r M L1 (ii (A.length : Int)) (some (.imm (prD p))) (some (.imm (prD q)))) :=
        c_tup (c_acons (c_tup (c_acons (c_bin rfl rfl rfl rfl rfl) rfl (c_acons (v_call2 (ev_val (c_bin rfl rfl rfl rfl rfl)) (ev_val (c_bin rfl rfl rfl rfl rfl)) hadd) rfl c_anil)) rfl) rfl c_anil) rfl
      have e := u_app (c_bin (c_bin a1 hN rfl rfl (add_rows A [(p.1, p.2 + q.2)] (by simp; omega))) a2 rfl rfl (add_rows (A ++ [(p.1, p.2 + q.2)]) C (by simp; omega))) (by omega)
      have e2 : A ++ [(p.1, p.2 + q.2)] ++ C = A ++ (p.1, p.2 + q.2) :: C := by simp
      rw [e2] at e
      exact e
    · rw [if_neg he]
      rw [show (p.1 == q.1) = false from beq_eq_false_iff_ne.mpr he] at tE
      refine c_ifF tE ?_
      have tT : uT cl (TF r M L1 (ii (A.length : Int)) (some (.imm (prD p))) (some (.imm (prD q)))) = some (cM M p.1 q.1, TF r M L1 (ii (A.length : Int)) (some (.imm (prD p))) (some (.imm (prD q)))) :=
        t_tru (v_call3 (ev_val (c_bin rfl rfl rfl rfl rfl)) (ev_val (c_bin rfl rfl rfl rfl rfl)) (ev_var rfl) (T p.1 q.1))
      by_cases hc : cM M p.1 q.1 = true
      · rw [if_pos hc]
        rw [hc] at tT
        refine c_ifT tT ?_
        have hN : mTup (mCons (mVar 5) (mCons (mVar 4) mNil)) (TF r M L1 (ii (A.length : Int)) (some (.imm (prD p))) (some (.imm (prD q)))) = some (.val (.imm (.tuple (dsD [q, p]))), TF r M L1 (ii (A.length : Int)) (some (.imm (prD p))) (some (.imm (prD q)))) := c_tup (c_acons rfl rfl (c_acons rfl rfl c_anil)) rfl
        have e := u_app (c_bin (c_bin a1 hN rfl rfl (add_rows A [q, p] (by simp; omega))) a2 rfl rfl (add_rows (A ++ [q, p]) C (by simp; omega))) (by omega)
        have e2 : A ++ [q, p] ++ C = A ++ q :: p :: C := by simp
        rw [e2] at e
        exact e
      · rw [if_neg hc, List.map_nil, List.append_nil]
        rw [show cM M p.1 q.1 = false from by cases h : cM M p.1 q.1 with | true => exact absurd h hc | false => rfl] at tT
        exact c_ifF tT rfl
theorem turn1_len (c : Int → Int → Bool) (p : Pr) (B : Row) : (Tr.turn1 c p B).length ≤ 2 := by
  unfold Tr.turn1
  rw [List.length_append]
  have h1 : (if p.2 = 0 then [B] else []).length ≤ 1 := by split <;> simp
  have h2 : (Tr.turn2 c p B).length ≤ 1 := by
    cases B with
    | nil => simp [Tr.turn2]
    | cons q t => rw [Tr.turn2]; split <;> (try split) <;> simp
  omega
theorem rng_cons (lo : Int) (n : Nat) : rngD lo (n + 1) = .int lo :: rngD (lo + 1) n := by
  unfold rngD
  rw [List.range_succ_eq_map, List.map_cons, List.map_map]
  congr 1
  · simp
  · refine List.map_congr_left fun k _ => ?_
    show PyData.int (lo + ((k + 1 : Nat) : Int)) = .int (lo + 1 + (k : Int))
    congr 1; omega
theorem u_loop (T : TogP (cl 30) M) (P : LaddP (cl 26)) (hz : r.length ≤ 900) (hn : norm r < 2 ^ 80) : ∀ (B A : Row) (L : List D) (x3 x4 x5 : Option Sv), r = A ++ B → L.length + 2 * B.length ≤ 800 →
    ∃ y3 y4 y5, loop (mN 3) (uB cl) (rngD (A.length : Int) B.length) (TF r M L x3 x4 x5) = some (.next, TF r M (L ++ (Tr.turns (cM M) B).map fun t => rowD (A ++ t)) y3 y4 y5)
  | [], A, L, x3, x4, x5, hr, hl => ⟨x3, x4, x5, by unfold Tr.turns; rw [List.map_nil, List.append_nil]; rfl⟩
  | p :: B, A, L, x3, x4, x5, hr, hl => by
    simp only [List.length_cons] at hl
    obtain ⟨z4, z5, s⟩ := uB_ok (x4 := x4) (x5 := x5) T P hr (L := L) (by omega) hz hn
    have ht := turn1_len (cM M) p B
    obtain ⟨y3, y4, y5, e⟩ := u_loop T P hz hn B (A ++ [p]) (L ++ (Tr.turn1 (cM M) p B).map fun t => rowD (A ++ t)) (ii (A.length : Int)) z4 z5 (by rw [hr]; simp) (by rw [List.length_append, List.length_map]; omega)
    refine ⟨y3, y4, y5, ?_⟩
    have hl2 : ((A ++ [p]).length : Int) = (A.length : Int) + 1 := by simp
    rw [hl2] at e
    have e3 : (L ++ (Tr.turn1 (cM M) p B).map fun t => rowD (A ++ t)) ++ (Tr.turns (cM M) B).map (fun t => rowD (A ++ [p] ++ t)) = L ++ (Tr.turns (cM M) (p :: B)).map fun t => rowD (A ++ t) := by
      conv => rhs; unfold Tr.turns
      rw [List.map_append, List.map_map, List.append_assoc]
      congr 2
      refine List.map_congr_left fun t _ => ?_
      simp
    rw [e3] at e
    rw [List.length_cons, rng_cons]
    exact c_cons rfl s e
def TurnsP (f : Fn) (M : List (Int × Int)) : Prop := ∀ r : Row, norm r < 2 ^ 80 → r.length ≤ 60 → f [.imm (rowD r), .imm (metD M)] = some (.own .loc ((Tr.turns (cM M) r).map rowD), [none, none])
theorem turns_ok (T : TogP (cl 30) M) (P : LaddP (cl 26)) : TurnsP (fn32 cl) M := fun r hn hl => by
  obtain ⟨y3, y4, y5, e⟩ := u_loop (r := r) T P (by omega) hn r [] [] none none none rfl (by simp; omega)
  rw [turns_fn]
  have e0 : ([] : List D) ++ (Tr.turns (cM M) r).map (fun t => rowD ([] ++ t)) = (Tr.turns (cM M) r).map rowD := rfl
  rw [e0] at e
  exact c_fn (ρ0 := [rr r, mm M, none, none, none, none]) rfl rfl (c_seq (c_set (c_lst c_anil rfl) rfl) (c_seq (c_for (c_rng1 (n := r.length) (c_acons (c_un rfl rfl (len_row r)) rfl c_anil) (by omega)) e) (c_ret rfl rfl))) rfl
end
end K26

namespace K26
open PySem Vi PyProof.Rows
/-! what is reached -/
abbrev rl (S : List Row) : List D := S.map rowD
def dicL : List Row → List D
  | [] => []
  | r :: S => rowD r :: .int 1 :: dicL S
theorem dic_len : ∀ S : List Row, (dicL S).length = 2 * S.length
  | [] => rfl
  | r :: S => by show (dicL S).length + 1 + 1 = _; rw [dic_len S, List.length_cons]; omega
theorem dic_get (x : Row) : ∀ S : List Row, dGet (dicL S) (rowD x) = if x ∈ S then some (.int 1) else none
  | [] => by rw [if_neg (by simp)]; rfl
  | r :: S => by
    show (if PyData.eqv (rowD r) (rowD x) = true then some (PyData.int 1) else dGet (dicL S) (rowD x)) = _
    rw [eqv_row, dic_get x S]
    by_cases h : r = x
    · rw [if_pos (decide_eq_true h), if_pos (by rw [h]; exact List.mem_cons_self ..)]
    · rw [if_neg (by simpa using h)]
      by_cases k : x ∈ S
      · rw [if_pos k, if_pos (List.mem_cons_of_mem _ k)]
      · rw [if_neg k, if_neg (by rw [List.mem_cons]; exact fun z => z.elim (fun e => h e.symm) k)]
theorem dic_put (x : Row) : ∀ S : List Row, x ∉ S → dPut (dicL S) (rowD x) (.int 1) = dicL (S ++ [x])
  | [], _ => rfl
  | r :: S, h => by
    show (if PyData.eqv (rowD r) (rowD x) = true then rowD r :: .int 1 :: dicL S else rowD r :: .int 1 :: dPut (dicL S) (rowD x) (.int 1)) = rowD r :: .int 1 :: dicL (S ++ [x])
    rw [eqv_row, if_neg (by simp; exact fun e => h (by rw [e]; exact List.mem_cons_self ..)), dic_put x S fun k => h (List.mem_cons_of_mem _ k)]
theorem key_row (r : Row) : keyOk (rowD r) = true := by
  show (dsD r).all (keyOkN 7) = true
  unfold dsD
  rw [List.all_map, List.all_eq_true]
  intro p _
  rfl
theorem big_fits {n : Nat} (h : n ≤ 12000000) : fits n = true := decide_eq_true (by unfold sizeLine; omega)
theorem ok_rl (X : List Row) : okD (.list (rl X)) = true := by
  show (PyData.canLay0 (.list (rl X)) && decide (PyData.depth (.list (rl X)) ≤ 64)) = true
  have : PyData.depthAll (rl X) ≤ 3 := dep_rows X
  rw [PyData.canLay0, PyData.depth, lay_rows, decide_eq_true (by omega)]; rfl
theorem ne_nil (X : List Row) : dNe (.list (rl X)) (.list []) = some (.imm (.bool (!X.isEmpty))) := by
  unfold dNe
  rw [ok_rl, show okD (.list []) = true from ok_rl []]
  cases X with
  | nil => rw [PyData.eqv, show rl [] = [] from rfl, PyData.eqvAll]; rfl
  | cons x X => rw [PyData.eqv, show rl (x :: X) = rowD x :: rl X from rfl, PyData.eqvAll]; rfl
theorem big_addL {ds es : List D} (h : ds.length + es.length ≤ 12000000) : dAdd (.list ds) (.list es) = some (.own .loc (ds ++ es)) := by
  show (if fits (ds.length + es.length) = true then some (Sv.own .loc (ds ++ es)) else none) = _
  rw [if_pos (big_fits h)]
theorem c_iseq {me : ME} {ρ : Fm} {L : List D} (h : me ρ = some (.val (.own .loc L), ρ)) : mISeq me ρ = some (L, ρ) := by
  unfold mISeq; rw [h]; rfl
theorem norm_nil : norm [] = 0 := rfl
theorem turns_norm {c : Int → Int → Bool} {r t : Row} (h : t ∈ Tr.turns c r) : norm t ≤ norm r := by
  obtain ⟨A, B, ⟨p, h1, rfl, rfl⟩ | ⟨p, q, h1, rfl, rfl⟩ | ⟨p, q, h1, rfl, rfl⟩⟩ := Tr.turns_inv h
  · rw [norm_app, norm_app, norm_cons]; omega
  · rw [norm_app, norm_app, norm_cons, norm_cons, norm_cons]
    show norm A + ((p.2 + q.2).natAbs + norm B) ≤ _
    omega
  · rw [norm_app, norm_app, norm_cons, norm_cons, norm_cons, norm_cons]; omega
theorem rch_norm {c : Int → Int → Bool} {r t : Row} (h : Tr.Rch c r t) : norm t ≤ norm r := by
  induction h with
  | refl => exact Nat.le_refl _
  | step _ q ih => exact Nat.le_trans (turns_norm q) ih
theorem rch_len {c : Int → Int → Bool} {r t : Row} (h : Tr.Rch c r t) : t.length ≤ r.length := by
  induction h with
  | refl => exact Nat.le_refl _
  | step _ q ih => exact Nat.le_trans (Tr.turns_len q) ih
abbrev ZF (r : Row) (M : List (Int × Int)) (s2 s3 : Option Sv) (S : List Row) (s5 s6 s7 : Option Sv) : Fm := [rr r, mm M, s2, s3, some (.own .dic (dicL S)), s5, s6, s7]
def zI : MS := (mIfS (mB (mInD true 4 (mVar 7))) (mSeq (mDPut 4 (mVar 7) (mC (.int 1))) (mDrop (mApp 5 (mVar 7)))) mNext)
def zO (cl : Nat → Fn) : MS := (mFor (mISeq (mCall (cl 32) (rVal (mVar 6) (rVal (mVar 1) rNil)))) (mN 7) zI)
def zT : MT := (mB (bin dNe (mVar 3) (mLst mNil)))
def zP : MS := (mPar 2 3 (bin dAdd (mVar 2) (mVar 5)) (mVar 5))
def zB (cl : Nat → Fn) : MS := (mSeq (mSet 5 (mLst mNil)) (mSeq (mFor (mISeq (mVar 3)) (mN 6) (zO cl)) zP))
theorem reached_fn (cl : Nat → Fn) : fn33 cl = mFn 8 2 (mSeq (mPar 2 3 (mLst (mCons (mVar 0) mNil)) (mLst (mCons (mVar 0) mNil))) (mSeq (mSet 4 (mDOne (mVar 0) (mC (.int 1)))) (mSeq (whl zT (zB cl) 6000000) (mRet (mVar 2))))) := rfl
section
variable {cl : Nat → Fn} {M : List (Int × Int)} {r : Row} {s2 s3 s6 s7 : Option Sv}
theorem zI_old {S : List Row} {N : List D} {x : Row} (h : x ∈ S) : zI (ZF r M s2 s3 S (oo N) s6 (rr x)) = some (.next, ZF r M s2 s3 S (oo N) s6 (rr x)) := by
  have t : mB (mInD true 4 (mVar 7)) (ZF r M s2 s3 S (oo N) s6 (rr x)) = some (false, ZF r M s2 s3 S (oo N) s6 (rr x)) := by
    refine c_b (b := false) ?_
    unfold mInD
    show (if keyOk (rowD x) = true then some (PR.val (Sv.imm (.bool (true != (dGet (dicL S) (rowD x)).isSome))), ZF r M s2 s3 S (oo N) s6 (rr x)) else none) = _
    rw [if_pos (key_row x), dic_get, if_pos h]; rfl
  exact c_ifF t rfl
theorem zI_new {S : List Row} {N : List D} {x : Row} (h : x ∉ S) (hl : S.length ≤ 5421361) (hN : N.length ≤ 5421361) : zI (ZF r M s2 s3 S (oo N) s6 (rr x)) = some (.next, ZF r M s2 s3 (S ++ [x]) (oo (N ++ [rowD x])) s6 (rr x)) := by
  have t : mB (mInD true 4 (mVar 7)) (ZF r M s2 s3 S (oo N) s6 (rr x)) = some (true, ZF r M s2 s3 S (oo N) s6 (rr x)) := by
    refine c_b (b := true) ?_
    unfold mInD
    show (if keyOk (rowD x) = true then some (PR.val (Sv.imm (.bool (true != (dGet (dicL S) (rowD x)).isSome))), ZF r M s2 s3 S (oo N) s6 (rr x)) else none) = _
    rw [if_pos (key_row x), dic_get, if_neg h]; rfl
  have hv : mVar 7 (ZF r M s2 s3 (S ++ [x]) (oo N) s6 (rr x)) = some (.slot 7, ZF r M s2 s3 (S ++ [x]) (oo N) s6 (rr x)) := rfl
  have ha : mApp 5 (mVar 7) (ZF r M s2 s3 (S ++ [x]) (oo N) s6 (rr x)) = some (.val (.imm .none), ZF r M s2 s3 (S ++ [x]) (oo (N ++ [rowD x])) s6 (rr x)) := c_app (i := 5) (b := .loc) (b2 := .loc) (ds := N) (ys := N) (d := rowD x) rfl hv rfl rfl (big_fits (by omega))
  refine c_ifT t (c_seq (ρ1 := ZF r M s2 s3 (S ++ [x]) (oo N) s6 (rr x)) ?_ (c_drop ha))
  unfold mDPut
  show (if (keyOk (rowD x) && fits (dicL S).length) = true then some (Vi.Fl.next, (ZF r M s2 s3 S (oo N) s6 (rr x)).set 4 (some (.own .dic (dPut (dicL S) (rowD x) (.int 1))))) else none) = _
  rw [if_pos (by rw [key_row, big_fits (by rw [dic_len]; omega)]; rfl), dic_put x S h]
  rfl
theorem zI_loop {n : Nat} : ∀ (xs S : List Row) (s7 : Option Sv), n ≤ S.length → (Tr.addAll S xs).length ≤ 5421361 →
    ∃ y7, loop (mN 7) zI (rl xs) (ZF r M s2 s3 S (oo (rl (S.drop n))) s6 s7) = some (.next, ZF r M s2 s3 (Tr.addAll S xs) (oo (rl ((Tr.addAll S xs).drop n))) s6 y7)
  | [], S, s7, hn, hb => ⟨s7, rfl⟩
  | x :: xs, S, s7, hn, hb => by
    have hle : S.length ≤ (Tr.addAll S (x :: xs)).length := by
      obtain ⟨N, e⟩ := Tr.addAll_pre (x :: xs) S
      rw [e, List.length_append]; omega
    rw [Tr.addAll] at hb ⊢
    split at hb
    · rename_i hx
      rw [if_pos hx]
      obtain ⟨y7, e⟩ := zI_loop (n := n) xs S (rr x) hn hb
      exact ⟨y7, c_cons rfl (zI_old hx) e⟩
    · rename_i hx
      rw [if_neg hx]
      obtain ⟨N, eN⟩ := Tr.addAll_pre xs (S ++ [x])
      have hS : S.length ≤ 5421361 := by rw [eN] at hb; simp at hb; omega
      obtain ⟨y7, e⟩ := zI_loop (n := n) xs (S ++ [x]) (rr x) (by simp; omega) hb
      have e2 : rl ((S ++ [x]).drop n) = rl (S.drop n) ++ [rowD x] := by
        rw [List.drop_append_of_le_length hn]; unfold rl; rw [List.map_append]; rfl
      rw [e2] at e
      exact ⟨y7, c_cons rfl (zI_new (N := rl (S.drop n)) hx hS (by rw [List.length_map, List.length_drop]; omega)) e⟩
def Good (t : Row) : Prop := norm t < 2 ^ 80 ∧ t.length ≤ 60
theorem zO_loop (P : TurnsP (cl 32) M) {n : Nat} : ∀ (ys S : List Row) (s6 s7 : Option Sv), (∀ t ∈ ys, Good t) → n ≤ S.length → (Tr.addAll S (ys.flatMap (Tr.turns (cM M)))).length ≤ 5421361 →
    ∃ y6 y7, loop (mN 6) (zO cl) (rl ys) (ZF r M s2 s3 S (oo (rl (S.drop n))) s6 s7) = some (.next, ZF r M s2 s3 (Tr.addAll S (ys.flatMap (Tr.turns (cM M)))) (oo (rl ((Tr.addAll S (ys.flatMap (Tr.turns (cM M)))).drop n))) y6 y7)
  | [], S, s6, s7, hg, hn, hb => ⟨s6, s7, rfl⟩
  | y :: ys, S, s6, s7, hg, hn, hb => by
    rw [List.flatMap_cons, Tr.addAll_app] at hb ⊢
    have hg1 := hg y (List.mem_cons_self ..)
    obtain ⟨N, eN⟩ := Tr.addAll_pre (ys.flatMap (Tr.turns (cM M))) (Tr.addAll S (Tr.turns (cM M) y))
    obtain ⟨N1, eN1⟩ := Tr.addAll_pre (Tr.turns (cM M) y) S
    obtain ⟨y7, e1⟩ := zI_loop (r := r) (M := M) (s2 := s2) (s3 := s3) (s6 := rr y) (n := n) (Tr.turns (cM M) y) S s7 hn (by rw [eN] at hb; simp at hb; omega)
    obtain ⟨z6, z7, e2⟩ := zO_loop (n := n) P ys (Tr.addAll S (Tr.turns (cM M) y)) (rr y) y7 (fun t ht => hg t (List.mem_cons_of_mem _ ht)) (by rw [eN1]; simp; omega) hb
    have s : mISeq (mCall (cl 32) (rVal (mVar 6) (rVal (mVar 1) rNil))) (ZF r M s2 s3 S (oo (rl (S.drop n))) (rr y) s7) = some (rl (Tr.turns (cM M) y), ZF r M s2 s3 S (oo (rl (S.drop n))) (rr y) s7) :=
      c_iseq (v_call2 (ev_var rfl) (ev_var rfl) (P y hg1.1 hg1.2))
    exact ⟨z6, z7, c_cons rfl (c_for s e1) e2⟩
theorem zT_ok {L : List Row} {S : List Row} {s5 : Option Sv} (h3 : Ls s3 (rl L)) : zT (ZF r M s2 s3 S s5 s6 s7) = some (!L.isEmpty, ZF r M s2 s3 S s5 s6 s7) := by
  rcases h3 with rfl | rfl
  · exact c_b (c_bin rfl (c_lst c_anil rfl) rfl rfl (ne_nil L))
  · exact c_b (c_bin rfl (c_lst c_anil rfl) rfl rfl (ne_nil L))
theorem zB_ok (P : TurnsP (cl 32) M) {L S : List Row} {s5 : Option Sv} (h3 : Ls s3 (rl L)) (hg : ∀ t ∈ L, Good t) (hb : (Tr.addAll S (L.flatMap (Tr.turns (cM M)))).length ≤ 5421361) :
    ∃ y6 y7, zB cl (ZF r M (oo (rl S)) s3 S s5 s6 s7) = some (.next, ZF r M (oo (rl (Tr.addAll S (L.flatMap (Tr.turns (cM M)))))) (ll (rl ((Tr.addAll S (L.flatMap (Tr.turns (cM M)))).drop S.length))) (Tr.addAll S (L.flatMap (Tr.turns (cM M)))) (ll (rl ((Tr.addAll S (L.flatMap (Tr.turns (cM M)))).drop S.length))) y6 y7) := by
  obtain ⟨y6, y7, e⟩ := zO_loop (r := r) (s2 := oo (rl S)) (s3 := ll (rl L)) (n := S.length) P L S s6 s7 hg (Nat.le_refl _) hb
  have e0 : rl (S.drop S.length) = [] := by rw [List.drop_length]; rfl
  rw [e0] at e
  have sq : mISeq (mVar 3) (ZF r M (oo (rl S)) s3 S (oo []) s6 s7) = some (rl L, ZF r M (oo (rl S)) (ll (rl L)) S (oo []) s6 s7) := by
    rcases h3 with rfl | rfl <;> rfl
  obtain ⟨N, eN⟩ := Tr.addAll_pre (L.flatMap (Tr.turns (cM M))) S
  rw [eN] at e hb ⊢
  rw [List.drop_left] at e ⊢
  refine ⟨y6, y7, c_seq (c_set (c_lst c_anil rfl) rfl) (c_seq (c_for sq e) ?_)⟩
  have ha : dAdd (.list (rl S)) (.list (rl N)) = some (.own .loc (rl (S ++ N))) := by
    rw [big_addL (by simp at hb ⊢; omega)]; unfold rl; rw [List.map_append]
  have hb1 : bin dAdd (mVar 2) (mVar 5) (ZF r M (oo (rl S)) (ll (rl L)) (S ++ N) (oo (rl N)) y6 y7) = some (.val (.own .loc (rl (S ++ N))), ZF r M (oo (rl S)) (ll (rl L)) (S ++ N) (oo (rl N)) y6 y7) := c_bin rfl rfl rfl rfl ha
  have hv : mVar 5 (ZF r M (oo (rl S)) (ll (rl L)) (S ++ N) (oo (rl N)) y6 y7) = some (.slot 5, ZF r M (oo (rl S)) (ll (rl L)) (S ++ N) (oo (rl N)) y6 y7) := rfl
  have ht : take (ZF r M (oo (rl S)) (ll (rl L)) (S ++ N) (oo (rl N)) y6 y7) (.slot 5) = some (.imm (.list (rl N)), ZF r M (oo (rl S)) (ll (rl L)) (S ++ N) (ll (rl N)) y6 y7) := rfl
  exact c_par hb1 rfl hv ht rfl
theorem z_loop (P : TurnsP (cl 32) M) (hr : r.length ≤ 4) (hp : ∀ p ∈ r, 0 ≤ p.1 ∧ p.1 < 3) (hn : norm r < 2 ^ 80) : ∀ (fuel : Nat) (S X L : List Row) (s3 s5 s6 s7 : Option Sv), S = X ++ L → S.Nodup → r ∈ S → (∀ t ∈ S, Tr.Rch (cM M) r t) → (∀ x ∈ X, ∀ t ∈ Tr.turns (cM M) x, t ∈ S) →
    Ls s3 (rl L) → (L = [] → 1 ≤ fuel) → (L ≠ [] → 5421363 ≤ fuel + S.length) → ∃ (R : List Row) (y3 y4 y5 y6 y7 : Option Sv), whl zT (zB cl) fuel (ZF r M (oo (rl S)) s3 S s5 s6 s7) = some (.next, [rr r, mm M, oo (rl R), y3, y4, y5, y6, y7]) ∧ R.Nodup ∧ ∀ t, t ∈ R ↔ Tr.Rch (cM M) r t := by
  intro fuel
  induction fuel with
  | zero =>
    intro S X L s3 s5 s6 s7 eS hd h0 h1 h2 h3 hf1 hf2
    cases L with
    | nil => exact absurd (hf1 rfl) (by omega)
    | cons x L =>
      have := Tr.few hr hp hd h1
      have := hf2 (by simp)
      omega
  | succ f ih =>
    intro S X L s3 s5 s6 s7 eS hd h0 h1 h2 h3 hf1 hf2
    cases L with
    | nil =>
      rw [List.append_nil] at eS
      subst eS
      refine ⟨S, _, _, _, _, _, c_whF (zT_ok h3), hd, fun t => ⟨h1 t, fun h => ?_⟩⟩
      induction h with
      | refl => exact h0
      | step _ q ih2 => exact h2 _ ih2 _ q
    | cons x L =>
      have hS := Tr.few hr hp hd h1
      have hmem : ∀ t ∈ Tr.addAll S ((x :: L).flatMap (Tr.turns (cM M))), Tr.Rch (cM M) r t := fun t ht => by
        rcases (Tr.addAll_mem _ _).mp ht with h | h
        · exact h1 t h
        · obtain ⟨y, hy, hty⟩ := List.mem_flatMap.mp h
          exact .step (h1 y (by rw [eS]; exact List.mem_append_right _ hy)) hty
      have hnd := Tr.addAll_nodup ((x :: L).flatMap (Tr.turns (cM M))) S hd
      have hb := Tr.few hr hp hnd hmem
      obtain ⟨y6, y7, e⟩ := zB_ok (r := r) (s5 := s5) (s6 := s6) (s7 := s7) P h3 (fun t ht => ⟨Nat.lt_of_le_of_lt (rch_norm (h1 t (by rw [eS]; exact List.mem_append_right _ ht))) hn, by have := rch_len (h1 t (by rw [eS]; exact List.mem_append_right _ ht)); omega⟩) hb
      obtain ⟨N, eN⟩ := Tr.addAll_pre ((x :: L).flatMap (Tr.turns (cM M))) S
      have hf := hf2 (by simp)
      have hd2 : (Tr.addAll S ((x :: L).flatMap (Tr.turns (cM M)))).drop S.length = N := by rw [eN, List.drop_left]
      rw [hd2] at e
      obtain ⟨R, z3, z4, z5, z6, z7, e2, hR1, hR2⟩ := ih (Tr.addAll S ((x :: L).flatMap (Tr.turns (cM M)))) S N (ll (rl N)) (ll (rl N)) y6 y7 eN hnd ((Tr.addAll_mem _ _).mpr (.inl h0)) hmem (fun y hy t ht => (Tr.addAll_mem _ _).mpr (by
        rw [eS] at hy
        rcases List.mem_append.mp hy with hy | hy
        · exact .inl (h2 y hy t ht)
        · exact .inr (List.mem_flatMap.mpr ⟨y, hy, ht⟩))) (.inl rfl) (fun _ => by omega) fun hN => by
          rw [eN, List.length_append]
          have : 0 < N.length := List.length_pos_iff.mpr hN
          omega
      exact ⟨R, z3, z4, z5, z6, z7, c_whT (zT_ok h3) e e2, hR1, hR2⟩
def ReachP (f : Fn) (M : List (Int × Int)) : Prop := ∀ r : Row, r.length ≤ 4 → (∀ p ∈ r, 0 ≤ p.1 ∧ p.1 < 3) → norm r < 2 ^ 80 → ∃ R : List Row, f [.imm (rowD r), .imm (metD M)] = some (.own .loc (rl R), [none, none]) ∧ R.Nodup ∧ ∀ t, t ∈ R ↔ Tr.Rch (cM M) r t
theorem reached_ok (P : TurnsP (cl 32) M) : ReachP (fn33 cl) M := fun r hr hp hn => by
  obtain ⟨R, y3, y4, y5, y6, y7, e, h1, h2⟩ := z_loop (r := r) P hr hp hn 6000000 [r] [] [r] (oo (rl [r])) none none none rfl (by simp) (by simp) (fun t ht => by
    rw [List.mem_singleton] at ht; rw [ht]; exact .refl) (fun _ h => by cases h) (.inr rfl) (fun h => by cases h) (fun _ => by simp)
  refine ⟨R, ?_, h1, h2⟩
  rw [reached_fn]
  have s0 : mPar 2 3 (mLst (mCons (mVar 0) mNil)) (mLst (mCons (mVar 0) mNil)) [rr r, mm M, none, none, none, none, none, none] = some (.next, [rr r, mm M, oo (rl [r]), oo (rl [r]), none, none, none, none]) :=
    by
    have l1 : mLst (mCons (mVar 0) mNil) [rr r, mm M, none, none, none, none, none, none] = some (.val (.own .loc (rl [r])), [rr r, mm M, none, none, none, none, none, none]) := c_lst (c_acons rfl rfl c_anil) rfl
    exact c_par l1 rfl l1 rfl rfl
  have d0 : mDOne (mVar 0) (mC (.int 1)) [rr r, mm M, oo (rl [r]), oo (rl [r]), none, none, none, none] = some (.val (.own .dic (dicL [r])), [rr r, mm M, oo (rl [r]), oo (rl [r]), none, none, none, none]) := by
    unfold mDOne
    show (if keyOk (rowD r) = true then some (PR.val (Sv.own .dic [rowD r, .int 1]), [rr r, mm M, oo (rl [r]), oo (rl [r]), none, none, none, none]) else none) = _
    rw [if_pos (key_row r)]; rfl
  exact c_fn (ρ0 := [rr r, mm M, none, none, none, none, none, none]) rfl rfl (c_seq s0 (c_seq (c_set d0 rfl) (c_seq e (c_ret rfl rfl)))) rfl
end
end K26

namespace K26
open PySem Vi PyProof.Rows
/-! rows in order -/
abbrev Tk := List (Int ⊕ List Nat)
abbrev lx (a b : Tk) : Bool := PyProof.Rows.lexLt PyProof.Rows.itemOrd a b
def pk (p : Pr) : Tk := [.inl 1, .inl 1, .inl p.1, .inl 1, .inl 1, .inl (v36 p.2).num, .inl 1, .inl ((v36 p.2).den : Int), .inl 0, .inl 0]
theorem tk_cons (p : Pr) (r : Row) : W.keyToks (rowD (p :: r)) = pk p ++ W.keyToks (rowD r) := by
  show W.keyToks (.tuple (prD p :: dsD r)) = pk p ++ W.keyToks (.tuple (dsD r))
  rw [W.keyToks, W.keyToks, W.keyToksAll]
  show .inl 1 :: (W.keyToks (.tuple [.int p.1, .tuple [.int (v36 p.2).num, .int ((v36 p.2).den : Int)]]) ++ _) = _
  simp [W.keyToks, W.keyToksAll, pk]
theorem tk_nil : W.keyToks (rowD []) = [.inl 0] := by
  show W.keyToks (.tuple []) = _
  rw [W.keyToks, W.keyToksAll]
theorem tk_inj : ∀ {a b : Row}, W.keyToks (rowD a) = W.keyToks (rowD b) → a = b
  | [], [], _ => rfl
  | [], q :: b, h => by rw [tk_nil, tk_cons] at h; simp [pk] at h
  | p :: a, [], h => by rw [tk_nil, tk_cons] at h; simp [pk] at h
  | p :: a, q :: b, h => by
    rw [tk_cons, tk_cons] at h
    simp only [pk, List.cons_append, List.nil_append, List.cons.injEq, Sum.inl.injEq, true_and] at h
    obtain ⟨h1, h2, h3, h4⟩ := h
    have e : p = q := Prod.ext h1 (v_ext h2 (by omega))
    rw [e, tk_inj h4]
theorem row_inj {a b : Row} (h : rowD a = rowD b) : a = b := tk_inj (by rw [h])
def prts (r : Row) : List Int := r.map Prod.fst
def ky (r : Row) : D := .tuple [.tuple (il (prts r)), rowD r]
theorem ky_inj {a b : Row} (h : ky a = ky b) : a = b := by
  unfold ky at h
  injection h with h
  injection h with _ h
  injection h with h _
  exact row_inj h
def pt : List Int → Tk
  | [] => [.inl 0]
  | a :: as => .inl 1 :: .inl a :: pt as
theorem pt_toks : ∀ as : List Int, W.keyToksAll (il as) = pt as
  | [] => by show W.keyToksAll [] = _; rw [W.keyToksAll]; rfl
  | a :: as => by
    show W.keyToksAll (.int a :: il as) = _
    rw [W.keyToksAll, pt_toks as, W.keyToks]; rfl
theorem ky_toks (r : Row) : W.keyToks (ky r) = .inl 1 :: (pt (prts r) ++ .inl 1 :: (W.keyToks (rowD r) ++ [.inl 0])) := by
  unfold ky
  rw [W.keyToks, W.keyToksAll, W.keyToksAll, W.keyToksAll, W.keyToks, pt_toks]
theorem pt_lt : ∀ {as bs : List Int} (x y : Tk), Tr.lexLt as bs → lx (pt as ++ x) (pt bs ++ y) = true
  | [], _, _, _, h => by unfold Tr.lexLt at h; exact h.elim
  | _ :: _, [], _, _, h => by unfold Tr.lexLt at h; exact h.elim
  | a :: as, b :: bs, x, y, h => by
    show lx (.inl 1 :: .inl a :: (pt as ++ x)) (.inl 1 :: .inl b :: (pt bs ++ y)) = true
    rw [lx, PyProof.Rows.lex_self]
    unfold Tr.lexLt at h
    rcases h with h | ⟨rfl, h⟩
    · exact PyProof.Rows.lex_true.mpr (.inl (decide_eq_true h))
    · rw [PyProof.Rows.lex_self]; exact pt_lt x y h
theorem ky_lt {a b : Row} (h : Tr.lexLt (prts a) (prts b)) : W.dataLt (ky a) (ky b) = true := by
  unfold W.dataLt
  rw [ky_toks, ky_toks, PyProof.Rows.lex_self]
  exact pt_lt _ _ h
theorem le_lt (x y : D) : leD x y = !W.dataLt y x := rfl
theorem lt_asym {x y : D} (h : W.dataLt x y = true) : W.dataLt y x = false := by
  cases k : W.dataLt y x with
  | false => rfl
  | true =>
    have := PyProof.Rows.lex_trans _ _ _ h k
    rw [PyProof.Rows.lex_irrefl] at this; cases this
theorem leT : W.TotalLe leD := W.sortLe_total (PyProof.Rows.listOrd PyProof.Rows.itemOrd) false (fun b : D => W.keyToks (id b))
theorem sortD_pair (L : List D) : (sortD L).Pairwise fun a b => leD a b = true := by
  unfold sortD
  rw [← isort_eq leT]
  exact W.sort_pairwise leT L
theorem sort_head {L : List D} {m : D} (hm : m ∈ L) (h : ∀ x ∈ L, x = m ∨ W.dataLt m x = true) : ∃ t, sortD L = m :: t := by
  have hp : (sortD L).Perm L := isort_perm L
  have hs := sortD_pair L
  cases e : sortD L with
  | nil => rw [e] at hp; rw [List.nil_perm.mp hp] at hm; cases hm
  | cons y t =>
    rw [e] at hp hs
    rcases h y (hp.mem_iff.mp (List.mem_cons_self ..)) with rfl | hy
    · exact ⟨t, rfl⟩
    · rcases List.mem_cons.mp (hp.mem_iff.mpr hm) with k | k
      · rw [k] at hy; exact absurd hy (by unfold W.dataLt; rw [PyProof.Rows.lex_irrefl]; decide)
      · have := (List.pairwise_cons.mp hs).1 m k
        rw [le_lt, hy] at this; cases this
theorem sort_rows {X Y : List Row} (h : X.Perm Y) : sortD (rl X) = sortD (rl Y) := by
  have hx : (sortD (rl X)).Perm (rl X) := isort_perm _
  have hy : (sortD (rl Y)).Perm (rl Y) := isort_perm _
  refine List.Perm.eq_of_pairwise (le := fun a b => leD a b = true) (fun a b ha hb h1 h2 => ?_) (sortD_pair _) (sortD_pair _) (hx.trans ((h.map rowD).trans hy.symm))
  obtain ⟨x, _, rfl⟩ := List.mem_map.mp (hx.mem_iff.mp ha)
  obtain ⟨y, _, rfl⟩ := List.mem_map.mp (hy.mem_iff.mp hb)
  rw [le_lt] at h1 h2
  have k1 : W.dataLt (rowD y) (rowD x) = false := by cases h : W.dataLt (rowD y) (rowD x) with | false => rfl | true => rw [h] at h1; cases h1
  have k2 : W.dataLt (rowD x) (rowD y) = false := by cases h : W.dataLt (rowD x) (rowD y) with | false => rfl | true => rw [h] at h2; cases h2
  have := PyProof.Rows.lex_total _ _ k2 k1
  rw [tk_inj this]
theorem alike_row : ∀ a b : Row, W.alikeAll (dsD a) (dsD b) = true
  | [], b => by show W.alikeAll [] _ = _; simp [W.alikeAll]
  | p :: a, [] => by show W.alikeAll (prD p :: dsD a) [] = _; simp [W.alikeAll]
  | p :: a, q :: b => by
    show W.alikeAll (prD p :: dsD a) (prD q :: dsD b) = true
    rw [W.alikeAll, alike_row a b]
    simp [prD, f36, fr, W.alike, W.alikeAll]
theorem alike_il : ∀ a b : List Int, W.alikeAll (il a) (il b) = true
  | [], b => by show W.alikeAll [] _ = _; simp [W.alikeAll]
  | p :: a, [] => by show W.alikeAll (.int p :: il a) [] = _; simp [W.alikeAll]
  | p :: a, q :: b => by
    show W.alikeAll (.int p :: il a) (.int q :: il b) = true
    rw [W.alikeAll, alike_il a b]
    simp [W.alike]
theorem ok_row (r : Row) : okD (rowD r) = true := ok_tup r
theorem lay_il : ∀ as : List Int, PyData.canLayAll0 (il as) = true
  | [] => by show PyData.canLayAll0 [] = _; rw [PyData.canLayAll0]
  | a :: as => by show PyData.canLayAll0 (.int a :: il as) = _; rw [PyData.canLayAll0, lay_il as, PyData.canLay0]; rfl
theorem dep_il : ∀ as : List Int, PyData.depthAll (il as) ≤ 0
  | [] => by show PyData.depthAll [] ≤ _; rw [PyData.depthAll]; decide
  | a :: as => by
    show PyData.depthAll (.int a :: il as) ≤ _
    rw [PyData.depthAll, PyData.depth]
    exact Nat.max_le.mpr ⟨Nat.le_refl _, dep_il as⟩
theorem ok_ky (r : Row) : okD (ky r) = true := by
  show (PyData.canLay0 (ky r) && decide (PyData.depth (ky r) ≤ 64)) = true
  have h1 := dep_il (prts r)
  have h2 := dep_ds r
  unfold ky rowD
  rw [PyData.canLay0, PyData.canLayAll0, PyData.canLayAll0, PyData.canLayAll0, PyData.canLay0, PyData.canLay0, lay_il, lay_ds]
  rw [PyData.depth, PyData.depthAll, PyData.depthAll, PyData.depthAll, PyData.depth, PyData.depth]
  rw [decide_eq_true (by omega)]; rfl
theorem sort_ok {L : List D} (h1 : ∀ a ∈ L, ∀ b ∈ L, W.alike a b = true) (h2 : ∀ a ∈ L, headB a = true) (h3 : ∀ a ∈ L, okD a = true) (h4 : L.length ≤ 12000000) : sortOk L = true := by
  unfold sortOk alikeAllB
  rw [big_fits h4, List.all_eq_true.mpr fun a ha => List.all_eq_true.mpr fun b hb => h1 a ha b hb, List.all_eq_true.mpr h2, List.all_eq_true.mpr h3]; rfl
theorem sort_ky {X : List Row} (h : X.length ≤ 12000000) : dSortW (.list (X.map ky)) = some (.own .loc (sortD (X.map ky))) := by
  unfold dSortW
  simp only
  rw [if_pos]
  refine sort_ok (fun a ha b hb => ?_) (fun a ha => ?_) (fun a ha => ?_) (by rw [List.length_map]; exact h)
  · obtain ⟨x, _, rfl⟩ := List.mem_map.mp ha
    obtain ⟨y, _, rfl⟩ := List.mem_map.mp hb
    unfold ky rowD
    simp [W.alike, W.alikeAll, alike_row, alike_il]
  · obtain ⟨x, _, rfl⟩ := List.mem_map.mp ha
    rfl
  · obtain ⟨x, _, rfl⟩ := List.mem_map.mp ha
    exact ok_ky x
theorem sort_rl {X : List Row} {n : Nat} (h : X.length ≤ 12000000) (hd : X.Nodup) (hn : ∀ x ∈ X, x.length = n) : dSortW (.list (rl X)) = some (.own .loc (sortD (rl X))) := by
  by_cases h0 : n = 0
  · have hx : ∀ x ∈ X, x = [] := fun x hx => List.eq_nil_of_length_eq_zero ((hn x hx).trans h0)
    have hl : X.length ≤ 1 := by
      have := Tr.nodup_le X [[]] hd fun x hx' => by rw [hx x hx']; exact List.mem_cons_self ..
      exact this
    have e : sortD (rl X) = rl X := by
      match X, hl with
      | [], _ => rfl
      | [x], _ => rfl
    unfold dSortW
    simp only
    rw [e]
    split
    · rfl
    · rw [if_pos (decide_eq_true (by rw [List.length_map]; exact hl))]
  · unfold dSortW
    simp only
    rw [if_pos]
    refine sort_ok (fun a ha b hb => ?_) (fun a ha => ?_) (fun a ha => ?_) (by rw [List.length_map]; exact h)
    · obtain ⟨x, _, rfl⟩ := List.mem_map.mp ha
      obtain ⟨y, _, rfl⟩ := List.mem_map.mp hb
      unfold rowD
      rw [W.alike]; exact alike_row x y
    · obtain ⟨x, hx, rfl⟩ := List.mem_map.mp ha
      cases x with
      | nil => exact absurd (hn [] hx).symm h0
      | cons p x => rfl
    · obtain ⟨x, _, rfl⟩ := List.mem_map.mp ha
      exact ok_row x
end K26

namespace K26
open PySem Vi PyProof.Rows
/-! the shortest that are reached -/
theorem minOk_il (as : List Int) : minOk (il as) = true := by
  have m : ∀ d ∈ il as, ∃ x : Int, d = .int x := fun d hd => by
    obtain ⟨x, _, rfl⟩ := List.mem_map.mp hd
    exact ⟨x, rfl⟩
  have h1 : alikeAllB (il as) = true := by
    unfold alikeAllB
    rw [List.all_eq_true]
    intro d hd
    rw [List.all_eq_true]
    intro e he
    obtain ⟨p, rfl⟩ := m d hd
    obtain ⟨q, rfl⟩ := m e he
    simp [W.alike]
  have h2 : (il as).all notNone = true := by
    rw [List.all_eq_true]
    intro d hd
    obtain ⟨p, rfl⟩ := m d hd
    rfl
  have h3 : (il as).all okD = true := by
    rw [List.all_eq_true]
    intro d hd
    obtain ⟨p, rfl⟩ := m d hd
    rfl
  unfold minOk
  rw [h1, h2, h3, decide_eq_true (Nat.le_trans (dep_il as) (by decide))]; rfl
theorem min_spec : ∀ (ns : List Int) (n : Int), (ns.foldl min n) ∈ n :: ns ∧ ∀ k ∈ n :: ns, ns.foldl min n ≤ k
  | [], n => ⟨by simp, fun k hk => by rw [List.mem_singleton.mp hk]; exact Int.le_refl _⟩
  | m :: ns, n => by
    obtain ⟨h1, h2⟩ := min_spec ns (min n m)
    show ns.foldl min (min n m) ∈ _ ∧ ∀ k ∈ _, ns.foldl min (min n m) ≤ k
    have h3 := h2 (min n m) (List.mem_cons_self ..)
    refine ⟨?_, fun k hk => ?_⟩
    · rcases List.mem_cons.mp h1 with e | h1
      · rw [e]
        rcases Int.le_total n m with q | q
        · rw [Int.min_eq_left q]; simp
        · rw [Int.min_eq_right q]; simp
      · simp [h1]
    · rcases List.mem_cons.mp hk with rfl | hk
      · exact Int.le_trans h3 (Int.min_le_left _ _)
      · rcases List.mem_cons.mp hk with rfl | hk
        · exact Int.le_trans h3 (Int.min_le_right _ _)
        · exact h2 k (List.mem_cons_of_mem _ hk)
theorem min_il {ns : List Int} (h : ns ≠ []) : ∃ m ∈ ns, dMinL (.list (il ns)) = some (.imm (.int m)) ∧ ∀ k ∈ ns, m ≤ k := by
  cases ns with
  | nil => exact absurd rfl h
  | cons n ns =>
    obtain ⟨h1, h2⟩ := min_spec ns n
    refine ⟨_, h1, ?_, h2⟩
    have this : minOk (.int n :: il ns) = true := minOk_il (n :: ns)
    show (if minOk (.int n :: il ns) = true then some (Sv.imm (W.minD (.int n) (il ns))) else none) = _
    rw [if_pos this, show W.minD (.int n) (il ns) = .int (ns.foldl min n) from W.minD_ints n ns]
def gA (cl : Nat → Fn) : MS := (mSet 2 (mCall (cl 33) (rVal (mVar 0) (rVal (mVar 1) rNil))))
def gB : MS := (mSet 3 (un dMinL (mComp (mISeq (mVar 2)) (mN 5) mYes (un dLen (mVar 5)) [5])))
def gC : MS := (mSet 4 (mComp (mISeq (mVar 2)) (mN 5) (mB (bin dEq (un dLen (mVar 5)) (mVar 3))) (mVar 5) [5]))
def gK : ME := (mComp (mISeq (mVar 4)) (mN 5) mYes (mTup (mCons (un dTuple (mComp (mISeq (mVar 5)) (mN 6) mYes (bin dIx (mVar 6) (mC (.int 0))) [6])) (mCons (mVar 5) mNil))) [5])
def gR : MS := (mRet (mComp (mISeq (un dSortW gK)) (mN 5) mYes (bin dIx (mVar 5) (mC (.int 1))) [5]))
theorem shortest_fn (cl : Nat → Fn) : fn34 cl = mFn 7 2 (mSeq (gA cl) (mSeq gB (mSeq gC gR))) := rfl
section
variable {cl : Nat → Fn} {M : List (Int × Int)} {r : Row} {s2 s3 s4 : Option Sv}
abbrev HG (r : Row) (M : List (Int × Int)) (s2 s3 s4 : Option Sv) : Fm := [rr r, mm M, s2, s3, s4, none, none]
theorem gB_ok {R : List Row} (hne : R ≠ []) (hb : R.length ≤ 5421361) : ∃ m : Nat, gB (HG r M (oo (rl R)) s3 s4) = some (.next, HG r M (ll (rl R)) (ii (m : Int)) s4) ∧ (∃ t ∈ R, t.length = m) ∧ ∀ t ∈ R, m ≤ t.length := by
  have hc : cloop (mN 5) mYes (un dLen (mVar 5)) [5] (rl R) [rr r, mm M, ll (rl R), s3, s4, none, none] = some (R.map fun t => .int (t.length : Int), [rr r, mm M, ll (rl R), s3, s4, none, none]) :=
    c_cmap rowD (fun t => .int (t.length : Int)) R fun t _ => ⟨[rr r, mm M, ll (rl R), s3, s4, rr t, none], .val (.imm (.int (t.length : Int))), [rr r, mm M, ll (rl R), s3, s4, rr t, none], [rr r, mm M, ll (rl R), s3, s4, rr t, none], rfl, c_un rfl rfl (len_row t), rfl, rfl⟩
  have e : (R.map fun t : Row => (.int (t.length : Int) : D)) = il (R.map fun t => (t.length : Int)) := by rw [il, List.map_map]; rfl
  rw [e] at hc
  obtain ⟨m, hm, h1, h2⟩ := min_il (ns := R.map fun t => (t.length : Int)) (by simpa using hne)
  obtain ⟨t, ht, rfl⟩ := List.mem_map.mp hm
  refine ⟨t.length, ?_, ⟨t, ht, rfl⟩, fun u hu => ?_⟩
  · have hcomp : mComp (mISeq (mVar 2)) (mN 5) mYes (un dLen (mVar 5)) [5] (HG r M (oo (rl R)) s3 s4) = some (.val (.own .loc (il (R.map fun t => (t.length : Int)))), HG r M (ll (rl R)) s3 s4) :=
      c_comp (ds := rl R) (ρ1 := HG r M (ll (rl R)) s3 s4) rfl rfl hc (big_fits (by rw [il, List.length_map, List.length_map]; omega)) rfl
    exact c_set (c_un hcomp rfl h1) rfl
  · have := h2 _ (List.mem_map.mpr ⟨u, hu, rfl⟩)
    omega
theorem gC_loop {R : List Row} {m : Nat} : ∀ T : List Row, cloop (mN 5) (mB (bin dEq (un dLen (mVar 5)) (mVar 3))) (mVar 5) [5] (rl T) [rr r, mm M, ll (rl R), ii (m : Int), s4, none, none] = some (rl (T.filter fun t => decide (t.length = m)), [rr r, mm M, ll (rl R), ii (m : Int), s4, none, none])
  | [] => rfl
  | t :: T => by
    have tt : mB (bin dEq (un dLen (mVar 5)) (mVar 3)) [rr r, mm M, ll (rl R), ii (m : Int), s4, rr t, none] = some ((t.length : Int) == (m : Int), [rr r, mm M, ll (rl R), ii (m : Int), s4, rr t, none]) := c_b (c_bin (c_un rfl rfl (len_row t)) rfl rfl rfl (eq_int _ _))
    by_cases h : t.length = m
    · rw [List.filter_cons, if_pos (decide_eq_true h)]
      rw [show ((t.length : Int) == (m : Int)) = true from beq_iff_eq.mpr (by rw [h])] at tt
      exact c_ccons rfl tt rfl rfl (gC_loop T)
    · rw [List.filter_cons, if_neg (by simpa using h)]
      rw [show ((t.length : Int) == (m : Int)) = false from beq_eq_false_iff_ne.mpr (by omega)] at tt
      exact c_cskip rfl tt (gC_loop T)
theorem gC_ok {R : List Row} {m : Nat} (hb : R.length ≤ 5421361) : gC (HG r M (ll (rl R)) (ii (m : Int)) s4) = some (.next, HG r M (ll (rl R)) (ii (m : Int)) (oo (rl (R.filter fun t => decide (t.length = m))))) :=
  c_set (c_comp (ds := rl R) (ρ1 := HG r M (ll (rl R)) (ii (m : Int)) s4) rfl rfl (gC_loop R) (big_fits (by
    rw [List.length_map]
    have := List.length_filter_le (fun t : Row => decide (t.length = m)) R
    omega)) rfl) rfl
theorem gP_ok {t : Row} {s5 : Option Sv} (hl : t.length ≤ 9000) : mComp (mISeq (mVar 5)) (mN 6) mYes (bin dIx (mVar 6) (mC (.int 0))) [6] [rr r, mm M, s2, s3, s4, rr t, none] = some (.val (.own .loc (il (prts t))), [rr r, mm M, s2, s3, s4, rr t, none]) := by
  have hc : cloop (mN 6) mYes (bin dIx (mVar 6) (mC (.int 0))) [6] (dsD t) [rr r, mm M, s2, s3, s4, rr t, none] = some (t.map fun p => .int p.1, [rr r, mm M, s2, s3, s4, rr t, none]) :=
    c_cmap prD (fun p => .int p.1) t fun p _ => ⟨[rr r, mm M, s2, s3, s4, rr t, some (.imm (prD p))], .val (.imm (.int p.1)), [rr r, mm M, s2, s3, s4, rr t, some (.imm (prD p))], [rr r, mm M, s2, s3, s4, rr t, some (.imm (prD p))], rfl, c_bin rfl rfl rfl rfl rfl, rfl, rfl⟩
  have e : (t.map fun p => (.int p.1 : D)) = il (prts t) := by rw [il, prts, List.map_map]; rfl
  rw [e] at hc
  exact c_comp (ds := dsD t) (ρ1 := [rr r, mm M, s2, s3, s4, rr t, none]) rfl rfl hc (c_fits (by rw [il, prts, List.length_map, List.length_map]; omega)) rfl
theorem gK_ok {X : List Row} (hb : X.length ≤ 5421361) (hl : ∀ t ∈ X, t.length ≤ 9000) : gK (HG r M s2 s3 (oo (rl X))) = some (.val (.own .loc (X.map ky)), HG r M s2 s3 (ll (rl X))) := by
  have hc : cloop (mN 5) mYes (mTup (mCons (un dTuple (mComp (mISeq (mVar 5)) (mN 6) mYes (bin dIx (mVar 6) (mC (.int 0))) [6])) (mCons (mVar 5) mNil))) [5] (rl X) [rr r, mm M, s2, s3, ll (rl X), none, none] = some (X.map ky, [rr r, mm M, s2, s3, ll (rl X), none, none]) :=
    c_cmap rowD ky X fun t ht => ⟨[rr r, mm M, s2, s3, ll (rl X), rr t, none], .val (.imm (ky t)), [rr r, mm M, s2, s3, ll (rl X), rr t, none], [rr r, mm M, s2, s3, ll (rl X), rr t, none], rfl, c_tup (c_acons (c_un (gP_ok (s5 := none) (hl t ht)) rfl rfl) rfl (c_acons rfl rfl c_anil)) rfl, rfl, rfl⟩
  exact c_comp (ds := rl X) (ρ1 := HG r M s2 s3 (ll (rl X))) rfl rfl hc (big_fits (by rw [List.length_map]; omega)) rfl
theorem gR_ok {X : List Row} (hb : X.length ≤ 5421361) (hl : ∀ t ∈ X, t.length ≤ 9000) : ∃ Y : List Row, gR (HG r M s2 s3 (oo (rl X))) = some (.ret (.own .loc (rl Y)), HG r M s2 s3 (ll (rl X))) ∧ Y.Perm X ∧ Y.map ky = sortD (X.map ky) := by
  refine ⟨isort (fun a b => leD (ky a) (ky b)) X, ?_, isort_perm X, isort_map ky X⟩
  have hY := isort_map (le := leD) ky X
  have hp : (isort (fun a b => leD (ky a) (ky b)) X).Perm X := isort_perm X
  generalize isort (fun a b => leD (ky a) (ky b)) X = Y at *
  have hs := sort_ky (X := X) (by omega)
  rw [show sortD (X.map ky) = Y.map ky from hY.symm] at hs
  have hsq : mISeq (un dSortW gK) (HG r M s2 s3 (oo (rl X))) = some (Y.map ky, HG r M s2 s3 (ll (rl X))) := by
    have h1 : un dSortW gK (HG r M s2 s3 (oo (rl X))) = some (.val (.own .loc (Y.map ky)), HG r M s2 s3 (ll (rl X))) := c_un (gK_ok hb hl) rfl hs
    unfold mISeq; rw [h1]; rfl
  have hc : cloop (mN 5) mYes (bin dIx (mVar 5) (mC (.int 1))) [5] (Y.map ky) [rr r, mm M, s2, s3, ll (rl X), none, none] = some (Y.map rowD, [rr r, mm M, s2, s3, ll (rl X), none, none]) :=
    c_cmap ky rowD Y fun t _ => ⟨[rr r, mm M, s2, s3, ll (rl X), some (.imm (ky t)), none], .val (.imm (rowD t)), [rr r, mm M, s2, s3, ll (rl X), some (.imm (ky t)), none], [rr r, mm M, s2, s3, ll (rl X), some (.imm (ky t)), none], rfl, c_bin rfl rfl rfl rfl rfl, rfl, rfl⟩
  exact c_ret (c_comp (ds := Y.map ky) (ρ1 := HG r M s2 s3 (ll (rl X))) hsq rfl hc (big_fits (by rw [List.length_map, hp.length_eq]; omega)) rfl) rfl
structure IsShort (M : List (Int × Int)) (r : Row) (X : List Row) : Prop where
  first : ∃ t, X = nw M r :: t
  once : X.Nodup
  all : ∀ t, t ∈ X ↔ Tr.Eqc (cM M) t (Tr.stk (cM M) r []).reverse
  few : X.length ≤ 341
def ShortestP (f : Fn) (M : List (Int × Int)) : Prop := ∀ r : Row, r.length ≤ 4 → (∀ p ∈ r, 0 ≤ p.1 ∧ p.1 < 3) → norm r < 2 ^ 80 → ∃ X : List Row, f [.imm (rowD r), .imm (metD M)] = some (.own .loc (rl X), [none, none]) ∧ IsShort M r X
theorem shortest_ok (hM : MOk M) (P : ReachP (cl 33) M) : ShortestP (fn34 cl) M := fun r hr hp hn => by
  have hc := cM_ok hM
  obtain ⟨R, e1, hd, hR⟩ := P r hr hp hn
  have hb := Tr.few hr hp hd fun t ht => (hR t).mp ht
  have hne : R ≠ [] := fun e => by
    have := (hR r).mpr .refl
    rw [e] at this; cases this
  obtain ⟨m, e2, ⟨t0, ht0, hm0⟩, hmin⟩ := gB_ok (r := r) (M := M) (s3 := none) (s4 := none) hne hb
  have hm : m = (Tr.stk (cM M) r []).length := by
    have h1 := Tr.rch_low hc ((hR t0).mp ht0)
    have h2 := (Tr.short_iff hc (r := r) (t := (Tr.stk (cM M) r []).reverse)).mpr (Tr.eqc_refl _)
    have h3 := hmin _ ((hR _).mpr h2.1)
    rw [List.length_reverse] at h3
    omega
  obtain ⟨Y, e3, hY, hk⟩ := gR_ok (r := r) (M := M) (s2 := ll (rl R)) (s3 := ii (m : Int)) (X := R.filter fun t => decide (t.length = m)) (by
    have := List.length_filter_le (fun t : Row => decide (t.length = m)) R
    omega) fun t ht => by
      have := rch_len ((hR t).mp (List.mem_filter.mp ht).1)
      omega
  have hall : ∀ t, t ∈ Y ↔ Tr.Eqc (cM M) t (Tr.stk (cM M) r []).reverse := fun t => by
    rw [hY.mem_iff, List.mem_filter, hR t, decide_eq_true_iff, hm]
    exact Tr.short_iff hc
  refine ⟨Y, ?_, ⟨?_, hY.symm.nodup (hd.sublist List.filter_sublist), hall, ?_⟩⟩
  · rw [shortest_fn]
    exact c_fn (ρ0 := HG r M none none none) rfl rfl (c_seq (c_set (v_call2 (ev_var rfl) (ev_var rfl) e1) rfl) (c_seq e2 (c_seq (gC_ok hb) e3))) rfl
  · have hlen : (Tr.stk (cM M) r []).reverse.length ≤ 60 := by
      have := Tr.stk_le (c := cM M) r []
      rw [List.length_reverse]; simp at this; omega
    have hnw : nw M r ∈ Y := (hall _).mpr (Tr.lo_self hc 60 _ hlen).1
    obtain ⟨t, ht⟩ := sort_head (L := (R.filter fun t => decide (t.length = m)).map ky) (m := ky (nw M r)) (List.mem_map.mpr ⟨_, hY.mem_iff.mp hnw, rfl⟩) fun x hx => by
      obtain ⟨u, hu, rfl⟩ := List.mem_map.mp hx
      rcases Tr.lo_least hc 60 hlen ((hall u).mp (hY.mem_iff.mpr hu)) with h | h
      · left; exact congrArg ky h.symm
      · right; exact ky_lt h
    rw [← hk] at ht
    cases Y with
    | nil => cases ht
    | cons y Y =>
      rw [List.map_cons] at ht
      injection ht with h1 h2
      exact ⟨Y, by rw [ky_inj h1]⟩
  · have hlen : (Tr.stk (cM M) r []).reverse.length ≤ 4 := by
      have := Tr.stk_le (c := cM M) r []
      rw [List.length_reverse]; simp at this; omega
    exact Tr.eqc_few hc hlen (hY.symm.nodup (hd.sublist List.filter_sublist)) fun t ht => (hall t).mp ht
end
end K26

namespace K26
open PySem Vi PyProof.Rows
/-! rows and what goes together, as lists -/
theorem short_stepE {cl : Nat → Fn} {M : List (Int × Int)} (P : PlusP (cl 8)) (Q : PlaceP (cl 11) M) {x0 x5 x6 x7 : Option Sv} (s : Row) (p : Pr) {ee : D} (he : IsFr ee (v36 p.2)) (hs : lm s) (hp : p.2.natAbs < 2 ^ 80) (hl : s.length ≤ 800) :
    ∃ y5 y6 y7, sB cl (SF x0 (metD M) (dsD s.reverse) p.1 ee x5 x6 x7) = some (.next, SF x0 (metD M) (dsD (Tr.push (cM M) s p).reverse) p.1 ee y5 y6 y7) := by
  have h0 : (0 : Int).natAbs < 2 ^ 80 := by decide
  have hlen : (dsD s.reverse).length = s.length := by rw [dsD_len, List.length_reverse]
  obtain ⟨q1, q2⟩ := Q s p.1 (by omega)
  have one : ∀ k : Int, (if k = 0 then ([] : List D) else [prD (p.1, k)]) = dsD (if k = 0 then [] else [(p.1, k)]) := fun k => by split <;> rfl
  have rev : ∀ k : Int, (if k = 0 then ([] : Row) else [(p.1, k)]).reverse = if k = 0 then [] else [(p.1, k)] := fun k => by split <;> rfl
  cases ht : Tr.tops (cM M) p.1 s with
  | true =>
    obtain ⟨A, l, B, e1, e2, e3⟩ := split_T ht
    have c := q1 A l B ht e1 e2 fun q hq => (e3 q hq).1
    have hr : s.reverse = (l :: B).reverse ++ A.reverse := by rw [e1, List.reverse_append]
    have ha := at_mid l B A.reverse
    rw [← hr] at ha
    have q := P (f36 l.2) ee _ _ (isFr _) he (v_sd (hs l (by rw [e1]; simp))).sm (v_sd hp).sm
    rw [v_add] at q
    have hB : B.length < s.length := by rw [e1, List.length_append, List.length_cons]; omega
    have pt := step_put (m := metD M) (x0 := x0) (x6 := some (.imm (f36 l.2))) (L := dsD s.reverse) (a := B.length) (part := p.1) (k := l.2 + p.2) (e := ee) (by omega) (by omega)
    have hj : dsD (Tr.push (cM M) s p).reverse = (dsD s.reverse).take B.length ++ (if l.2 + p.2 = 0 then ([] : List D) else [prD (p.1, l.2 + p.2)]) ++ (dsD s.reverse).drop (B.length + 1) := by
      unfold Tr.push
      rw [if_pos ht, e1, join_split e2 fun q hq => (e3 q hq).1, one, List.reverse_append, List.reverse_append, rev, dsD_app, dsD_app, List.reverse_append, List.reverse_cons, dsD_app, dsD_app]
      have hb : (dsD B.reverse).length = B.length := by rw [dsD_len, List.length_reverse]
      rw [List.append_assoc (dsD B.reverse), List.take_left' hb, List.drop_append, hb, List.drop_of_length_le (by rw [hb]; omega), show B.length + 1 - B.length = 1 by omega]
      simp [dsD]
    rw [hj]
    generalize dsD s.reverse = L at *
    exact ⟨_, _, _, c_seq (call5 c) (c_seq (step_at ha) (c_seq (call7 q) pt))⟩
  | false =>
    have c := q2 ht
    have q := P (f36 0) ee _ _ (isFr _) he (v_sd h0).sm (v_sd hp).sm
    rw [v_add] at q
    rw [Int.zero_add] at q
    have pt := step_put (m := metD M) (x0 := x0) (x6 := zz) (L := dsD s.reverse) (a := (dsD s.reverse).length) (part := p.1) (k := p.2) (e := ee) (Nat.le_refl _) (by omega)
    have hj : dsD (Tr.push (cM M) s p).reverse = (dsD s.reverse).take (dsD s.reverse).length ++ (if p.2 = 0 then ([] : List D) else [prD (p.1, p.2)]) ++ (dsD s.reverse).drop ((dsD s.reverse).length + 1) := by
      unfold Tr.push
      rw [if_neg (by rw [ht]; decide), List.take_length, List.drop_of_length_le (by omega), List.append_nil]
      split
      · rw [List.append_nil]
      · rw [List.reverse_cons, dsD_app]; rfl
    rw [hj]
    generalize dsD s.reverse = L at *
    exact ⟨_, _, _, c_seq (call5 c) (c_seq step_none (c_seq (call7 q) pt))⟩
def frL (k : Int) : D := .list [.int (v36 k).num, .int ((v36 k).den : Int)]
def prL (p : Pr) : D := .list [.int p.1, frL p.2]
def rowL (r : Row) : D := .list (r.map prL)
def toL (p : Int × Int) : D := .list [.int p.1, .int p.2]
def metL (M : List (Int × Int)) : D := .list (M.map toL)
theorem short_loopL {cl : Nat → Fn} {M : List (Int × Int)} (P : PlusP (cl 8)) (Q : PlaceP (cl 11) M) {x0 : Option Sv} : ∀ (r s : Row) (x3 x4 x5 x6 x7 : Option Sv), norm s + norm r < 2 ^ 80 → s.length + r.length ≤ 800 →
    ∃ y3 y4 y5 y6 y7, loop (mGseq 2 (mGcons (mN 3) (mGcons (mN 4) mGnil))) (sB cl) (r.map prL) [x0, some (.imm (metD M)), some (.own .loc (dsD s.reverse)), x3, x4, x5, x6, x7] = some (.next, [x0, some (.imm (metD M)), some (.own .loc (dsD (Tr.stk (cM M) r s).reverse)), y3, y4, y5, y6, y7])
  | [], s, x3, x4, x5, x6, x7, _, _ => ⟨x3, x4, x5, x6, x7, rfl⟩
  | p :: r, s, x3, x4, x5, x6, x7, h1, h2 => by
    rw [norm_cons] at h1
    rw [List.length_cons] at h2
    have n1 := push_norm (c := cM M) s p
    have n2 := push_len (c := cM M) s p
    obtain ⟨y5, y6, y7, e⟩ := short_stepE P Q (x0 := x0) (x5 := x5) (x6 := x6) (x7 := x7) s p (isFrL (v36 p.2)) (norm_lm (by omega)) (by omega) (by omega)
    obtain ⟨z3, z4, z5, z6, z7, g⟩ := short_loopL P Q (x0 := x0) r (Tr.push (cM M) s p) (ii p.1) (some (.imm (frL p.2))) y5 y6 y7 (by omega) (by omega)
    exact ⟨z3, z4, z5, z6, z7, c_cons (ρ1 := SF x0 (metD M) (dsD s.reverse) p.1 (frL p.2) x5 x6 x7) rfl e g⟩
def ShortLP (f : Fn) (M : List (Int × Int)) : Prop := ∀ r : Row, norm r < 2 ^ 80 → r.length ≤ 800 → f [.imm (rowL r), .imm (metD M)] = some (.own .loc (dsD (Tr.stk (cM M) r []).reverse), [none, none])
theorem shortL_ok {cl : Nat → Fn} {M : List (Int × Int)} (P : PlusP (cl 8)) (Q : PlaceP (cl 11) M) : ShortLP (fn12 cl) M := fun r hn hl => by
  obtain ⟨y3, y4, y5, y6, y7, e⟩ := short_loopL P Q (x0 := some (.imm (rowL r))) r [] none none none none none (by simp [norm] at *; omega) (by simpa using hl)
  rw [short_fn]
  exact c_fn (ρ0 := [some (.imm (rowL r)), some (.imm (metD M)), none, none, none, none, none, none]) rfl rfl (c_seq (c_set (c_lst c_anil rfl) rfl) (c_seq (c_for (ds := r.map prL) (ρ1 := [some (.imm (rowL r)), some (.imm (metD M)), some (.own .loc []), none, none, none, none, none]) rfl e) (c_ret rfl rfl))) rfl
def WithLP (f : Fn) (M : List (Int × Int)) : Prop := ∀ r : Row, norm r < 2 ^ 80 → r.length ≤ 60 → f [.imm (rowL r), .imm (metL M)] = some (.imm (rowD (nw M r)), [none, none])
theorem withL_ok {cl : Nat → Fn} {M : List (Int × Int)} (hM : MOk M) (Z : FzP (cl 4) (metL M) (metD M)) (S : ShortLP (cl 12) M) (O : OrdP (cl 16) M) (P : PartsP (cl 17)) : WithLP (fn18 cl) M := fun r hn hl => by
  have hs := stk_len (c := cM M) r []
  have hs' : (Tr.stk (cM M) r []).reverse.length ≤ 60 := by rw [List.length_reverse]; simpa using Nat.le_trans hs (by simpa using hl)
  have hS := S r hn (by omega)
  have hlo := Tr.lo_self (cM_ok hM) 60 (Tr.stk (cM M) r []).reverse hs'
  unfold nw
  generalize (Tr.stk (cM M) r []).reverse = l at *
  obtain ⟨K, o1, o2⟩ := O l hs'
  have v1 : EV (mVar 1) [some (.imm (rowL r)), some (.imm (metD M)), none, none] (metD M) := ev_var rfl
  have v1L : EV (mVar 1) [some (.imm (rowL r)), some (.imm (metL M)), none, none] (metL M) := ev_var rfl
  have v0 : EV (mVar 0) [some (.imm (rowL r)), some (.imm (metD M)), none, none] (rowL r) := ev_var rfl
  have s1 : mSet 1 (mCall (cl 4) (rVal (mVar 1) rNil)) [some (.imm (rowL r)), some (.imm (metL M)), none, none] = some (.next, [some (.imm (rowL r)), some (.imm (metD M)), none, none]) := c_set (v_call1 v1L Z) rfl
  have s2 : mSet 2 (mCall (cl 12) (rVal (mVar 0) (rVal (mVar 1) rNil))) [some (.imm (rowL r)), some (.imm (metD M)), none, none] = some (.next, [some (.imm (rowL r)), some (.imm (metD M)), oo (dsD l), none]) := c_set (v_call2 v0 v1 hS) rfl
  have k17 : mCall (cl 17) (rVal (mVar 2) rNil) [some (.imm (rowL r)), some (.imm (metD M)), oo (dsD l), none] = some (.val (.own .loc (il (l.map Prod.fst))), [some (.imm (rowL r)), some (.imm (metD M)), ll (dsD l), none]) := c_call (as := [.v (.list (dsD l))]) rfl rfl rfl (P l (by omega)) rfl
  have k16 : mCall (cl 16) (rVal (mCall (cl 17) (rVal (mVar 2) rNil)) (rVal (mVar 1) rNil)) [some (.imm (rowL r)), some (.imm (metD M)), oo (dsD l), none] = some (.val (.own .loc (kD K)), [some (.imm (rowL r)), some (.imm (metD M)), ll (dsD l), none]) := c_call (c_rval k17 rfl (c_rval (me := mVar 1) (pr := .slot 1) (ρ2 := [some (.imm (rowL r)), some (.imm (metD M)), ll (dsD l), none]) rfl rfl rfl)) rfl rfl o1 rfl
  have hi : mISeq (mCall (cl 16) (rVal (mCall (cl 17) (rVal (mVar 2) rNil)) (rVal (mVar 1) rNil))) [some (.imm (rowL r)), some (.imm (metD M)), oo (dsD l), none] = some (kD K, [some (.imm (rowL r)), some (.imm (metD M)), ll (dsD l), none]) := by
    unfold mISeq
    rw [k16]; rfl
  have e := pick3 (x0 := some (.imm (rowL r))) (M := M) K _ o2
  have hf : fits (dsD (Tr.lo (cM M) 60 l)).length = true := c_fits (by rw [dsD_len, hlo.2]; omega)
  unfold fn18
  exact c_fn (ρ0 := [some (.imm (rowL r)), some (.imm (metL M)), none, none]) rfl rfl (c_seq s1 (c_seq s2 (c_ret (c_un (f := dTuple) (c_comp hi rfl e hf rfl) rfl rfl) rfl))) rfl

theorem fz_pL (K : Nat) (p : Int × Int) : FzP (run (K + 2) 4) (toL p) (toP p) := by
  have := fz_seq (α := Int) (cl := run (K + 1)) (fun i => .int i) (fun i => .int i) [p.1, p.2] (toL p) (.inr rfl) (fun a _ => fz_1 K a) (by simp)
  unfold FzP at *
  rw [rs4]
  exact this
theorem fz_metL (K : Nat) {M : List (Int × Int)} (hl : M.length ≤ 9000) : FzP (run (K + 3) 4) (metL M) (metD M) := by
  have := fz_seq (cl := run (K + 2)) toL toP M (metL M) (.inr rfl) (fun p _ => fz_pL K p) hl
  unfold FzP at *
  rw [rs4]
  exact this
/-! is_same -/
def IsSameP (f : Fn) : Prop := ∀ x y : Row, norm x < 2 ^ 80 → x.length ≤ 800 → norm y < 2 ^ 80 → y.length ≤ 800 → f [.imm (rowD x), .imm (rowD y)] = some (.imm (.bool (decide ((Tr.stk (cM []) x []).reverse = (Tr.stk (cM []) y []).reverse))), [none, none])
theorem is_same_ok {cl : Nat → Fn} (N : NormalP (cl 13)) : IsSameP (fn14 cl) := fun x y h1 h2 h3 h4 => by
  unfold fn14
  exact c_fn (ρ0 := [rr x, rr y]) rfl rfl (c_ret (v_bin (e_call1 (ev_var rfl) (N x h1 h2)) (e_call1 (ev_var rfl) (N y h3 h4)) (eq_row _ _)) rfl) rfl
/-! drawn turns -/
def dB (cl : Nat → Fn) : MS := (mSeq (mSet 4 (mCall (cl 32) (rVal (mVar 1) (rVal (mVar 2) rNil)))) (mIfS (mB (bin dNe (mVar 4) (mLst mNil))) (mSet 1 (bin dIx (mVar 4) (mCall (cl 22) (rSlot 0 (rVal (un dLen (mVar 4)) rNil))))) mNext))
theorem drawn_fn (cl : Nat → Fn) : fn35 cl = mFn 5 3 (mSeq (mFor (mIRng1 (mCons (mC (.int 3)) mNil)) (mN 3) (dB cl)) (mRet (mVar 1))) := rfl
abbrev DG (bb : List D) (t : Row) (M : List (Int × Int)) (x3 x4 : Option Sv) : Fm := [some (.own .par bb), rr t, mm M, x3, x4]
section
variable {cl : Nat → Fn} {b : Int} {M : List (Int × Int)} {r t : Row}
theorem at_rl {X : List Row} {k : Nat} {t : Row} (h : X[k]? = some t) : dIx (.list (rl X)) (.int (k : Int)) = some (.imm (rowD t)) := by
  show (L2.atI (rl X) (k : Int)).map Sv.imm = _
  rw [L2.atI_nat (show (rl X)[k]? = some (rowD t) by unfold rl; rw [List.getElem?_map, h]; rfl)]; rfl
theorem len_rl (X : List Row) : dLen (.list (rl X)) = some (.imm (.int (X.length : Int))) := by
  show some (Sv.imm (.int ((rl X).length : Int))) = _
  rw [List.length_map]
theorem turns_le (c : Int → Int → Bool) : ∀ r : Row, (Tr.turns c r).length ≤ 2 * r.length
  | [] => by simp [Tr.turns]
  | p :: r => by
    have h1 := turn1_len c p r
    have h2 := turns_le c r
    rw [Tr.turns, List.length_append, List.length_map, List.length_cons]; omega
theorem drawn_step (P : TurnsP (cl 32) M) (T : TakeP (cl 22) b) {a c : Int} {x3 x4 : Option Sv} (hn : norm t < 2 ^ 80) (hl : t.length ≤ 60) (h1 : 0 ≤ c) (h2 : c < 90000) :
    ∃ (u : Row) (a' c' : Int) (y4 : Option Sv), dB cl (DG (bx a b c) t M x3 x4) = some (.next, DG (bx a' b c') u M x3 y4) ∧ Tr.Rch (cM M) t u ∧ 0 ≤ c' ∧ c' ≤ c + 1 := by
  have e1 : mSet 4 (mCall (cl 32) (rVal (mVar 1) (rVal (mVar 2) rNil))) (DG (bx a b c) t M x3 x4) = some (.next, DG (bx a b c) t M x3 (oo (rl (Tr.turns (cM M) t)))) := c_set (v_call2 (ev_var rfl) (ev_var rfl) (P t hn hl)) rfl
  have hle := turns_le (cM M) t
  have hmem : ∀ u ∈ Tr.turns (cM M) t, Tr.Rch (cM M) t u := fun u hu => .one hu
  generalize Tr.turns (cM M) t = X at *
  have e2 : mB (bin dNe (mVar 4) (mLst mNil)) (DG (bx a b c) t M x3 (oo (rl X))) = some (!X.isEmpty, DG (bx a b c) t M x3 (oo (rl X))) := c_b (c_bin rfl (c_lst c_anil rfl) rfl rfl (ne_nil X))
  cases hX : X with
  | nil =>
    rw [hX] at e1 e2
    exact ⟨t, a, c, _, c_seq e1 (c_ifF e2 rfl), .refl, h1, by omega⟩
  | cons x0 X0 =>
    have hpos : 0 < X.length := by rw [hX]; simp
    rw [show (!X.isEmpty) = true by rw [hX]; rfl] at e2
    obtain ⟨v, a1, c1, e, q1, q2, p1, p2⟩ := T a c (X.length : Int) (by omega) (by omega) h1 (by omega)
    obtain ⟨k, rfl⟩ : ∃ k : Nat, v = (k : Int) := ⟨v.toNat, by omega⟩
    have hk : k < X.length := by omega
    have e3 : mCall (cl 22) (rSlot 0 (rVal (un dLen (mVar 4)) rNil)) (DG (bx a b c) t M x3 (oo (rl X))) = some (.val (.imm (.int (k : Int))), DG (bx a1 b c1) t M x3 (oo (rl X))) := c_call (c_rslot rfl (c_rval (c_un rfl rfl (len_rl X)) rfl rfl)) rfl rfl e rfl
    have e4 := at_rl (List.getElem?_eq_getElem hk)
    have e5 : mSet 1 (bin dIx (mVar 4) (mCall (cl 22) (rSlot 0 (rVal (un dLen (mVar 4)) rNil)))) (DG (bx a b c) t M x3 (oo (rl X))) = some (.next, DG (bx a1 b c1) X[k] M x3 (oo (rl X))) := c_set (c_bin rfl e3 rfl rfl e4) rfl
    exact ⟨X[k], a1, c1, _, c_seq e1 (c_ifT e2 e5), hmem _ (List.getElem_mem hk), p1, p2⟩
theorem drawn_loop (P : TurnsP (cl 32) M) (T : TakeP (cl 22) b) : ∀ (ds : List D) (t : Row) (a c : Int) (x3 x4 : Option Sv), norm t < 2 ^ 80 → t.length ≤ 60 → 0 ≤ c → c + ds.length < 90000 →
    ∃ (u : Row) (a' c' : Int) (y3 y4 : Option Sv), loop (mN 3) (dB cl) ds (DG (bx a b c) t M x3 x4) = some (.next, DG (bx a' b c') u M y3 y4) ∧ Tr.Rch (cM M) t u ∧ 0 ≤ c' ∧ c' ≤ c + ds.length
  | [], t, a, c, x3, x4, _, _, h, _ => ⟨t, a, c, x3, x4, rfl, .refl, h, by simp⟩
  | d :: ds, t, a, c, x3, x4, hn, hl, h1, h2 => by
    rw [List.length_cons] at h2
    obtain ⟨u, a1, c1, y4, e, q1, p1, p2⟩ := drawn_step P T (a := a) (x3 := some (.imm d)) (x4 := x4) hn hl h1 (by omega)
    obtain ⟨w, a2, c2, z3, z4, g, q2, p3, p4⟩ := drawn_loop P T ds u a1 c1 (some (.imm d)) y4 (Nat.lt_of_le_of_lt (rch_norm q1) hn) (Nat.le_trans (rch_len q1) hl) p1 (by omega)
    exact ⟨w, a2, c2, z3, z4, c_cons (ρ1 := DG (bx a b c) t M (some (.imm d)) x4) rfl e g, q1.trans q2, p3, by rw [List.length_cons]; omega⟩
def DrawnP (f : Fn) (b : Int) : Prop := ∀ (M : List (Int × Int)) (t : Row), norm t < 2 ^ 80 → t.length ≤ 60 → ∀ a c : Int, 0 ≤ c → c < 10000 → ∃ (u : Row) (a' c' : Int), f [.own .par (bx a b c), .imm (rowD t), .imm (metD M)] = some (.imm (rowD u), [some (bx a' b c'), none, none]) ∧ Tr.Rch (cM M) t u ∧ 0 ≤ c' ∧ c' ≤ c + 3
theorem drawn_ok (P : ∀ M, TurnsP (cl 32) M) (T : TakeP (cl 22) b) : DrawnP (fn35 cl) b := fun M t hn hl a c h1 h2 => by
  obtain ⟨u, a1, c1, y3, y4, e, q, p1, p2⟩ := drawn_loop (P M) T (rngD 0 3) t a c none none hn hl h1 (by rw [rngD_len]; omega)
  rw [rngD_len] at p2
  refine ⟨u, a1, c1, ?_, q, p1, by simpa using p2⟩
  rw [drawn_fn]
  exact c_fn (ρ0 := DG (bx a b c) t M none none) rfl rfl (c_seq (c_for (c_rng1 (n := 3) (c_acons rfl rfl c_anil) (by omega)) e) (c_ret rfl rfl)) rfl
end
end K26

namespace K26
open PySem Vi PyProof.Rows
/-! a case -/
theorem nw_alike {M : List (Int × Int)} (hM : MOk M) {x y : Row} (h1 : x.length ≤ 60) (h2 : y.length ≤ 60) (h : Tr.Eqc (cM M) (Tr.stk (cM M) x []) (Tr.stk (cM M) y [])) : nw M x = nw M y := (nw_iff hM h1 h2).mpr (Tr.eqc_rev h)
theorem stk_inv {c : Int → Int → Bool} (hc : Tr.Ok c) : ∀ (n : Nat) (u : Row), u.length ≤ n → Tr.Eqc c (Tr.stk c (u ++ inv u) []) []
  | 0, u, h => by
    have : u = [] := List.eq_nil_of_length_eq_zero (by omega)
    rw [this]; exact Tr.eqc_refl _
  | n + 1, u, h => by
    rcases List.eq_nil_or_concat u with rfl | ⟨v, p, rfl⟩
    · exact Tr.eqc_refl _
    · rw [List.concat_eq_append] at h ⊢
      have e : v ++ [p] ++ inv (v ++ [p]) = v ++ (p.1, p.2) :: (p.1, -p.2) :: inv v := by
        unfold inv; simp
      rw [e]
      exact Tr.eqc_trans (Tr.stk_put hc v (inv v)) (stk_inv hc n v (by simp at h; omega))
theorem inv_len (u : Row) : (inv u).length = u.length := by unfold inv; simp
theorem inv_norm (u : Row) : norm (inv u) = norm u := by
  have h : ∀ r : Row, norm (r.map fun p => (p.1, -p.2)) = norm r := fun r => by
    unfold norm
    rw [List.map_map]
    congr 1
    refine List.map_congr_left fun p _ => ?_
    show (-p.2).natAbs = _
    omega
  unfold inv
  rw [h, norm_rev]
abbrev KF (bb : List D) (r : Row) (M : List (Int × Int)) (s3 s4 s5 s6 s7 s8 : Option Sv) : Fm := [some (.own .par bb), rr r, mm M, s3, s4, s5, s6, s7, s8, none]
def c1 (cl : Nat → Fn) : MS := (mSet 3 (mCall (cl 34) (rVal (mVar 1) (rVal (mVar 2) rNil))))
def c2 : MS := (mSet 4 (bin dIx (mVar 3) (mC (.int 0))))
def c3 (cl : Nat → Fn) : MS := (mSet 5 (mCall (cl 35) (rSlot 0 (rVal (mVar 1) (rVal (mVar 2) rNil)))))
def cRL : ME := (mComp (mISeq (mVar 1)) (mN 9) mYes (mLst (mCons (bin dIx (mVar 9) (mC (.int 0))) (mCons (un dList (bin dIx (mVar 9) (mC (.int 1)))) mNil))) [9])
def cML : ME := (mComp (mISeq (mVar 2)) (mN 9) mYes (un dList (mVar 9)) [9])
def c4 (cl : Nat → Fn) : MS := (mSet 6 (mLst (mCons (mCall (cl 18) (rVal (mVar 1) (rVal (mVar 2) rNil))) (mCons (mCall (cl 18) (rVal (mVar 5) (rVal (mVar 2) rNil))) (mCons (mCall (cl 18) (rVal cRL (rVal cML rNil))) mNil)))))
def c5 : MS := (mSet 7 (mLst (mCons (mVar 4) (mCons (mVar 4) (mCons (mVar 4) mNil)))))
def c6 (cl : Nat → Fn) : MS := (mDrop (mApp 6 (un dSortW (mCall (cl 33) (rVal (mVar 4) (rVal (mVar 2) rNil))))))
def c7 : MS := (mDrop (mApp 7 (un dSortW (mVar 3))))
def c8 (cl : Nat → Fn) : MS := (mSet 8 (mCall (cl 29) (rVal (mVar 5) rNil)))
def c9 (cl : Nat → Fn) : MS := (mSet 6 (bin dAdd (mVar 6) (mLst (mCons (mCall (cl 19) (rVal (mVar 1) (rVal (mVar 5) (rVal (mVar 2) rNil)))) (mCons (mCall (cl 19) (rVal (mVar 1) (rVal (bin dIx (mVar 3) (un dNeg (mC (.int 1)))) (rVal (mVar 2) rNil)))) (mCons (mCall (cl 19) (rVal (bin dAdd (mVar 1) (mVar 8)) (rVal (mTup mNil) (rVal (mVar 2) rNil)))) mNil))))))
def c10 (cl : Nat → Fn) : MS := (mRet (mCall (cl 24) (rVal (mVar 6) (rVal (bin dAdd (mVar 7) (mLst (mCons (mC (.bool true)) (mCons (mC (.bool true)) (mCons (mC (.bool true)) mNil))))) rNil))))
theorem case_fn (cl : Nat → Fn) : fn36 cl = mFn 10 3 (mSeq (c1 cl) (mSeq c2 (mSeq (c3 cl) (mSeq (c4 cl) (mSeq c5 (mSeq (c6 cl) (mSeq c7 (mSeq (c8 cl) (mSeq (c9 cl) (c10 cl)))))))))) := rfl
structure Cc (cl : Nat → Fn) (b : Int) : Prop where
  short : ∀ M, MOk M → ShortestP (cl 34) M
  reach : ∀ M, MOk M → ReachP (cl 33) M
  drawn : DrawnP (cl 35) b
  norm : ∀ M, MOk M → WithP (cl 18) M
  normL : ∀ M, MOk M → WithLP (cl 18) M
  und : UndP (cl 29)
  same : ∀ M, MOk M → SameP (cl 19) M
  eq : ∀ d, smD 8 d = true → cl 24 [.imm d, .imm d] = some (.imm (.bool true), [none, none])
section
variable {cl : Nat → Fn} {b : Int} {M : List (Int × Int)} {r u : Row} {bb : List D} {s3 s4 s5 s6 s7 s8 : Option Sv}
theorem cRL_ok (hl : r.length ≤ 900) : cRL (KF bb r M s3 s4 s5 s6 s7 s8) = some (.val (.own .loc (r.map prL)), KF bb r M s3 s4 s5 s6 s7 s8) := by
  have hc : cloop (mN 9) mYes (mLst (mCons (bin dIx (mVar 9) (mC (.int 0))) (mCons (un dList (bin dIx (mVar 9) (mC (.int 1)))) mNil))) [9] (dsD r) (KF bb r M s3 s4 s5 s6 s7 s8) = some (r.map prL, KF bb r M s3 s4 s5 s6 s7 s8) :=
    c_cmap prD prL r fun p _ => ⟨[some (.own .par bb), rr r, mm M, s3, s4, s5, s6, s7, s8, some (.imm (prD p))], .val (.own .loc [.int p.1, frL p.2]), [some (.own .par bb), rr r, mm M, s3, s4, s5, s6, s7, s8, some (.imm (prD p))], [some (.own .par bb), rr r, mm M, s3, s4, s5, s6, s7, s8, some (.imm (prD p))], rfl, c_lst (c_acons (c_bin rfl rfl rfl rfl rfl) rfl (c_acons (c_un (c_bin rfl rfl rfl rfl rfl) rfl rfl) rfl c_anil)) rfl, rfl, rfl⟩
  exact c_comp (ds := dsD r) (ρ1 := KF bb r M s3 s4 s5 s6 s7 s8) rfl rfl hc (c_fits (by rw [List.length_map]; omega)) rfl
theorem cML_ok (hl : M.length ≤ 900) : cML (KF bb r M s3 s4 s5 s6 s7 s8) = some (.val (.own .loc (M.map toL)), KF bb r M s3 s4 s5 s6 s7 s8) := by
  have hc : cloop (mN 9) mYes (un dList (mVar 9)) [9] (M.map toP) (KF bb r M s3 s4 s5 s6 s7 s8) = some (M.map toL, KF bb r M s3 s4 s5 s6 s7 s8) :=
    c_cmap toP toL M fun p _ => ⟨[some (.own .par bb), rr r, mm M, s3, s4, s5, s6, s7, s8, some (.imm (toP p))], .val (.own .loc [.int p.1, .int p.2]), [some (.own .par bb), rr r, mm M, s3, s4, s5, s6, s7, s8, some (.imm (toP p))], [some (.own .par bb), rr r, mm M, s3, s4, s5, s6, s7, s8, some (.imm (toP p))], rfl, c_un rfl rfl rfl, rfl, rfl⟩
  exact c_comp (ds := M.map toP) (ρ1 := KF bb r M s3 s4 s5 s6 s7 s8) rfl rfl hc (c_fits (by rw [List.length_map]; omega)) rfl
theorem last_rl {X : List Row} {x : Row} {t : List Row} (h : X = x :: t) : ∃ y ∈ X, dIx (.list (rl X)) (.int (-1)) = some (.imm (rowD y)) := by
  rcases List.eq_nil_or_concat X with e | ⟨Z, y, e⟩
  · rw [e] at h; cases h
  · rw [List.concat_eq_append] at e
    subst e
    refine ⟨y, by simp, ?_⟩
    show (L2.atI (rl (Z ++ [y])) (-1)).map Sv.imm = _
    rw [show rl (Z ++ [y]) = rl Z ++ [rowD y] by unfold rl; rw [List.map_append]; rfl, L2.atI_last]; rfl
theorem case_ok (P : Cc cl b) (hM : MOk M) (hl : r.length ≤ 4) (hp : ∀ p ∈ r, 0 ≤ p.1 ∧ p.1 < 3) (hn : norm r < 2 ^ 60) {a c : Int} (h1 : 0 ≤ c) (h2 : c < 10000) :
    ∃ a' c' : Int, fn36 cl [.own .par (bx a b c), .imm (rowD r), .imm (metD M)] = some (.imm (.bool true), [some (bx a' b c'), none, none]) ∧ 0 ≤ c' ∧ c' ≤ c + 3 := by
  have h80 : (2 : Nat) ^ 60 < 2 ^ 79 := by decide
  have h79 : (2 : Nat) ^ 79 < 2 ^ 80 := by decide
  have hc := cM_ok hM
  obtain ⟨X, e1, ⟨t0, hX⟩, hd, hall, hfew⟩ := P.short M hM r hl hp (by omega)
  obtain ⟨u, a1, c1', e3, hu, p1, p2⟩ := P.drawn M r (by omega) (by omega) a c h1 h2
  have hul := rch_len hu
  have hun := rch_norm hu
  have hnw : nw M r ∈ X := by rw [hX]; exact List.mem_cons_self ..
  have hne := (hall _).mp hnw
  have hsh := (Tr.short_iff hc (r := r)).mpr hne
  have hnr := hsh.1
  have hnl := rch_len hnr
  have hnn := rch_norm hnr
  have hstk : Tr.Eqc (cM M) (Tr.stk (cM M) (nw M r) []) (Tr.stk (cM M) r []) := Tr.rch_stk hc hnr
  obtain ⟨R, e6, hRd, hR⟩ := P.reach M hM (nw M r) (by omega) (Tr.rch_part (P := fun a => 0 ≤ a ∧ a < 3) hnr hp) (by omega)
  have hRl : ∀ t ∈ R, t.length = (nw M r).length := fun t ht => by
    have k1 := rch_len ((hR t).mp ht)
    have k2 := Tr.rch_low hc ((hR t).mp ht)
    have k3 := Tr.eqc_len hc _ hstk
    have k4 := hsh.2
    omega
  have hRX : R.Perm X := (List.perm_ext_iff_of_nodup hRd hd).mpr fun t => by
    rw [hR, hall]
    constructor
    · intro h
      have k := (hRl t ((hR t).mpr h))
      exact (Tr.short_iff hc).mp ⟨hnr.trans h, k.trans hsh.2⟩
    · intro h
      exact Tr.eqc_rch hc t (Tr.eqc_trans h (Tr.eqc_symm hne))
  have hXl : ∀ t ∈ X, t.length = (nw M r).length := fun t ht => hRl t (hRX.mem_iff.mpr ht)
  have sR := sort_rl (X := R) (by rw [hRX.length_eq]; omega) hRd hRl
  have sX := sort_rl (X := X) (by omega) hd hXl
  rw [sort_rows hRX] at sR
  obtain ⟨y, hy, ey⟩ := last_rl hX
  have hye := (hall y).mp hy
  have hyl := hXl y hy
  have hyr := ((Tr.short_iff hc (r := r)).mpr hye).1
  have hyn := rch_norm hyr
  have q1 : nw M u = nw M r := nw_alike hM (by omega) (by omega) (Tr.rch_stk hc hu)
  have q2 : nw M y = nw M r := nw_alike hM (by omega) (by omega) (Tr.rch_stk hc hyr)
  have q3 : nw M (r ++ inv u) = nw M [] := nw_alike hM (by rw [List.length_append, inv_len]; omega) (by simp) (by
    have k1 : Tr.Eqc (cM M) (Tr.stk (cM M) (r ++ inv u) []) (Tr.stk (cM M) (u ++ inv u) []) := by
      rw [Tr.stk_app, Tr.stk_app]
      exact Tr.stk_eq hc _ (Tr.eqc_symm (Tr.rch_stk hc hu))
    exact Tr.eqc_trans k1 (stk_inv hc u.length u (Nat.le_refl _)))
  have w1 := P.norm M hM r (by omega) (by omega)
  have w2 := P.norm M hM u (by omega) (by omega)
  rw [q1] at w2
  have w3 := P.normL M hM r (by omega) (by omega)
  have z1 := P.same M hM r u (by omega) (by omega) (by omega) (by omega)
  rw [decide_eq_true q1.symm] at z1
  have z2 := P.same M hM r y (by omega) (by omega) (by omega) (by omega)
  rw [decide_eq_true q2.symm] at z2
  have z3 := P.same M hM (r ++ inv u) [] (by rw [norm_app, inv_norm]; omega) (by rw [List.length_append, inv_len]; omega) (by decide) (by simp)
  rw [decide_eq_true q3] at z3
  generalize hnD : nw M r = n at *
  have hsl : (sortD (rl X)).length = X.length := by
    rw [(show (sortD (rl X)).Perm (rl X) from isort_perm _).length_eq, List.length_map]
  have hsm : smD 8 (.list (sortD (rl X))) = true := by
    show (decide ((sortD (rl X)).length ≤ 10000) && (sortD (rl X)).all (smD 7)) = true
    rw [decide_eq_true (by omega), Bool.true_and, List.all_eq_true]
    intro x hx
    obtain ⟨w, hw, rfl⟩ := List.mem_map.mp ((isort_perm (le := leD) (rl X)).mem_iff.mp hx)
    exact sm_row 4 (by have := hXl w hw; omega)
  generalize hSD : sortD (rl X) = SD at *
  have m1 : c1 cl (KF (bx a b c) r M none none none none none none) = some (.next, KF (bx a b c) r M (oo (rl X)) none none none none none) := c_set (v_call2 (ev_var rfl) (ev_var rfl) e1) rfl
  have m2 : c2 (KF (bx a b c) r M (oo (rl X)) none none none none none) = some (.next, KF (bx a b c) r M (oo (rl X)) (rr n) none none none none) := c_set (c_bin rfl rfl rfl rfl (by
    have := at_rl (X := X) (k := 0) (t := n) (by rw [hX]; rfl)
    exact this)) rfl
  have m3 : c3 cl (KF (bx a b c) r M (oo (rl X)) (rr n) none none none none) = some (.next, KF (bx a1 b c1') r M (oo (rl X)) (rr n) (rr u) none none none) :=
    c_set (c_call (as := [.s 0, .v (rowD r), .v (metD M)]) rfl rfl rfl e3 rfl) rfl
  have m4 : c4 cl (KF (bx a1 b c1') r M (oo (rl X)) (rr n) (rr u) none none none) = some (.next, KF (bx a1 b c1') r M (oo (rl X)) (rr n) (rr u) (oo [rowD n, rowD n, rowD n]) none none) :=
    c_set (c_lst (c_acons (v_call2 (ev_var rfl) (ev_var rfl) w1) rfl (c_acons (v_call2 (ev_var rfl) (ev_var rfl) w2) rfl (c_acons (v_call2 (ev_own (cRL_ok (by omega))) (ev_own (cML_ok (by have := hM.len; omega))) w3) rfl c_anil))) rfl) rfl
  have m5 : c5 (KF (bx a1 b c1') r M (oo (rl X)) (rr n) (rr u) (oo [rowD n, rowD n, rowD n]) none none) = some (.next, KF (bx a1 b c1') r M (oo (rl X)) (rr n) (rr u) (oo [rowD n, rowD n, rowD n]) (oo [rowD n, rowD n, rowD n]) none) :=
    c_set (c_lst (c_acons rfl rfl (c_acons rfl rfl (c_acons rfl rfl c_anil))) rfl) rfl
  have g6 : un dSortW (mCall (cl 33) (rVal (mVar 4) (rVal (mVar 2) rNil))) (KF (bx a1 b c1') r M (oo (rl X)) (rr n) (rr u) (oo [rowD n, rowD n, rowD n]) (oo [rowD n, rowD n, rowD n]) none) = some (.val (.own .loc SD), KF (bx a1 b c1') r M (oo (rl X)) (rr n) (rr u) (oo [rowD n, rowD n, rowD n]) (oo [rowD n, rowD n, rowD n]) none) :=
    c_un (v_call2 (ev_var rfl) (ev_var rfl) e6) rfl sR
  have m6 : c6 cl (KF (bx a1 b c1') r M (oo (rl X)) (rr n) (rr u) (oo [rowD n, rowD n, rowD n]) (oo [rowD n, rowD n, rowD n]) none) = some (.next, KF (bx a1 b c1') r M (oo (rl X)) (rr n) (rr u) (oo [rowD n, rowD n, rowD n, .list SD]) (oo [rowD n, rowD n, rowD n]) none) :=
    c_drop (c_app (i := 6) (b := .loc) (b2 := .loc) (ds := [rowD n, rowD n, rowD n]) (ys := [rowD n, rowD n, rowD n]) (d := .list SD) rfl g6 rfl rfl rfl)
  have g7 : un dSortW (mVar 3) (KF (bx a1 b c1') r M (oo (rl X)) (rr n) (rr u) (oo [rowD n, rowD n, rowD n, .list SD]) (oo [rowD n, rowD n, rowD n]) none) = some (.val (.own .loc SD), KF (bx a1 b c1') r M (oo (rl X)) (rr n) (rr u) (oo [rowD n, rowD n, rowD n, .list SD]) (oo [rowD n, rowD n, rowD n]) none) := c_un rfl rfl sX
  have m7 : c7 (KF (bx a1 b c1') r M (oo (rl X)) (rr n) (rr u) (oo [rowD n, rowD n, rowD n, .list SD]) (oo [rowD n, rowD n, rowD n]) none) = some (.next, KF (bx a1 b c1') r M (oo (rl X)) (rr n) (rr u) (oo [rowD n, rowD n, rowD n, .list SD]) (oo [rowD n, rowD n, rowD n, .list SD]) none) :=
    c_drop (c_app (i := 7) (b := .loc) (b2 := .loc) (ds := [rowD n, rowD n, rowD n]) (ys := [rowD n, rowD n, rowD n]) (d := .list SD) rfl g7 rfl rfl rfl)
  have m8 : c8 cl (KF (bx a1 b c1') r M (oo (rl X)) (rr n) (rr u) (oo [rowD n, rowD n, rowD n, .list SD]) (oo [rowD n, rowD n, rowD n, .list SD]) none) = some (.next, KF (bx a1 b c1') r M (oo (rl X)) (rr n) (rr u) (oo [rowD n, rowD n, rowD n, .list SD]) (oo [rowD n, rowD n, rowD n, .list SD]) (rr (inv u))) :=
    c_set (v_call1 (ev_var rfl) (P.und u (by omega))) rfl
  have g9 : mLst (mCons (mCall (cl 19) (rVal (mVar 1) (rVal (mVar 5) (rVal (mVar 2) rNil)))) (mCons (mCall (cl 19) (rVal (mVar 1) (rVal (bin dIx (mVar 3) (un dNeg (mC (.int 1)))) (rVal (mVar 2) rNil)))) (mCons (mCall (cl 19) (rVal (bin dAdd (mVar 1) (mVar 8)) (rVal (mTup mNil) (rVal (mVar 2) rNil)))) mNil))) (KF (bx a1 b c1') r M (oo (rl X)) (rr n) (rr u) (oo [rowD n, rowD n, rowD n, .list SD]) (oo [rowD n, rowD n, rowD n, .list SD]) (rr (inv u))) = some (.val (.own .loc [.bool true, .bool true, .bool true]), KF (bx a1 b c1') r M (oo (rl X)) (rr n) (rr u) (oo [rowD n, rowD n, rowD n, .list SD]) (oo [rowD n, rowD n, rowD n, .list SD]) (rr (inv u))) :=
    c_lst (c_acons (v_call3 (ev_var rfl) (ev_var rfl) (ev_var rfl) z1) rfl (c_acons (v_call3 (ev_var rfl) (ev_val (c_bin rfl (c_un rfl rfl rfl) rfl rfl ey)) (ev_var rfl) z2) rfl (c_acons (v_call3 (ev_val (c_bin rfl rfl rfl rfl (add_rows r (inv u) (by rw [inv_len]; omega)))) (ev_val (c_tup c_anil rfl)) (ev_var rfl) z3) rfl c_anil))) rfl
  have m9 : c9 cl (KF (bx a1 b c1') r M (oo (rl X)) (rr n) (rr u) (oo [rowD n, rowD n, rowD n, .list SD]) (oo [rowD n, rowD n, rowD n, .list SD]) (rr (inv u))) = some (.next, KF (bx a1 b c1') r M (oo (rl X)) (rr n) (rr u) (oo [rowD n, rowD n, rowD n, .list SD, .bool true, .bool true, .bool true]) (oo [rowD n, rowD n, rowD n, .list SD]) (rr (inv u))) :=
    s_grow (i := 6) (b := .loc) (b2 := .loc) (ds := [rowD n, rowD n, rowD n, .list SD]) rfl g9 (by simp)
  have g10 : bin dAdd (mVar 7) (mLst (mCons (mC (.bool true)) (mCons (mC (.bool true)) (mCons (mC (.bool true)) mNil)))) (KF (bx a1 b c1') r M (oo (rl X)) (rr n) (rr u) (ll [rowD n, rowD n, rowD n, .list SD, .bool true, .bool true, .bool true]) (oo [rowD n, rowD n, rowD n, .list SD]) (rr (inv u))) = some (.val (.own .loc [rowD n, rowD n, rowD n, .list SD, .bool true, .bool true, .bool true]), KF (bx a1 b c1') r M (oo (rl X)) (rr n) (rr u) (ll [rowD n, rowD n, rowD n, .list SD, .bool true, .bool true, .bool true]) (oo [rowD n, rowD n, rowD n, .list SD]) (rr (inv u))) :=
    e_grow (i := 7) (b := .loc) (b2 := .loc) (ds := [rowD n, rowD n, rowD n, .list SD]) rfl (v_lst (ea_cons (ev_c) (ea_cons (ev_c) (ea_cons (ev_c) ea_nil))) (by simp)) (by simp)
  have hrow : smD 7 (rowD n) = true := sm_row 4 (by omega)
  have hE := P.eq (.list [rowD n, rowD n, rowD n, .list SD, .bool true, .bool true, .bool true]) (by
    show (decide (7 ≤ 10000) && [rowD n, rowD n, rowD n, .list SD, .bool true, .bool true, .bool true].all (smD 7)) = true
    have hSD7 : smD 7 (.list SD) = true := by
      have hh : ∀ x ∈ SD, smD 6 x = true := fun x hx => by
        rw [← hSD] at hx
        obtain ⟨w, hw, rfl⟩ := List.mem_map.mp ((isort_perm (le := leD) (rl X)).mem_iff.mp hx)
        exact sm_row 3 (by have := hXl w hw; omega)
      show (decide (SD.length ≤ 10000) && SD.all (smD 6)) = true
      rw [decide_eq_true (by omega), Bool.true_and, List.all_eq_true]
      exact hh
    simp [hrow, hSD7, sm_bool])
  have m10 : c10 cl (KF (bx a1 b c1') r M (oo (rl X)) (rr n) (rr u) (oo [rowD n, rowD n, rowD n, .list SD, .bool true, .bool true, .bool true]) (oo [rowD n, rowD n, rowD n, .list SD]) (rr (inv u))) = some (.ret (.imm (.bool true)), KF (bx a1 b c1') r M (oo (rl X)) (rr n) (rr u) (ll [rowD n, rowD n, rowD n, .list SD, .bool true, .bool true, .bool true]) (oo [rowD n, rowD n, rowD n, .list SD]) (rr (inv u))) :=
    c_ret (c_call (as := [.v (.list [rowD n, rowD n, rowD n, .list SD, .bool true, .bool true, .bool true]), .v (.list [rowD n, rowD n, rowD n, .list SD, .bool true, .bool true, .bool true])]) (c_rval (me := mVar 6) rfl rfl (c_rval g10 rfl rfl)) rfl rfl hE rfl) rfl
  refine ⟨a1, c1', ?_, p1, p2⟩
  rw [case_fn]
  exact c_fn (ρ0 := KF (bx a b c) r M none none none none none none) rfl rfl (c_seq m1 (c_seq m2 (c_seq m3 (c_seq m4 (c_seq m5 (c_seq m6 (c_seq m7 (c_seq m8 (c_seq m9 m10))))))))) rfl
end
end K26

namespace K26
open PySem Vi PyProof.Rows
/-! right -/
theorem norm_fl {w : Int} {r : Row} (h : Fl w r) : norm r ≤ 72 * r.length := by
  have : ∀ t : Row, (∀ p ∈ t, p ∈ r) → norm t ≤ 72 * t.length := by
    intro t
    induction t with
    | nil => exact fun _ => Nat.zero_le _
    | cons p t ih =>
      intro ht
      obtain ⟨j, hj, e⟩ := h.six p (ht p (List.mem_cons_self ..))
      have hy := much_le hj
      have := ih fun q hq => ht q (List.mem_cons_of_mem _ hq)
      rw [norm_cons, List.length_cons, e]; omega
  exact this r fun _ hp => hp
theorem cut_1 : ∀ L : List D, Vi.cutD L (some 1) none = L.drop 1
  | [] => rfl
  | d :: L => cut_off (d :: L) 1 (by simp)
theorem cut_t1 : ∀ L : List D, Vi.cutD L none (some 1) = L.take 1
  | [] => rfl
  | d :: L => cut_to (d :: L) 1 (by simp)
def fM : List (Int × Int) := fullM 3
abbrev GF (bb : List D) (s1 s2 s3 s4 s5 s6 s7 : Option Sv) : Fm := [some (.own .par bb), s1, s2, s3, s4, s5, s6, s7]
abbrev bb' (p : Bool) : Option Sv := some (.imm (.bool p))
def r1 (cl : Nat → Fn) : MS := (mPar 1 2 (mCall (cl 28) (rSlot 0 (rVal (mC (.int 3)) (rVal (mC (.int 4)) rNil)))) (mCall (cl 31) (rSlot 0 (rVal (mC (.int 3)) rNil))))
def r2 (cl : Nat → Fn) : MS := (mIfS (mNotT (mTru (mCall (cl 36) (rSlot 0 (rVal (mVar 1) (rVal (mVar 2) rNil)))))) (mRet (mC (.bool false))) mNext)
def r3 (cl : Nat → Fn) : MS := (mSet 3 (mIf (mB (bin dGt (mCall (cl 22) (rSlot 0 (rVal (mC (.int 3)) rNil))) (mC (.int 0)))) (mCall (cl 28) (rSlot 0 (rVal (mC (.int 3)) (rVal (mC (.int 3)) rNil)))) (bin dAdd (mSl (mVar 1) (mPart (mC (.int 1))) mNoPart) (mSl (mVar 1) mNoPart (mPart (mC (.int 1)))))))
def r4 (cl : Nat → Fn) : MS := (mSet 4 (bin dEq (bin dIx (mCall (cl 34) (rVal (mVar 1) (rVal (mVar 2) rNil))) (mC (.int 0))) (bin dIx (mCall (cl 34) (rVal (mVar 3) (rVal (mVar 2) rNil))) (mC (.int 0)))))
def r5 : MS := (mSet 5 (mTup (mCons (mTup (mCons (mC (.int 0)) (mCons (mC (.int 1)) mNil))) (mCons (mTup (mCons (mC (.int 0)) (mCons (mC (.int 2)) mNil))) (mCons (mTup (mCons (mC (.int 1)) (mCons (mC (.int 2)) mNil))) mNil)))))
def r6 (cl : Nat → Fn) : MS := (mSet 6 (bin dEq (bin dIx (mCall (cl 34) (rVal (mVar 1) (rVal (mVar 5) rNil))) (mC (.int 0))) (bin dIx (mCall (cl 34) (rVal (mVar 3) (rVal (mVar 5) rNil))) (mC (.int 0)))))
def r7 (cl : Nat → Fn) : MS := (mSet 7 (mLst (mCons (mCall (cl 19) (rVal (mVar 1) (rVal (mVar 3) (rVal (mVar 2) rNil)))) (mCons (mCall (cl 19) (rVal (mVar 1) (rVal (mVar 3) (rVal (mVar 5) rNil)))) (mCons (mAnd (mVar 4) (un dNot (mVar 6))) mNil)))))
def r8 (cl : Nat → Fn) : MS := (mSet 7 (bin dAdd (mVar 7) (mLst (mCons (mAnd (mCall (cl 14) (rVal (mVar 1) (rVal (mVar 3) rNil))) (un dNot (mVar 4))) (mCons (mCall (cl 19) (rVal (mVar 3) (rVal (mVar 1) (rVal (mVar 2) rNil)))) mNil)))))
def r9 (cl : Nat → Fn) : MS := (mRet (mCall (cl 24) (rVal (mVar 7) (rVal (mLst (mCons (mVar 4) (mCons (mVar 6) (mCons (mC (.bool false)) (mCons (mC (.bool false)) (mCons (mVar 4) mNil)))))) rNil))))
theorem right_fn (cl : Nat → Fn) : fn38 cl = mFn 8 1 (mSeq (r1 cl) (mSeq (r2 cl) (mSeq (r3 cl) (mSeq (r4 cl) (mSeq r5 (mSeq (r6 cl) (mSeq (r7 cl) (mSeq (r8 cl) (r9 cl))))))))) := rfl
structure Rc (cl : Nat → Fn) (b : Int) : Prop where
  take : TakeP (cl 22) b
  flows : ∀ w m : Nat, 0 < w → w < 1000 → m ≤ 500 → ∀ a c : Int, 0 ≤ c → c < 10000 → ∃ (r : Row) (a' c' : Int), cl 28 [.own .par (bx a b c), .imm (.int (w : Int)), .imm (.int (m : Int))] = some (.imm (rowD r), [some (bx a' b c'), none, none]) ∧ r.length ≤ m ∧ Fl w r ∧ 0 ≤ c' ∧ c' ≤ c + 1 + 2 * m
  lets : LetsP (cl 31) b
  case : ∀ (M : List (Int × Int)) (r : Row), MOk M → r.length ≤ 4 → (∀ p ∈ r, 0 ≤ p.1 ∧ p.1 < 3) → norm r < 2 ^ 60 → ∀ a c : Int, 0 ≤ c → c < 10000 → ∃ a' c' : Int, cl 36 [.own .par (bx a b c), .imm (rowD r), .imm (metD M)] = some (.imm (.bool true), [some (bx a' b c'), none, none]) ∧ 0 ≤ c' ∧ c' ≤ c + 3
  short : ∀ M, MOk M → ShortestP (cl 34) M
  same : ∀ M, MOk M → SameP (cl 19) M
  isSame : IsSameP (cl 14)
  eq : ∀ d, smD 8 d = true → cl 24 [.imm d, .imm d] = some (.imm (.bool true), [none, none])
section
variable {cl : Nat → Fn} {b : Int} {M : List (Int × Int)} {r o : Row} {bb : List D} {s1 s2 s3 s4 s5 s6 s7 : Option Sv}
theorem r1_ok (P : Rc cl b) (a : Int) : ∃ (r : Row) (M : List (Int × Int)) (a' c' : Int), r1 cl (GF (bx a b 0) none none none none none none none) = some (.next, GF (bx a' b c') (rr r) (mm M) none none none none none) ∧ r.length ≤ 4 ∧ Fl 3 r ∧ MOk M ∧ 0 ≤ c' ∧ c' ≤ 25 := by
  obtain ⟨r, a1, c1, e1, r1, r2, p1, p2⟩ := P.flows 3 4 (by omega) (by omega) (by omega) a 0 (by omega) (by omega)
  obtain ⟨M, a2, c2, e2, hM, p3, p4⟩ := P.lets 3 (by omega) a1 c1 p1 (by omega)
  have k1 : mCall (cl 28) (rSlot 0 (rVal (mC (.int 3)) (rVal (mC (.int 4)) rNil))) (GF (bx a b 0) none none none none none none none) = some (.val (.imm (rowD r)), GF (bx a1 b c1) none none none none none none none) := c_call (as := [.s 0, .v (.int ((3 : Nat) : Int)), .v (.int ((4 : Nat) : Int))]) rfl rfl rfl e1 rfl
  have k2 : mCall (cl 31) (rSlot 0 (rVal (mC (.int 3)) rNil)) (GF (bx a1 b c1) none none none none none none none) = some (.val (.imm (metD M)), GF (bx a2 b c2) none none none none none none none) := c_call (as := [.s 0, .v (.int ((3 : Nat) : Int))]) rfl rfl rfl e2 rfl
  exact ⟨r, M, a2, c2, c_par k1 rfl k2 rfl rfl, r1, r2, hM, p3, by omega⟩
theorem r3_ok (P : Rc cl b) (hl : r.length ≤ 4) (hf : Fl 3 r) {a c : Int} (h1 : 0 ≤ c) (h2 : c < 1000) : ∃ (o : Row) (a' c' : Int), r3 cl (GF (bx a b c) (rr r) s2 none s4 s5 s6 s7) = some (.next, GF (bx a' b c') (rr r) s2 (rr o) s4 s5 s6 s7) ∧ o.length ≤ 4 ∧ Fl 3 o := by
  obtain ⟨v, a1, c1, e1, v1, v2, p1, p2⟩ := P.take a c 3 (by omega) (by omega) h1 (by omega)
  have k1 : mCall (cl 22) (rSlot 0 (rVal (mC (.int 3)) rNil)) (GF (bx a b c) (rr r) s2 none s4 s5 s6 s7) = some (.val (.imm (.int v)), GF (bx a1 b c1) (rr r) s2 none s4 s5 s6 s7) := c_call (as := [.s 0, .v (.int 3)]) rfl rfl rfl e1 rfl
  have t : mB (bin dGt (mCall (cl 22) (rSlot 0 (rVal (mC (.int 3)) rNil))) (mC (.int 0))) (GF (bx a b c) (rr r) s2 none s4 s5 s6 s7) = some (decide (0 < v), GF (bx a1 b c1) (rr r) s2 none s4 s5 s6 s7) := c_b (c_bin k1 rfl rfl rfl rfl)
  by_cases h : 0 < v
  · rw [decide_eq_true h] at t
    obtain ⟨o, a2, c2, e2, r1, r2, p3, p4⟩ := P.flows 3 3 (by omega) (by omega) (by omega) a1 c1 p1 (by omega)
    have k2 : mCall (cl 28) (rSlot 0 (rVal (mC (.int 3)) (rVal (mC (.int 3)) rNil))) (GF (bx a1 b c1) (rr r) s2 none s4 s5 s6 s7) = some (.val (.imm (rowD o)), GF (bx a2 b c2) (rr r) s2 none s4 s5 s6 s7) := c_call (as := [.s 0, .v (.int ((3 : Nat) : Int)), .v (.int ((3 : Nat) : Int))]) rfl rfl rfl e2 rfl
    exact ⟨o, a2, c2, c_set (mif_T t k2) rfl, by omega, r2⟩
  · rw [decide_eq_false h] at t
    have q1 : mSl (mVar 1) (mPart (mC (.int 1))) mNoPart (GF (bx a1 b c1) (rr r) s2 none s4 s5 s6 s7) = some (.val (.imm (.tuple (dsD (r.drop 1)))), GF (bx a1 b c1) (rr r) s2 none s4 s5 s6 s7) := by
      have e := cut_1 (dsD r)
      rw [ds_dp] at e
      have : mSl (mVar 1) (mPart (mC (.int 1))) mNoPart (GF (bx a1 b c1) (rr r) s2 none s4 s5 s6 s7) = some (.val (.imm (.tuple (Vi.cutD (dsD r) (some 1) none))), GF (bx a1 b c1) (rr r) s2 none s4 s5 s6 s7) := rfl
      rw [this, e]
    have q2 : mSl (mVar 1) mNoPart (mPart (mC (.int 1))) (GF (bx a1 b c1) (rr r) s2 none s4 s5 s6 s7) = some (.val (.imm (.tuple (dsD (r.take 1)))), GF (bx a1 b c1) (rr r) s2 none s4 s5 s6 s7) := by
      have e := cut_t1 (dsD r)
      rw [ds_tk] at e
      have : mSl (mVar 1) mNoPart (mPart (mC (.int 1))) (GF (bx a1 b c1) (rr r) s2 none s4 s5 s6 s7) = some (.val (.imm (.tuple (Vi.cutD (dsD r) none (some 1)))), GF (bx a1 b c1) (rr r) s2 none s4 s5 s6 s7) := rfl
      rw [this, e]
    have hm : ∀ p ∈ r.drop 1 ++ r.take 1, p ∈ r := fun p hp => by
      rcases List.mem_append.mp hp with h | h
      · exact List.mem_of_mem_drop h
      · exact List.mem_of_mem_take h
    refine ⟨r.drop 1 ++ r.take 1, a1, c1, c_set (mif_F t (c_bin q1 q2 rfl rfl (add_rows (r.drop 1) (r.take 1) (by rw [List.length_drop, List.length_take]; omega)))) rfl, by rw [List.length_append, List.length_drop, List.length_take]; omega, ⟨fun p hp => hf.part p (hm p hp), fun p hp => hf.six p (hm p hp)⟩⟩
theorem first_ok (P : ShortestP (cl 34) M) {me mf : ME} {ρ : Fm} (v : EV me ρ (rowD r)) (w : EV mf ρ (metD M)) (hl : r.length ≤ 4) (hp : ∀ p ∈ r, 0 ≤ p.1 ∧ p.1 < 3) (hn : norm r < 2 ^ 80) : bin dIx (mCall (cl 34) (rVal me (rVal mf rNil))) (mC (.int 0)) ρ = some (.val (.imm (rowD (nw M r))), ρ) := by
  obtain ⟨X, e, ⟨t, hX⟩, _⟩ := P r hl hp hn
  refine c_bin (v_call2 v w e) rfl rfl rfl ?_
  exact at_rl (X := X) (k := 0) (by rw [hX]; rfl)
theorem right_ok (P : Rc cl b) (a : Int) : ∃ o, fn38 cl [.own .par (bx a b 0)] = some (.imm (.bool true), [some o]) := by
  have h80 : (2 : Nat) ^ 60 < 2 ^ 80 := by decide
  obtain ⟨r, M, a1, c1, e1, hl, hf, hM, p1, p2⟩ := r1_ok P a
  have hfn := norm_fl hf
  obtain ⟨a2, c2, e2', p3, p4⟩ := P.case M r hM hl hf.part (by omega) a1 c1 p1 (by omega)
  have k2 : mCall (cl 36) (rSlot 0 (rVal (mVar 1) (rVal (mVar 2) rNil))) (GF (bx a1 b c1) (rr r) (mm M) none none none none none) = some (.val (.imm (.bool true)), GF (bx a2 b c2) (rr r) (mm M) none none none none none) := c_call (as := [.s 0, .v (rowD r), .v (metD M)]) rfl rfl rfl e2' rfl
  have e2 : r2 cl (GF (bx a1 b c1) (rr r) (mm M) none none none none none) = some (.next, GF (bx a2 b c2) (rr r) (mm M) none none none none none) := c_ifF (c_not (c_tru k2 rfl rfl)) rfl
  obtain ⟨o, a3, c3, e3, ol, of⟩ := r3_ok (s2 := mm M) (s4 := none) (s5 := none) (s6 := none) (s7 := none) P hl hf (a := a2) p3 (by omega)
  have ofn := norm_fl of
  have hF : MOk fM := full_mok 3
  have e4 : r4 cl (GF (bx a3 b c3) (rr r) (mm M) (rr o) none none none none) = some (.next, GF (bx a3 b c3) (rr r) (mm M) (rr o) (bb' (decide (nw M r = nw M o))) none none none) :=
    c_set (c_bin (first_ok (P.short M hM) (ev_var rfl) (ev_var rfl) hl hf.part (by omega)) (first_ok (P.short M hM) (ev_var rfl) (ev_var rfl) ol of.part (by omega)) rfl rfl (eq_row _ _)) rfl
  have e5 : r5 (GF (bx a3 b c3) (rr r) (mm M) (rr o) (bb' (decide (nw M r = nw M o))) none none none) = some (.next, GF (bx a3 b c3) (rr r) (mm M) (rr o) (bb' (decide (nw M r = nw M o))) (mm fM) none none) := rfl
  have e6 : r6 cl (GF (bx a3 b c3) (rr r) (mm M) (rr o) (bb' (decide (nw M r = nw M o))) (mm fM) none none) = some (.next, GF (bx a3 b c3) (rr r) (mm M) (rr o) (bb' (decide (nw M r = nw M o))) (mm fM) (bb' (decide (nw fM r = nw fM o))) none) :=
    c_set (c_bin (first_ok (P.short fM hF) (ev_var rfl) (ev_var rfl) hl hf.part (by omega)) (first_ok (P.short fM hF) (ev_var rfl) (ev_var rfl) ol of.part (by omega)) rfl rfl (eq_row _ _)) rfl
  have z1 := P.same M hM r o (by omega) (by omega) (by omega) (by omega)
  have z2 := P.same fM hF r o (by omega) (by omega) (by omega) (by omega)
  have z3 := P.same M hM o r (by omega) (by omega) (by omega) (by omega)
  have z4 := P.isSame r o (by omega) (by omega) (by omega) (by omega)
  have f1 : nw M r = nw M o → nw fM r = nw fM o := fun h => by
    have k := (nw_iff hM (by omega) (by omega)).mp h
    have k' := Tr.eqc_rev k
    rw [List.reverse_reverse, List.reverse_reverse] at k'
    exact nw_alike hF (by omega) (by omega) (Tr.stk_more (cM_ok hM) (cM_ok hF) (P := fun a => 0 ≤ a ∧ a < 3) (fun a b ha hb hab => full_all (w := 3) (by omega) (by omega) a b ha.1 ha.2 hb.1 hb.2 fun e => by rw [e, (cM_ok hM).irr] at hab; cases hab) hf.part of.part k')
  have f2 : (Tr.stk (cM []) r []).reverse = (Tr.stk (cM []) o []).reverse → nw M r = nw M o := fun h => by
    have h' : Tr.stk (cM []) r [] = Tr.stk (cM []) o [] := by
      have := congrArg List.reverse h
      rwa [List.reverse_reverse, List.reverse_reverse] at this
    exact nw_alike hM (by omega) (by omega) (Tr.stk_more (cM_ok mok_nil) (cM_ok hM) (P := fun _ => True) (fun a b _ _ hab => by rw [none_all] at hab; cases hab) (fun _ _ => trivial) (fun _ _ => trivial) (by rw [h']; exact Tr.eqc_refl _))
  rw [show decide (nw M o = nw M r) = decide (nw M r = nw M o) by by_cases h : nw M r = nw M o <;> simp [h, eq_comm]] at z3
  have f1' : decide (nw M r = nw M o) = true → decide (nw fM r = nw fM o) = true := fun h => decide_eq_true (f1 (of_decide_eq_true h))
  have f2' : decide ((Tr.stk (cM []) r []).reverse = (Tr.stk (cM []) o []).reverse) = true → decide (nw M r = nw M o) = true := fun h => decide_eq_true (f2 (of_decide_eq_true h))
  generalize decide (nw M r = nw M o) = sm at *
  generalize decide (nw fM r = nw fM o) = al at *
  generalize decide ((Tr.stk (cM []) r []).reverse = (Tr.stk (cM []) o []).reverse) = si at *
  have g7 : ∃ pr, mAnd (mVar 4) (un dNot (mVar 6)) (GF (bx a3 b c3) (rr r) (mm M) (rr o) (bb' sm) (mm fM) (bb' al) none) = some (pr, GF (bx a3 b c3) (rr r) (mm M) (rr o) (bb' sm) (mm fM) (bb' al) none) ∧ frz (GF (bx a3 b c3) (rr r) (mm M) (rr o) (bb' sm) (mm fM) (bb' al) none) pr = some (.bool false, GF (bx a3 b c3) (rr r) (mm M) (rr o) (bb' sm) (mm fM) (bb' al) none) := by
    cases sm with
    | false => exact ⟨.slot 4, rfl, rfl⟩
    | true =>
      rw [f1' rfl]
      exact ⟨_, rfl, rfl⟩
  obtain ⟨pr, g1, g2⟩ := g7
  have e7 : r7 cl (GF (bx a3 b c3) (rr r) (mm M) (rr o) (bb' sm) (mm fM) (bb' al) none) = some (.next, GF (bx a3 b c3) (rr r) (mm M) (rr o) (bb' sm) (mm fM) (bb' al) (oo [.bool sm, .bool al, .bool false])) :=
    c_set (c_lst (c_acons (v_call3 (ev_var rfl) (ev_var rfl) (ev_var rfl) z1) rfl (c_acons (v_call3 (ev_var rfl) (ev_var rfl) (ev_var rfl) z2) rfl (c_acons g1 g2 c_anil))) rfl) rfl
  have w4 : mCall (cl 14) (rVal (mVar 1) (rVal (mVar 3) rNil)) (GF (bx a3 b c3) (rr r) (mm M) (rr o) (bb' sm) (mm fM) (bb' al) (oo [.bool sm, .bool al, .bool false])) = some (.val (.imm (.bool si)), GF (bx a3 b c3) (rr r) (mm M) (rr o) (bb' sm) (mm fM) (bb' al) (oo [.bool sm, .bool al, .bool false])) := v_call2 (ev_var rfl) (ev_var rfl) z4
  have g8 : ∃ pr, mAnd (mCall (cl 14) (rVal (mVar 1) (rVal (mVar 3) rNil))) (un dNot (mVar 4)) (GF (bx a3 b c3) (rr r) (mm M) (rr o) (bb' sm) (mm fM) (bb' al) (oo [.bool sm, .bool al, .bool false])) = some (pr, GF (bx a3 b c3) (rr r) (mm M) (rr o) (bb' sm) (mm fM) (bb' al) (oo [.bool sm, .bool al, .bool false])) ∧ frz (GF (bx a3 b c3) (rr r) (mm M) (rr o) (bb' sm) (mm fM) (bb' al) (oo [.bool sm, .bool al, .bool false])) pr = some (.bool false, GF (bx a3 b c3) (rr r) (mm M) (rr o) (bb' sm) (mm fM) (bb' al) (oo [.bool sm, .bool al, .bool false])) := by
    cases si with
    | false => exact ⟨_, c_andF w4 rfl rfl, rfl⟩
    | true =>
      have hsm := f2' rfl
      subst hsm
      exact ⟨.val (.imm (.bool false)), c_andT w4 rfl rfl rfl, rfl⟩
  obtain ⟨pr8, k1, k2'⟩ := g8
  have e8 : r8 cl (GF (bx a3 b c3) (rr r) (mm M) (rr o) (bb' sm) (mm fM) (bb' al) (oo [.bool sm, .bool al, .bool false])) = some (.next, GF (bx a3 b c3) (rr r) (mm M) (rr o) (bb' sm) (mm fM) (bb' al) (oo [.bool sm, .bool al, .bool false, .bool false, .bool sm])) :=
    s_grow (i := 7) (b := .loc) (b2 := .loc) (ds := [.bool sm, .bool al, .bool false]) rfl (c_lst (c_acons k1 k2' (c_acons (v_call3 (ev_var rfl) (ev_var rfl) (ev_var rfl) z3) rfl c_anil)) rfl) (by simp)
  have hE := P.eq (.list [.bool sm, .bool al, .bool false, .bool false, .bool sm]) (by
    show (decide (5 ≤ 10000) && [PyData.bool sm, .bool al, .bool false, .bool false, .bool sm].all (smD 7)) = true
    simp [sm_bool])
  have g9 : mLst (mCons (mVar 4) (mCons (mVar 6) (mCons (mC (.bool false)) (mCons (mC (.bool false)) (mCons (mVar 4) mNil))))) (GF (bx a3 b c3) (rr r) (mm M) (rr o) (bb' sm) (mm fM) (bb' al) (ll [.bool sm, .bool al, .bool false, .bool false, .bool sm])) = some (.val (.own .loc [.bool sm, .bool al, .bool false, .bool false, .bool sm]), GF (bx a3 b c3) (rr r) (mm M) (rr o) (bb' sm) (mm fM) (bb' al) (ll [.bool sm, .bool al, .bool false, .bool false, .bool sm])) :=
    c_lst (c_acons rfl rfl (c_acons rfl rfl (c_acons rfl rfl (c_acons rfl rfl (c_acons rfl rfl c_anil))))) rfl
  have e9 : r9 cl (GF (bx a3 b c3) (rr r) (mm M) (rr o) (bb' sm) (mm fM) (bb' al) (oo [.bool sm, .bool al, .bool false, .bool false, .bool sm])) = some (.ret (.imm (.bool true)), GF (bx a3 b c3) (rr r) (mm M) (rr o) (bb' sm) (mm fM) (bb' al) (ll [.bool sm, .bool al, .bool false, .bool false, .bool sm])) :=
    c_ret (c_call (as := [.v (.list [.bool sm, .bool al, .bool false, .bool false, .bool sm]), .v (.list [.bool sm, .bool al, .bool false, .bool false, .bool sm])]) (c_rval (me := mVar 7) rfl rfl (c_rval g9 rfl rfl)) rfl rfl hE rfl) rfl
  refine ⟨bx a3 b c3, ?_⟩
  rw [right_fn]
  exact c_fn (ρ0 := GF (bx a b 0) none none none none none none none) rfl rfl (c_seq e1 (c_seq e2 (c_seq e3 (c_seq e4 (c_seq e5 (c_seq e6 (c_seq e7 (c_seq e8 e9)))))))) rfl
end
theorem sm_up : ∀ (k : Nat) {d : D}, smD k d = true → smD (k + 1) d = true
  | 0, d, h => by cases d <;> first | rfl | cases h
  | k + 1, d, h => by
    cases d with
    | int i => rfl
    | bool i => rfl
    | list xs =>
      have h' : (decide (xs.length ≤ 10000) && xs.all (smD k)) = true := h
      rw [Bool.and_eq_true, List.all_eq_true] at h'
      show (decide (xs.length ≤ 10000) && xs.all (smD (k + 1))) = true
      rw [h'.1, Bool.true_and, List.all_eq_true]
      exact fun x hx => sm_up k (h'.2 x hx)
    | tuple xs =>
      have h' : (decide (xs.length ≤ 10000) && xs.all (smD k)) = true := h
      rw [Bool.and_eq_true, List.all_eq_true] at h'
      show (decide (xs.length ≤ 10000) && xs.all (smD (k + 1))) = true
      rw [h'.1, Bool.true_and, List.all_eq_true]
      exact fun x hx => sm_up k (h'.2 x hx)
    | none => cases h
    | str x => cases h
    | dict x => cases h
theorem sm_more (k : Nat) : ∀ (n : Nat) (d : D), smD k d = true → smD (k + n) d = true
  | 0, d, h => h
  | n + 1, d, h => sm_up (k + n) (sm_more k n d h)
theorem hand_ok : run 59 37 [] = some (.imm (.bool true), []) := by kernel_rfl
theorem i_frac (K : Nat) : FracP (run (K + 1) 7) := fun a b h1 h2 => by rw [rs7]; exact fraction_ok a b h1 h2
theorem i_plus (K : Nat) : PlusP (run (K + 2) 8) := fun d e q r h1 h2 h3 h4 => by rw [rs8]; exact plus_ok (i_frac K) h1 h2 h3 h4
theorem i_low (K : Nat) : LowP (run (K + 1) 25) := fun a b h1 h2 => by rw [rs25]; exact low_ok a b h1 h2
theorem i_ladd (K : Nat) : LaddP (run (K + 2) 26) := fun d e q r h1 h2 h3 h4 => by rw [rs26]; exact ladd_ok (i_low K) h1 h2 h3 h4
theorem i_tog (K : Nat) (M : List (Int × Int)) : TogP (run (K + 1) 10) M := by rw [rs10]; exact tog_ok M
theorem i_tog2 (K : Nat) (M : List (Int × Int)) : TogP (run (K + 1) 30) M := by rw [rs30, go_fn]; exact tog_ok M
theorem i_place (K : Nat) {M : List (Int × Int)} (hM : MOk M) : PlaceP (run (K + 2) 11) M := by rw [rs11]; exact place_ok (cM_ok hM) (i_tog K M)
theorem i_short (K : Nat) {M : List (Int × Int)} (hM : MOk M) : ShortP (run (K + 3) 12) M := by rw [rs12]; exact short_ok (i_plus K) (i_place K hM)
theorem i_shortL (K : Nat) {M : List (Int × Int)} (hM : MOk M) : ShortLP (run (K + 3) 12) M := by rw [rs12]; exact shortL_ok (i_plus K) (i_place K hM)
theorem i_fore (K : Nat) (M : List (Int × Int)) : ForeP (run (K + 2) 15) M := by rw [rs15]; exact fore_ok (i_tog K M)
theorem i_parts (K : Nat) : PartsP (run (K + 1) 17) := by rw [rs17]; exact parts_ok
theorem i_order (K : Nat) {M : List (Int × Int)} (hM : MOk M) : OrdP (run (K + 3) 16) M := by rw [rs16]; exact order_ok hM (i_fore K M)
theorem i_fz (K : Nat) {M : List (Int × Int)} (hM : MOk M) : FzP (run (K + 3) 4) (metD M) (metD M) := fz_met K (by have := hM.len; omega)
theorem i_fzL (K : Nat) {M : List (Int × Int)} (hM : MOk M) : FzP (run (K + 3) 4) (metL M) (metD M) := fz_metL K (by have := hM.len; omega)
theorem i_with (K : Nat) {M : List (Int × Int)} (hM : MOk M) : WithP (run (K + 4) 18) M := by rw [rs18]; exact with_ok hM (i_fz K hM) (i_short K hM) (i_order K hM) (i_parts (K + 2))
theorem i_withL (K : Nat) {M : List (Int × Int)} (hM : MOk M) : WithLP (run (K + 4) 18) M := by rw [rs18]; exact withL_ok hM (i_fzL K hM) (i_shortL K hM) (i_order K hM) (i_parts (K + 2))
theorem i_same (K : Nat) {M : List (Int × Int)} (hM : MOk M) : SameP (run (K + 5) 19) M := by rw [rs19]; exact same_with_ok (i_with K hM)
theorem i_normal (K : Nat) : NormalP (run (K + 4) 13) := by rw [rs13]; exact normal_ok (i_short K mok_nil)
theorem i_isSame (K : Nat) : IsSameP (run (K + 5) 14) := by rw [rs14]; exact is_same_ok (i_normal K)
theorem i_und (K : Nat) : UndP (run (K + 1) 29) := fun r h => by rw [rs29]; exact undone_ok h
theorem i_much (K : Nat) (b : Int) : MuchP (run (K + 2) 27) b := fun a c h1 h2 => by rw [rs27]; exact much_ok (take_P K b) a c h1 h2
theorem i_flows (K : Nat) (b : Int) (w m : Nat) (hw : 0 < w) (hw2 : w < 1000) (hm : m ≤ 500) (a c : Int) (h1 : 0 ≤ c) (h2 : c < 10000) :
    ∃ (r : Row) (a' c' : Int), run (K + 3) 28 [.own .par (bx a b c), .imm (.int (w : Int)), .imm (.int (m : Int))] = some (.imm (rowD r), [some (bx a' b c'), none, none]) ∧ r.length ≤ m ∧ Fl w r ∧ 0 ≤ c' ∧ c' ≤ c + 1 + 2 * m := by
  rw [rs28]; exact flows_ok (take_P (K + 1) b) (i_much K b) hw hw2 hm h1 h2
theorem i_lets (K : Nat) (b : Int) : LetsP (run (K + 2) 31) b := by rw [rs31]; exact lets_ok (take_P K b)
theorem i_turns (K : Nat) (M : List (Int × Int)) : TurnsP (run (K + 3) 32) M := by rw [rs32]; exact turns_ok (i_tog2 (K + 1) M) (i_ladd K)
theorem i_reach (K : Nat) (M : List (Int × Int)) : ReachP (run (K + 4) 33) M := by rw [rs33]; exact reached_ok (i_turns K M)
theorem i_shortest (K : Nat) {M : List (Int × Int)} (hM : MOk M) : ShortestP (run (K + 5) 34) M := by rw [rs34]; exact shortest_ok hM (i_reach K M)
theorem i_drawn (K : Nat) (b : Int) : DrawnP (run (K + 4) 35) b := by rw [rs35]; exact drawn_ok (i_turns K) (take_P (K + 2) b)
theorem case_calls (b : Int) : Cc (run 57) b := ⟨fun M hM => i_shortest 52 hM, fun M hM => i_reach 53 M, i_drawn 53 b, fun M hM => i_with 53 hM, fun M hM => i_withL 53 hM, i_und 56, fun M hM => i_same 52 hM, fun d h => same_ok 56 d (sm_more 8 48 d h)⟩
theorem right_calls (b : Int) : Rc (run 58) b :=
  ⟨take_P 57 b, fun w m h1 h2 h3 a c h4 h5 => i_flows 55 b w m h1 h2 h3 a c h4 h5, i_lets 56 b, fun M r hM h1 h2 h3 a c h4 h5 => by rw [rs36]; exact case_ok (case_calls b) hM h1 h2 h3 h4 h5, fun M hM => i_shortest 53 hM, fun M hM => i_same 53 hM, i_isSame 53, fun d h => same_ok 57 d (sm_more 8 49 d h)⟩
theorem law_calls : LawP (run 59) := ⟨hand_ok, fun ns h => by rw [rs23]; exact cells_ok ns h, fun ms k h1 h2 => by rw [rs21]; exact box_ok h1 h2, fun a b => by rw [rs38]; exact right_ok (right_calls b) a⟩
theorem law_true (ns : List Int) (hl : ns.length ≤ 63) : ∃ os, run 60 39 [.imm (.dict (ns.map fun n => (.int n, .none)))] = some (.imm (.bool true), os) := ⟨[none], by rw [rs39]; exact law_gen law_calls ns hl⟩
end K26

open PySem PySem.W PyProof.Rows
set_option maxHeartbeats 0 in
theorem PySem.Challenge.cw_everychange_k26_whole_rows_whose_parts_g_holds : PySem.Challenge.rw_everychange_k26_whole_rows_whose_parts_g.Holds := by
  w_on; o_law; k_head; (case hw => w_witness2)
  k_fill
  refine L2.walk_of (l := PySem.Challenge.rw_everychange_k26_whole_rows_whose_parts_g) (n := 63) (k := 60) (x := "script") (CX := fun _ => L2.CX0) (sp := fun w => Vi.spD _ 1 (K26.run 60 39)) rfl (by decide) rfl ⟨rfl, by decide, by decide⟩ (fun w h Y => PySem.W.kIn_of Y) ?F (fun _ _ a ns hl _ hS => Vi.law_sp hS (K26.law_true ns hl)) (fun _ _ _ _ _ h => h)
  case F =>
    intro w mg fa h KX G hmg
    refine' K26.all_mk KX G hmg ?a4 ?l4 ?c4 ?k4 ?a7 ?l7 ?c7 ?k7 ?a8 ?l8 ?c8 ?k8 ?a10 ?l10 ?c10 ?k10 ?a11 ?l11 ?c11 ?k11 ?a12 ?l12 ?c12 ?k12 ?a13 ?l13 ?c13 ?k13 ?a14 ?l14 ?c14 ?k14 ?a15 ?l15 ?c15 ?k15 ?a16 ?l16 ?c16 ?k16 ?a17 ?l17 ?c17 ?k17 ?a18 ?l18 ?c18 ?k18 ?a19 ?l19 ?c19 ?k19 ?a21 ?l21 ?c21 ?k21 ?a22 ?l22 ?c22 ?k22 ?a23 ?l23 ?c23 ?k23 ?a24 ?l24 ?c24 ?k24 ?a25 ?l25 ?c25 ?k25 ?a26 ?l26 ?c26 ?k26 ?a27 ?l27 ?c27 ?k27 ?a28 ?l28 ?c28 ?k28 ?a29 ?l29 ?c29 ?k29 ?a30 ?l30 ?c30 ?k30 ?a31 ?l31 ?c31 ?k31 ?a32 ?l32 ?c32 ?k32 ?a33 ?l33 ?c33 ?k33 ?a34 ?l34 ?c34 ?k34 ?a35 ?l35 ?c35 ?k35 ?a36 ?l36 ?c36 ?k36 ?a37 ?l37 ?c37 ?k37 ?a38 ?l38 ?c38 ?k38 ?a39 ?l39 ?c39 ?k39 ?m_ZERO ?k_ZERO ?f_gcd ?z_abs ?z_all ?z_bool ?z_enumerate ?z_int ?z_isinstance ?z_len ?z_list ?z_max ?z_min ?z_range ?z_sorted ?z_str ?z_tuple ?z_zip
    (case a4 => k_is); (case l4 => k_is); (case c4 => k_is); (case k4 => k_is); (case a7 => k_is); (case l7 => k_is); (case c7 => k_is); (case k7 => k_is); (case a8 => k_is); (case l8 => k_is); (case c8 => k_is); (case k8 => k_is); (case a10 => k_is); (case l10 => k_is); (case c10 => k_is); (case k10 => k_is); (case a11 => k_is); (case l11 => k_is); (case c11 => k_is); (case k11 => k_is); (case a12 => k_is); (case l12 => k_is); (case c12 => k_is); (case k12 => k_is); (case a13 => k_is); (case l13 => k_is); (case c13 => k_is); (case k13 => k_is); (case a14 => k_is); (case l14 => k_is); (case c14 => k_is); (case k14 => k_is); (case a15 => k_is); (case l15 => k_is); (case c15 => k_is); (case k15 => k_is); (case a16 => k_is); (case l16 => k_is); (case c16 => k_is); (case k16 => k_is); (case a17 => k_is); (case l17 => k_is); (case c17 => k_is); (case k17 => k_is); (case a18 => k_is); (case l18 => k_is); (case c18 => k_is); (case k18 => k_is); (case a19 => k_is); (case l19 => k_is); (case c19 => k_is); (case k19 => k_is); (case a21 => k_is); (case l21 => k_is); (case c21 => k_is); (case k21 => k_is); (case a22 => k_is); (case l22 => k_is); (case c22 => k_is); (case k22 => k_is); (case a23 => k_is); (case l23 => k_is); (case c23 => k_is); (case k23 => k_is); (case a24 => k_is); (case l24 => k_is); (case c24 => k_is); (case k24 => k_is); (case a25 => k_is); (case l25 => k_is); (case c25 => k_is); (case k25 => k_is); (case a26 => k_is); (case l26 => k_is); (case c26 => k_is); (case k26 => k_is); (case a27 => k_is); (case l27 => k_is); (case c27 => k_is); (case k27 => k_is); (case a28 => k_is); (case l28 => k_is); (case c28 => k_is); (case k28 => k_is); (case a29 => k_is); (case l29 => k_is); (case c29 => k_is); (case k29 => k_is); (case a30 => k_is); (case l30 => k_is); (case c30 => k_is); (case k30 => k_is); (case a31 => k_is); (case l31 => k_is); (case c31 => k_is); (case k31 => k_is); (case a32 => k_is); (case l32 => k_is); (case c32 => k_is); (case k32 => k_is); (case a33 => k_is); (case l33 => k_is); (case c33 => k_is); (case k33 => k_is); (case a34 => k_is); (case l34 => k_is); (case c34 => k_is); (case k34 => k_is); (case a35 => k_is); (case l35 => k_is); (case c35 => k_is); (case k35 => k_is); (case a36 => k_is); (case l36 => k_is); (case c36 => k_is); (case k36 => k_is); (case a37 => k_is); (case l37 => k_is); (case c37 => k_is); (case k37 => k_is); (case a38 => k_is); (case l38 => k_is); (case c38 => k_is); (case k38 => k_is); (case a39 => k_is); (case l39 => k_is); (case c39 => k_is); (case k39 => k_is); (case m_ZERO => k_is); (case k_ZERO => k_is); (case f_gcd => k_is); (case z_abs => k_is); (case z_all => k_is); (case z_bool => k_is); (case z_enumerate => k_is); (case z_int => k_is); (case z_isinstance => k_is); (case z_len => k_is); (case z_list => k_is); (case z_max => k_is); (case z_min => k_is); (case z_range => k_is); (case z_sorted => k_is); (case z_str => k_is); (case z_tuple => k_is); (case z_zip => k_is)

