import PyProof.Rows.All
import Wide.All
import OpenK.AllK
import Wide.FinOn
import HandS.ForMost
import HandS.Deep
import HandS.TupAny
import HandS.IsInst
import HandS.Flow
import HandS.Zip
import HandS.Wide
import HandS.Walk
import HandS.TupMul
import KE.SortData
import KE.DataCmp
import KE.KeyNested
import KE.GoesMore
import HandS.Style
import HandS.Gcd
import HandS.Rev
import HandS.Iter
import KE.DataMinMax
import PyProof.Claim2Refuses
import HandS.Conv
import HandS.TupSets
import HandS.Sort
import HandS.SetFor
import HandS.Strs
import KE.KMathGC
import KE.KDictKeyed
import KE.KDictDisplayH
import KE.KDictCopyH
import KE.KDictSum
import HandS.Exc
import HandS.ExcOwn
import HandS.ExcInit
import HandS.TryOnly
import HandS.TryMany
import HandS.WordsExc
import HandS.WideBits
import HandS.RevTup
import PyProof.Rows.RuleB_bool
import KE.GoesZip
import PySem.Challenge.RW_everychange_k41_signs_shares_and_least_r
set_option Elab.async false
set_option linter.all false
set_option maxRecDepth 100000
set_option maxHeartbeats 4000000
namespace Vi
open PySem PySem.Spec PyProof.Rows L2

abbrev D := PyData
abbrev Mset := Addr → Prop
abbrev St := L2.St

/-- a tuple that stays -/
def TupAt (K : PySem.W.Frag) (H : Hp) (M : Mset) (a : Addr) (xs : List V) : Prop :=
  (Rd H a (.tup xs) ∧ ¬ M a) ∨
    ∃ (o : Obj) (its : Array Value) (n : Nat), K.lookup a = some o ∧ o.cls = .type "tuple" ∧ o.data = .seq its n ∧ its.size ≤ sizeLine ∧ Vals xs its.toList
theorem TupAt.sq {K : PySem.W.Frag} {H : Hp} {M : Mset} {a : Addr} {xs : List V} (h : TupAt K H M a xs) : SqT K H a xs := by
  rcases h with ⟨h, _⟩ | h
  · exact .inl h
  · exact .inr h

/-- a list that stays, of the module's own too (the script) -/
def LstAt (K : PySem.W.Frag) (H : Hp) (M : Mset) (a : Addr) (xs : List V) : Prop :=
  (Rd H a (.lst xs) ∧ ¬ M a) ∨
    ∃ (o : Obj) (its : Array Value) (n : Nat), K.lookup a = some o ∧ o.cls = .type "list" ∧ o.dict = none ∧ o.data = .seq its n ∧ its.size ≤ sizeLine ∧ Vals xs its.toList
theorem LstAt.sq {K : PySem.W.Frag} {H : Hp} {M : Mset} {a : Addr} {xs : List V} (h : LstAt K H M a xs) : SqL K H a xs := by
  rcases h with ⟨h, _⟩ | h
  · exact .inl h
  · exact .inr h

mutual
inductive Rep (K : PySem.W.Frag) (H : Hp) (M : Mset) : V → D → Prop
  | non : Rep K H M .non .none
  | bl (b : Bool) : Rep K H M (.bl b) (.bool b)
  | int (i : Int) : Rep K H M (.int i) (.int i)
  | str (x : Str) : Rep K H M (.str x) (.str x)
  | lst {a : Addr} {xs : List V} {ds : List D} : Rd H a (.lst xs) → ¬ M a → Reps K H M xs ds → Rep K H M (.ref a) (.list ds)
  | tup {a : Addr} {xs : List V} {ds : List D} : TupAt K H M a xs → Reps K H M xs ds → Rep K H M (.ref a) (.tuple ds)
  | scr {a : Addr} {xs : List V} {kvs : List (D × D)} : LstAt K H M a xs → Reps K H M xs (kvs.map Prod.fst) → Rep K H M (.ref a) (.dict kvs)
inductive Reps (K : PySem.W.Frag) (H : Hp) (M : Mset) : List V → List D → Prop
  | nil : Reps K H M [] []
  | cons {v : V} {vs : List V} {d : D} {ds : List D} : Rep K H M v d → Reps K H M vs ds → Reps K H M (v :: vs) (d :: ds)
end

section
variable {K : PySem.W.Frag} {H H' : Hp} {M M' : Mset}
mutual
theorem Rep.tr (t : ∀ a u, Rd H a u → ¬ M a → Rd H' a u ∧ ¬ M' a) : ∀ {v : V} {d : D}, Rep K H M v d → Rep K H' M' v d
  | _, _, .non => .non
  | _, _, .bl b => .bl b
  | _, _, .int i => .int i
  | _, _, .str x => .str x
  | _, _, .lst h n r => .lst (t _ _ h n).1 (t _ _ h n).2 (Reps.tr t r)
  | _, _, .tup h r => .tup (by
      rcases h with ⟨h, n⟩ | h
      · exact .inl (t _ _ h n)
      · exact .inr h) (Reps.tr t r)
  | _, _, .scr h r => .scr (by
      rcases h with ⟨h, n⟩ | h
      · exact .inl (t _ _ h n)
      · exact .inr h) (Reps.tr t r)
theorem Reps.tr (t : ∀ a u, Rd H a u → ¬ M a → Rd H' a u ∧ ¬ M' a) : ∀ {vs : List V} {ds : List D}, Reps K H M vs ds → Reps K H' M' vs ds
  | _, _, .nil => .nil
  | _, _, .cons h r => .cons (Rep.tr t h) (Reps.tr t r)
end
mutual
theorem Rep.dp : ∀ {v : V} {d : D}, Rep K H M v d → d.canLay0 = true → Dp K H v d
  | _, _, .non, _ => .non
  | _, _, .bl b, _ => .bl b
  | _, _, .int i, _ => .int i
  | _, _, .str x, _ => .str x
  | _, _, .lst h n r, c => .lst (.inl h) (Reps.dp r (by simpa [PyData.canLay0] using c))
  | _, _, .tup h r, c => .tup h.sq (Reps.dp r (by simpa [PyData.canLay0] using c))
  | _, _, .scr h r, c => by simp [PyData.canLay0] at c
theorem Reps.dp : ∀ {vs : List V} {ds : List D}, Reps K H M vs ds → PyData.canLayAll0 ds = true → DpAll K H vs ds
  | _, _, .nil, _ => .nil
  | _, _, .cons h r, c => .cons (Rep.dp h (by simp [PyData.canLayAll0] at c; exact c.1)) (Reps.dp r (by simp [PyData.canLayAll0] at c; exact c.2))
end
theorem Rep.smaller (h : ∀ a, M' a → M a) {v : V} {d : D} (r : Rep K H M v d) : Rep K H M' v d := r.tr fun a u q n => ⟨q, fun z => n (h a z)⟩
theorem Reps.smaller (h : ∀ a, M' a → M a) {v : List V} {d : List D} (r : Reps K H M v d) : Reps K H M' v d := r.tr fun a u q n => ⟨q, fun z => n (h a z)⟩
theorem Reps.length : ∀ {vs : List V} {ds : List D}, Reps K H M vs ds → vs.length = ds.length
  | _, _, .nil => rfl
  | _, _, .cons _ r => by rw [List.length_cons, List.length_cons, Reps.length r]
theorem Reps.append : ∀ {vs ws : List V} {ds es : List D}, Reps K H M vs ds → Reps K H M ws es → Reps K H M (vs ++ ws) (ds ++ es)
  | _, _, _, _, .nil, s => s
  | _, _, _, _, .cons h r, s => .cons h (Reps.append r s)
theorem Reps.get : ∀ {vs : List V} {ds : List D} {i : Nat} {d : D}, Reps K H M vs ds → ds[i]? = some d → ∃ v, vs[i]? = some v ∧ Rep K H M v d
  | _, _, _, _, .nil, e => by simp at e
  | _, _, 0, _, .cons h r, e => by simp at e; subst e; exact ⟨_, rfl, h⟩
  | _, _, i + 1, d, .cons h r, e => by
    obtain ⟨v, h1, h2⟩ := Reps.get (i := i) (d := d) r (by simpa using e)
    exact ⟨v, by simpa using h1, h2⟩
theorem Reps.getV : ∀ {vs : List V} {ds : List D} {i : Nat} {v : V}, Reps K H M vs ds → vs[i]? = some v → ∃ d, ds[i]? = some d ∧ Rep K H M v d
  | _, _, _, _, .nil, e => by simp at e
  | _, _, 0, _, .cons h r, e => by simp at e; subst e; exact ⟨_, rfl, h⟩
  | _, _, i + 1, v, .cons h r, e => by
    obtain ⟨d, h1, h2⟩ := Reps.getV (i := i) (v := v) r (by simpa using e)
    exact ⟨d, by simpa using h1, h2⟩
theorem Reps.take : ∀ {vs : List V} {ds : List D} (n : Nat), Reps K H M vs ds → Reps K H M (vs.take n) (ds.take n)
  | _, _, 0, _ => by simp; exact .nil
  | _, _, _ + 1, .nil => .nil
  | _, _, n + 1, .cons h r => .cons h (Reps.take n r)
theorem Reps.drop : ∀ {vs : List V} {ds : List D} (n : Nat), Reps K H M vs ds → Reps K H M (vs.drop n) (ds.drop n)
  | _, _, 0, r => r
  | _, _, _ + 1, .nil => .nil
  | _, _, n + 1, .cons h r => Reps.drop n r
theorem Reps.set : ∀ {vs : List V} {ds : List D} (i : Nat) {v : V} {d : D}, Reps K H M vs ds → Rep K H M v d → Reps K H M (vs.set i v) (ds.set i d)
  | _, _, _, _, _, .nil, _ => .nil
  | _, _, 0, _, _, .cons _ r, q => .cons q r
  | _, _, i + 1, _, _, .cons h r, q => .cons h (Reps.set i r q)
theorem Reps.erase : ∀ {vs : List V} {ds : List D} (i : Nat), Reps K H M vs ds → Reps K H M (vs.eraseIdx i) (ds.eraseIdx i)
  | _, _, _, .nil => .nil
  | _, _, 0, .cons _ r => r
  | _, _, i + 1, .cons h r => .cons h (Reps.erase i r)
theorem Reps.rep {vs : List V} {ds : List D} (h : Reps K H M vs ds) : ∀ k : Nat, Reps K H M (List.replicate k vs).flatten (List.replicate k ds).flatten
  | 0 => .nil
  | k + 1 => by
    rw [List.replicate_succ, List.replicate_succ, List.flatten_cons, List.flatten_cons]
    exact Reps.append h (Reps.rep h k)
end

/-! ### what a def's names hold -/
/-- a local list, a parameter's list, a dict (its keys and values in turn) -/
inductive Kd where
  | loc | par | dic
def Kd.isL : Kd → Bool
  | .dic => false
  | _ => true
inductive Sv where
  | imm (d : D)
  | own (pin : Kd) (ds : List D)
abbrev Fm := List (Option Sv)
/-! the keys that a dict of this layer may have: tuples of whole numbers, and of such tuples -/
mutual
def keyOf : D → NestedKey
  | .int i => .num i
  | .tuple ds => .tup (keysOf ds)
  | _ => .none
def keysOf : List D → List NestedKey
  | [] => []
  | d :: ds => keyOf d :: keysOf ds
end
def keyOkN : Nat → D → Bool
  | _, .int _ => true
  | n + 1, .tuple ds => ds.all (keyOkN n)
  | _, _ => false
def keyOk : D → Bool
  | .tuple ds => keyOkN 8 (.tuple ds)
  | _ => false
/-- the keys -/
def dKeys : List D → List D
  | k :: _ :: r => k :: dKeys r
  | _ => []
/-- keys and values in turn: what stands in the dict's table -/
inductive Ents : List DictEntry → List V → List D → Prop
  | nil : Ents [] [] []
  | cons {e : DictEntry} {es : List DictEntry} {b : Addr} {v : V} {vs : List V} {kd d : D} {ds : List D} : keyOk kd = true → (∀ w, e.hash = (keyOf kd).hash w) → e.key = .ref b → RelV v e.val → Ents es vs ds → Ents (e :: es) (.ref b :: v :: vs) (kd :: d :: ds)
def dicO (a : Addr) (vs : List V) (ds : List D) : HO := .ext fun h => ∃ o es ep, h.get? a = some o ∧ o.ExactDict ∧ o.data = .dict es ep ∧ Ents es.toList vs ds ∧ ((dKeys ds).map keyOf).Nodup ∧ (a == sysModules) = false
def cell : Kd → Addr → List V → List D → HO
  | .dic, a, vs, ds => dicO a vs ds
  | _, _, vs, _ => .lst vs

theorem cell_lst {b : Kd} (hb : b.isL = true) {a : Addr} {vs : List V} {ds : List D} : cell b a vs ds = .lst vs := by cases b <;> first | rfl | cases hb
/-- from one world to a later one: what is fixed stays -/
structure Ext (O : Mset) (H : Hp) (M : Mset) (H' : Hp) (M' : Mset) : Prop where
  keep : ∀ a o, H a = some o → (O a ∨ ¬ M a) → H' a = some o
  sub : ∀ a, O a → M' a
  new : ∀ a, M' a → M a ∨ H a = none
theorem Ext.trans {O : Mset} {H H1 H2 : Hp} {M M1 M2 : Mset} (a : Ext O H M H1 M1) (b : Ext O H1 M1 H2 M2) : Ext O H M H2 M2 := by
  refine ⟨fun x o e h => ?_, b.sub, fun x h => ?_⟩
  · have e1 := a.keep x o e h
    refine b.keep x o e1 ?_
    rcases h with h | h
    · exact .inl h
    · refine .inr fun z => ?_
      rcases a.new x z with q | q
      · exact h q
      · rw [e] at q; cases q
  · rcases b.new x h with q | q
    · exact a.new x q
    · cases e : H x with
      | none => exact .inr rfl
      | some o =>
        refine .inl (Classical.byContradiction fun n => ?_)
        have := a.keep x o e (.inr n)
        rw [this] at q; cases q
theorem Ext.less {O O' : Mset} {H H1 : Hp} {M M1 : Mset} (a : Ext O H M H1 M1) (h : ∀ x, O' x → O x) : Ext O' H M H1 M1 :=
  ⟨fun x o e q => a.keep x o e (q.imp (h x) id), fun x q => a.sub x (h x q), a.new⟩
theorem Ext.tr {O : Mset} {H H' : Hp} {M M' : Mset} (x : Ext O H M H' M') : ∀ a u, Rd H a u → ¬ M a → Rd H' a u ∧ ¬ M' a := fun a u h n => by
  refine ⟨?_, fun z => ?_⟩
  · rcases h with h | ⟨o, h⟩
    · exact .inl (x.keep a _ h (.inr n))
    · exact .inr ⟨o, x.keep a _ h (.inr n)⟩
  · rcases x.new a z with q | q
    · exact n q
    · rcases h with h | ⟨o, h⟩ <;> (rw [h] at q; cases q)

structure SR (K : PySem.W.Frag) (H : Hp) (M O : Mset) (π : Nat → Option Addr) (ρ : Fm) (σ : St) : Prop where
  len : ρ.length = σ.length
  sub : ∀ a, O a → M a
  live : ∀ a, M a → H a ≠ none
  imm : ∀ (i : Nat) (d : D), ρ[i]? = some (some (.imm d)) → ∃ v, σ[i]? = some (some v) ∧ Rep K H M v d
  own : ∀ (i : Nat) (b : Kd) (ds : List D), ρ[i]? = some (some (.own b ds)) → ∃ a vs, σ[i]? = some (some (.ref a)) ∧ H a = some (cell b a vs ds) ∧ M a ∧ ¬ O a ∧ Reps K H M vs ds ∧ (b = .par → π i = some a)
  uniq : ∀ (i j : Nat) (b c : Kd) (ds es : List D) (a : Addr), i ≠ j → ρ[i]? = some (some (.own b ds)) → ρ[j]? = some (some (.own c es)) → σ[i]? = some (some (.ref a)) → σ[j]? ≠ some (some (.ref a))

theorem Ext.refl {K : PySem.W.Frag} {H : Hp} {M O : Mset} {π : Nat → Option Addr} {ρ : Fm} {σ : St} (h : SR K H M O π ρ σ) : Ext O H M H M := ⟨fun _ _ e _ => e, h.sub, fun _ q => .inl q⟩

section
variable {K : PySem.W.Frag} {H H' : Hp} {M M' O : Mset} {π : Nat → Option Addr} {ρ ρ' : Fm} {σ : St}
/-- a new object, not owned by a name -/
theorem SR.alloc (h : SR K H M O π ρ σ) {p : Addr} {o : HO} (hp : H p = none) : SR K (upd H p o) M O π ρ σ := by
  have ne : ∀ a, M a → a ≠ p := fun a q z => h.live a q (by rw [z]; exact hp)
  have ne2 : ∀ {a : Addr} {u : HO}, H a = some u → a ≠ p := fun e z => by rw [z, hp] at e; cases e
  have t : ∀ a u, Rd H a u → ¬ M a → Rd (upd H p o) a u ∧ ¬ M a := fun a u q n => by
    refine ⟨?_, n⟩
    rcases q with q | ⟨o', q⟩
    · exact .inl (by rw [upd_ne (ne2 q)]; exact q)
    · exact .inr ⟨o', by rw [upd_ne (ne2 q)]; exact q⟩
  refine ⟨h.len, h.sub, fun a q => by rw [upd_ne (ne a q)]; exact h.live a q, fun i d e => ?_, fun i b ds e => ?_, h.uniq⟩
  · obtain ⟨v, e1, r⟩ := h.imm i d e
    exact ⟨v, e1, r.tr t⟩
  · obtain ⟨a, vs, e1, e2, e3, e4, r, e5⟩ := h.own i b ds e
    exact ⟨a, vs, e1, by rw [upd_ne (ne2 e2)]; exact e2, e3, e4, r.tr t, e5⟩
theorem Ext.alloc (h : SR K H M O π ρ σ) {p : Addr} {o : HO} (hp : H p = none) : Ext O H M (upd H p o) M :=
  ⟨fun a u e _ => by rw [upd_ne (fun z => by rw [z, hp] at e; cases e)]; exact e, h.sub, fun _ q => .inl q⟩
/-- M with p -/
def wth (M : Mset) (p : Addr) : Mset := fun a => M a ∨ a = p
/-- M without p -/
def wo (M : Mset) (p : Addr) : Mset := fun a => M a ∧ a ≠ p
theorem SR.allocOwn (h : SR K H M O π ρ σ) {p : Addr} {o : HO} (hp : H p = none) : SR K (upd H p o) (wth M p) O π ρ σ := by
  have ne2 : ∀ {a : Addr} {u : HO}, H a = some u → a ≠ p := fun e z => by rw [z, hp] at e; cases e
  have t : ∀ a u, Rd H a u → ¬ M a → Rd (upd H p o) a u ∧ ¬ wth M p a := fun a u q n => by
    rcases q with q | ⟨o', q⟩
    · exact ⟨.inl (by rw [upd_ne (ne2 q)]; exact q), fun z => z.elim n (ne2 q)⟩
    · exact ⟨.inr ⟨o', by rw [upd_ne (ne2 q)]; exact q⟩, fun z => z.elim n (ne2 q)⟩
  refine ⟨h.len, fun a q => .inl (h.sub a q), fun a q => ?_, fun i d e => ?_, fun i b ds e => ?_, h.uniq⟩
  · rcases q with q | rfl
    · rw [upd_ne (fun z => h.live a q (by rw [z]; exact hp))]; exact h.live a q
    · rw [upd_same]; intro z; cases z
  · obtain ⟨v, e1, r⟩ := h.imm i d e
    exact ⟨v, e1, r.tr t⟩
  · obtain ⟨a, vs, e1, e2, e3, e4, r, e5⟩ := h.own i b ds e
    exact ⟨a, vs, e1, by rw [upd_ne (ne2 e2)]; exact e2, .inl e3, e4, r.tr t, e5⟩
theorem Ext.allocOwn (h : SR K H M O π ρ σ) {p : Addr} {o : HO} (hp : H p = none) : Ext O H M (upd H p o) (wth M p) :=
  ⟨fun a u e _ => by rw [upd_ne (fun z => by rw [z, hp] at e; cases e)]; exact e, fun a q => .inl (h.sub a q), fun a q => q.imp id (fun z => by rw [z]; exact hp)⟩
theorem SR.less (h : SR K H M O π ρ σ) {O' : Mset} (q : ∀ a, O' a → O a) : SR K H M O' π ρ σ :=
  ⟨h.len, fun a z => h.sub a (q a z), h.live, h.imm, fun i b ds e => let ⟨a, vs, e1, e2, e3, e4, r⟩ := h.own i b ds e; ⟨a, vs, e1, e2, e3, fun z => e4 (q a z), r⟩, h.uniq⟩
/-- one more that is held -/
theorem SR.more (h : SR K H M O π ρ σ) {O' : Mset} (q : ∀ a, O' a → M a) (n : ∀ (i : Nat) (b : Kd) (ds : List D) (a : Addr), ρ[i]? = some (some (.own b ds)) → σ[i]? = some (some (.ref a)) → ¬ O' a) : SR K H M O' π ρ σ :=
  ⟨h.len, q, h.live, h.imm, fun i b ds e => let ⟨a, vs, e1, e2, e3, e4, r⟩ := h.own i b ds e; ⟨a, vs, e1, e2, e3, n i b ds a e e1, r⟩, h.uniq⟩
end

/-! ### what an expression hands on -/
inductive PR where
  | val (s : Sv)
  | slot (i : Nat)
def Apart (ρ : Fm) (σ : St) (p : Addr) : Prop := ∀ (i : Nat) (b : Kd) (ds : List D), ρ[i]? = some (some (.own b ds)) → σ[i]? ≠ some (some (.ref p))
def RP (K : PySem.W.Frag) (H : Hp) (M O : Mset) (ρ : Fm) (σ : St) : PR → V → Prop
  | .val (.imm d), v => Rep K H M v d
  | .val (.own b ds), v => ∃ p vs, v = .ref p ∧ H p = some (cell b p vs ds) ∧ M p ∧ ¬ O p ∧ Reps K H M vs ds ∧ Apart ρ σ p
  | .slot i, v => σ[i]? = some (some v)
/-- what is held of it while something else is reckoned -/
def hold (O : Mset) : PR → V → Mset
  | .val (.own _ _), .ref p => wth O p
  | _, _ => O
theorem hold_le (O : Mset) (pr : PR) (v : V) : ∀ a, O a → hold O pr v a := fun a q => by
  unfold hold
  split
  · exact .inl q
  · exact q
section
variable {K : PySem.W.Frag} {H H' : Hp} {M M' O O' : Mset} {π : Nat → Option Addr} {ρ ρ' : Fm} {σ : St} {pr : PR} {v : V}
theorem SR.hold (h : SR K H M O π ρ σ) (r : RP K H M O ρ σ pr v) : SR K H M (hold O pr v) π ρ σ := by
  unfold Vi.hold
  split
  · obtain ⟨p, vs, e, e1, e2, e3, e4, e5⟩ := r
    cases e
    refine h.more (fun a q => ?_) fun i b ds a e6 e7 z => ?_
    · rcases q with q | rfl
      · exact h.sub a q
      · exact e2
    · rcases z with z | rfl
      · obtain ⟨a', _, f1, _, _, f2, _⟩ := h.own i b ds e6
        rw [e7] at f1; cases f1; exact f2 z
      · exact e5 i b ds e6 e7
  · exact h
theorem RP.held (r : RP K H M O ρ σ pr v) (x : Ext (hold O pr v) H M H' M') (h : SR K H' M' (hold O pr v) π ρ' σ) : RP K H' M' O ρ' σ pr v := by
  match pr, v, r with
  | .val (.imm d), v, r => exact Rep.tr x.tr r
  | .slot i, v, r => exact r
  | .val (.own b ds), v, ⟨p, vs, e, e1, e2, e3, e4, e5⟩ =>
    subst e
    refine ⟨p, vs, rfl, x.keep p _ e1 (.inl (.inr rfl)), x.sub p (.inr rfl), e3, Reps.tr x.tr e4, fun i b ds e6 e7 => ?_⟩
    obtain ⟨a, _, f1, _, _, f2, _⟩ := h.own i b ds e6
    rw [e7] at f1; cases f1
    exact f2 (.inr rfl)
theorem RP.less (r : RP K H M O ρ σ pr v) (q : ∀ a, O' a → O a) : RP K H M O' ρ σ pr v := by
  match pr, v, r with
  | .val (.imm d), v, r => exact r
  | .slot i, v, r => exact r
  | .val (.own b ds), v, ⟨p, vs, e, e1, e2, e3, e4, e5⟩ => exact ⟨p, vs, e, e1, e2, fun z => e3 (q p z), e4, e5⟩
end

/-- how a value is looked at -/
def VW (K : PySem.W.Frag) (H : Hp) (M : Mset) (v : V) (d : D) : Prop :=
  match d with
  | .list ds => ∃ a vs, v = .ref a ∧ Rd H a (.lst vs) ∧ Reps K H M vs ds
  | d => Rep K H M v d
def Sv.toD : Sv → D
  | .imm d => d
  | .own _ ds => .list ds
def peek (ρ : Fm) : PR → Option D
  | .val (.own .dic _) => none
  | .val s => some s.toD
  | .slot i => match ρ[i]? with
    | some (some (.own .dic _)) => none
    | some (some s) => some s.toD
    | _ => none
def frz (ρ : Fm) : PR → Option (D × Fm)
  | .val (.own .dic _) => none
  | .val s => some (s.toD, ρ)
  | .slot i => match ρ[i]? with
    | some (some (.imm d)) => some (d, ρ)
    | some (some (.own .loc ds)) => some (.list ds, ρ.set i (some (.imm (.list ds))))
    | _ => none
section
variable {K : PySem.W.Frag} {H H' : Hp} {M M' O O' : Mset} {π : Nat → Option Addr} {ρ ρ' : Fm} {σ : St} {pr : PR} {v : V} {d : D}
theorem VW.of (r : Rep K H M v d) : VW K H M v d := by
  cases r with
  | lst h n r => exact ⟨_, _, rfl, h, r⟩
  | non => exact .non
  | bl b => exact .bl b
  | int i => exact .int i
  | str x => exact .str x
  | tup h r => exact .tup h r
  | scr h r => exact .scr h r
theorem VW.dp (r : VW K H M v d) (c : d.canLay0 = true) : Dp K H v d := by
  unfold VW at r
  split at r
  · obtain ⟨a, vs, rfl, h, r⟩ := r
    exact .lst (.inl h) (r.dp (by simpa [PyData.canLay0] using c))
  · exact r.dp c
theorem VW.lst {a : Addr} {vs : List V} {ds : List D} (h : H a = some (.lst vs)) (r : Reps K H M vs ds) : VW K H M (.ref a) (.list ds) := ⟨a, vs, rfl, .inl h, r⟩
theorem peek_vw (h : SR K H M O π ρ σ) (r : RP K H M O ρ σ pr v) (e : peek ρ pr = some d) : VW K H M v d := by
  match pr, v, r, e with
  | .val (.imm d'), v, r, e => cases e; exact .of r
  | .val (.own b ds), v, ⟨p, vs, e1, e2, _, _, e4, _⟩, e =>
    cases b with
    | dic => cases e
    | loc => cases e; subst e1; exact .lst e2 e4
    | par => cases e; subst e1; exact .lst e2 e4
  | .slot i, v, r, e =>
    have r' : σ[i]? = some (some v) := r
    cases hs : ρ[i]? with
    | none => unfold peek at e; simp only [hs] at e; cases e
    | some o =>
      cases o with
      | none => unfold peek at e; simp only [hs] at e; cases e
      | some s =>
        unfold peek at e
        simp only [hs] at e
        cases s with
        | imm d' =>
          cases e
          obtain ⟨w, f1, f2⟩ := h.imm i d' hs
          rw [r'] at f1; cases f1; exact .of f2
        | own b ds =>
          obtain ⟨a, vs, f1, f2, f3, f4, f5, f6⟩ := h.own i b ds hs
          rw [r'] at f1; cases f1
          cases b with
          | dic => cases e
          | loc => cases e; exact .lst f2 f5
          | par => cases e; exact .lst f2 f5
/-- M loses p, nobody's own -/
theorem SR.forget (h : SR K H M O π ρ σ) {p : Addr} (hp : ¬ O p) (ha : Apart ρ σ p) : SR K H (wo M p) O π ρ σ := by
  have sm : ∀ a, wo M p a → M a := fun a q => q.1
  refine ⟨h.len, fun a q => ⟨h.sub a q, fun z => hp (z ▸ q)⟩, fun a q => h.live a q.1, fun i d e => ?_, fun i b ds e => ?_, h.uniq⟩
  · obtain ⟨v, e1, r⟩ := h.imm i d e
    exact ⟨v, e1, r.smaller sm⟩
  · obtain ⟨a, vs, e1, e2, e3, e4, r, e5⟩ := h.own i b ds e
    exact ⟨a, vs, e1, e2, ⟨e3, fun z => ha i b ds e (z ▸ e1)⟩, e4, r.smaller sm, e5⟩
theorem Ext.forget (h : SR K H M O π ρ σ) {p : Addr} (hp : ¬ O p) : Ext O H M H (wo M p) :=
  ⟨fun _ _ e _ => e, fun a q => ⟨h.sub a q, fun z => hp (z ▸ q)⟩, fun _ q => .inl q.1⟩
theorem get_set {α : Type} {l : List α} {i j : Nat} {x y : α} (h : (l.set i x)[j]? = some y) : (j = i ∧ y = x) ∨ (j ≠ i ∧ l[j]? = some y) := by
  by_cases e : j = i
  · subst e
    rw [List.getElem?_set] at h
    split at h
    · split at h
      · cases h; exact .inl ⟨rfl, rfl⟩
      · cases h
    · exact absurd rfl (by assumption)
  · exact .inr ⟨e, by rw [List.getElem?_set_ne (Ne.symm e)] at h; exact h⟩
/-- a name's own list becomes fixed -/
theorem SR.freeze (h : SR K H M O π ρ σ) {i : Nat} {ds : List D} {a : Addr} {vs : List V} (e : ρ[i]? = some (some (.own .loc ds))) (e1 : σ[i]? = some (some (.ref a))) (e2 : H a = some (.lst vs)) (r : Reps K H M vs ds) (hO : ¬ O a) :
    SR K H (wo M a) O π (ρ.set i (some (.imm (.list ds)))) σ := by
  have sm : ∀ b, wo M a b → M b := fun b q => q.1
  refine ⟨by rw [List.length_set]; exact h.len, fun b q => ⟨h.sub b q, fun z => hO (z ▸ q)⟩, fun b q => h.live b q.1, fun j d f => ?_, fun j b es f => ?_, fun j k b c es fs x hjk f g => ?_⟩
  · rcases get_set f with ⟨hj, g⟩ | ⟨_, f⟩
    · subst hj
      cases g
      exact ⟨.ref a, e1, .lst (.inl e2) (fun z => z.2 rfl) (r.smaller sm)⟩
    · obtain ⟨v, g1, g2⟩ := h.imm j d f
      exact ⟨v, g1, g2.smaller sm⟩
  · rcases get_set f with ⟨_, g⟩ | ⟨hj, f⟩
    · cases g
    · obtain ⟨x, ws, g1, g2, g3, g4, g5, g6⟩ := h.own j b es f
      refine ⟨x, ws, g1, g2, ⟨g3, fun z => ?_⟩, g4, g5.smaller sm, g6⟩
      subst z
      exact h.uniq i j _ _ _ _ x (Ne.symm hj) e f e1 g1
  · rcases get_set f with ⟨_, z⟩ | ⟨_, f⟩
    · cases z
    · rcases get_set g with ⟨_, z⟩ | ⟨_, g⟩
      · cases z
      · exact h.uniq j k b c es fs x hjk f g
theorem frz_ok (h : SR K H M O π ρ σ) (r : RP K H M O ρ σ pr v) (e : frz ρ pr = some (d, ρ')) : ∃ M', Ext O H M H M' ∧ SR K H M' O π ρ' σ ∧ Rep K H M' v d := by
  match pr, v, r, e with
  | .val (.imm d'), v, r, e =>
    unfold frz at e; simp only [Option.some.injEq, Prod.mk.injEq] at e
    obtain ⟨rfl, rfl⟩ := e
    exact ⟨M, .refl h, h, r⟩
  | .val (.own .loc ds), v, ⟨p, vs, e1, e2, e3, e4, e5, e6⟩, e =>
    unfold frz at e; simp only [Option.some.injEq, Prod.mk.injEq] at e
    obtain ⟨rfl, rfl⟩ := e
    subst e1
    exact ⟨_, .forget h e4, h.forget e4 e6, .lst (.inl e2) (fun z => z.2 rfl) (e5.smaller fun a q => q.1)⟩
  | .val (.own .par ds), v, ⟨p, vs, e1, e2, e3, e4, e5, e6⟩, e =>
    unfold frz at e; simp only [Option.some.injEq, Prod.mk.injEq] at e
    obtain ⟨rfl, rfl⟩ := e
    subst e1
    exact ⟨_, .forget h e4, h.forget e4 e6, .lst (.inl e2) (fun z => z.2 rfl) (e5.smaller fun a q => q.1)⟩
  | .val (.own .dic ds), v, _, e => cases e
  | .slot i, v, r, e =>
    have r' : σ[i]? = some (some v) := r
    unfold frz at e
    simp only at e
    split at e
    · rename_i d' hs
      simp only [Option.some.injEq, Prod.mk.injEq] at e
      obtain ⟨rfl, rfl⟩ := e
      obtain ⟨w, f1, f2⟩ := h.imm i _ hs
      rw [r'] at f1; cases f1; exact ⟨M, .refl h, h, f2⟩
    · rename_i ds hs
      simp only [Option.some.injEq, Prod.mk.injEq] at e
      obtain ⟨rfl, rfl⟩ := e
      obtain ⟨a, vs, f1, f2, f3, f4, f5, f6⟩ := h.own i _ ds hs
      rw [r'] at f1; cases f1
      exact ⟨_, .forget h f4, h.freeze hs r' f2 f5 f4, .lst (.inl f2) (fun z => z.2 rfl) (f5.smaller fun a q => q.1)⟩
    · cases e
end

/-! ### expressions -/
abbrev ME := Fm → Option (PR × Fm)
def tE (K : PySem.W.Frag) (m : ME) : TE := fun σ H Q => ∃ ρ M O π pr ρ', SR K H M O π ρ σ ∧ m ρ = some (pr, ρ') ∧ ∀ v H' M', Ext O H M H' M' → SR K H' M' O π ρ' σ → RP K H' M' O ρ' σ pr v → Q v H'
def DE (X : Cx) (e : Expr) (m : ME) : Prop := PE X e (tE X.K m)
theorem _root_.L2.PE.imp {X : Cx} {e : Expr} {t t' : TE} (h : PE X e t) (i : ∀ σ H Q, t' σ H Q → t σ H Q) : PE X e t' := ⟨fun pins s σ H Q I q => h.run pins s σ H Q I (i σ H Q q)⟩
theorem _root_.L2.PT.imp {X : Cx} {e : Expr} {t t' : TT} (h : PT X e t) (i : ∀ σ H Q, t' σ H Q → t σ H Q) : PT X e t' := ⟨fun pins s σ H Q I q => h.run pins s σ H Q I (i σ H Q q)⟩
theorem _root_.L2.PA.imp {X : Cx} {e : List Expr} {t t' : TA} (h : PA X e t) (i : ∀ σ H Q, t' σ H Q → t σ H Q) : PA X e t' := ⟨fun pos pins s σ H Q I q => h.run pos pins s σ H Q I (i σ H Q q)⟩
theorem _root_.L2.PS.imp {X : Cx} {e : Stmt} {t t' : TS} (h : PS X e t) (i : ∀ D σ H, t' D σ H → t D σ H) : PS X e t' := ⟨fun pins s σ H D I q => h.run pins s σ H D I (i D σ H q)⟩
theorem _root_.L2.PSs.imp {X : Cx} {e : List Stmt} {t t' : TS} (h : PSs X e t) (i : ∀ D σ H, t' D σ H → t D σ H) : PSs X e t' := ⟨fun pins s σ H D I q => h.run pins s σ H D I (i D σ H q)⟩

section
variable {X : Cx} {a b : Expr} {ma mb : ME} {pos : Pos}
/-- a name -/
def mVar (i : Nat) : ME := fun ρ => match ρ[i]? with
  | some (some _) => some (.slot i, ρ)
  | _ => none
theorem SR.at {K : PySem.W.Frag} {H : Hp} {M O : Mset} {π : Nat → Option Addr} {ρ : Fm} {σ : St} (h : SR K H M O π ρ σ) {i : Nat} {s : Sv} (e : ρ[i]? = some (some s)) : ∃ v, σ[i]? = some (some v) := by
  cases s with
  | imm d => obtain ⟨v, e1, _⟩ := h.imm i d e; exact ⟨v, e1⟩
  | own b ds => obtain ⟨a, vs, e1, _⟩ := h.own i b ds e; exact ⟨_, e1⟩
theorem de_var {i : Nat} {x : Str} (h : PE X (.Name x pos) (tVar i)) : DE X (.Name x pos) (mVar i) := by
  refine PE.imp h fun σ H Q ⟨ρ, M, O, π, pr, ρ', hs, e, q⟩ => ?_
  unfold mVar at e
  split at e
  · rename_i s hs'
    simp only [Option.some.injEq, Prod.mk.injEq] at e
    obtain ⟨rfl, rfl⟩ := e
    obtain ⟨v, e1⟩ := hs.at hs'
    exact ⟨v, e1, q v H M (.refl hs) hs e1⟩
  · cases e
def mC (d : D) : ME := fun ρ => some (.val (.imm d), ρ)
/-- what is always the same value -/
theorem de_c {v : V} {d : D} {e : Expr} (h : PE X e (tC v)) (r : ∀ H M, Rep X.K H M v d) : DE X e (mC d) := by
  refine PE.imp h fun σ H Q ⟨ρ, M, O, π, pr, ρ', hs, e, q⟩ => ?_
  cases e
  exact q v H M (.refl hs) hs (r H M)
theorem de_int {i : Int} {j} : DE X (.Constant (.int i) j pos) (mC (.int i)) := de_c pe_int fun _ _ => .int i
theorem de_bl {i : Bool} {j} : DE X (.Constant (.bool i) j pos) (mC (.bool i)) := de_c pe_bl fun _ _ => .bl i
theorem de_non {j} : DE X (.Constant .none j pos) (mC .none) := de_c pe_non fun _ _ => .non
theorem de_str {x : Str} {j} : DE X (.Constant (.str x) j pos) (mC (.str x)) := de_c pe_str fun _ _ => .str x

/-! ### two-place and one-place operations -/
def bin (f : D → D → Option Sv) (ma mb : ME) : ME := fun ρ =>
  match ma ρ with
  | some (a, ρ1) => match mb ρ1 with
    | some (b, ρ2) => match peek ρ2 a, peek ρ2 b with
      | some x, some y => match f x y with
        | some r => some (.val r, ρ2)
        | none => none
      | _, _ => none
    | none => none
  | none => none
/-- the operation's rule answers to f -/
def OpS (X : Cx) (r : R2) (f : D → D → Option Sv) : Prop := ∀ {H : Hp} {M O : Mset} {π : Nat → Option Addr} {ρ : Fm} {σ : St} {v1 v2 : V} {d1 d2 : D} {res : Sv} {Q : VK}, SR X.K H M O π ρ σ → VW X.K H M v1 d1 → VW X.K H M v2 d2 → f d1 d2 = some res →
  (∀ v H' M', Ext O H M H' M' → SR X.K H' M' O π ρ σ → RP X.K H' M' O ρ σ (.val res) v → Q v H') → r v1 v2 H Q
theorem tE_bin {K : PySem.W.Frag} {f : D → D → Option Sv} {r : R2} (hs : ∀ {H : Hp} {M O : Mset} {π : Nat → Option Addr} {ρ : Fm} {σ : St} {v1 v2 : V} {d1 d2 : D} {res : Sv} {Q : VK}, SR K H M O π ρ σ → VW K H M v1 d1 → VW K H M v2 d2 → f d1 d2 = some res →
  (∀ v H' M', Ext O H M H' M' → SR K H' M' O π ρ σ → RP K H' M' O ρ σ (.val res) v → Q v H') → r v1 v2 H Q) {σ : St} {H : Hp} {Q : VK} (h : tE K (bin f ma mb) σ H Q) : tOp r (tE K ma) (tE K mb) σ H Q := by
  obtain ⟨ρ, M, O, π, pr, ρ', h0, e, q⟩ := h
  unfold bin at e
  split at e
  · rename_i a ρ1 ea
    split at e
    · rename_i b ρ2 eb
      split at e
      · rename_i x y ex ey
        split at e
        · rename_i res er
          simp only [Option.some.injEq, Prod.mk.injEq] at e
          obtain ⟨rfl, rfl⟩ := e
          refine ⟨ρ, M, O, π, a, ρ1, h0, ea, fun v1 H1 M1 x1 s1 r1 => ?_⟩
          refine ⟨ρ1, M1, Vi.hold O a v1, π, b, ρ2, s1.hold r1, eb, fun v2 H2 M2 x2 s2 r2 => ?_⟩
          have s2' := s2.less (hold_le O a v1)
          exact hs s2' (peek_vw s2' (r1.held x2 s2) ex) (peek_vw s2' (r2.less (hold_le O a v1)) ey) er fun v H' M' x3 s3 r3 => q v H' M' ((x1.trans (x2.less (hold_le O a v1))).trans x3) s3 r3
        · cases e
      · cases e
    · cases e
  · cases e
theorem de_op {op : Operator} {r : R2} {f : D → D → Option Sv} (ho : OpR X (binaryOp op) r) (hs : OpS X r f) (ha : DE X a ma) (hb : DE X b mb) : DE X (.BinOp a op b pos) (bin f ma mb) :=
  PE.imp (pe_op ho ha hb) fun σ H Q h => tE_bin hs h
theorem de_cmp {op : CmpOp} {r : R2} {f : D → D → Option Sv} (ho : OpR X (compareOp op) r) (hs : OpS X r f) (ha : DE X a ma) (hb : DE X b mb) (hm : behindInMarks op b = false) : DE X (.Compare a [op] [b] pos) (bin f ma mb) :=
  PE.imp (pe_cmpR ho ha hb hm) fun σ H Q h => tE_bin hs h
theorem de_ix {r : R2} {f : D → D → Option Sv} (ho : IxR X r) (hs : OpS X r f) (ha : DE X a ma) (hb : DE X b mb) (hp : PlainIx b) : DE X (.Subscript a b pos) (bin f ma mb) :=
  PE.imp (pe_ix ho ha hb hp) fun σ H Q h => tE_bin hs h
def un (f : D → Option Sv) (ma : ME) : ME := fun ρ =>
  match ma ρ with
  | some (a, ρ1) => match peek ρ1 a with
    | some x => match f x with
      | some r => some (.val r, ρ1)
      | none => none
    | none => none
  | none => none
def UnS (X : Cx) (r : V → Hp → VK → Prop) (f : D → Option Sv) : Prop := ∀ {H : Hp} {M O : Mset} {π : Nat → Option Addr} {ρ : Fm} {σ : St} {v1 : V} {d1 : D} {res : Sv} {Q : VK}, SR X.K H M O π ρ σ → VW X.K H M v1 d1 → f d1 = some res →
  (∀ v H' M', Ext O H M H' M' → SR X.K H' M' O π ρ σ → RP X.K H' M' O ρ σ (.val res) v → Q v H') → r v1 H Q
theorem tE_un {f : D → Option Sv} {r : V → Hp → VK → Prop} (hs : UnS X r f) {σ : St} {H : Hp} {Q : VK} (h : tE X.K (un f ma) σ H Q) : tE X.K ma σ H fun v H1 => r v H1 Q := by
  obtain ⟨ρ, M, O, π, pr, ρ', h0, e, q⟩ := h
  unfold un at e
  split at e
  · rename_i a ρ1 ea
    split at e
    · rename_i x ex
      split at e
      · rename_i res er
        simp only [Option.some.injEq, Prod.mk.injEq] at e
        obtain ⟨rfl, rfl⟩ := e
        exact ⟨ρ, M, O, π, a, ρ1, h0, ea, fun v1 H1 M1 x1 s1 r1 => hs s1 (peek_vw s1 r1 ex) er fun v H' M' x3 s3 r3 => q v H' M' (x1.trans x3) s3 r3⟩
      · cases e
    · cases e
  · cases e
theorem de_un {op : UnaryOp} {r : V → Hp → VK → Prop} {f : D → Option Sv} (ho : UnR X (unaryOp op) r) (hs : UnS X r f) (ha : DE X a ma) : DE X (.UnaryOp op a pos) (un f ma) :=
  PE.imp (pe_un ho ha) fun σ H Q h => tE_un hs h
/-- a built-in of one argument, by its name -/
theorem de_call1 {id : String} {x : Str} {p : Pos} {r : List V → Hp → VK → Prop} {f : D → Option Sv} (hc : CallR X (.builtin id) r) (hs : UnS X (fun v H Q => r [v] H Q) f) (hg : Gl X x) (hm : X.mg x = none) (hv : bootBuiltins x = some (.builtin id)) (ha : DE X a ma)
    (hn : x ≠ "__name__" := by decide) (hd : (x == ("__debug__" : Str)) = false := by decide) (he : starEach (a :: []) X.env = (false, eval a X.env) :: starEach [] X.env := by rfl) (hpl : (backTo pos (starEach [] X.env)).any (·.1) = false := by rfl) : DE X (.Call (.Name x p) [a] [] pos) (un f ma) :=
  PE.imp (pe_callB hc hg hm hv (pa_cons ha pa_nil he) hn hd he hpl) fun σ H Q h => tE_un hs h
theorem de_callT1 {T : String} {x : Str} {p : Pos} {r : List V → Hp → VK → Prop} {f : D → Option Sv} (hc : CallR X (.type T) r) (hs : UnS X (fun v H Q => r [v] H Q) f) (hg : Gl X x) (hm : X.mg x = none) (hv : bootBuiltins x = some (.type T)) (ha : DE X a ma)
    (hn : x ≠ "__name__" := by decide) (hd : (x == ("__debug__" : Str)) = false := by decide) (he : starEach (a :: []) X.env = (false, eval a X.env) :: starEach [] X.env := by rfl) (hpl : (backTo pos (starEach [] X.env)).any (·.1) = false := by rfl) : DE X (.Call (.Name x p) [a] [] pos) (un f ma) :=
  PE.imp (pe_callTy hc hg hm hv (pa_cons ha pa_nil he) hn hd he hpl) fun σ H Q h => tE_un hs h
end
end Vi

namespace Vi
open PySem PySem.Spec PyProof.Rows L2

/-! ### what stands behind an operation -/
section
variable {K : PySem.W.Frag} {H : Hp} {M O : Mset} {π : Nat → Option Addr} {ρ : Fm} {σ : St} {v : V} {Q : VK}
theorem alloc_tr (h : SR K H M O π ρ σ) {p : Addr} {o : HO} (hp : H p = none) : ∀ a u, Rd H a u → ¬ M a → Rd (upd H p o) a u ∧ ¬ M a := fun a u q n => by
  have ne2 : ∀ {a : Addr} {u : HO}, H a = some u → a ≠ p := fun e z => by rw [z, hp] at e; cases e
  refine ⟨?_, n⟩
  rcases q with q | ⟨o', q⟩
  · exact .inl (by rw [upd_ne (ne2 q)]; exact q)
  · exact .inr ⟨o', by rw [upd_ne (ne2 q)]; exact q⟩
theorem alloc_tr_own (h : SR K H M O π ρ σ) {p : Addr} {o : HO} (hp : H p = none) : ∀ a u, Rd H a u → ¬ M a → Rd (upd H p o) a u ∧ ¬ wth M p a := fun a u q n => by
  refine ⟨(alloc_tr h hp a u q n).1, fun z => z.elim n fun e => ?_⟩
  rcases q with q | ⟨o', q⟩ <;> (rw [e, hp] at q; cases q)
abbrev Post (K : PySem.W.Frag) (H : Hp) (M O : Mset) (π : Nat → Option Addr) (ρ : Fm) (σ : St) (res : Sv) (Q : VK) : Prop :=
  ∀ v H' M', Ext O H M H' M' → SR K H' M' O π ρ σ → RP K H' M' O ρ σ (.val res) v → Q v H'
theorem Post.now {d : D} (q : Post K H M O π ρ σ (.imm d) Q) (h : SR K H M O π ρ σ) (r : Rep K H M v d) : Q v H := q v H M (.refl h) h r
theorem Post.tup {ds : List D} {vs : List V} (q : Post K H M O π ρ σ (.imm (.tuple ds)) Q) (h : SR K H M O π ρ σ) (r : Reps K H M vs ds) {p : Addr} (hp : H p = none) : Q (.ref p) (upd H p (.tup vs)) :=
  q _ _ M (.alloc h hp) (h.alloc hp) (.tup (.inl ⟨.inl upd_same, fun z => h.live p z hp⟩) (r.tr (alloc_tr h hp)))
theorem Post.lst {ds : List D} {vs : List V} {b : Kd} (q : Post K H M O π ρ σ (.own b ds) Q) (h : SR K H M O π ρ σ) (r : Reps K H M vs ds) {p : Addr} (hp : H p = none) (hb : b.isL = true := by rfl) : Q (.ref p) (upd H p (.lst vs)) := by
  refine q _ _ (wth M p) (.allocOwn h hp) (h.allocOwn hp) ⟨p, vs, rfl, upd_same.trans (congrArg some (cell_lst hb).symm), .inr rfl, fun z => h.live p (h.sub p z) hp, r.tr (alloc_tr_own h hp), fun i b ds e e1 => ?_⟩
  obtain ⟨a, ws, f1, f2, _⟩ := h.own i b ds e
  rw [e1] at f1; cases f1
  rw [hp] at f2; cases f2
theorem VW.inI {i : Int} (r : VW K H M v (.int i)) : v = .int i := by cases (show Rep K H M v (.int i) from r); rfl
theorem VW.inB {i : Bool} (r : VW K H M v (.bool i)) : v = .bl i := by cases (show Rep K H M v (.bool i) from r); rfl
theorem VW.inS {i : Str} (r : VW K H M v (.str i)) : v = .str i := by cases (show Rep K H M v (.str i) from r); rfl
theorem VW.inN (r : VW K H M v .none) : v = .non := by cases (show Rep K H M v .none from r); rfl
theorem VW.inT {ds : List D} (r : VW K H M v (.tuple ds)) : ∃ a vs, v = .ref a ∧ TupAt K H M a vs ∧ Reps K H M vs ds := by
  cases (show Rep K H M v (.tuple ds) from r) with
  | tup h r => exact ⟨_, _, rfl, h, r⟩
theorem VW.inScr {kvs : List (D × D)} (r : VW K H M v (.dict kvs)) : ∃ a vs, v = .ref a ∧ LstAt K H M a vs ∧ Reps K H M vs (kvs.map Prod.fst) := by
  cases (show Rep K H M v (.dict kvs) from r) with
  | scr h r => exact ⟨_, _, rfl, h, r⟩
theorem VW.inL {ds : List D} (r : VW K H M v (.list ds)) : ∃ a vs, v = .ref a ∧ Rd H a (.lst vs) ∧ Reps K H M vs ds := r
/-- a list or a tuple -/
theorem VW.seq {d : D} {ds : List D} (r : VW K H M v d) (e : d = .list ds ∨ d = .tuple ds) : ∃ a vs, v = .ref a ∧ (SqL K H a vs ∨ SqT K H a vs) ∧ Reps K H M vs ds := by
  rcases e with rfl | rfl
  · obtain ⟨a, vs, e, h, r⟩ := r.inL
    exact ⟨a, vs, e, .inl (.inl h), r⟩
  · obtain ⟨a, vs, e, h, r⟩ := r.inT
    exact ⟨a, vs, e, .inr h.sq, r⟩
theorem rep_rep {v : V} {d : D} (r : VW K H M v d) (n : ∀ ds, d ≠ .list ds) : Rep K H M v d := by
  cases d with
  | list ds => exact absurd rfl (n ds)
  | _ => exact r
end

section
variable {X : Cx}
/-! ### + - * // % ** -/
def rCatR : R2 := fun x y H Q => ∃ l b xs zs, x = .ref l ∧ y = .ref b ∧ Rd H l (.lst xs) ∧ Rd H b (.lst zs) ∧ xs.length + zs.length ≤ sizeLine ∧ ∀ p, H p = none → Q (.ref p) (upd H p (.lst (xs ++ zs)))
theorem op_catR : OpR X (binaryOp .Add) rCatR := by
  intro pins s σ H x y v u Q I rx ry h
  obtain ⟨l, b, xs, zs, rfl, rfl, hH, hB, hz, q⟩ := h
  cases rx
  cases ry
  obtain ⟨z, its, n, r, e⟩ := hH.ok I.hok
  obtain ⟨z2, its2, n2, r2, e2⟩ := hB.ok I.hok
  have hl := r.length
  have hl2 := r2.length
  refine PySem.P.add_list e e2 ?_ (by rw [List.size_toArray, List.size_toArray]; omega)
  have ea : its.toArray ++ its2.toArray = (its ++ its2).toArray := by simp
  rw [ea]
  exact ⟨.ref _, _, I.lnew (t' := s.toks) (r.append r2) (by rw [List.length_append]; omega), rfl, q _ I.fresh⟩
def fits (n : Nat) : Bool := decide (n ≤ sizeLine)
theorem fits_le {n : Nat} (h : fits n = true) : n ≤ sizeLine := of_decide_eq_true h
def dAdd : D → D → Option Sv
  | .int i, .int j => some (.imm (.int (i + j)))
  | .tuple xs, .tuple ys => if fits (xs.length + ys.length) = true then some (.imm (.tuple (xs ++ ys))) else none
  | .list xs, .list ys => if fits (xs.length + ys.length) = true then some (.own .loc (xs ++ ys)) else none
  | .str x, .str y => if fits (x.length + y.length) = true then some (.imm (.str (x ++ y))) else none
  | _, _ => none
abbrev rAdd (X : Cx) : R2 := fun x y H Q => rI0 (fun i j => .int (i + j)) x y H Q ∨ rCatA X.K x y H Q ∨ rCatR x y H Q ∨ ∃ i j, x = .str i ∧ y = .str j ∧ i.length + j.length ≤ sizeLine ∧ Q (.str (i ++ j)) H
theorem op_addA : OpR X (binaryOp .Add) (rAdd X) := op_add.or (op_catA.or (op_catR.or op_add_str))
theorem os_add : OpS X (rAdd X) dAdd := by
  intro H M O π ρ σ v1 v2 d1 d2 res Q h r1 r2 e q
  unfold dAdd at e
  split at e
  · cases e
    cases r1.inI; cases r2.inI
    exact .inl ⟨_, _, rfl, rfl, Post.now q h (.int _)⟩
  · split at e
    · rename_i hz
      cases e
      obtain ⟨a, xs, rfl, ta, ra⟩ := r1.inT
      obtain ⟨b, ys, rfl, tb, rb⟩ := r2.inT
      refine .inr (.inl ⟨a, b, xs, ys, rfl, rfl, ta.sq, tb.sq, by rw [ra.length, rb.length]; exact fits_le hz, fun ex => ?_, fun _ ey => ?_, fun _ _ p hp => ?_⟩)
      · subst ex; cases ra; exact Post.now q h r2
      · subst ey; cases rb; exact Post.now q h (by rw [List.append_nil]; exact r1)
      · exact Post.tup q h (ra.append rb) hp
    · cases e
  · split at e
    · rename_i hz
      cases e
      obtain ⟨a, xs, rfl, ta, ra⟩ := r1.inL
      obtain ⟨b, ys, rfl, tb, rb⟩ := r2.inL
      exact .inr (.inr (.inl ⟨a, b, xs, ys, rfl, rfl, ta, tb, by rw [ra.length, rb.length]; exact fits_le hz, fun p hp => Post.lst q h (ra.append rb) hp⟩))
    · cases e
  · split at e
    · rename_i hz
      cases e
      cases r1.inS; cases r2.inS
      exact .inr (.inr (.inr ⟨_, _, rfl, rfl, fits_le hz, Post.now q h (.str _)⟩))
    · cases e
  · cases e
def dSub : D → D → Option Sv
  | .int i, .int j => some (.imm (.int (i - j)))
  | _, _ => none
theorem os_sub : OpS X (rI0 fun i j => .int (i - j)) dSub := by
  intro H M O π ρ σ v1 v2 d1 d2 res Q h r1 r2 e q
  unfold dSub at e
  split at e
  · cases e
    cases r1.inI; cases r2.inI
    exact ⟨_, _, rfl, rfl, Post.now q h (.int _)⟩
  · cases e
/-- how far products go -/
def mulOk (i j : Int) : Bool := decide (-(2 ^ 64) < i ∧ i < 2 ^ 64) || decide (-(2 ^ 64) < j ∧ j < 2 ^ 64) || decide (i.natAbs.log2 + j.natAbs.log2 < 1000000)
def rRepR : R2 := fun x y H Q => ∃ l k xs, x = .ref l ∧ y = .int k ∧ H l = some (.lst xs) ∧ -(2 ^ 63) ≤ k ∧ k < 2 ^ 63 ∧ xs.length * k.toNat ≤ sizeLine ∧
  ∀ p, H p = none → Q (.ref p) (upd H p (.lst (List.replicate k.toNat xs).flatten))
def dMul : D → D → Option Sv
  | .int i, .int j => if mulOk i j = true then some (.imm (.int (i * j))) else none
  | _, _ => none
abbrev rMul : R2 := fun x y H Q => rI CMul (fun i j => .int (i * j)) x y H Q ∨ rI CMulW (fun i j => .int (i * j)) x y H Q
theorem op_mulA : OpR X (binaryOp .Mult) rMul := op_mul.or op_mulW
theorem os_mul : OpS X rMul dMul := by
  intro H M O π ρ σ v1 v2 d1 d2 res Q h r1 r2 e q
  unfold dMul at e
  split at e
  · split at e
    · rename_i hz
      cases e
      cases r1.inI; cases r2.inI
      unfold mulOk at hz
      rw [Bool.or_eq_true, Bool.or_eq_true] at hz
      rcases hz with (hz | hz) | hz
      · exact .inl ⟨_, _, rfl, rfl, .inl (of_decide_eq_true hz), Post.now q h (.int _)⟩
      · exact .inl ⟨_, _, rfl, rfl, .inr (of_decide_eq_true hz), Post.now q h (.int _)⟩
      · exact .inr ⟨_, _, rfl, rfl, (of_decide_eq_true hz : _ < 1000000), Post.now q h (.int _)⟩
    · cases e
  · cases e
def divOk (j : Int) : Bool := decide (0 < j ∧ j.natAbs.log2 < 9000)
def dDiv : D → D → Option Sv
  | .int i, .int j => if divOk j = true then some (.imm (.int (i / j))) else none
  | _, _ => none
theorem os_div : OpS X (rI CDivW fun i j => .int (i / j)) dDiv := by
  intro H M O π ρ σ v1 v2 d1 d2 res Q h r1 r2 e q
  unfold dDiv at e
  split at e
  · split at e
    · rename_i hz
      cases e
      cases r1.inI; cases r2.inI
      unfold divOk at hz
      have hz' := of_decide_eq_true hz
      exact ⟨_, _, rfl, rfl, hz', Post.now q h (.int _)⟩
    · cases e
  · cases e
def dMod : D → D → Option Sv
  | .int i, .int j => if decide (0 < j) = true then some (.imm (.int (i % j))) else none
  | _, _ => none
theorem os_mod : OpS X (rI (fun _ j => 0 < j) fun i j => .int (i % j)) dMod := by
  intro H M O π ρ σ v1 v2 d1 d2 res Q h r1 r2 e q
  unfold dMod at e
  split at e
  · split at e
    · rename_i hz
      cases e
      cases r1.inI; cases r2.inI
      exact ⟨_, _, rfl, rfl, of_decide_eq_true hz, Post.now q h (.int _)⟩
    · cases e
  · cases e
def powOk (i j : Int) : Bool := decide (0 ≤ j ∧ j ≤ 1000000 ∧ i.natAbs < 2 ^ 64)
def dPow : D → D → Option Sv
  | .int i, .int j => if powOk i j = true then some (.imm (.int (i ^ j.toNat))) else none
  | _, _ => none
theorem os_pow : OpS X (rI CPow fun i j => .int (i ^ j.toNat)) dPow := by
  intro H M O π ρ σ v1 v2 d1 d2 res Q h r1 r2 e q
  unfold dPow at e
  split at e
  · split at e
    · rename_i hz
      cases e
      cases r1.inI; cases r2.inI
      unfold powOk at hz
      have hz' := of_decide_eq_true hz
      exact ⟨_, _, rfl, rfl, hz', Post.now q h (.int _)⟩
    · cases e
  · cases e
def dNeg : D → Option Sv
  | .int i => some (.imm (.int (-i)))
  | _ => none
theorem us_neg : UnS X (rU fun i => .int (-i)) dNeg := by
  intro H M O π ρ σ v1 d1 res Q h r1 e q
  unfold dNeg at e
  split at e
  · cases e
    cases r1.inI
    exact ⟨_, rfl, Post.now q h (.int _)⟩
  · cases e

/-! ### comparisons -/
def okD (d : D) : Bool := SeqAt.shaped d
def dEq (a b : D) : Option Sv := if (okD a && okD b) = true then some (.imm (.bool (PyData.eqv a b))) else none
def dNe (a b : D) : Option Sv := if (okD a && okD b) = true then some (.imm (.bool (!PyData.eqv a b))) else none
theorem os_eq : OpS X (rEqD X.K) dEq := by
  intro H M O π ρ σ v1 v2 d1 d2 res Q h r1 r2 e q
  unfold dEq at e
  split at e
  · rename_i hz
    cases e
    rw [Bool.and_eq_true] at hz
    exact ⟨d1, d2, r1.dp (SeqAt.canLay_of_shaped hz.1), r2.dp (SeqAt.canLay_of_shaped hz.2), hz.1, hz.2, Post.now q h (.bl _)⟩
  · cases e
theorem os_ne : OpS X (rNeD X.K) dNe := by
  intro H M O π ρ σ v1 v2 d1 d2 res Q h r1 r2 e q
  unfold dNe at e
  split at e
  · rename_i hz
    cases e
    rw [Bool.and_eq_true] at hz
    exact ⟨d1, d2, r1.dp (SeqAt.canLay_of_shaped hz.1), r2.dp (SeqAt.canLay_of_shaped hz.2), hz.1, hz.2, Post.now q h (.bl _)⟩
  · cases e
def dCmpI (f : Int → Int → Bool) : D → D → Option Sv
  | .int i, .int j => some (.imm (.bool (f i j)))
  | _, _ => none
theorem os_cmpI {f : Int → Int → Bool} : OpS X (rI0 fun i j => .bl (f i j)) (dCmpI f) := by
  intro H M O π ρ σ v1 v2 d1 d2 res Q h r1 r2 e q
  unfold dCmpI at e
  split at e
  · cases e
    cases r1.inI; cases r2.inI
    exact ⟨_, _, rfl, rfl, Post.now q h (.bl _)⟩
  · cases e
abbrev dLt := dCmpI fun i j => decide (i < j)
abbrev dLe := dCmpI fun i j => decide (i ≤ j)
abbrev dGt := dCmpI fun i j => decide (j < i)
abbrev dGe := dCmpI fun i j => decide (j ≤ i)
def isNon : D → Bool
  | .none => true
  | _ => false
theorem VW.non_iff {K : PySem.W.Frag} {H : Hp} {M : Mset} {v : V} {d : D} (r : VW K H M v d) : decide (v = .non) = isNon d := by
  cases d with
  | none => cases r.inN; rfl
  | bool b => cases r.inB; rfl
  | int b => cases r.inI; rfl
  | str b => cases r.inS; rfl
  | list b => obtain ⟨a, vs, rfl, _⟩ := r.inL; rfl
  | tuple b => obtain ⟨a, vs, rfl, _⟩ := r.inT; rfl
  | dict b => cases (show Rep K H M v (.dict b) from r); rfl
def dIs : D → D → Option Sv
  | a, .none => some (.imm (.bool (isNon a)))
  | _, _ => none
def dIsNot : D → D → Option Sv
  | a, .none => some (.imm (.bool (!isNon a)))
  | _, _ => none
theorem os_is : OpS X (fun x y H Q => y = .non ∧ Q (.bl (decide (x = .non))) H) dIs := by
  intro H M O π ρ σ v1 v2 d1 d2 res Q h r1 r2 e q
  unfold dIs at e
  split at e
  · cases e
    cases r2.inN
    refine ⟨rfl, ?_⟩
    rw [r1.non_iff]
    exact Post.now q h (.bl _)
  · cases e
theorem os_isnot : OpS X (fun x y H Q => y = .non ∧ Q (.bl (!decide (x = .non))) H) dIsNot := by
  intro H M O π ρ σ v1 v2 d1 d2 res Q h r1 r2 e q
  unfold dIsNot at e
  split at e
  · cases e
    cases r2.inN
    refine ⟨rfl, ?_⟩
    rw [r1.non_iff]
    exact Post.now q h (.bl _)
  · cases e
def flatD : D → Bool
  | .none | .bool _ | .int _ | .str _ => true
  | _ => false
theorem rep_flat {K : PySem.W.Frag} {H : Hp} {M : Mset} {v : V} {d : D} (r : Rep K H M v d) : flatV v = flatD d := by cases r <;> rfl
theorem rep_eqV {K : PySem.W.Frag} {H : Hp} {M : Mset} {v w : V} {d e : D} (r : Rep K H M v d) (s : Rep K H M w e) (f : flatD d = true) (g : flatD e = true) : eqV v w = PyData.eqv d e := by
  cases r <;> first | (exact absurd (show false = true from f) Bool.false_ne_true) | (cases s <;> first | (exact absurd (show false = true from g) Bool.false_ne_true) | rfl | (simp [eqV, PyData.eqv]))
theorem reps_flat {K : PySem.W.Frag} {H : Hp} {M : Mset} : ∀ {vs : List V} {ds : List D}, Reps K H M vs ds → vs.all flatV = ds.all flatD
  | _, _, .nil => rfl
  | _, _, .cons h r => by rw [List.all_cons, List.all_cons, rep_flat h, reps_flat r]
theorem reps_inV {K : PySem.W.Frag} {H : Hp} {M : Mset} {v : V} {d : D} (s : Rep K H M v d) (g : flatD d = true) : ∀ {vs : List V} {ds : List D}, Reps K H M vs ds → ds.all flatD = true → inV v vs = ds.any fun z => PyData.eqv z d
  | _, _, .nil, _ => rfl
  | _, _, .cons h r, f => by
    rw [List.all_cons, Bool.and_eq_true] at f
    have ih := reps_inV s g r f.2
    unfold inV at ih ⊢
    rw [List.any_cons, List.any_cons, ih, rep_eqV h s f.1 g]
/-- x in ds -/
def hasD (x : D) (ds : List D) : Bool := ds.any fun z => PyData.eqv z x
def dIn (neg : Bool) (x : D) : D → Option Sv
  | .list ds => if (flatD x && ds.all flatD) = true then some (.imm (.bool (if neg then !hasD x ds else hasD x ds))) else if (!neg && okD x && okD (.list ds)) = true then some (.imm (.bool (hasD x ds))) else if (neg && okD x && okD (.list ds)) = true then some (.imm (.bool (!hasD x ds))) else none
  | .tuple ds => if (flatD x && ds.all flatD) = true then some (.imm (.bool (if neg then !hasD x ds else hasD x ds))) else none
  | _ => none
abbrev rInA (X : Cx) (neg : Bool) : R2 := fun x y H Q => rIn X.K neg x y H Q ∨ (if neg then rNotInD X.K x y H Q else rInD X.K x y H Q)
theorem op_inA (hu : X.A.units + 65 < cLine) : OpR X (compareOp .In) (rInA X false) := op_in_seq.or (op_inD hu)
theorem op_notInA (hu : X.A.units + 65 < cLine) : OpR X (compareOp .NotIn) (rInA X true) := op_notIn_seq.or (op_notInD hu)
theorem flat_not {d : D} (f : flatD d = true) (ds : List D) : d ≠ .list ds := fun e => by rw [e] at f; cases f
theorem os_in (neg : Bool) : OpS X (rInA X neg) (dIn neg) := by
  intro H M O π ρ σ v1 v2 d1 d2 res Q h r1 r2 e q
  unfold dIn at e
  split at e
  · rename_i ds
    split at e
    · rename_i hz
      cases e
      rw [Bool.and_eq_true] at hz
      obtain ⟨a, vs, rfl, rd, rs⟩ := r2.inL
      have rp := rep_rep r1 (flat_not hz.1)
      refine .inl ⟨a, vs, rfl, .inl (.inl rd), by rw [rep_flat rp]; exact hz.1, by rw [reps_flat rs]; exact hz.2, ?_⟩
      rw [reps_inV rp hz.1 rs hz.2]
      exact Post.now q h (.bl _)
    · split at e
      · rename_i hz
        cases e
        rw [Bool.and_eq_true, Bool.and_eq_true] at hz
        have hn : neg = false := by simpa using hz.1.1
        subst hn
        exact .inr (show rInD X.K v1 v2 H Q from ⟨d1, ds, r1.dp (SeqAt.canLay_of_shaped hz.1.2), r2.dp (SeqAt.canLay_of_shaped hz.2), hz.1.2, hz.2, Post.now q h (.bl _)⟩)
      · split at e
        · rename_i hz
          cases e
          rw [Bool.and_eq_true, Bool.and_eq_true] at hz
          have hn : neg = true := hz.1.1
          subst hn
          exact .inr (show rNotInD X.K v1 v2 H Q from ⟨d1, ds, r1.dp (SeqAt.canLay_of_shaped hz.1.2), r2.dp (SeqAt.canLay_of_shaped hz.2), hz.1.2, hz.2, Post.now q h (.bl _)⟩)
        · cases e
  · rename_i ds
    split at e
    · rename_i hz
      cases e
      rw [Bool.and_eq_true] at hz
      obtain ⟨a, vs, rfl, rd, rs⟩ := r2.inT
      have rp := rep_rep r1 (flat_not hz.1)
      refine .inl ⟨a, vs, rfl, .inr rd.sq, by rw [rep_flat rp]; exact hz.1, by rw [reps_flat rs]; exact hz.2, ?_⟩
      rw [reps_inV rp hz.1 rs hz.2]
      exact Post.now q h (.bl _)
    · cases e
  · cases e

/-! ### places -/
def dIx : D → D → Option Sv
  | .list ds, .int i => (atI ds i).map .imm
  | .tuple ds, .int i => (atI ds i).map .imm
  | .dict kvs, .int i => (atI (kvs.map Prod.fst) i).map .imm
  | _, _ => none
abbrev rIxA (X : Cx) : R2 := fun x y H Q => rIxL X.K x y H Q ∨ rIxT X.K x y H Q
theorem ix_A : IxR X (rIxA X) := ix_list.or ix_tup
theorem atI_rep {K : PySem.W.Frag} {H : Hp} {M : Mset} {vs : List V} {ds : List D} {i : Int} {d : D} (r : Reps K H M vs ds) (e : atI ds i = some d) : ∃ v, atI vs i = some v ∧ Rep K H M v d := by
  unfold atI at e ⊢
  rw [r.length]
  cases ei : ixN ds.length i with
  | none => rw [ei] at e; cases e
  | some j =>
    rw [ei] at e
    exact r.get e
theorem os_ix : OpS X (rIxA X) dIx := by
  intro H M O π ρ σ v1 v2 d1 d2 res Q h r1 r2 e q
  unfold dIx at e
  split at e
  · obtain ⟨d, ed, er⟩ := Option.map_eq_some_iff.mp e
    subst er
    cases r2.inI
    obtain ⟨a, vs, rfl, rd, rs⟩ := r1.inL
    obtain ⟨v, ev, rv⟩ := atI_rep rs ed
    exact .inl ⟨a, vs, _, v, rfl, rfl, .inl rd, ev, Post.now q h rv⟩
  · obtain ⟨d, ed, er⟩ := Option.map_eq_some_iff.mp e
    subst er
    cases r2.inI
    obtain ⟨a, vs, rfl, rd, rs⟩ := r1.inT
    obtain ⟨v, ev, rv⟩ := atI_rep rs ed
    exact .inr ⟨a, vs, _, v, rfl, rfl, rd.sq, ev, Post.now q h rv⟩
  · obtain ⟨d, ed, er⟩ := Option.map_eq_some_iff.mp e
    subst er
    cases r2.inI
    obtain ⟨a, vs, rfl, rd, rs⟩ := r1.inScr
    obtain ⟨v, ev, rv⟩ := atI_rep rs ed
    exact .inl ⟨a, vs, _, v, rfl, rfl, rd.sq, ev, Post.now q h rv⟩
  · cases e

/-! ### built-ins of one argument -/
def dLen : D → Option Sv
  | .list ds => some (.imm (.int ds.length))
  | .tuple ds => some (.imm (.int ds.length))
  | .dict kvs => some (.imm (.int kvs.length))
  | _ => none
theorem us_len : UnS X (fun v H Q => (fun xs H Q => ∃ p ys, xs = [V.ref p] ∧ (SqL X.K H p ys ∨ SqT X.K H p ys) ∧ Q (.int ys.length) H) [v] H Q) dLen := by
  intro H M O π ρ σ v1 d1 res Q h r1 e q
  unfold dLen at e
  split at e
  · cases e
    obtain ⟨a, vs, rfl, rd, rs⟩ := r1.inL
    refine ⟨a, vs, rfl, .inl (.inl rd), ?_⟩
    rw [rs.length]
    exact Post.now q h (.int _)
  · cases e
    obtain ⟨a, vs, rfl, rd, rs⟩ := r1.inT
    refine ⟨a, vs, rfl, .inr rd.sq, ?_⟩
    rw [rs.length]
    exact Post.now q h (.int _)
  · cases e
    obtain ⟨a, vs, rfl, rd, rs⟩ := r1.inScr
    refine ⟨a, vs, rfl, .inl rd.sq, ?_⟩
    rw [rs.length, List.length_map]
    exact Post.now q h (.int _)
  · cases e
def dList : D → Option Sv
  | .list ds => some (.own .loc ds)
  | .tuple ds => some (.own .loc ds)
  | _ => none
theorem us_list : UnS X (fun v H Q => (fun xs H Q => ∃ p ys, xs = [V.ref p] ∧ (SqL X.K H p ys ∨ SqT X.K H p ys) ∧ ∀ l, H l = none → Q (.ref l) (upd H l (.lst ys))) [v] H Q) dList := by
  intro H M O π ρ σ v1 d1 res Q h r1 e q
  unfold dList at e
  split at e
  · cases e
    obtain ⟨a, vs, rfl, rd, rs⟩ := r1.inL
    exact ⟨a, vs, rfl, .inl (.inl rd), fun p hp => Post.lst q h rs hp⟩
  · cases e
    obtain ⟨a, vs, rfl, rd, rs⟩ := r1.inT
    exact ⟨a, vs, rfl, .inr rd.sq, fun p hp => Post.lst q h rs hp⟩
  · cases e
def dTuple : D → Option Sv
  | .list ds => some (.imm (.tuple ds))
  | .tuple ds => some (.imm (.tuple ds))
  | _ => none
theorem us_tuple : UnS X (fun v H Q => (fun xs H Q => ∃ p ys, xs = [V.ref p] ∧ ((SqL X.K H p ys ∧ ∀ l, H l = none → Q (.ref l) (upd H l (.tup ys))) ∨ (SqT X.K H p ys ∧ Q (.ref p) H))) [v] H Q) dTuple := by
  intro H M O π ρ σ v1 d1 res Q h r1 e q
  unfold dTuple at e
  split at e
  · cases e
    obtain ⟨a, vs, rfl, rd, rs⟩ := r1.inL
    exact ⟨a, vs, rfl, .inl ⟨.inl rd, fun p hp => Post.tup q h rs hp⟩⟩
  · cases e
    have rr := r1
    obtain ⟨a, vs, rfl, rd, rs⟩ := r1.inT
    exact ⟨a, vs, rfl, .inr ⟨rd.sq, Post.now q h rr⟩⟩
  · cases e
def dInt : D → Option Sv
  | .int i => some (.imm (.int i))
  | .bool b => some (.imm (.int (if b then 1 else 0)))
  | _ => none
theorem us_int : UnS X (fun v H Q => (fun xs H Q => (∃ i, xs = [V.int i] ∧ Q (.int i) H) ∨ ∃ k, xs = [V.bl k] ∧ Q (.int (if k then 1 else 0)) H) [v] H Q) dInt := by
  intro H M O π ρ σ v1 d1 res Q h r1 e q
  unfold dInt at e
  split at e
  · cases e
    cases r1.inI
    exact .inl ⟨_, rfl, Post.now q h (.int _)⟩
  · cases e
    cases r1.inB
    exact .inr ⟨_, rfl, Post.now q h (.int _)⟩
  · cases e
def dAbs : D → Option Sv
  | .int i => some (.imm (.int (if i < 0 then -i else i)))
  | _ => none
theorem us_abs : UnS X (fun v H Q => (fun xs H Q => ∃ i, xs = [V.int i] ∧ Q (.int (if i < 0 then -i else i)) H) [v] H Q) dAbs := by
  intro H M O π ρ σ v1 d1 res Q h r1 e q
  unfold dAbs at e
  split at e
  · cases e
    cases r1.inI
    exact ⟨_, rfl, Post.now q h (.int _)⟩
  · cases e
def boolsOf : List D → Option (List Bool)
  | [] => some []
  | .bool b :: r => (boolsOf r).map (b :: ·)
  | _ :: _ => none
theorem bools_reps {K : PySem.W.Frag} {H : Hp} {M : Mset} : ∀ {vs : List V} {ds : List D} {bs : List Bool}, Reps K H M vs ds → boolsOf ds = some bs → vs = bs.map V.bl
  | _, _, _, .nil, e => by cases e; rfl
  | _, _, bs, .cons h r, e => by
    cases h with
    | bl b =>
      obtain ⟨cs, e1, rfl⟩ := Option.map_eq_some_iff.mp (show (boolsOf _).map (b :: ·) = some bs from e)
      rw [bools_reps r e1]; rfl
    | _ => cases e
def dAll : D → Option Sv
  | .list ds => (boolsOf ds).map fun bs => .imm (.bool (bs.all id))
  | _ => none
def dAny : D → Option Sv
  | .list ds => (boolsOf ds).map fun bs => .imm (.bool (bs.any id))
  | _ => none
theorem us_all : UnS X (fun v H Q => rAll X.K [v] H Q) dAll := by
  intro H M O π ρ σ v1 d1 res Q h r1 e q
  unfold dAll at e
  split at e
  · obtain ⟨bs, e1, rfl⟩ := Option.map_eq_some_iff.mp e
    obtain ⟨a, vs, rfl, rd, rs⟩ := r1.inL
    exact ⟨a, bs, rfl, .inl (by rw [← bools_reps rs e1]; exact rd), Post.now q h (.bl _)⟩
  · cases e
theorem us_any : UnS X (fun v H Q => rAny X.K [v] H Q) dAny := by
  intro H M O π ρ σ v1 d1 res Q h r1 e q
  unfold dAny at e
  split at e
  · obtain ⟨bs, e1, rfl⟩ := Option.map_eq_some_iff.mp e
    obtain ⟨a, vs, rfl, rd, rs⟩ := r1.inL
    exact ⟨a, bs, rfl, .inl (by rw [← bools_reps rs e1]; exact rd), Post.now q h (.bl _)⟩
  · cases e
end
end Vi

namespace Vi
open PySem PySem.Spec PyProof.Rows L2

/-! ### lists of expressions, each fixed as it comes -/
abbrev MA := Fm → Option (List D × Fm)
def tA (K : PySem.W.Frag) (m : MA) : TA := fun σ H Q => ∃ ρ M O π ds ρ', SR K H M O π ρ σ ∧ m ρ = some (ds, ρ') ∧ ∀ vs H' M', Ext O H M H' M' → SR K H' M' O π ρ' σ → Reps K H' M' vs ds → Q vs H'
def DA (X : Cx) (es : List Expr) (m : MA) : Prop := PA X es (tA X.K m)
def mNil : MA := fun ρ => some ([], ρ)
def mCons (me : ME) (ma : MA) : MA := fun ρ => match me ρ with
  | some (pr, ρ1) => match frz ρ1 pr with
    | some (d, ρ2) => match ma ρ2 with
      | some (ds, ρ3) => some (d :: ds, ρ3)
      | none => none
    | none => none
  | none => none
section
variable {X : Cx} {a b c e : Expr} {es rest : List Expr} {ma mb me : ME} {mes : MA} {pos : Pos}
theorem da_nil : DA X [] mNil := PA.imp pa_nil fun σ H Q ⟨ρ, M, O, π, ds, ρ', h, e, q⟩ => by
  cases e
  exact q [] H M (.refl h) h .nil
theorem da_cons (he : DE X e me) (hes : DA X es mes) (hs : starEach (e :: es) X.env = (false, eval e X.env) :: starEach es X.env := by rfl) : DA X (e :: es) (mCons me mes) :=
  PA.imp (pa_cons he hes hs) fun σ H Q ⟨ρ, M, O, π, ds, ρ', h, e, q⟩ => by
    unfold mCons at e
    split at e
    · rename_i pr ρ1 e1
      split at e
      · rename_i d ρ2 e2
        split at e
        · rename_i ds' ρ3 e3
          simp only [Option.some.injEq, Prod.mk.injEq] at e
          obtain ⟨rfl, rfl⟩ := e
          refine ⟨ρ, M, O, π, pr, ρ1, h, e1, fun v H1 M1 x1 s1 r1 => ?_⟩
          obtain ⟨M2, x2, s2, r2⟩ := frz_ok s1 r1 e2
          exact ⟨ρ2, M2, O, π, ds', ρ3, s2, e3, fun vs H3 M3 x3 s3 r3 => q (v :: vs) H3 M3 ((x1.trans x2).trans x3) s3 (.cons (r2.tr x3.tr) r3)⟩
        · cases e
      · cases e
    · cases e
def mTup (m : MA) : ME := fun ρ => match m ρ with
  | some (ds, ρ1) => if fits ds.length = true then some (.val (.imm (.tuple ds)), ρ1) else none
  | none => none
def mLst (m : MA) : ME := fun ρ => match m ρ with
  | some (ds, ρ1) => if fits ds.length = true then some (.val (.own .loc ds), ρ1) else none
  | none => none
theorem de_tup {k : Nat} (hes : DA X es mes) : DE X (.Tuple es k pos) (mTup mes) := PE.imp (pe_tup hes) fun σ H Q ⟨ρ, M, O, π, pr, ρ', h, e, q⟩ => by
  unfold mTup at e
  split at e
  · rename_i ds ρ1 e1
    split at e
    · rename_i hz
      simp only [Option.some.injEq, Prod.mk.injEq] at e
      obtain ⟨rfl, rfl⟩ := e
      exact ⟨ρ, M, O, π, ds, ρ1, h, e1, fun vs H1 M1 x1 s1 r1 => ⟨by rw [r1.length]; exact fits_le hz, fun p hp => Post.tup (Q := Q) (fun v H' M' x2 => q v H' M' (x1.trans x2)) s1 r1 hp⟩⟩
    · cases e
  · cases e
theorem de_lst (hes : DA X es mes) : DE X (.List es pos) (mLst mes) := PE.imp (pe_lst hes) fun σ H Q ⟨ρ, M, O, π, pr, ρ', h, e, q⟩ => by
  unfold mLst at e
  split at e
  · rename_i ds ρ1 e1
    split at e
    · rename_i hz
      simp only [Option.some.injEq, Prod.mk.injEq] at e
      obtain ⟨rfl, rfl⟩ := e
      exact ⟨ρ, M, O, π, ds, ρ1, h, e1, fun vs H1 M1 x1 s1 r1 => ⟨by rw [r1.length]; exact fits_le hz, fun p hp => Post.lst (Q := Q) (fun v H' M' x2 => q v H' M' (x1.trans x2)) s1 r1 hp⟩⟩
    · cases e
  · cases e

/-! ### truth, tests -/
def dTru : D → Option Bool
  | .none => some false
  | .bool b => some b
  | .int i => some (i != 0)
  | .str x => if fits x.length = true then some ((x.length : Int) != 0) else none
  | .list ds => some (!ds.isEmpty)
  | .tuple ds => some (!ds.isEmpty)
  | _ => none
theorem reps_empty {K : PySem.W.Frag} {H : Hp} {M : Mset} {vs : List V} {ds : List D} (r : Reps K H M vs ds) : vs.isEmpty = ds.isEmpty := by cases r <;> rfl
theorem tru_vw {K : PySem.W.Frag} {H : Hp} {M : Mset} {v : V} {d : D} {k : Bool} (r : VW K H M v d) (e : dTru d = some k) : TruV K v H k := by
  cases d with
  | none => cases e; cases r.inN; rfl
  | bool b => cases e; cases r.inB; rfl
  | int b => cases e; cases r.inI; rfl
  | str b =>
    unfold dTru at e
    simp only at e
    split at e
    · rename_i hz
      cases e; cases r.inS; exact ⟨fits_le hz, rfl⟩
    · cases e
  | list b =>
    cases e
    obtain ⟨a, vs, rfl, h, rs⟩ := r.inL
    exact .inl ⟨vs, .inl h, by rw [reps_empty rs]⟩
  | tuple b =>
    cases e
    obtain ⟨a, vs, rfl, h, rs⟩ := r.inT
    exact .inr (.inl ⟨vs, h.sq, by rw [reps_empty rs]⟩)
  | dict b => cases e
abbrev MT := Fm → Option (Bool × Fm)
def tT (K : PySem.W.Frag) (m : MT) : TT := fun σ H Q => ∃ ρ M O π b ρ', SR K H M O π ρ σ ∧ m ρ = some (b, ρ') ∧ ∀ H' M', Ext O H M H' M' → SR K H' M' O π ρ' σ → Q b H'
def DT (X : Cx) (e : Expr) (m : MT) : Prop := PT X e (tT X.K m)
def mTru (ma : ME) : MT := fun ρ => match ma ρ with
  | some (pr, ρ1) => match peek ρ1 pr with
    | some d => match dTru d with
      | some b => some (b, ρ1)
      | none => none
    | none => none
  | none => none
/-- a value of any kind as a test -/
theorem dt_tru (ha : DE X a ma) (he : ∀ whole, isTrue a X.env whole = (do let v ← whole; standAt a.pos; holding [v] (truthy v)) := by intro _; rfl) : DT X a (mTru ma) :=
  PT.imp (pt_truth ha he) fun σ H Q ⟨ρ, M, O, π, b, ρ', h, e, q⟩ => by
    unfold mTru at e
    split at e
    · rename_i pr ρ1 e1
      split at e
      · rename_i d e2
        split at e
        · rename_i k e3
          simp only [Option.some.injEq, Prod.mk.injEq] at e
          obtain ⟨rfl, rfl⟩ := e
          exact ⟨ρ, M, O, π, pr, ρ1, h, e1, fun v H1 M1 x1 s1 r1 => ⟨k, tru_vw (peek_vw s1 r1 e2) e3, q H1 M1 x1 s1⟩⟩
        · cases e
      · cases e
    · cases e
def mB (m : ME) : MT := fun ρ => match m ρ with
  | some (.val (.imm (.bool b)), ρ1) => some (b, ρ1)
  | _ => none
theorem tT_B {K : PySem.W.Frag} {m : ME} {σ : St} {H : Hp} {Q : Bool → Hp → Prop} (h : tT K (mB m) σ H Q) : tE K m σ H fun x H' => ∃ k, x = .bl k ∧ Q k H' := by
  obtain ⟨ρ, M, O, π, b, ρ', h, e, q⟩ := h
  unfold mB at e
  split at e
  · rename_i k ρ1 e1
    simp only [Option.some.injEq, Prod.mk.injEq] at e
    obtain ⟨rfl, rfl⟩ := e
    refine ⟨ρ, M, O, π, _, ρ1, h, e1, fun v H1 M1 x1 s1 r1 => ⟨k, ?_, q H1 M1 x1 s1⟩⟩
    cases (show Rep K H1 M1 v (.bool k) from r1)
    rfl
  · cases e
theorem dt_cmp {op : CmpOp} {r : R2} {f : D → D → Option Sv} (ho : OpR X (compareOp op) r) (hs : OpS X r f) (ha : DE X a ma) (hb : DE X b mb) (hm : behindInMarks op b = false) : DT X (.Compare a [op] [b] pos) (mB (bin f ma mb)) :=
  PT.imp (pt_cmpR ho ha hb hm) fun σ H Q h => tE_bin hs (tT_B h)
def mNotT (m : MT) : MT := fun ρ => match m ρ with
  | some (b, ρ1) => some (!b, ρ1)
  | none => none
variable {mt mu : MT}
theorem dt_not (ha : DT X a mt) : DT X (.UnaryOp .Not a pos) (mNotT mt) := PT.imp (pt_not ha) fun σ H Q ⟨ρ, M, O, π, b, ρ', h, e, q⟩ => by
  unfold mNotT at e
  split at e
  · rename_i k ρ1 e1
    simp only [Option.some.injEq, Prod.mk.injEq] at e
    obtain ⟨rfl, rfl⟩ := e
    exact ⟨ρ, M, O, π, k, ρ1, h, e1, q⟩
  · cases e
def DW (X : Cx) (e : Expr) (m : MT) : Prop := PW X e (tT X.K m)
theorem dt_w (h : DW X e mt) : DT X e mt := PW.pt h
theorem dw_and1 (h : DT X a mt) : DW X (.BoolOp .And [a] pos) mt := pw_and1 h
theorem dw_or1 (h : DT X a mt) : DW X (.BoolOp .Or [a] pos) mt := pw_or1 h
def mAndT (m n : MT) : MT := fun ρ => match m ρ with
  | some (true, ρ1) => n ρ1
  | some (false, ρ1) => some (false, ρ1)
  | none => none
def mOrT (m n : MT) : MT := fun ρ => match m ρ with
  | some (false, ρ1) => n ρ1
  | some (true, ρ1) => some (true, ρ1)
  | none => none
theorem _root_.L2.PW.imp {X : Cx} {e : Expr} {t t' : TT} (h : PW X e t) (i : ∀ σ H Q, t' σ H Q → t σ H Q) : PW X e t' := ⟨fun w pins s σ H Q I q => h.run w pins s σ H Q I (i σ H Q q)⟩
theorem dw_and (ha : DT X a mt) (hb : DW X (.BoolOp .And (b :: rest) pos) mu) : DW X (.BoolOp .And (a :: b :: rest) pos) (mAndT mt mu) := PW.imp (pw_and ha hb) fun σ H Q ⟨ρ, M, O, π, r, ρ', h, e, q⟩ => by
  unfold mAndT at e
  split at e
  · rename_i ρ1 e1
    exact ⟨ρ, M, O, π, true, ρ1, h, e1, fun H1 M1 x1 s1 => ⟨ρ1, M1, O, π, r, ρ', s1, e, fun H2 M2 x2 s2 => q H2 M2 (x1.trans x2) s2⟩⟩
  · rename_i ρ1 e1
    simp only [Option.some.injEq, Prod.mk.injEq] at e
    obtain ⟨rfl, rfl⟩ := e
    exact ⟨ρ, M, O, π, false, ρ1, h, e1, fun H1 M1 x1 s1 => q H1 M1 x1 s1⟩
  · cases e
theorem dw_or (ha : DT X a mt) (hb : DW X (.BoolOp .Or (b :: rest) pos) mu) : DW X (.BoolOp .Or (a :: b :: rest) pos) (mOrT mt mu) := PW.imp (pw_or ha hb) fun σ H Q ⟨ρ, M, O, π, r, ρ', h, e, q⟩ => by
  unfold mOrT at e
  split at e
  · rename_i ρ1 e1
    exact ⟨ρ, M, O, π, false, ρ1, h, e1, fun H1 M1 x1 s1 => ⟨ρ1, M1, O, π, r, ρ', s1, e, fun H2 M2 x2 s2 => q H2 M2 (x1.trans x2) s2⟩⟩
  · rename_i ρ1 e1
    simp only [Option.some.injEq, Prod.mk.injEq] at e
    obtain ⟨rfl, rfl⟩ := e
    exact ⟨ρ, M, O, π, true, ρ1, h, e1, fun H1 M1 x1 s1 => q H1 M1 x1 s1⟩
  · cases e

/-! ### a if c else b; and, or, not as values -/
def mIf (c : MT) (ma mb : ME) : ME := fun ρ => match c ρ with
  | some (true, ρ1) => ma ρ1
  | some (false, ρ1) => mb ρ1
  | none => none
theorem de_if (hc : DT X c mt) (ha : DE X a ma) (hb : DE X b mb) : DE X (.IfExp c a b pos) (mIf mt ma mb) := PE.imp (pe_ifExp hc ha hb) fun σ H Q ⟨ρ, M, O, π, r, ρ', h, e, q⟩ => by
  unfold mIf at e
  split at e
  · rename_i ρ1 e1
    exact ⟨ρ, M, O, π, true, ρ1, h, e1, fun H1 M1 x1 s1 => ⟨ρ1, M1, O, π, r, ρ', s1, e, fun v H2 M2 x2 s2 r2 => q v H2 M2 (x1.trans x2) s2 r2⟩⟩
  · rename_i ρ1 e1
    exact ⟨ρ, M, O, π, false, ρ1, h, e1, fun H1 M1 x1 s1 => ⟨ρ1, M1, O, π, r, ρ', s1, e, fun v H2 M2 x2 s2 r2 => q v H2 M2 (x1.trans x2) s2 r2⟩⟩
  · cases e
def mOr (ma mb : ME) : ME := fun ρ => match ma ρ with
  | some (pr, ρ1) => match peek ρ1 pr with
    | some d => match dTru d with
      | some true => some (pr, ρ1)
      | some false => mb ρ1
      | none => none
    | none => none
  | none => none
def mAnd (ma mb : ME) : ME := fun ρ => match ma ρ with
  | some (pr, ρ1) => match peek ρ1 pr with
    | some d => match dTru d with
      | some false => some (pr, ρ1)
      | some true => mb ρ1
      | none => none
    | none => none
  | none => none
theorem de_one {op} (h : DE X a ma) : DE X (.BoolOp op [a] pos) ma := pe_one h
theorem de_or (ha : DE X a ma) (hb : DE X (.BoolOp .Or (b :: rest) pos) mb) : DE X (.BoolOp .Or (a :: b :: rest) pos) (mOr ma mb) := PE.imp (pe_orT ha hb) fun σ H Q ⟨ρ, M, O, π, r, ρ', h, e, q⟩ => by
  unfold mOr at e
  split at e
  · rename_i pr ρ1 e1
    split at e
    · rename_i d e2
      split at e
      · rename_i e3
        simp only [Option.some.injEq, Prod.mk.injEq] at e
        obtain ⟨rfl, rfl⟩ := e
        exact ⟨ρ, M, O, π, pr, ρ1, h, e1, fun v H1 M1 x1 s1 r1 => ⟨true, tru_vw (peek_vw s1 r1 e2) e3, iteT (q v H1 M1 x1 s1 r1)⟩⟩
      · rename_i e3
        exact ⟨ρ, M, O, π, pr, ρ1, h, e1, fun v H1 M1 x1 s1 r1 => ⟨false, tru_vw (peek_vw s1 r1 e2) e3, iteF ⟨ρ1, M1, O, π, r, ρ', s1, e, fun v H2 M2 x2 s2 r2 => q v H2 M2 (x1.trans x2) s2 r2⟩⟩⟩
      · cases e
    · cases e
  · cases e
theorem de_and (ha : DE X a ma) (hb : DE X (.BoolOp .And (b :: rest) pos) mb) : DE X (.BoolOp .And (a :: b :: rest) pos) (mAnd ma mb) := PE.imp (pe_andT ha hb) fun σ H Q ⟨ρ, M, O, π, r, ρ', h, e, q⟩ => by
  unfold mAnd at e
  split at e
  · rename_i pr ρ1 e1
    split at e
    · rename_i d e2
      split at e
      · rename_i e3
        simp only [Option.some.injEq, Prod.mk.injEq] at e
        obtain ⟨rfl, rfl⟩ := e
        exact ⟨ρ, M, O, π, pr, ρ1, h, e1, fun v H1 M1 x1 s1 r1 => ⟨false, tru_vw (peek_vw s1 r1 e2) e3, iteF (q v H1 M1 x1 s1 r1)⟩⟩
      · rename_i e3
        exact ⟨ρ, M, O, π, pr, ρ1, h, e1, fun v H1 M1 x1 s1 r1 => ⟨true, tru_vw (peek_vw s1 r1 e2) e3, iteT ⟨ρ1, M1, O, π, r, ρ', s1, e, fun v H2 M2 x2 s2 r2 => q v H2 M2 (x1.trans x2) s2 r2⟩⟩⟩
      · cases e
    · cases e
  · cases e
def dNot (d : D) : Option Sv := (dTru d).map fun b => .imm (.bool (!b))
theorem de_not (ha : DE X a ma) : DE X (.UnaryOp .Not a pos) (un dNot ma) := PE.imp (pe_notT ha) fun σ H Q h =>
  tE_un (r := fun x H1 Q => ∃ k, TruV X.K x H1 k ∧ Q (.bl (!k)) H1) (by
    intro H M O π ρ σ v1 d1 res Q h r1 e q
    obtain ⟨b, e1, rfl⟩ := Option.map_eq_some_iff.mp e
    exact ⟨b, tru_vw r1 e1, Post.now q h (.bl _)⟩) h

/-! ### slices -/
abbrev MO := Fm → Option (Option Int × Fm)
def tO (K : PySem.W.Frag) (m : MO) : TO := fun σ H Q => ∃ ρ M O π i ρ', SR K H M O π ρ σ ∧ m ρ = some (i, ρ') ∧ ∀ H' M', Ext O H M H' M' → SR K H' M' O π ρ' σ → Q i H'
def DO (X : Cx) (e : Option Expr) (m : MO) : Prop := PO X e (tO X.K m)
theorem _root_.L2.PO.imp {X : Cx} {e : Option Expr} {t t' : TO} (h : PO X e t) (i : ∀ σ H Q, t' σ H Q → t σ H Q) : PO X e t' := ⟨fun pins s σ H Q I q => h.run pins s σ H Q I (i σ H Q q)⟩
def mNoPart : MO := fun ρ => some (none, ρ)
def mPart (ma : ME) : MO := fun ρ => match ma ρ with
  | some (pr, ρ1) => match peek ρ1 pr with
    | some (.int i) => some (some i, ρ1)
    | _ => none
  | none => none
theorem do_none : DO X none mNoPart := PO.imp po_none fun σ H Q ⟨ρ, M, O, π, i, ρ', h, e, q⟩ => by
  cases e
  exact q H M (.refl h) h
theorem do_some (ha : DE X a ma) : DO X (some a) (mPart ma) := PO.imp (po_some ha) fun σ H Q ⟨ρ, M, O, π, r, ρ', h, e, q⟩ => by
  unfold mPart at e
  split at e
  · rename_i pr ρ1 e1
    split at e
    · rename_i i e2
      simp only [Option.some.injEq, Prod.mk.injEq] at e
      obtain ⟨rfl, rfl⟩ := e
      exact ⟨ρ, M, O, π, pr, ρ1, h, e1, fun v H1 M1 x1 s1 r1 => ⟨i, (peek_vw s1 r1 e2).inI, q H1 M1 x1 s1⟩⟩
    · cases e
  · cases e
def cutD (ds : List D) (lo hi : Option Int) : List D := (ds.drop (HT.sIx ds.length 0 lo)).take (HT.sIx ds.length ds.length hi - HT.sIx ds.length 0 lo)
theorem cut_rep {K : PySem.W.Frag} {H : Hp} {M : Mset} {vs : List V} {ds : List D} (r : Reps K H M vs ds) (lo hi : Option Int) : Reps K H M (cutV vs lo hi) (cutD ds lo hi) := by
  unfold cutV cutD
  rw [r.length]
  exact (r.drop _).take _
theorem cutD_whole {ds : List D} {lo hi : Option Int} (h : HT.sIx ds.length 0 lo = 0 ∧ HT.sIx ds.length ds.length hi = ds.length) : cutD ds lo hi = ds := by
  unfold cutD
  rw [h.1, h.2]
  simp
def dCut (lo hi : Option Int) : D → Option Sv
  | .list ds => some (.own .loc (cutD ds lo hi))
  | .tuple ds => some (.imm (.tuple (cutD ds lo hi)))
  | .dict kvs => some (.own .loc (cutD (kvs.map Prod.fst) lo hi))
  | _ => none
def mSl (me : ME) (ml mh : MO) : ME := fun ρ => match me ρ with
  | some (pr, ρ1) => match ml ρ1 with
    | some (lo, ρ2) => match mh ρ2 with
      | some (hi, ρ3) => match peek ρ3 pr with
        | some d => match dCut lo hi d with
          | some s => some (.val s, ρ3)
          | none => none
        | none => none
      | none => none
    | none => none
  | none => none
theorem de_sl {lo hi : Option Expr} {ml mh : MO} {p2 : Pos} (he : DE X e me) (hl : DO X lo ml) (hh : DO X hi mh) : DE X (.Subscript e (.Slice lo hi none p2) pos) (mSl me ml mh) :=
  PE.imp (pe_slice (sl_list.or sl_tupA) he hl hh) fun σ H Q ⟨ρ, M, O, π, r, ρ', h, e, q⟩ => by
    unfold mSl at e
    split at e
    · rename_i pr ρ1 e1
      split at e
      · rename_i lo ρ2 e2
        split at e
        · rename_i hi ρ3 e3
          split at e
          · rename_i d e4
            split at e
            · rename_i s e5
              simp only [Option.some.injEq, Prod.mk.injEq] at e
              obtain ⟨rfl, rfl⟩ := e
              refine ⟨ρ, M, O, π, pr, ρ1, h, e1, fun v H1 M1 x1 s1 r1 => ⟨ρ1, M1, hold O pr v, π, lo, ρ2, s1.hold r1, e2, fun H2 M2 x2 s2 => ⟨ρ2, M2, hold O pr v, π, hi, ρ3, s2, e3, fun H3 M3 x3 s3 => ?_⟩⟩⟩
              have s3' := s3.less (hold_le O pr v)
              have xx := x2.trans x3
              have vw := peek_vw s3' (r1.held xx s3) e4
              have q' : Post X.K H3 M3 O π ρ3 σ s Q := fun w H' M' x4 => q w H' M' ((x1.trans (xx.less (hold_le O pr v))).trans x4)
              unfold dCut at e5
              split at e5
              · cases e5
                obtain ⟨a, vs, rfl, rd, rs⟩ := vw.inL
                exact .inl ⟨a, vs, rfl, .inl rd, fun p hp => q'.lst s3' (cut_rep rs lo hi) hp⟩
              · cases e5
                have vw' := vw
                obtain ⟨a, vs, rfl, rd, rs⟩ := vw.inT
                refine .inr ⟨a, vs, rfl, rd.sq, fun hw => ?_, fun _ p hp => q'.tup s3' (cut_rep rs lo hi) hp⟩
                rw [rs.length] at hw
                rw [cutD_whole hw] at q'
                exact q'.now s3' vw'
              · cases e5
                obtain ⟨a, vs, rfl, rd, rs⟩ := vw.inScr
                exact .inl ⟨a, vs, rfl, rd.sq, fun p hp => q'.lst s3' (cut_rep rs lo hi) hp⟩
              · cases e5
            · cases e
          · cases e
        · cases e
      · cases e
    · cases e
end
end Vi

namespace Vi
open PySem PySem.Spec PyProof.Rows L2

/-! ### sorted -/
section
variable {prog : Program} {w : World} {A : Around} {E : Value → Shared → Prop} {s : Shared} {β : Type} {vs : List Value} {bs : List β} {enc : β → PyData} {R : Value → β → Prop}
theorem sorted_seq {l : Addr} {T : String} {o : Obj} {n : Nat} {Q : Value → Shared → Prop} (hT : T = "list" ∨ T = "tuple") (ho : s.heap.get? l = some o) (hc : o.cls = .type T) (hd : o.data = .seq vs.toArray n) (e : W.EachIs R vs bs)
    (er : W.EachIs (fun v b => ∃ as, Reads s.heap v (enc b) as) vs bs) (hal : W.AllAlike (bs.map enc)) (hk : W.Sortable (bs.map enc)) (hL : bs.length ≤ sizeLine) (hu : ∀ b, b ∈ bs → A.units + 2 + (enc b).depth < cLine)
    (h : ∀ (h' : Heap) (out : List Value), out.length = bs.length → (∀ b o', s.heap.get? b = some o' → h'.get? b = some o') → W.EachIs R out (bs.mergeSort (W.dataLe false enc)) → Q (.ref h'.objs.size) { s with heap := sortedHeap (h'.push (seqObj "list" vs.toArray 0)) h'.objs.size vs out.toArray }) :
    wpAny (model prog w) A (call (.builtin "sorted") [.ref l]) Q E s := by
  have hlen := e.length
  refine call_function_entry_kw kind_sorted plain_sorted entry_sorted (args_sorted1 _) ?_
  unfold Builtin.«sorted»
  refine wpAny_bind (m := checkCount "sorted" 1 1 _) (wpAny_pure ?_)
  refine wpAny_bind (wpAny_collect_seq l hT ho hc hd (fun h' kp => ?_) (by simp only [List.size_toArray]; omega))
  refine wpAny_bind (wpAny_newList ?_ (by show vs.length ≤ _; omega))
  have at_ : (h'.push (seqObj "list" vs.toArray 0)).get? h'.objs.size = some (seqObj "list" vs.toArray 0) := Heap.get?_push_size _ rfl
  have kp2 : ∀ b o', s.heap.get? b = some o' → (h'.push (seqObj "list" vs.toArray 0)).get? b = some o' := fun b o' q => Heap.get?_push_of_some _ (kp b o' q)
  have ne : ∀ b o', h'.get? b = some o' → b ≠ h'.objs.size := fun b o' q => Nat.ne_of_lt (Heap.lt_size q)
  have er' : W.EachIs (fun v b => ∃ as, Reads (W.sortingHeap (h'.push (seqObj "list" vs.toArray 0)) h'.objs.size vs) v (enc b) as) vs bs :=
    er.mono fun _ _ ⟨as, r⟩ => ⟨as, PyProof.Rows.Reads.keeps (fun b o' q => W.sortingHeap_old (ne b o' (kp b o' q)) (kp2 b o' q)) r⟩
  refine wpAny_bind (wpAny_holding (wpAny_call_entry_kw slot_list_sort ⟨_, at_, rfl⟩ entry_list_sort ?body (args_list_sort _)))
  case body =>
    show wpAny (model prog w) A.in1.in1 (Builtin.«list.sort» ⟨[.ref h'.objs.size], []⟩) _ _ { s with heap := h'.push (seqObj "list" vs.toArray 0) }
    refine wpAny_mono (W.list_sort_vals (κ := W.dataKind (W.sortingHeap (h'.push (seqObj "list" vs.toArray 0)) h'.objs.size vs) (bs.map enc)) (P := fun f s' => f = .done (.ret .none) ∧ Q (.ref h'.objs.size) s') at_ (W.SortsAt.data (s := { s with heap := W.sortingHeap (h'.push (seqObj "list" vs.toArray 0)) h'.objs.size vs }) (W.each_map (R := fun v d => ∃ as, Reads (W.sortingHeap (h'.push (seqObj "list" vs.toArray 0)) h'.objs.size vs) v d as) enc er') hal hk (W.bound_map hu)) (by omega) ⟨rfl, ?_⟩) (fun f s' hf => ?_) fun _ _ e => e
    · exact h h' _ (by rw [W.sortVals_length false rfl]; exact hlen) kp (W.sortVals_data false e er' hal)
    · obtain ⟨rfl, hq⟩ := hf
      exact ⟨_, rfl, wpAny_pure ⟨_, rfl, hq⟩⟩
end

/-- by insertion -/
def ins {β : Type} (le : β → β → Bool) (x : β) : List β → List β
  | [] => [x]
  | y :: ys => if le x y = true then x :: y :: ys else y :: ins le x ys
def isort {β : Type} (le : β → β → Bool) : List β → List β
  | [] => []
  | x :: xs => ins le x (isort le xs)
theorem ins_split {β : Type} {le : β → β → Bool} {x : β} : ∀ {l r : List β}, (∀ b ∈ l, le x b = false) → (∀ b, r.head? = some b → le x b = true) → ins le x (l ++ r) = l ++ x :: r
  | [], [], _, _ => rfl
  | [], y :: r, _, h => by
    show (if le x y = true then x :: y :: r else y :: ins le x r) = x :: y :: r
    rw [if_pos (h y rfl)]
  | b :: l, r, hl, hr => by
    show (if le x b = true then x :: b :: (l ++ r) else b :: ins le x (l ++ r)) = b :: (l ++ x :: r)
    rw [if_neg (by rw [hl b (List.mem_cons_self ..)]; decide), ins_split (fun c hc => hl c (List.mem_cons_of_mem _ hc)) hr]
theorem isort_eq {β : Type} {le : β → β → Bool} (T : W.TotalLe le) : ∀ l : List β, l.mergeSort le = isort le l
  | [] => by rw [List.mergeSort_nil]; rfl
  | x :: l => by
    have tr : ∀ a b c : β, le a b = true → le b c = true → le a c = true := T.trans
    have tt : ∀ a b : β, (le a b || le b a) = true := fun a b => Bool.or_eq_true_iff.mpr (T.total a b)
    obtain ⟨l1, l2, e1, e2, e3⟩ := List.mergeSort_cons (le := le) tr tt x l
    have hs := List.pairwise_mergeSort (le := le) tr tt (x :: l)
    rw [e1] at hs
    rw [e1]
    show l1 ++ x :: l2 = ins le x (isort le l)
    rw [← isort_eq T l, e2]
    refine (ins_split (fun b hb => by simpa using e3 b hb) fun b hb => ?_).symm
    have h2 := (List.pairwise_append.mp hs).2.1
    refine (List.pairwise_cons.mp h2).1 b ?_
    cases l2 with
    | nil => cases hb
    | cons y r => cases hb; exact List.mem_cons_self ..
theorem ins_map {β γ : Type} {le : γ → γ → Bool} (f : β → γ) (x : β) : ∀ l : List β, (ins (fun a b => le (f a) (f b)) x l).map f = ins le (f x) (l.map f)
  | [] => rfl
  | y :: l => by
    show (if le (f x) (f y) = true then x :: y :: l else y :: ins (fun a b => le (f a) (f b)) x l).map f = if le (f x) (f y) = true then f x :: f y :: l.map f else f y :: ins le (f x) (l.map f)
    split
    · rfl
    · rw [List.map_cons, ins_map f x l]
theorem isort_map {β γ : Type} {le : γ → γ → Bool} (f : β → γ) : ∀ l : List β, (isort (fun a b => le (f a) (f b)) l).map f = isort le (l.map f)
  | [] => rfl
  | x :: l => by
    show (ins (fun a b => le (f a) (f b)) x (isort (fun a b => le (f a) (f b)) l)).map f = ins le (f x) (isort le (l.map f))
    rw [ins_map, isort_map f l]
theorem ins_perm {β : Type} {le : β → β → Bool} {x : β} : ∀ l : List β, (ins le x l).Perm (x :: l)
  | [] => .refl _
  | y :: l => by
    show (if le x y = true then x :: y :: l else y :: ins le x l).Perm (x :: y :: l)
    split
    · exact .refl _
    · exact ((ins_perm l).cons y).trans (List.Perm.swap ..)
theorem isort_perm {β : Type} {le : β → β → Bool} : ∀ l : List β, (isort le l).Perm l
  | [] => .refl _
  | x :: l => (ins_perm _).trans ((isort_perm l).cons x)

/-- the order of data -/
def leD : D → D → Bool := W.dataLe false id
def sortD (ds : List D) : List D := isort leD ds
/-- what may be sorted -/
def alikeAllB (ds : List D) : Bool := ds.all fun d => ds.all fun e => W.alike d e
def headB : D → Bool
  | .tuple (_ :: _) => true
  | _ => false
def plainB : D → Bool
  | .none => false
  | .tuple _ => false
  | _ => true
def sortOk (ds : List D) : Bool := alikeAllB ds && (ds.all headB || ds.all plainB) && ds.all okD && fits ds.length
theorem sortOk_al {ds : List D} (h : sortOk ds = true) : W.AllAlike ds := fun d hd e he => by
  unfold sortOk alikeAllB at h
  rw [Bool.and_eq_true, Bool.and_eq_true, Bool.and_eq_true] at h
  exact List.all_eq_true.mp (List.all_eq_true.mp h.1.1.1 d hd) e he
theorem sortOk_so {ds : List D} (h : sortOk ds = true) : W.Sortable ds := by
  unfold sortOk at h
  rw [Bool.and_eq_true, Bool.and_eq_true, Bool.and_eq_true, Bool.or_eq_true] at h
  rcases h.1.1.2 with h | h
  · refine .inl fun d hd => ?_
    have q := List.all_eq_true.mp h d hd
    unfold headB at q
    split at q
    · exact ⟨_, _, rfl⟩
    · cases q
  · refine .inr fun d hd => ?_
    have q := List.all_eq_true.mp h d hd
    unfold plainB at q
    split at q
    · cases q
    · cases q
    · rename_i h1 h2
      exact ⟨fun e => h1 e, fun xs e => h2 xs e⟩
theorem sortOk_dp {ds : List D} (h : sortOk ds = true) : ∀ d ∈ ds, d.depth ≤ 64 := fun d hd => by
  unfold sortOk at h
  rw [Bool.and_eq_true, Bool.and_eq_true, Bool.and_eq_true] at h
  exact SeqAt.depth_of_shaped (List.all_eq_true.mp h.1.2 d hd)
theorem lay_all : ∀ {ds : List D}, (∀ d ∈ ds, d.canLay0 = true) → PyData.canLayAll0 ds = true
  | [], _ => by simp [PyData.canLayAll0]
  | d :: ds, h => by
    rw [PyData.canLayAll0, h d (List.mem_cons_self ..), lay_all fun e he => h e (List.mem_cons_of_mem _ he)]; rfl
theorem sortOk_lay {ds : List D} (h : sortOk ds = true) : PyData.canLayAll0 ds = true := lay_all fun d hd => by
  unfold sortOk at h
  rw [Bool.and_eq_true, Bool.and_eq_true, Bool.and_eq_true] at h
  exact SeqAt.canLay_of_shaped (List.all_eq_true.mp h.1.2 d hd)
theorem sortOk_len {ds : List D} (h : sortOk ds = true) : ds.length ≤ sizeLine := by
  unfold sortOk at h
  rw [Bool.and_eq_true] at h
  exact fits_le h.2
section
variable {X : Cx}
theorem each_zip {R : Value → V × D → Prop} : ∀ {us : List Value} {xs : List V} {ds : List D}, Vals xs us → xs.length = ds.length → (∀ (i : Nat) u x d, us[i]? = some u → xs[i]? = some x → ds[i]? = some d → RelV x u → R u (x, d)) → W.EachIs R us (xs.zip ds)
  | _, _, [], .nil, _, _ => .nil
  | _, _, d :: ds, .cons r t, hl, h => .cons (h 0 _ _ _ rfl rfl rfl r) (each_zip t (by simpa using hl) fun i u x d h1 h2 h3 => h (i + 1) u x d (by simpa using h1) (by simpa using h2) (by simpa using h3))
theorem each_vals : ∀ {us : List Value} {ps : List (V × D)}, W.EachIs (fun u (b : V × D) => RelV b.1 u) us ps → Vals (ps.map Prod.fst) us
  | _, _, .nil => .nil
  | _, _, .cons r t => .cons r (each_vals t)
theorem zip_snd : ∀ {xs : List V} {ds : List D}, xs.length = ds.length → (xs.zip ds).map Prod.snd = ds
  | [], [], _ => rfl
  | x :: xs, d :: ds, h => by rw [List.zip_cons_cons, List.map_cons, zip_snd (by simpa using h)]
theorem readsAll_get {h : Heap} : ∀ {ds : List D} {us : List Value} {as : List Addr} {i : Nat} {u : Value} {d : D}, ReadsAll h us ds as → us[i]? = some u → ds[i]? = some d → ∃ bs, Reads h u d bs
  | [], _, _, i, _, _, r, _, e => by simp at e
  | d :: ds, _, _, 0, _, _, .cons r1 r2, e1, e2 => by
    simp at e1 e2; subst e1; subst e2; exact ⟨_, r1⟩
  | d :: ds, _, _, i + 1, _, _, .cons r1 r2, e1, e2 => readsAll_get r2 (by simpa using e1) (by simpa using e2)
/-- sorted(x) of data: ps, the items with their data, in order -/
def rSortD (K : PySem.W.Frag) : List V → Hp → VK → Prop := fun vs H Q => ∃ (a : Addr) (xs : List V) (ds : List D), vs = [.ref a] ∧ (SqL K H a xs ∨ SqT K H a xs) ∧ xs.length = ds.length ∧ DpAll K H xs ds ∧ sortOk ds = true ∧
  ∀ p, H p = none → Q (.ref p) (upd H p (.lst ((isort (fun a b : V × D => leD a.2 b.2) (xs.zip ds)).map Prod.fst)))
theorem cr_sortD (hu : X.A.units + 70 < cLine) : CallR X (.builtin "sorted") (rSortD X.K) := by
  intro pins s σ H vs us Q I r h
  obtain ⟨a, xs, ds, rfl, hsq, hlen, hdp, hok, q⟩ := h
  rw [Vals.ref1 r]
  have core : ∀ {T : String} {o : Obj} {its : List Value} {n : Nat}, (T = "list" ∨ T = "tuple") → s.heap.get? a = some o → o.cls = .type T → o.data = .seq its.toArray n → Vals xs its → wpAny (model X.prog X.w) X.A (call (.builtin "sorted") [.ref a]) (EP X pins σ Q) X.xe s := by
    intro T o its n hT ho hc hd rv
    obtain ⟨as, hr⟩ := Dp.readsAll I ds xs its hdp rv
    have hzl : (xs.zip ds).length = ds.length := by rw [List.length_zip, hlen, Nat.min_self]
    have e : W.EachIs (fun u (b : V × D) => RelV b.1 u) its (xs.zip ds) := each_zip rv hlen fun i u x d _ _ _ r => r
    have er : W.EachIs (fun u (b : V × D) => ∃ as, Reads s.heap u (id (Prod.snd b)) as) its (xs.zip ds) := each_zip rv hlen fun i u x d h1 _ h3 _ => readsAll_get hr h1 h3
    have em : (xs.zip ds).map (fun b => id (Prod.snd b)) = ds := zip_snd hlen
    refine sorted_seq (enc := fun b : V × D => id b.2) (R := fun u (b : V × D) => RelV b.1 u) hT ho hc hd e er (by rw [em]; exact sortOk_al hok) (by rw [em]; exact sortOk_so hok) (by rw [hzl]; exact sortOk_len hok) (fun b hb => ?_) fun h' out hol kp ho2 => ?_
    · have hm : b.2 ∈ ds := by rw [← em]; exact List.mem_map.mpr ⟨b, hb, rfl⟩
      have := sortOk_dp hok _ hm
      show X.A.units + 2 + b.2.depth < cLine
      omega
    · rw [isort_eq (le := W.dataLe false fun b : V × D => id b.2) (W.sortLe_total _ _ _)] at ho2
      have I1 : Inv X pins σ H { s with heap := h' } := I.kept (t' := s.toks) kp
      have hz : ((isort (fun a b : V × D => leD a.2 b.2) (xs.zip ds)).map Prod.fst).length ≤ sizeLine := by
        rw [List.length_map, (isort_perm _).length_eq, hzl]; exact sortOk_len hok
      have hpush : (h'.push (seqObj "list" its.toArray 0)).get? h'.objs.size = some (seqObj "list" its.toArray 0) := Heap.get?_push_size _ rfl
      obtain ⟨e1, hat⟩ := sortedHeap_at (out := out.toArray) hpush
      refine ⟨.ref h'.objs.size, _, I1.laid (t' := s.toks) (o := .lst ((isort (fun a b : V × D => leD a.2 b.2) (xs.zip ds)).map Prod.fst)) (fun b u eb => ?_) (Nat.le_refl _) ⟨hz, out, e1, each_vals ho2, hat⟩, rfl, q _ I1.fresh⟩
      have hb : b < h'.objs.size := Heap.lt_size eb
      rw [sortedHeap_old (Nat.ne_of_lt hb) (by rw [size_push']; exact Nat.lt_succ_of_lt hb)]
      exact Heap.get?_push_of_some _ eb
  rcases hsq with hsq | hsq
  · obtain ⟨its, rv, ⟨o, n, ho, hc, _, hd⟩, _⟩ := I.list hsq
    exact core (.inl rfl) ho hc hd rv
  · obtain ⟨its, rv, ⟨o, ho, hc, n, hd⟩, _⟩ := I.tuple hsq
    exact core (.inr rfl) ho hc hd rv
def dSort : D → Option Sv
  | .list ds => if sortOk ds = true then some (.own .loc (sortD ds)) else none
  | .tuple ds => if sortOk ds = true then some (.own .loc (sortD ds)) else none
  | _ => none
theorem reps_sort {K : PySem.W.Frag} {H : Hp} {M : Mset} : ∀ {ps : List (V × D)}, (∀ b ∈ ps, Rep K H M b.1 b.2) → Reps K H M (ps.map Prod.fst) (ps.map Prod.snd)
  | [], _ => .nil
  | b :: ps, h => .cons (h b (List.mem_cons_self ..)) (reps_sort fun c hc => h c (List.mem_cons_of_mem _ hc))
theorem reps_zip {K : PySem.W.Frag} {H : Hp} {M : Mset} : ∀ {vs : List V} {ds : List D}, Reps K H M vs ds → ∀ b ∈ vs.zip ds, Rep K H M b.1 b.2
  | _, _, .nil, b, hb => by cases hb
  | _, _, .cons h r, b, hb => by
    rw [List.zip_cons_cons] at hb
    rcases List.mem_cons.mp hb with rfl | hb
    · exact h
    · exact reps_zip r b hb
theorem us_sort : UnS X (fun v H Q => rSortD X.K [v] H Q) dSort := by
  intro H M O π ρ σ v1 d1 res Q h r1 e q
  have fin : ∀ {vs : List V} {ds : List D} {p : Addr}, Reps X.K H M vs ds → Post X.K H M O π ρ σ (.own .loc (sortD ds)) Q → H p = none → Q (.ref p) (upd H p (.lst ((isort (fun a b : V × D => leD a.2 b.2) (vs.zip ds)).map Prod.fst))) := fun {vs ds p} rs q hp => by
    have e2 : sortD ds = (isort (fun a b : V × D => leD a.2 b.2) (vs.zip ds)).map Prod.snd := by
      rw [isort_map (le := leD) Prod.snd, zip_snd rs.length]; rfl
    rw [e2] at q
    exact q.lst h (reps_sort fun b hb => reps_zip rs b ((isort_perm _).mem_iff.mp hb)) hp
  unfold dSort at e
  split at e
  · split at e
    · rename_i hz
      cases e
      obtain ⟨a, vs, rfl, rd, rs⟩ := r1.inL
      exact ⟨a, vs, _, rfl, .inl (.inl rd), rs.length, rs.dp (sortOk_lay hz), hz, fun p hp => fin rs q hp⟩
    · cases e
  · split at e
    · rename_i hz
      cases e
      obtain ⟨a, vs, rfl, rd, rs⟩ := r1.inT
      exact ⟨a, vs, _, rfl, .inr rd.sq, rs.length, rs.dp (sortOk_lay hz), hz, fun p hp => fin rs q hp⟩
    · cases e
  · cases e

/-! ### isinstance -/
inductive Ty where
  | int | bool | str | list | tuple
def Ty.nm : Ty → String
  | .int => "int" | .bool => "bool" | .str => "str" | .list => "list" | .tuple => "tuple"
def tyN : D → Option String
  | .none => some "NoneType" | .bool _ => some "bool" | .int _ => some "int" | .str _ => some "str" | .list _ => some "list" | .tuple _ => some "tuple" | _ => none
def isT : Ty → D → Bool
  | .int, .int _ => true
  | .int, .bool _ => true
  | .bool, .bool _ => true
  | .str, .str _ => true
  | .list, .list _ => true
  | .tuple, .tuple _ => true
  | _, _ => false
theorem kit_is {K : PySem.W.Frag} {d : D} {n : String} (t : Ty) (e : tyN d = some n) : PySem.W.kitOne K (.type n) (.type t.nm) = some (isT t d) := by
  cases d <;> first | cases e | skip
  all_goals (cases t <;> first | exact kit_ty (r := true) (by decide +kernel) | exact kit_ty (r := false) (by decide +kernel))
theorem kit_is2 {K : PySem.W.Frag} {d : D} {n : String} (t u : Ty) (e : tyN d = some n) : PySem.W.kitAny K (.type n) [.type t.nm, .type u.nm] = some (isT t d || isT u d) := by
  cases h : isT t d with
  | true => exact kitAny_cons (kit_is t e) (fun z => by rw [h] at z; cases z) fun _ => rfl
  | false =>
    refine kitAny_cons (kit_is t e) (fun _ => ?_) fun z => by rw [h] at z; cases z
    cases h2 : isT u d with
    | true => exact kitAny_cons (kit_is u e) (fun z => by rw [h2] at z; cases z) fun _ => rfl
    | false => exact kitAny_cons (kit_is u e) (fun _ => kitAny_nil) fun z => by rw [h2] at z; cases z
theorem tyx_of {K : PySem.W.Frag} {H : Hp} {M : Mset} {v : V} {d : D} {n : String} (r : VW K H M v d) (e : tyN d = some n) : TyX K H v (.type n) := by
  cases d with
  | none => cases e; cases r.inN; exact .base .non
  | bool b => cases e; cases r.inB; exact .base (.bl b)
  | int b => cases e; cases r.inI; exact .base (.int b)
  | str b => cases e; cases r.inS; exact .base (.str b)
  | list b =>
    cases e
    obtain ⟨a, vs, rfl, h, rs⟩ := r.inL
    rcases h with h | ⟨o, h⟩
    · exact .base (.lst h)
    · exact .base (.frz h)
  | tuple b =>
    cases e
    obtain ⟨a, vs, rfl, h, rs⟩ := r.inT
    rcases h with ⟨h | ⟨o, h⟩, _⟩ | ⟨o, its, n, h1, h2, _⟩
    · exact .base (.tup h)
    · exact .fTuple h
    · exact .kTuple h1 h2
  | dict b => cases e
def dIsi (t : Ty) (d : D) : Option Sv := (tyN d).map fun _ => .imm (.bool (isT t d))
def dIsi2 (t u : Ty) (d : D) : Option Sv := (tyN d).map fun _ => .imm (.bool (isT t d || isT u d))
variable {a b : Expr} {ma : ME} {pos : Pos}
theorem tC_two {ta : TE} {v : V} {σ : St} {H : Hp} {Q : List V → Hp → Prop} (h : ta σ H fun x H1 => Q [x, v] H1) : tCons ta (tCons (tC v) tNil) σ H Q := h
theorem de_isi {t : Ty} {x : Str} {p : Pos} (hg : Gl X x) (hm : X.mg x = none) (hv : bootBuiltins x = some (.builtin "isinstance")) (ha : DE X a ma) (ht : PE X b (tC (.ty t.nm)))
    (hn : x ≠ "__name__" := by decide) (hd : (x == ("__debug__" : Str)) = false := by decide) (he : starEach [a, b] X.env = (false, eval a X.env) :: starEach [b] X.env := by rfl) (he2 : starEach [b] X.env = (false, eval b X.env) :: starEach [] X.env := by rfl) (hpl : (backTo pos (starEach [b] X.env)).any (·.1) = false := by rfl) :
    DE X (.Call (.Name x p) [a, b] [] pos) (un (dIsi t) ma) :=
  PE.imp (pe_callB call_isi hg hm hv (pa_cons ha (pa_cons ht pa_nil he2) he) hn hd he hpl) fun σ H Q h => tC_two (tE_un (r := fun v H Q => rIsi X.K [v, .ty t.nm] H Q) (by
    intro H M O π ρ σ v1 d1 res Q h r1 e q
    obtain ⟨n, e1, rfl⟩ := Option.map_eq_some_iff.mp e
    exact ⟨_, _, _, _, _, rfl, .ty _, tyx_of r1 e1, kit_is t e1, Post.now q h (.bl _)⟩) h)
/-- isinstance(x, (t, u)): the tuple is laid behind x -/
theorem de_isi2 {t u : Ty} {x : Str} {p p2 : Pos} {b1 b2 : Expr} {k : Nat} (hg : Gl X x) (hm : X.mg x = none) (hv : bootBuiltins x = some (.builtin "isinstance")) (ha : DE X a ma) (h1 : PE X b1 (tC (.ty t.nm))) (h2 : PE X b2 (tC (.ty u.nm)))
    (hn : x ≠ "__name__" := by decide) (hd : (x == ("__debug__" : Str)) = false := by decide) (he : starEach [a, .Tuple [b1, b2] k p2] X.env = (false, eval a X.env) :: starEach [.Tuple [b1, b2] k p2] X.env := by rfl)
    (he2 : starEach [.Tuple [b1, b2] k p2] X.env = (false, eval (.Tuple [b1, b2] k p2) X.env) :: starEach [] X.env := by rfl) (he3 : starEach [b1, b2] X.env = (false, eval b1 X.env) :: starEach [b2] X.env := by rfl) (he4 : starEach [b2] X.env = (false, eval b2 X.env) :: starEach [] X.env := by rfl)
    (hpl : (backTo pos (starEach [.Tuple [b1, b2] k p2] X.env)).any (·.1) = false := by rfl) :
    DE X (.Call (.Name x p) [a, .Tuple [b1, b2] k p2] [] pos) (un (dIsi2 t u) ma) :=
  PE.imp (pe_callB call_isiT hg hm hv (pa_cons ha (pa_cons (pe_tup (pa_cons h1 (pa_cons h2 pa_nil he4) he3)) pa_nil he2) he) hn hd he hpl) fun σ H Q h =>
    tE_un (r := fun v H Q => 2 ≤ sizeLine ∧ ∀ p, H p = none → rIsiT X.K [v, .ref p] (upd H p (.tup [.ty t.nm, .ty u.nm])) Q) (by
      intro H M O π ρ σ v1 d1 res Q h r1 e q
      obtain ⟨n, e1, rfl⟩ := Option.map_eq_some_iff.mp e
      refine ⟨by decide, fun p hp => ?_⟩
      have r1' : VW X.K (upd H p (.tup [.ty t.nm, .ty u.nm])) M v1 d1 := by
        cases d1 with
        | list ds =>
          obtain ⟨a, vs, e, hr, rs⟩ := r1.inL
          refine ⟨a, vs, e, ?_, rs.tr (alloc_tr h hp)⟩
          rcases hr with hr | ⟨o, hr⟩
          · exact .inl (by rw [upd_ne (fun z => by rw [z, hp] at hr; cases hr)]; exact hr)
          · exact .inr ⟨o, by rw [upd_ne (fun z => by rw [z, hp] at hr; cases hr)]; exact hr⟩
        | _ => exact Rep.tr (alloc_tr h hp) r1
      exact ⟨v1, p, _, _, _, _, rfl, upd_same, .cons (.ty _) (.cons (.ty _) .nil), tyx_of r1' e1, kit_is2 t u e1, q _ _ M (.alloc h hp) (h.alloc hp) (.bl _)⟩) h
end
end Vi

namespace Vi
open PySem PySem.Spec PyProof.Rows L2

inductive Fl where
  | next | brk | cont
  | ret (r : Sv)
abbrev MS := Fm → Option (Fl × Fm)
/-- what a def hands back -/
def RV (K : PySem.W.Frag) (H : Hp) (M O : Mset) (ρ : Fm) (σ : St) : Sv → V → Prop
  | .imm d, v => Rep K H M v d
  | .own b ds, v => ∃ p vs, v = .ref p ∧ H p = some (cell b p vs ds) ∧ M p ∧ ¬ O p ∧ Reps K H M vs ds ∧ ∀ (i : Nat) (es : List D), ρ[i]? = some (some (.own .par es)) → σ[i]? ≠ some (some (.ref p))
def SPost (K : PySem.W.Frag) (H : Hp) (M O : Mset) (π : Nat → Option Addr) (D : Ends) (ρ' : Fm) : Fl → Prop
  | .next => ∀ σ' H' M', Ext O H M H' M' → SR K H' M' O π ρ' σ' → D.nx σ' H'
  | .brk => ∀ σ' H' M', Ext O H M H' M' → SR K H' M' O π ρ' σ' → D.bk σ' H'
  | .cont => ∀ σ' H' M', Ext O H M H' M' → SR K H' M' O π ρ' σ' → D.ct σ' H'
  | .ret r => ∀ v σ' H' M', Ext O H M H' M' → SR K H' M' O π ρ' σ' → RV K H' M' O ρ' σ' r v → D.rt v H'
def tS (K : PySem.W.Frag) (m : MS) : TS := fun D σ H => ∃ ρ M O π fl ρ', SR K H M O π ρ σ ∧ m ρ = some (fl, ρ') ∧ SPost K H M O π D ρ' fl
def DS (X : Cx) (s : Stmt) (m : MS) : Prop := PS X s (tS X.K m)
def DSs (X : Cx) (s : List Stmt) (m : MS) : Prop := PSs X s (tS X.K m)
theorem SPost.later {K : PySem.W.Frag} {H H1 : Hp} {M M1 O O1 : Mset} {π : Nat → Option Addr} {D : Ends} {ρ' : Fm} {fl : Fl} (q : SPost K H M O π D ρ' fl) (x : Ext O H M H1 M1) : SPost K H1 M1 O π D ρ' fl := by
  cases fl with
  | next => exact fun σ' H' M' x' => q σ' H' M' (x.trans x')
  | brk => exact fun σ' H' M' x' => q σ' H' M' (x.trans x')
  | cont => exact fun σ' H' M' x' => q σ' H' M' (x.trans x')
  | ret r => exact fun v σ' H' M' x' => q v σ' H' M' (x.trans x')

/-! ### states behind a store -/
section
variable {K : PySem.W.Frag} {H H' : Hp} {M M' O O' : Mset} {π : Nat → Option Addr} {ρ ρ' : Fm} {σ : St} {pr : PR} {v : V} {d : D} {i : Nat}
theorem SR.setImm (h : SR K H M O π ρ σ) (r : Rep K H M v d) : SR K H M O π (ρ.set i (some (.imm d))) (σ.set i (some v)) := by
  refine ⟨by rw [List.length_set, List.length_set]; exact h.len, h.sub, h.live, fun j e f => ?_, fun j b es f => ?_, fun j k b c es fs x hjk f g => ?_⟩
  · rcases get_set f with ⟨hj, g⟩ | ⟨hj, f⟩
    · subst hj
      have hl : j < ρ.length := by
        have := (List.getElem?_eq_some_iff.mp f).1
        rwa [List.length_set] at this
      cases g
      exact ⟨v, by rw [List.getElem?_set_self (by rw [← h.len]; exact hl)], r⟩
    · rw [List.getElem?_set_ne (Ne.symm hj)]; exact h.imm j e f
  · rcases get_set f with ⟨_, g⟩ | ⟨hj, f⟩
    · cases g
    · rw [List.getElem?_set_ne (Ne.symm hj)]; exact h.own j b es f
  · rcases get_set f with ⟨_, z⟩ | ⟨hj, f⟩
    · cases z
    · rcases get_set g with ⟨_, z⟩ | ⟨hk, g⟩
      · cases z
      · rw [List.getElem?_set_ne (Ne.symm hj), List.getElem?_set_ne (Ne.symm hk)]; exact h.uniq j k b c es fs x hjk f g
theorem SR.setOwnC {p : Addr} {vs : List V} {ds : List D} {b : Kd} (h : SR K H M O π ρ σ) (hb : b ≠ .par) (e1 : H p = some (cell b p vs ds)) (e2 : M p) (e3 : ¬ O p) (r : Reps K H M vs ds) (ha : Apart ρ σ p) : SR K H M O π (ρ.set i (some (.own b ds))) (σ.set i (some (.ref p))) := by
  refine ⟨by rw [List.length_set, List.length_set]; exact h.len, h.sub, h.live, fun j e f => ?_, fun j b es f => ?_, fun j k b c es fs x hjk f g => ?_⟩
  · rcases get_set f with ⟨_, g⟩ | ⟨hj, f⟩
    · cases g
    · rw [List.getElem?_set_ne (Ne.symm hj)]; exact h.imm j e f
  · rcases get_set f with ⟨hj, g⟩ | ⟨hj, f⟩
    · subst hj
      have hl : j < ρ.length := by
        have := (List.getElem?_eq_some_iff.mp f).1
        rwa [List.length_set] at this
      cases g
      exact ⟨p, vs, by rw [List.getElem?_set_self (by rw [← h.len]; exact hl)], e1, e2, e3, r, fun z => absurd z hb⟩
    · rw [List.getElem?_set_ne (Ne.symm hj)]; exact h.own j b es f
  · rcases get_set f with ⟨hj, z⟩ | ⟨hj, f'⟩
    · cases z
      rcases get_set g with ⟨hk, z⟩ | ⟨hk, g'⟩
      · exact absurd (hj.trans hk.symm) hjk
      · subst hj
        intro q q2
        have hl : j < ρ.length := by
          have := (List.getElem?_eq_some_iff.mp f).1
          rwa [List.length_set] at this
        rw [List.getElem?_set_self (by rw [← h.len]; exact hl)] at q
        cases q
        rw [List.getElem?_set_ne (Ne.symm hk)] at q2
        exact ha k c fs g' q2
    · rcases get_set g with ⟨hk, z⟩ | ⟨hk, g'⟩
      · cases z
        subst hk
        rw [List.getElem?_set_ne (Ne.symm hj)]
        intro q q2
        have hl : k < ρ.length := by
          have := (List.getElem?_eq_some_iff.mp g).1
          rwa [List.length_set] at this
        rw [List.getElem?_set_self (by rw [← h.len]; exact hl)] at q2
        cases q2
        exact ha j b es f' q
      · rw [List.getElem?_set_ne (Ne.symm hj), List.getElem?_set_ne (Ne.symm hk)]; exact h.uniq j k b c es fs x hjk f' g'
theorem SR.setOwn {p : Addr} {vs : List V} {ds : List D} (h : SR K H M O π ρ σ) (e1 : H p = some (.lst vs)) (e2 : M p) (e3 : ¬ O p) (r : Reps K H M vs ds) (ha : Apart ρ σ p) : SR K H M O π (ρ.set i (some (.own .loc ds))) (σ.set i (some (.ref p))) := h.setOwnC (b := .loc) (fun z => by cases z) e1 e2 e3 r ha
theorem get_set_same {α : Type} {l : List α} {i : Nat} {x y : α} (h : l[i]? = some y) : (l.set i x)[i]? = some x := by
  rw [List.getElem?_set_self (List.getElem?_eq_some_iff.mp h).1]
/-- the list that a name owns is written -/
theorem SR.writeC {a : Addr} {b : Kd} {ws : List V} {ds es : List D} (h : SR K H M O π ρ σ) (e : ρ[i]? = some (some (.own b ds))) (e1 : σ[i]? = some (some (.ref a))) (r : Reps K H M ws es) :
    SR K (upd H a (cell b a ws es)) M O π (ρ.set i (some (.own b es))) σ ∧ Ext O H M (upd H a (cell b a ws es)) M ∧ ∀ x u, Rd H x u → ¬ M x → Rd (upd H a (cell b a ws es)) x u ∧ ¬ M x := by
  obtain ⟨a', vs', f1, f2, f3, f4, f5, f6⟩ := h.own i b ds e
  rw [e1] at f1; cases f1
  have t : ∀ x u, Rd H x u → ¬ M x → Rd (upd H a (cell b a ws es)) x u ∧ ¬ M x := fun x u q n => by
    have ne : x ≠ a := fun z => n (z ▸ f3)
    refine ⟨?_, n⟩
    rcases q with q | ⟨o, q⟩
    · exact .inl (by rw [upd_ne ne]; exact q)
    · exact .inr ⟨o, by rw [upd_ne ne]; exact q⟩
  refine ⟨⟨by rw [List.length_set]; exact h.len, h.sub, fun x q => ?_, fun j d f => ?_, fun j c fs f => ?_, fun j k b' c fs gs x hjk f g => ?_⟩, ⟨fun x o q z => ?_, h.sub, fun x q => .inl q⟩, t⟩
  · by_cases hx : x = a
    · subst hx; rw [upd_same]; intro z; exact absurd z (by simp)
    · rw [upd_ne hx]; exact h.live x q
  · rcases get_set f with ⟨_, z⟩ | ⟨hj, f⟩
    · cases z
    · obtain ⟨w, g1, g2⟩ := h.imm j d f
      exact ⟨w, g1, g2.tr t⟩
  · rcases get_set f with ⟨hj, z⟩ | ⟨hj, f⟩
    · cases z
      subst hj
      exact ⟨a, ws, e1, upd_same, f3, f4, r.tr t, f6⟩
    · obtain ⟨x, us, g1, g2, g3, g4, g5, g6⟩ := h.own j c fs f
      have ne : x ≠ a := fun z => by
        subst z
        exact h.uniq i j _ _ _ _ x (Ne.symm hj) e f e1 g1
      exact ⟨x, us, g1, by rw [upd_ne ne]; exact g2, g3, g4, g5.tr t, g6⟩
  · rcases get_set f with ⟨hj, z⟩ | ⟨hj, f'⟩
    · cases z
      rcases get_set g with ⟨hk, z⟩ | ⟨hk, g'⟩
      · exact absurd (hj.trans hk.symm) hjk
      · subst hj; exact h.uniq j k _ _ _ _ x hjk e g'
    · rcases get_set g with ⟨hk, z⟩ | ⟨hk, g'⟩
      · cases z; subst hk; exact h.uniq j k _ _ _ _ x hjk f' e
      · exact h.uniq j k _ _ _ _ x hjk f' g'
  · refine (upd_ne (fun hx => ?_)).trans q
    subst hx
    exact z.elim f4 fun n => n f3
theorem SR.write {a : Addr} {b : Kd} {ws : List V} {ds es : List D} (h : SR K H M O π ρ σ) (e : ρ[i]? = some (some (.own b ds))) (hb : b.isL = true) (e1 : σ[i]? = some (some (.ref a))) (r : Reps K H M ws es) :
    SR K (upd H a (.lst ws)) M O π (ρ.set i (some (.own b es))) σ ∧ Ext O H M (upd H a (.lst ws)) M ∧ ∀ x u, Rd H x u → ¬ M x → Rd (upd H a (.lst ws)) x u ∧ ¬ M x := by
  have q := h.writeC e e1 r
  rw [cell_lst hb] at q
  exact q
/-- a name's own list -/
theorem isL_of {b : Kd} (h : b = .dic → False) : b.isL = true := by cases b <;> first | rfl | exact absurd rfl h
theorem SR.ownL {b : Kd} {ds : List D} (h : SR K H M O π ρ σ) (e : ρ[i]? = some (some (.own b ds))) (hb : b.isL = true) : ∃ a vs, σ[i]? = some (some (.ref a)) ∧ H a = some (.lst vs) ∧ M a ∧ ¬ O a ∧ Reps K H M vs ds ∧ (b = .par → π i = some a) := by
  have q := h.own i b ds e
  simp only [cell_lst hb] at q
  exact q
/-- a value that a name is to hold -/
def take (ρ : Fm) : PR → Option (Sv × Fm)
  | .val (.imm d) => some (.imm d, ρ)
  | .val (.own .dic ds) => some (.own .dic ds, ρ)
  | .val (.own _ ds) => some (.own .loc ds, ρ)
  | .slot j => match frz ρ (.slot j) with
    | some (d, ρ1) => some (.imm d, ρ1)
    | none => none
def put (i : Nat) (pr : PR) (ρ : Fm) : Option Fm := match take ρ pr with
  | some (sv, ρ1) => some (ρ1.set i (some sv))
  | none => none
theorem put_ok (h : SR K H M O π ρ σ) (r : RP K H M O ρ σ pr v) (e : put i pr ρ = some ρ') : ∃ M', Ext O H M H M' ∧ SR K H M' O π ρ' (σ.set i (some v)) := by
  unfold put at e
  match pr, v, r with
  | .val (.imm d), v, r =>
    cases e
    exact ⟨M, .refl h, h.setImm r⟩
  | .val (.own b ds), v, ⟨p, vs, e1, e2, e3, e4, e5, e6⟩ =>
    subst e1
    cases b with
    | dic => cases e; exact ⟨M, .refl h, h.setOwnC (fun z => by cases z) e2 e3 e4 e5 e6⟩
    | loc => cases e; exact ⟨M, .refl h, h.setOwn e2 e3 e4 e5 e6⟩
    | par => cases e; exact ⟨M, .refl h, h.setOwn e2 e3 e4 e5 e6⟩
  | .slot j, v, r =>
    unfold take at e
    simp only at e
    cases ef : frz ρ (.slot j) with
    | none => rw [ef] at e; cases e
    | some dρ =>
      obtain ⟨d, ρ1⟩ := dρ
      rw [ef] at e
      cases e
      obtain ⟨M', x, s, rr⟩ := frz_ok h r ef
      exact ⟨M', x, s.setImm rr⟩
def give (ρ : Fm) : PR → Option Sv
  | .val s => some s
  | .slot i => match ρ[i]? with
    | some (some (.imm d)) => some (.imm d)
    | some (some (.own .loc ds)) => some (.own .loc ds)
    | some (some (.own .dic ds)) => some (.own .dic ds)
    | _ => none
theorem give_ok {r : Sv} (h : SR K H M O π ρ σ) (q : RP K H M O ρ σ pr v) (e : give ρ pr = some r) : RV K H M O ρ σ r v := by
  match pr, v, q with
  | .val (.imm d), v, q => cases e; exact q
  | .val (.own b ds), v, ⟨p, vs, e1, e2, e3, e4, e5, e6⟩ => cases e; exact ⟨p, vs, e1, e2, e3, e4, e5, fun i es f => e6 i .par es f⟩
  | .slot i, v, q =>
    have q' : σ[i]? = some (some v) := q
    unfold give at e
    simp only at e
    split at e
    · rename_i d hs
      cases e
      obtain ⟨w, f1, f2⟩ := h.imm i _ hs
      rw [q'] at f1; cases f1; exact f2
    · rename_i ds hs
      cases e
      obtain ⟨a, vs, f1, f2, f3, f4, f5, f6⟩ := h.own i _ ds hs
      rw [q'] at f1; cases f1
      exact ⟨a, vs, rfl, f2, f3, f4, f5, fun j es f g => by
        by_cases hij : i = j
        · subst hij; rw [hs] at f; cases f
        · exact h.uniq i j _ _ _ _ a hij hs f q' g⟩
    · rename_i ds hs
      cases e
      obtain ⟨a, vs, f1, f2, f3, f4, f5, f6⟩ := h.own i _ ds hs
      rw [q'] at f1; cases f1
      exact ⟨a, vs, rfl, f2, f3, f4, f5, fun j es f g => by
        by_cases hij : i = j
        · subst hij; rw [hs] at f; cases f
        · exact h.uniq i j _ _ _ _ a hij hs f q' g⟩
    · cases e
end

section
variable {X : Cx} {st : Stmt} {rest sa sb : List Stmt} {e : Expr} {me : ME} {m n : MS} {mt : MT} {pos : Pos}
/-! ### blocks -/
def mNext : MS := fun ρ => some (.next, ρ)
def mSeq (m n : MS) : MS := fun ρ => match m ρ with
  | some (.next, ρ1) => n ρ1
  | some (.brk, ρ1) => some (.brk, ρ1)
  | some (.cont, ρ1) => some (.cont, ρ1)
  | some (.ret r, ρ1) => some (.ret r, ρ1)
  | none => none
theorem dss_nil : DSs X [] mNext := PSs.imp pss_nil fun D σ H ⟨ρ, M, O, π, fl, ρ', h, e, q⟩ => by
  cases e
  exact q σ H M (.refl h) h
theorem dss_one (h : DS X st m) : DSs X [st] m := pss_one h
theorem dss_cons (h1 : DS X st m) (h2 : DSs X rest n) : DSs X (st :: rest) (mSeq m n) := PSs.imp (pss_cons h1 h2) fun D σ H ⟨ρ, M, O, π, fl, ρ', h, e, q⟩ => by
  unfold mSeq at e
  split at e
  · rename_i ρ1 e1
    exact ⟨ρ, M, O, π, .next, ρ1, h, e1, fun σ1 H1 M1 x1 s1 => ⟨ρ1, M1, O, π, fl, ρ', s1, e, q.later (O1 := O) x1⟩⟩
  · rename_i ρ1 e1
    cases e
    exact ⟨ρ, M, O, π, .brk, _, h, e1, q⟩
  · rename_i ρ1 e1
    cases e
    exact ⟨ρ, M, O, π, .cont, _, h, e1, q⟩
  · rename_i r ρ1 e1
    cases e
    exact ⟨ρ, M, O, π, .ret r, _, h, e1, q⟩
  · cases e
def mBrk : MS := fun ρ => some (.brk, ρ)
def mCont : MS := fun ρ => some (.cont, ρ)
theorem ds_pass : DS X (.Pass pos) mNext := PS.imp ps_pass fun D σ H ⟨ρ, M, O, π, fl, ρ', h, e, q⟩ => by
  cases e
  exact q σ H M (.refl h) h
theorem ds_brk : DS X (.Break pos) mBrk := PS.imp ps_break fun D σ H ⟨ρ, M, O, π, fl, ρ', h, e, q⟩ => by
  cases e
  exact q σ H M (.refl h) h
theorem ds_cont : DS X (.Continue pos) mCont := PS.imp ps_continue fun D σ H ⟨ρ, M, O, π, fl, ρ', h, e, q⟩ => by
  cases e
  exact q σ H M (.refl h) h
/-- a raise (or whatever is never come to) -/
def mNever : MS := fun _ => none
theorem ds_never : DS X st mNever := PS.imp ps_never fun D σ H ⟨ρ, M, O, π, fl, ρ', h, e, q⟩ => by cases e
def mIfS (c : MT) (m n : MS) : MS := fun ρ => match c ρ with
  | some (true, ρ1) => m ρ1
  | some (false, ρ1) => n ρ1
  | none => none
theorem ds_if {c : Expr} (hc : DT X c mt) (ha : DSs X sa m) (hb : DSs X sb n) : DS X (.If c sa sb pos) (mIfS mt m n) := PS.imp (ps_if hc ha hb) fun D σ H ⟨ρ, M, O, π, fl, ρ', h, e, q⟩ => by
  unfold mIfS at e
  split at e
  · rename_i ρ1 e1
    exact ⟨ρ, M, O, π, true, ρ1, h, e1, fun H1 M1 x1 s1 => iteT ⟨ρ1, M1, O, π, fl, ρ', s1, e, q.later (O1 := O) x1⟩⟩
  · rename_i ρ1 e1
    exact ⟨ρ, M, O, π, false, ρ1, h, e1, fun H1 M1 x1 s1 => iteF ⟨ρ1, M1, O, π, fl, ρ', s1, e, q.later (O1 := O) x1⟩⟩
  · cases e
def mRet (me : ME) : MS := fun ρ => match me ρ with
  | some (pr, ρ1) => match give ρ1 pr with
    | some r => some (.ret r, ρ1)
    | none => none
  | none => none
theorem ds_ret (he : DE X e me) : DS X (.Return (some e) pos) (mRet me) := PS.imp (ps_ret he) fun D σ H ⟨ρ, M, O, π, fl, ρ', h, e, q⟩ => by
  unfold mRet at e
  split at e
  · rename_i pr ρ1 e1
    split at e
    · rename_i r e2
      cases e
      exact ⟨ρ, M, O, π, pr, _, h, e1, fun v H1 M1 x1 s1 r1 => q v σ H1 M1 x1 s1 (give_ok s1 r1 e2)⟩
    · cases e
  · cases e
def mRetN : MS := fun ρ => some (.ret (.imm .none), ρ)
theorem ds_retN : DS X (.Return none pos) mRetN := PS.imp ps_retN fun D σ H ⟨ρ, M, O, π, fl, ρ', h, e, q⟩ => by
  cases e
  exact q .non σ H M (.refl h) h .non
/-- x = e -/
def mSet (i : Nat) (me : ME) : MS := fun ρ => match me ρ with
  | some (pr, ρ1) => match put i pr ρ1 with
    | some ρ2 => some (.next, ρ2)
    | none => none
  | none => none
theorem ds_set {i : Nat} (h : ∀ te, PE X e te → PS X st (tAsg te (gName i))) (he : DE X e me) : DS X st (mSet i me) := PS.imp (h _ he) fun D σ H ⟨ρ, M, O, π, fl, ρ', h, e, q⟩ => by
  unfold mSet at e
  split at e
  · rename_i pr ρ1 e1
    split at e
    · rename_i ρ2 e2
      cases e
      refine ⟨ρ, M, O, π, pr, ρ1, h, e1, fun v H1 M1 x1 s1 r1 => ?_⟩
      obtain ⟨M2, x2, s2⟩ := put_ok s1 r1 e2
      exact q _ H1 M2 (x1.trans x2) s2
    · cases e
  · cases e
/-- an expression whose value is dropped -/
def mDrop (me : ME) : MS := fun ρ => match me ρ with
  | some (_, ρ1) => some (.next, ρ1)
  | none => none
theorem ds_expr (he : DE X e me) (hs : swapsWith e none pos.line X.env = pure false := by rfl) : DS X (.Expr e pos) (mDrop me) := PS.imp (ps_expr he hs) fun D σ H ⟨ρ, M, O, π, fl, ρ', h, e, q⟩ => by
  unfold mDrop at e
  split at e
  · rename_i pr ρ1 e1
    cases e
    exact ⟨ρ, M, O, π, pr, _, h, e1, fun v H1 M1 x1 s1 r1 => q σ H1 M1 x1 s1⟩
  · cases e
theorem ds_doc {x j pos'} : DS X (.Expr (.Constant (.str x) j pos) pos') mNext := PS.imp ps_doc fun D σ H ⟨ρ, M, O, π, fl, ρ', h, e, q⟩ => by
  cases e
  exact q σ H M (.refl h) h

/-! ### methods that change a name's list -/
/-- x.append(e), as an expression -/
def mApp (i : Nat) (me : ME) : ME := fun ρ => match ρ[i]? with
  | some (some (.own .dic _)) => none
  | some (some (.own _ _)) => match me ρ with
    | some (pr, ρ1) => match frz ρ1 pr with
      | some (d, ρ2) => match ρ2[i]? with
        | some (some (.own .dic _)) => none
        | some (some (.own b ds)) => if fits (ds.length + 1) = true then some (.val (.imm .none), ρ2.set i (some (.own b (ds ++ [d])))) else none
        | _ => none
      | none => none
    | none => none
  | _ => none
theorem de_app {i : Nat} (h : ∀ t, PA X [e] t → PE X st_e (tBM X.K "list" rAppend (tVar i) t)) (he : DE X e me) (hs : starEach (e :: []) X.env = (false, eval e X.env) :: starEach [] X.env := by rfl) : DE X st_e (mApp i me) :=
  PE.imp (h _ (pa_cons he pa_nil hs)) fun σ H Q ⟨ρ, M, O, π, fl, ρ', h, e, q⟩ => by
    unfold mApp at e
    split at e
    · cases e
    · rename_i b0 ds0 hne0 e0
      obtain ⟨a, vs, f1, f2, f3, f4, f5, f6⟩ := h.ownL e0 (isL_of hne0)
      refine ⟨.ref a, f1, .inl ⟨rfl, vs, .inl (.inl f2)⟩, ?_⟩
      split at e
      · rename_i pr ρ1 e1
        split at e
        · rename_i d ρ2 e2
          split at e
          · cases e
          · rename_i b ds hne3 e3
            split at e
            · rename_i hz
              cases e
              refine ⟨ρ, M, O, π, pr, ρ1, h, e1, fun v H1 M1 x1 s1 r1 => ?_⟩
              obtain ⟨M2, x2, s2, r2⟩ := frz_ok s1 r1 e2
              obtain ⟨a', ws, g1, g2, g3, g4, g5, g6⟩ := s2.ownL e3 (isL_of hne3)
              rw [f1] at g1; cases g1
              obtain ⟨s3, x3, t3⟩ := s2.write (ws := ws ++ [v]) (es := ds ++ [d]) e3 (isL_of hne3) f1 (g5.append (.cons r2 .nil))
              exact ⟨a, ws, v, rfl, rfl, g2, by have := fits_le hz; rw [g5.length]; omega, q _ _ M2 ((x1.trans x2).trans x3) s3 .non⟩
            · cases e
          · cases e
        · cases e
      · cases e
    · cases e
/-- x.pop(k) -/
def mPopAt (i : Nat) (me : ME) : ME := fun ρ => match ρ[i]? with
  | some (some (.own .dic _)) => none
  | some (some (.own _ _)) => match me ρ with
    | some (pr, ρ1) => match peek ρ1 pr with
      | some (.int k) => match ρ1[i]? with
        | some (some (.own .dic _)) => none
        | some (some (.own b ds)) => match seqIndex? k ds.length with
          | some j => match ds[j]? with
            | some d => if decide (-(2 ^ 63) ≤ k ∧ k < 2 ^ 63) = true then some (.val (.imm d), ρ1.set i (some (.own b (ds.eraseIdx j)))) else none
            | none => none
          | none => none
        | _ => none
      | _ => none
    | none => none
  | _ => none
theorem de_popAt {i : Nat} (h : ∀ t, PA X [e] t → PE X st_e (tBM X.K "list" rPopAt (tVar i) t)) (he : DE X e me) (hs : starEach (e :: []) X.env = (false, eval e X.env) :: starEach [] X.env := by rfl) : DE X st_e (mPopAt i me) :=
  PE.imp (h _ (pa_cons he pa_nil hs)) fun σ H Q ⟨ρ, M, O, π, fl, ρ', h, e, q⟩ => by
    unfold mPopAt at e
    split at e
    · cases e
    · rename_i b0 ds0 hne0 e0
      obtain ⟨a, vs, f1, f2, f3, f4, f5, f6⟩ := h.ownL e0 (isL_of hne0)
      refine ⟨.ref a, f1, .inl ⟨rfl, vs, .inl (.inl f2)⟩, ?_⟩
      split at e
      · rename_i pr ρ1 e1
        split at e
        · rename_i k e2
          split at e
          · cases e
          · rename_i b ds hne3 e3
            split at e
            · rename_i j ej
              split at e
              · rename_i d ed
                split at e
                · rename_i hz
                  cases e
                  have hz' := of_decide_eq_true hz
                  refine ⟨ρ, M, O, π, pr, ρ1, h, e1, fun v H1 M1 x1 s1 r1 => ?_⟩
                  obtain ⟨a', ws, g1, g2, g3, g4, g5, g6⟩ := s1.ownL e3 (isL_of hne3)
                  rw [f1] at g1; cases g1
                  obtain ⟨w, hw, rw'⟩ := g5.get ed
                  obtain ⟨s3, x3, t3⟩ := s1.write (ws := ws.eraseIdx j) (es := ds.eraseIdx j) e3 (isL_of hne3) f1 (g5.erase j)
                  exact ⟨a, ws, k, j, w, rfl, by rw [(peek_vw s1 r1 e2).inI], g2, hz'.1, hz'.2, by rw [g5.length]; exact ej, hw, q _ _ M1 (x1.trans x3) s3 (rw'.tr t3)⟩
                · cases e
              · cases e
            · cases e
          · cases e
        · cases e
      · cases e
    · cases e
/-- x[k] = e -/
def mStore (i : Nat) (mk me : ME) : MS := fun ρ => match me ρ with
  | some (pr, ρ1) => match frz ρ1 pr with
    | some (d, ρ2) => match ρ2[i]? with
      | some (some (.own .dic _)) => none
      | some (some (.own _ _)) => match mk ρ2 with
        | some (pk, ρ3) => match peek ρ3 pk with
          | some (.int k) => match ρ3[i]? with
            | some (some (.own .dic _)) => none
            | some (some (.own b ds)) => match ixN ds.length k with
              | some j => some (.next, ρ3.set i (some (.own b (ds.set j d))))
              | none => none
            | _ => none
          | _ => none
        | none => none
      | _ => none
    | none => none
  | none => none
theorem ds_store {i : Nat} {k : Expr} {mk : ME} (h : ∀ te tk, PE X e te → PE X k tk → PS X st (tAsg te (gSub (tVar i) tk rSetL))) (he : DE X e me) (hk : DE X k mk) : DS X st (mStore i mk me) :=
  PS.imp (h _ _ he hk) fun D σ H ⟨ρ, M, O, π, fl, ρ', h, e, q⟩ => by
    unfold mStore at e
    split at e
    · rename_i pr ρ1 e1
      split at e
      · rename_i d ρ2 e2
        split at e
        · cases e
        · rename_i b0 ds0 hne0 e0
          split at e
          · rename_i pk ρ3 e3
            split at e
            · rename_i k e4
              split at e
              · cases e
              · rename_i b ds hne5 e5
                split at e
                · rename_i j ej
                  cases e
                  refine ⟨ρ, M, O, π, pr, ρ1, h, e1, fun v H1 M1 x1 s1 r1 => ?_⟩
                  obtain ⟨M2, x2, s2, r2⟩ := frz_ok s1 r1 e2
                  obtain ⟨a, vs, f1, f2, f3, f4, f5, f6⟩ := s2.ownL e0 (isL_of hne0)
                  refine ⟨.ref a, f1, ρ2, M2, O, π, pk, ρ3, s2, e3, fun w H3 M3 x3 s3 r3 => ?_⟩
                  obtain ⟨a', ws, g1, g2, g3, g4, g5, g6⟩ := s3.ownL e5 (isL_of hne5)
                  rw [f1] at g1; cases g1
                  obtain ⟨s4, x4, t4⟩ := s3.write (ws := ws.set j v) (es := ds.set j d) e5 (isL_of hne5) f1 (g5.set j (r2.tr x3.tr))
                  exact ⟨a, ws, k, j, rfl, (peek_vw s3 r3 e4).inI, g2, by rw [g5.length]; exact ej, q _ _ M3 (((x1.trans x2).trans x3).trans x4) s4⟩
                · cases e
              · cases e
            · cases e
          · cases e
        · cases e
      · cases e
    · cases e
end
end Vi

namespace Vi
open PySem PySem.Spec PyProof.Rows L2

/-- what was fixed stays -/
abbrev Lat (H0 : Hp) (M0 : Mset) (H : Hp) (M : Mset) : Prop := ∀ a u, Rd H0 a u → ¬ M0 a → Rd H a u ∧ ¬ M a
theorem Lat.trans {H0 H1 H2 : Hp} {M0 M1 M2 : Mset} (a : Lat H0 M0 H1 M1) (b : Lat H1 M1 H2 M2) : Lat H0 M0 H2 M2 := fun x u h n => b x u (a x u h n).1 (a x u h n).2

/-! ### targets -/
abbrev MG := D → Fm → Option Fm
def tG (K : PySem.W.Frag) (m : MG) (ts : List Nat) : TG := fun v σ H Q => ∃ ρ M O π d ρ', SR K H M O π ρ σ ∧ Rep K H M v d ∧ m d ρ = some ρ' ∧ ∀ σ', SR K H M O π ρ' σ' → (∀ j, j ∉ ts → σ'[j]? = σ[j]?) → σ'.length = σ.length → Q σ' H
def DG (X : Cx) (tg : Expr) (m : MG) (ts : List Nat) : Prop := PG X tg (tG X.K m ts)
theorem _root_.L2.PG.imp {X : Cx} {e : Expr} {t t' : TG} (h : PG X e t) (i : ∀ v σ H Q, t' v σ H Q → t v σ H Q) : PG X e t' := ⟨fun pins s σ H v u Q I r q => h.run pins s σ H v u Q I r (i v σ H Q q)⟩
theorem _root_.L2.PGs.imp {X : Cx} {e : List Expr} {t t' : TGs} (h : PGs X e t) (i : ∀ v σ H Q, t' v σ H Q → t v σ H Q) : PGs X e t' := ⟨fun pins s σ H v u Q I r q => h.run pins s σ H v u Q I r (i v σ H Q q)⟩
def mN (i : Nat) : MG := fun d ρ => some (ρ.set i (some (.imm d)))
section
variable {X : Cx} {tg e : Expr} {es : List Expr} {pos : Pos}
theorem dg_name {i : Nat} (h : PG X e (gName i)) : DG X e (mN i) [i] := PG.imp h fun v σ H Q ⟨ρ, M, O, π, d, ρ', hs, r, e, q⟩ => by
  cases e
  exact q _ (hs.setImm r) (fun j hj => List.getElem?_set_ne (fun z => hj (by simp [z]))) (List.length_set ..)
abbrev MGs := List D → Fm → Option Fm
def tGs (K : PySem.W.Frag) (m : MGs) (ts : List Nat) : TGs := fun vs σ H Q => ∃ ρ M O π ds ρ', SR K H M O π ρ σ ∧ Reps K H M vs ds ∧ m ds ρ = some ρ' ∧ ∀ σ', SR K H M O π ρ' σ' → (∀ j, j ∉ ts → σ'[j]? = σ[j]?) → σ'.length = σ.length → Q σ' H
def DGs (X : Cx) (tg : List Expr) (m : MGs) (ts : List Nat) : Prop := PGs X tg (tGs X.K m ts)
def mGnil : MGs := fun ds ρ => match ds with
  | [] => some ρ
  | _ :: _ => none
def mGcons (m : MG) (n : MGs) : MGs := fun ds ρ => match ds with
  | [] => none
  | d :: ds => match m d ρ with
    | some ρ1 => n ds ρ1
    | none => none
theorem dgs_nil : DGs X [] mGnil [] := PGs.imp pgs_nil fun vs σ H Q ⟨ρ, M, O, π, ds, ρ', hs, r, e, q⟩ => by
  unfold mGnil at e
  split at e
  · cases e
    cases r
    exact ⟨rfl, q σ hs (fun _ _ => rfl) rfl⟩
  · cases e
theorem dgs_cons {m : MG} {n : MGs} {ts us : List Nat} (h1 : DG X e m ts) (h2 : DGs X es n us) (hs : (assignEach (e :: es) X.env).map (·.2) = assign e X.env :: (assignEach es X.env).map (·.2) := by rfl) : DGs X (e :: es) (mGcons m n) (ts ++ us) :=
  PGs.imp (pgs_cons h1 h2 hs) fun vs σ H Q ⟨ρ, M, O, π, ds, ρ', hs, r, e, q⟩ => by
    unfold mGcons at e
    split at e
    · cases e
    · rename_i d ds
      cases r with
      | @cons v vs d ds rv rr =>
        split at e
        · rename_i ρ1 e1
          refine ⟨v, vs, rfl, ρ, M, O, π, d, ρ1, hs, rv, e1, fun σ1 s1 f1 l1 => ⟨ρ1, M, O, π, ds, ρ', s1, rr, e, fun σ2 s2 f2 l2 => q σ2 s2 (fun j hj => ?_) (l2.trans l1)⟩⟩
          rw [List.mem_append, not_or] at hj
          rw [f2 j hj.2, f1 j hj.1]
        · cases e
def mGtup (k : Nat) (n : MGs) : MG := fun d ρ => match d with
  | .tuple ds => if ds.length = k then n ds ρ else none
  | _ => none
theorem dg_tup {k : Nat} {n : MGs} {ts : List Nat} {kk : Nat} (hc : X.calm = true) (h : DGs X es n ts) (hn : (assignEach es X.env).length = k := by rfl) (hst : (assignEach es X.env).findIdx? (·.1) = none := by rfl) : DG X (.Tuple es kk pos) (mGtup k n) ts :=
  PG.imp (pg_tup hc h hn hst) fun v σ H Q ⟨ρ, M, O, π, d, ρ', hs, r, e, q⟩ => by
    unfold mGtup at e
    split at e
    · rename_i ds
      split at e
      · rename_i hl
        cases r with
        | tup ht rr => exact ⟨_, _, rfl, ht.sq, by rw [rr.length]; exact hl, ρ, M, O, π, ds, ρ', hs, rr, e, q⟩
      · cases e
    · cases e

/-! ### what is walked -/
def YD (K : PySem.W.Frag) (H : Hp) (M : Mset) (x : V) (H' : Hp) (d : D) : Prop :=
  (H' = H ∧ Rep K H M x d) ∨ ∃ T vs es, x = .ref T ∧ H T = none ∧ H' = upd H T (.tup vs) ∧ d = .tuple es ∧ Reps K H M vs es
structure Src (K : PySem.W.Frag) (J : It) (ds : List D) (H0 : Hp) (M0 : Mset) : Prop where
  go : ∀ H M, Lat H0 M0 H M → ∀ i, i < ds.length → J.go i H
  stop : ∀ H M, Lat H0 M0 H M → J.stop ds.length H
  yld : ∀ H M, Lat H0 M0 H M → ∀ (i : Nat) d x H', ds[i]? = some d → J.yld i H x H' → YD K H M x H' d
theorem YD.ok {K : PySem.W.Frag} {H : Hp} {M O : Mset} {π : Nat → Option Addr} {ρ : Fm} {σ : St} {x : V} {H' : Hp} {d : D} (y : YD K H M x H' d) (h : SR K H M O π ρ σ) : SR K H' M O π ρ σ ∧ Ext O H M H' M ∧ Rep K H' M x d := by
  rcases y with ⟨rfl, r⟩ | ⟨T, vs, es, rfl, hT, rfl, rfl, r⟩
  · exact ⟨h, .refl h, r⟩
  · exact ⟨h.alloc hT, .alloc h hT, .tup (.inl ⟨.inl upd_same, fun z => h.live T z hT⟩) (r.tr (alloc_tr h hT))⟩
abbrev MI := Fm → Option (List D × Fm)
def tI (K : PySem.W.Frag) (m : MI) : TI := fun σ H R => ∃ ρ M O π ds ρ', SR K H M O π ρ σ ∧ m ρ = some (ds, ρ') ∧ ∀ J H' M', Ext O H M H' M' → SR K H' M' O π ρ' σ → Src K J ds H' M' → R J H'
def DI (X : Cx) (tg iter : Expr) (m : MI) : Prop := PI X tg iter (tI X.K m)
theorem _root_.L2.PI.imp {X : Cx} {tg e : Expr} {t t' : TI} (h : PI X tg e t) (i : ∀ σ H Q, t' σ H Q → t σ H Q) : PI X tg e t' := ⟨fun pins s σ H Q I q => h.run pins s σ H Q I (i σ H Q q)⟩
def iSeq (K : PySem.W.Frag) (tl : TE) : TI := fun σ H R => tl σ H fun x H1 => ∃ a, x = .ref a ∧ (((∃ xs, SqL K H1 a xs) ∧ R (Itl K a) H1) ∨ ((∃ xs, SqT K H1 a xs) ∧ R (Itt K a) H1))
theorem pi_seq {l : Expr} {tl : TE} (hl : PE X l tl) : PI X tg l (iSeq X.K tl) := by
  refine ⟨fun pins s σ H R I h => ?_⟩
  refine thn (hl.run pins s σ H _ I h) fun v s1 ⟨x, H1, I1, r1, q1⟩ => ?_
  obtain ⟨a, e, q1⟩ := q1
  subst e
  cases r1
  rcases q1 with ⟨⟨xs, hq⟩, q⟩ | ⟨⟨xs, hq⟩, q⟩
  · obtain ⟨its, rv, p, hz⟩ := I1.list hq
    refine wpAny_pyIter_list p.isList ?_
    refine ⟨s1.heap.objs.size, [s1.heap.objs.size], _, _, H1, rfl, I1.kept (t' := s1.toks) fun b o e => Heap.get?_push_of_some _ e, turn_list a _, ⟨_, Heap.get?_push_size _ rfl, rfl, rfl⟩, fun b hb => ?_, q⟩
    have e : b = s1.heap.objs.size := by simpa using hb
    subst e
    exact I1.fpOk (Nat.le_refl _) (I1.hok.fresh (Nat.le_refl _))
  · obtain ⟨its, rv, p, hz⟩ := I1.tuple hq
    refine wpAny_pyIter_tuple (show s1.heap.IsTuple a its.toArray from p) ?_
    refine ⟨s1.heap.objs.size, [s1.heap.objs.size], _, _, H1, rfl, I1.kept (t' := s1.toks) fun b o e => Heap.get?_push_of_some _ e, turn_tuple a _, ⟨_, Heap.get?_push_size _ rfl, rfl, rfl⟩, fun b hb => ?_, q⟩
    have e : b = s1.heap.objs.size := by simpa using hb
    subst e
    exact I1.fpOk (Nat.le_refl _) (I1.hok.fresh (Nat.le_refl _))
theorem src_list {K : PySem.W.Frag} {H0 : Hp} {M0 : Mset} {a : Addr} {vs : List V} {ds : List D} (h : Rd H0 a (.lst vs)) (n : ¬ M0 a) (r : Reps K H0 M0 vs ds) : Src K (Itl K a) ds H0 M0 where
  go := fun H M l i hi => walk_list.goes i H (by rw [r.length]; exact hi) (.inl (l a _ h n).1)
  stop := fun H M l => by rw [← r.length]; exact walk_list.stops H (.inl (l a _ h n).1)
  yld := fun H M l i d x H' ed y => by
    obtain ⟨v, hv, rv⟩ := r.get ed
    obtain ⟨e1, e2⟩ := walk_list.yields i H x H' (by rw [r.length]; exact (List.getElem?_eq_some_iff.mp ed).1) (.inl (l a _ h n).1) y
    rw [hv] at e2; cases e2
    exact .inl ⟨e1, rv.tr l⟩
theorem tupAt_lat {K : PySem.W.Frag} {H0 H : Hp} {M0 M : Mset} {a : Addr} {vs : List V} (h : TupAt K H0 M0 a vs) (l : Lat H0 M0 H M) : SqT K H a vs := by
  rcases h with ⟨h, n⟩ | h
  · exact .inl (l a _ h n).1
  · exact .inr h
theorem src_tup {K : PySem.W.Frag} {H0 : Hp} {M0 : Mset} {a : Addr} {vs : List V} {ds : List D} (h : TupAt K H0 M0 a vs) (r : Reps K H0 M0 vs ds) : Src K (Itt K a) ds H0 M0 where
  go := fun H M l i hi => walk_tup.goes i H (by rw [r.length]; exact hi) (tupAt_lat h l)
  stop := fun H M l => by rw [← r.length]; exact walk_tup.stops H (tupAt_lat h l)
  yld := fun H M l i d x H' ed y => by
    obtain ⟨v, hv, rv⟩ := r.get ed
    obtain ⟨e1, e2⟩ := walk_tup.yields i H x H' (by rw [r.length]; exact (List.getElem?_eq_some_iff.mp ed).1) (tupAt_lat h l) y
    rw [hv] at e2; cases e2
    exact .inl ⟨e1, rv.tr l⟩
def itemsOf : D → Option (List D)
  | .list ds => some ds
  | .tuple ds => some ds
  | _ => none
def mISeq (me : ME) : MI := fun ρ => match me ρ with
  | some (pr, ρ1) => match frz ρ1 pr with
    | some (d, ρ2) => match itemsOf d with
      | some ds => some (ds, ρ2)
      | none => none
    | none => none
  | none => none
theorem di_seq {me : ME} (he : DE X e me) : DI X tg e (mISeq me) := PI.imp (pi_seq he) fun σ H R ⟨ρ, M, O, π, ds, ρ', h, e, q⟩ => by
  unfold mISeq at e
  split at e
  · rename_i pr ρ1 e1
    split at e
    · rename_i d ρ2 e2
      split at e
      · rename_i ds' e3
        cases e
        refine ⟨ρ, M, O, π, pr, ρ1, h, e1, fun v H1 M1 x1 s1 r1 => ?_⟩
        obtain ⟨M2, x2, s2, r2⟩ := frz_ok s1 r1 e2
        unfold itemsOf at e3
        split at e3
        · cases e3
          cases r2 with
          | lst hr n rr => exact ⟨_, rfl, .inl ⟨⟨_, .inl hr⟩, q _ H1 M2 (x1.trans x2) s2 (src_list hr n rr)⟩⟩
        · cases e3
          cases r2 with
          | tup ht rr => exact ⟨_, rfl, .inr ⟨⟨_, ht.sq⟩, q _ H1 M2 (x1.trans x2) s2 (src_tup ht rr)⟩⟩
        · cases e3
      · cases e
    · cases e
  · cases e
/-- range -/
def rngD (lo : Int) (n : Nat) : List D := (List.range n).map fun k => .int (lo + (k : Nat))
theorem rngD_len (lo : Int) (n : Nat) : (rngD lo n).length = n := by unfold rngD; simp
theorem src_rng {K : PySem.W.Frag} {H0 : Hp} {M0 : Mset} {lo : Int} {n : Nat} : Src K (Itr lo n) (rngD lo n) H0 M0 where
  go := fun H M l i hi => by rw [rngD_len] at hi; exact hi
  stop := fun H M l => by rw [rngD_len]; exact Nat.le_refl _
  yld := fun H M l i d x H' ed y => by
    obtain ⟨e1, e2⟩ := y
    subst e2
    refine .inl ⟨e1, ?_⟩
    unfold rngD at ed
    rw [List.getElem?_map] at ed
    obtain ⟨k, ek, rfl⟩ := Option.map_eq_some_iff.mp ed
    have hk : k = i := by
      obtain ⟨h1, h2⟩ := List.getElem?_eq_some_iff.mp ek
      simpa using h2.symm
    subst hk
    exact .int _
def rngOk (i : Int) : Bool := decide (-(2 ^ 62) ≤ i ∧ i < 2 ^ 62)
def mIRng1 (ma : MA) : MI := fun ρ => match ma ρ with
  | some ([.int j], ρ1) => if rngOk j = true then some (rngD 0 j.toNat, ρ1) else none
  | _ => none
def mIRng2 (ma : MA) : MI := fun ρ => match ma ρ with
  | some ([.int i, .int j], ρ1) => if (rngOk i && rngOk j) = true then some (rngD i (j - i).toNat, ρ1) else none
  | _ => none
theorem di_rng1 {a : Expr} {ma : MA} {p : Pos} (hg : Gl X "range") (hm : X.mg "range" = none) (ha : DA X [a] ma) (hs : starEach [a] X.env = [(false, eval a X.env)] := by rfl) : DI X tg (.Call (.Name "range" p) [a] [] pos) (mIRng1 ma) :=
  PI.imp (pi_range1 hg hm ha hs) fun σ H R ⟨ρ, M, O, π, ds, ρ', h, e, q⟩ => by
    unfold mIRng1 at e
    split at e
    · rename_i j ρ1 e1
      split at e
      · rename_i hz
        cases e
        have hz' := of_decide_eq_true hz
        refine ⟨ρ, M, O, π, _, _, h, e1, fun vs H1 M1 x1 s1 r1 => ?_⟩
        cases r1 with
        | cons rv rr =>
          cases rr
          cases rv
          exact ⟨j, rfl, hz'.1, hz'.2, q _ H1 M1 x1 s1 src_rng⟩
      · cases e
    · cases e
theorem di_rng2 {a b : Expr} {ma : MA} {p : Pos} (hg : Gl X "range") (hm : X.mg "range" = none) (ha : DA X [a, b] ma) (hs : starEach [a, b] X.env = [(false, eval a X.env), (false, eval b X.env)] := by rfl) (hs2 : starEach [b] X.env = [(false, eval b X.env)] := by rfl) : DI X tg (.Call (.Name "range" p) [a, b] [] pos) (mIRng2 ma) :=
  PI.imp (pi_range2 hg hm ha hs hs2) fun σ H R ⟨ρ, M, O, π, ds, ρ', h, e, q⟩ => by
    unfold mIRng2 at e
    split at e
    · rename_i i j ρ1 e1
      split at e
      · rename_i hz
        cases e
        rw [Bool.and_eq_true] at hz
        have hz1 := of_decide_eq_true hz.1
        have hz2 := of_decide_eq_true hz.2
        refine ⟨ρ, M, O, π, _, _, h, e1, fun vs H1 M1 x1 s1 r1 => ?_⟩
        cases r1 with
        | cons rv rr =>
          cases rr with
          | cons rw' rr =>
            cases rr
            cases rv
            cases rw'
            exact ⟨i, j, rfl, ⟨hz1.1, hz1.2, hz2.1, hz2.2⟩, q _ H1 M1 x1 s1 src_rng⟩
      · cases e
    · cases e
/-- zip, enumerate -/
def zipD : List D → List D → List D
  | x :: xs, y :: ys => .tuple [x, y] :: zipD xs ys
  | _, _ => []
theorem zipD_len : ∀ xs ys : List D, (zipD xs ys).length = min xs.length ys.length
  | [], _ => by simp [zipD]
  | _ :: _, [] => by simp [zipD]
  | x :: xs, y :: ys => by
    show (zipD xs ys).length + 1 = min (xs.length + 1) (ys.length + 1)
    rw [zipD_len xs ys]; omega
theorem zipD_get : ∀ {xs ys : List D} {i : Nat} {d : D}, (zipD xs ys)[i]? = some d → ∃ x y, xs[i]? = some x ∧ ys[i]? = some y ∧ d = .tuple [x, y]
  | [], _, _, _, h => by simp [zipD] at h
  | _ :: _, [], _, _, h => by simp [zipD] at h
  | x :: xs, y :: ys, 0, d, h => ⟨x, y, rfl, rfl, (Option.some.inj (show some (PyData.tuple [x, y]) = some d from h)).symm⟩
  | x :: xs, y :: ys, i + 1, d, h => by
    obtain ⟨a, b, h1, h2, h3⟩ := zipD_get (xs := xs) (ys := ys) (i := i) (d := d) (by simpa [zipD] using h)
    exact ⟨a, b, by simpa using h1, by simpa using h2, h3⟩
theorem yd_pair {K : PySem.W.Frag} {H : Hp} {M : Mset} {x : V} {H' : Hp} {f g : Nat → Option V} {i : Nat} {a b : D} {va vb : V} (y : YPair f g i H x H') (ha : f i = some va) (hb : g i = some vb) (ra : Rep K H M va a) (rb : Rep K H M vb b) : YD K H M x H' (.tuple [a, b]) := by
  obtain ⟨T, p, q, rfl, hT, rfl, h1, h2⟩ := y
  rw [ha] at h1; cases h1
  rw [hb] at h2; cases h2
  exact .inr ⟨T, _, _, rfl, hT, rfl, rfl, .cons ra (.cons rb .nil)⟩
theorem src_zipL {K : PySem.W.Frag} {H0 : Hp} {M0 : Mset} {a b : Addr} {vs ws : List V} {xs ys : List D} (h : Rd H0 a (.lst vs)) (n : ¬ M0 a) (r : Reps K H0 M0 vs xs) (h2 : Rd H0 b (.lst ws)) (n2 : ¬ M0 b) (r2 : Reps K H0 M0 ws ys) : Src K (Itz K a b) (zipD xs ys) H0 M0 := by
  have W := walk_zip (K := K) (a := a) (b := b) (xs := vs) (ys := ws) rfl
  have G : ∀ {H : Hp} {M : Mset}, Lat H0 M0 H M → SqL K H a vs ∧ SqL K H b ws := fun l => ⟨.inl (l a _ h n).1, .inl (l b _ h2 n2).1⟩
  refine ⟨fun H M l i hi => W.goes i H (by rw [r.length, r2.length, ← zipD_len]; exact hi) (G l), fun H M l => by rw [zipD_len, ← r.length, ← r2.length]; exact W.stops H (G l), fun H M l i d x H' ed y => ?_⟩
  obtain ⟨p, q, e1, e2, rfl⟩ := zipD_get ed
  obtain ⟨v, hv, rv⟩ := r.get e1
  obtain ⟨w, hw, rw'⟩ := r2.get e2
  exact yd_pair (W.yields i H x H' (by rw [r.length, r2.length, ← zipD_len]; exact (List.getElem?_eq_some_iff.mp ed).1) (G l) y) hv hw (rv.tr l) (rw'.tr l)
theorem src_zipT {K : PySem.W.Frag} {H0 : Hp} {M0 : Mset} {a b : Addr} {vs ws : List V} {xs ys : List D} (h : TupAt K H0 M0 a vs) (r : Reps K H0 M0 vs xs) (h2 : TupAt K H0 M0 b ws) (r2 : Reps K H0 M0 ws ys) : Src K (RZ.ItzT K a b) (zipD xs ys) H0 M0 := by
  refine ⟨fun H M l i hi => ?_, fun H M l => ⟨vs, ws, tupAt_lat h l, tupAt_lat h2 l, ?_⟩, fun H M l i d x H' ed y => ?_⟩
  · rw [zipD_len, ← r.length, ← r2.length] at hi
    have h1 : i < vs.length := by omega
    have h3 : i < ws.length := by omega
    exact ⟨vs, ws, vs[i], ws[i], tupAt_lat h l, tupAt_lat h2 l, by simp [h1], by simp [h3]⟩
  · rw [zipD_len, ← r.length, ← r2.length]; omega
  · obtain ⟨p, q, e1, e2, rfl⟩ := zipD_get ed
    obtain ⟨v, hv, rv⟩ := r.get e1
    obtain ⟨w, hw, rw'⟩ := r2.get e2
    obtain ⟨T, vx, vy, rfl, hT, rfl, f1, f2⟩ := y
    have g1 := f1 vs (tupAt_lat h l)
    have g2 := f2 ws (tupAt_lat h2 l)
    rw [hv] at g1; cases g1
    rw [hw] at g2; cases g2
    exact .inr ⟨T, _, _, rfl, hT, rfl, rfl, .cons (rv.tr l) (.cons (rw'.tr l) .nil)⟩
def mIZip (ma : MA) : MI := fun ρ => match ma ρ with
  | some ([.list xs, .list ys], ρ1) => some (zipD xs ys, ρ1)
  | some ([.tuple xs, .tuple ys], ρ1) => some (zipD xs ys, ρ1)
  | _ => none
theorem di_zip {a b : Expr} {ma : MA} {p tpos : Pos} {elts : List Expr} {kk : Nat} (hg : Gl X "zip") (hm : X.mg "zip" = none) (ha : DA X [a, b] ma)
    (hs : starEach [a, b] X.env = (false, eval a X.env) :: starEach [b] X.env := by rfl) (hpl : (backTo pos (starEach [b] X.env)).any (·.1) = false := by rfl) : DI X (.Tuple elts kk tpos) (.Call (.Name "zip" p) [a, b] [] pos) (mIZip ma) :=
  PI.imp (RZ.pi_zipA hg hm ha hs hpl) fun σ H R ⟨ρ, M, O, π, ds, ρ', h, e, q⟩ => by
    unfold mIZip at e
    split at e
    · rename_i xs ys ρ1 e1
      cases e
      refine ⟨ρ, M, O, π, _, _, h, e1, fun vs H1 M1 x1 s1 r1 => ?_⟩
      cases r1 with
      | cons rv rr =>
        cases rr with
        | cons rw' rr =>
          cases rr
          cases rv with
          | lst hr n rr => cases rw' with
            | lst hr2 n2 rr2 => exact ⟨_, _, _, _, rfl, .inl ⟨.inl hr, .inl hr2, q _ H1 M1 x1 s1 (src_zipL hr n rr hr2 n2 rr2)⟩⟩
    · rename_i xs ys ρ1 e1
      cases e
      refine ⟨ρ, M, O, π, _, _, h, e1, fun vs H1 M1 x1 s1 r1 => ?_⟩
      cases r1 with
      | cons rv rr =>
        cases rr with
        | cons rw' rr =>
          cases rr
          cases rv with
          | tup hr rr => cases rw' with
            | tup hr2 rr2 => exact ⟨_, _, _, _, rfl, .inr ⟨hr.sq, hr2.sq, q _ H1 M1 x1 s1 (src_zipT hr rr hr2 rr2)⟩⟩
    · cases e
def enumD (k : Nat) : List D → List D
  | [] => []
  | x :: xs => .tuple [.int (k : Nat), x] :: enumD (k + 1) xs
theorem enumD_len : ∀ (k : Nat) (xs : List D), (enumD k xs).length = xs.length
  | _, [] => rfl
  | k, x :: xs => by show (enumD (k + 1) xs).length + 1 = _; rw [enumD_len (k + 1) xs]; rfl
theorem enumD_get : ∀ {k : Nat} {xs : List D} {i : Nat} {d : D}, (enumD k xs)[i]? = some d → ∃ x, xs[i]? = some x ∧ d = .tuple [.int ((k + i : Nat) : Int), x]
  | _, [], _, _, h => by simp [enumD] at h
  | k, x :: xs, 0, d, h => ⟨x, rfl, (Option.some.inj (show some (PyData.tuple [.int (k : Nat), x]) = some d from h)).symm⟩
  | k, x :: xs, i + 1, d, h => by
    obtain ⟨a, h1, h2⟩ := enumD_get (k := k + 1) (xs := xs) (i := i) (d := d) (by simpa [enumD] using h)
    exact ⟨a, by simpa using h1, by rw [h2, show k + 1 + i = k + (i + 1) by omega]⟩
theorem src_enumL {K : PySem.W.Frag} {H0 : Hp} {M0 : Mset} {a : Addr} {vs : List V} {xs : List D} (h : Rd H0 a (.lst vs)) (n : ¬ M0 a) (r : Reps K H0 M0 vs xs) : Src K (Ite K a) (enumD 0 xs) H0 M0 := by
  have W := walk_enum (K := K) (a := a) (xs := vs)
  refine ⟨fun H M l i hi => W.goes i H (by rw [r.length, ← enumD_len 0]; exact hi) (.inl (l a _ h n).1), fun H M l => by rw [enumD_len, ← r.length]; exact W.stops H (.inl (l a _ h n).1), fun H M l i d x H' ed y => ?_⟩
  obtain ⟨p, e1, rfl⟩ := enumD_get ed
  obtain ⟨v, hv, rv⟩ := r.get e1
  rw [Nat.zero_add]
  exact yd_pair (W.yields i H x H' (by rw [r.length, ← enumD_len 0]; exact (List.getElem?_eq_some_iff.mp ed).1) (.inl (l a _ h n).1) y) rfl hv (.int _) (rv.tr l)
end

/-! ### for, while -/
section
variable {X : Cx} {tg iter c : Expr} {body : List Stmt} {pos : Pos} {mi : MI} {mg : MG} {mb : MS} {mt : MT} {ts : List Nat}
def loop (mg : MG) (mb : MS) : List D → Fm → Option (Fl × Fm)
  | [], ρ => some (.next, ρ)
  | d :: ds, ρ => match mg d ρ with
    | some ρ1 => match mb ρ1 with
      | some (.next, ρ2) => loop mg mb ds ρ2
      | some (.cont, ρ2) => loop mg mb ds ρ2
      | some (.brk, ρ2) => some (.next, ρ2)
      | some (.ret r, ρ2) => some (.ret r, ρ2)
      | none => none
    | none => none
def mFor (mi : MI) (mg : MG) (mb : MS) : MS := fun ρ => match mi ρ with
  | some (ds, ρ1) => loop mg mb ds ρ1
  | none => none
theorem ds_for (hp : PassesOwn (model X.prog X.w) X.A X.env X.xe) (hc : X.calm = true) (hi : DI X tg iter mi) (hg : DG X tg mg ts) (hb : DSs X body mb) (hs : ∀ x, foldedSetIterable iter X.env x = pure x := by intro _; rfl) : DS X (.For tg iter body [] pos) (mFor mi mg mb) :=
  PS.imp (ps_for hp hc hi hg hb hs) fun D σ H ⟨ρ, M, O, π, fl, ρ', h, e, q⟩ => by
    unfold mFor at e
    split at e
    · rename_i ds ρ1 e1
      refine ⟨ρ, M, O, π, ds, ρ1, h, e1, fun J H1 M1 x1 s1 src => ?_⟩
      have q1 := q.later (O1 := O) x1
      refine ⟨fun i m σ2 H2 => m = ds.length - i ∧ i ≤ ds.length ∧ ∃ ρ2 M2, SR X.K H2 M2 O π ρ2 σ2 ∧ Ext O H1 M1 H2 M2 ∧ loop mg mb (ds.drop i) ρ2 = some (fl, ρ'), ⟨_, rfl, Nat.zero_le _, ρ1, M1, s1, .refl s1, e⟩, ?_⟩
      rintro i m σ2 H2 ⟨rfl, hi2, ρ2, M2, s2, x2, e2⟩
      by_cases hlt : i < ds.length
      · rw [List.drop_eq_getElem_cons hlt] at e2
        have hd : ds[i]? = some ds[i] := List.getElem?_eq_getElem hlt
        refine .inr ⟨src.go H2 M2 x2.tr i hlt, fun σ3 H3 => ds.length - (i + 1) = ds.length - (i + 1) ∧ i + 1 ≤ ds.length ∧ ∃ ρ3 M3, SR X.K H3 M3 O π ρ3 σ3 ∧ Ext O H1 M1 H3 M3 ∧ loop mg mb (ds.drop (i + 1)) ρ3 = some (fl, ρ'), fun σ3 H3 w => ⟨_, by omega, w⟩, fun x H3 y => ?_⟩
        obtain ⟨s3, x3, r3⟩ := (src.yld H2 M2 x2.tr i _ x H3 hd y).ok s2
        unfold loop at e2
        split at e2
        · rename_i ρ3 e3
          refine ⟨ρ2, M2, O, π, _, ρ3, s3, r3, e3, fun σ4 s4 _ _ => ?_⟩
          have x23 := x2.trans x3
          split at e2
          · rename_i ρ5 e5
            exact ⟨ρ3, M2, O, π, .next, ρ5, s4, e5, fun σ5 H5 M5 x5 s5 => ⟨rfl, hlt, ρ5, M5, s5, x23.trans x5, e2⟩⟩
          · rename_i ρ5 e5
            exact ⟨ρ3, M2, O, π, .cont, ρ5, s4, e5, fun σ5 H5 M5 x5 s5 => ⟨rfl, hlt, ρ5, M5, s5, x23.trans x5, e2⟩⟩
          · rename_i ρ5 e5
            cases e2
            exact ⟨ρ3, M2, O, π, .brk, _, s4, e5, fun σ5 H5 M5 x5 s5 => q1 σ5 H5 M5 (x23.trans x5) s5⟩
          · rename_i r ρ5 e5
            cases e2
            exact ⟨ρ3, M2, O, π, .ret r, _, s4, e5, fun v σ5 H5 M5 x5 s5 rv => q1 v σ5 H5 M5 (x23.trans x5) s5 rv⟩
          · cases e2
        · cases e2
      · have ei : i = ds.length := by omega
        subst ei
        rw [List.drop_length] at e2
        cases e2
        exact .inl ⟨src.stop H2 M2 x2.tr, q1 σ2 H2 M2 x2 s2⟩
    · cases e
def whl (mt : MT) (mb : MS) : Nat → Fm → Option (Fl × Fm)
  | 0, _ => none
  | n + 1, ρ => match mt ρ with
    | some (false, ρ1) => some (.next, ρ1)
    | some (true, ρ1) => match mb ρ1 with
      | some (.next, ρ2) => whl mt mb n ρ2
      | some (.cont, ρ2) => whl mt mb n ρ2
      | some (.brk, ρ2) => some (.next, ρ2)
      | some (.ret r, ρ2) => some (.ret r, ρ2)
      | none => none
    | none => none
theorem ds_while {n : Nat} (hp : PassesOwn (model X.prog X.w) X.A X.env X.xe) (hc : DT X c mt) (hb : DSs X body mb) : DS X (.While c body [] pos) (whl mt mb n) :=
  PS.imp (ps_while hp hc hb) fun D σ H ⟨ρ, M, O, π, fl, ρ', h, e, q⟩ => by
    refine ⟨fun m σ2 H2 => ∃ ρ2 M2, SR X.K H2 M2 O π ρ2 σ2 ∧ Ext O H M H2 M2 ∧ whl mt mb m ρ2 = some (fl, ρ'), ⟨n, ρ, M, h, .refl h, e⟩, ?_⟩
    rintro m σ2 H2 ⟨ρ2, M2, s2, x2, e2⟩
    cases m with
    | zero => cases e2
    | succ m =>
      unfold whl at e2
      split at e2
      · rename_i ρ3 e3
        cases e2
        exact ⟨ρ2, M2, O, π, false, _, s2, e3, fun H3 M3 x3 s3 => iteF (q σ2 H3 M3 (x2.trans x3) s3)⟩
      · rename_i ρ3 e3
        refine ⟨ρ2, M2, O, π, true, ρ3, s2, e3, fun H3 M3 x3 s3 => iteT ?_⟩
        have x23 := x2.trans x3
        refine ⟨fun σ5 H5 => ∃ ρ5 M5, SR X.K H5 M5 O π ρ5 σ5 ∧ Ext O H M H5 M5 ∧ whl mt mb m ρ5 = some (fl, ρ'), fun σ5 H5 w => ⟨m, Nat.lt_succ_self m, w⟩, ?_⟩
        split at e2
        · rename_i ρ5 e5
          exact ⟨ρ3, M3, O, π, .next, ρ5, s3, e5, fun σ5 H5 M5 x5 s5 => ⟨ρ5, M5, s5, x23.trans x5, e2⟩⟩
        · rename_i ρ5 e5
          exact ⟨ρ3, M3, O, π, .cont, ρ5, s3, e5, fun σ5 H5 M5 x5 s5 => ⟨ρ5, M5, s5, x23.trans x5, e2⟩⟩
        · rename_i ρ5 e5
          cases e2
          exact ⟨ρ3, M3, O, π, .brk, _, s3, e5, fun σ5 H5 M5 x5 s5 => q σ5 H5 M5 (x23.trans x5) s5⟩
        · rename_i r ρ5 e5
          cases e2
          exact ⟨ρ3, M3, O, π, .ret r, _, s3, e5, fun v σ5 H5 M5 x5 s5 rv => q v σ5 H5 M5 (x23.trans x5) s5 rv⟩
        · cases e2
      · cases e2
end
end Vi

namespace Vi
open PySem PySem.Spec PyProof.Rows L2

/-! ### slots forgotten and brought back -/
section
variable {α : Type}
def wipeA (l : List (Option α)) : List Nat → List (Option α)
  | [] => l
  | v :: vs => (wipeA l vs).set v none
theorem wipeA_len (l : List (Option α)) : ∀ vs, (wipeA l vs).length = l.length
  | [] => rfl
  | v :: vs => by unfold wipeA; rw [List.length_set, wipeA_len l vs]
theorem wipeA_out {l : List (Option α)} {i : Nat} : ∀ {vs : List Nat}, i ∉ vs → (wipeA l vs)[i]? = l[i]?
  | [], _ => rfl
  | v :: vs, h => by
    rw [List.mem_cons, not_or] at h
    unfold wipeA
    rw [List.getElem?_set_ne (Ne.symm h.1), wipeA_out h.2]
theorem wipeA_in {l : List (Option α)} {i : Nat} : ∀ {vs : List Nat}, i ∈ vs → i < l.length → (wipeA l vs)[i]? = some none
  | [], h, _ => by cases h
  | v :: vs, h, hl => by
    unfold wipeA
    by_cases e : v = i
    · subst e
      rw [List.getElem?_set_self (by rw [wipeA_len]; exact hl)]
    · rw [List.getElem?_set_ne e]
      rcases List.mem_cons.mp h with z | z
      · exact absurd z.symm e
      · exact wipeA_in z hl
theorem wipeA_some {l : List (Option α)} {i : Nat} {x : α} {vs : List Nat} (h : (wipeA l vs)[i]? = some (some x)) : l[i]? = some (some x) ∧ i ∉ vs := by
  by_cases hi : i ∈ vs
  · by_cases hl : i < l.length
    · rw [wipeA_in hi hl] at h; cases h
    · rw [List.getElem?_eq_none (by rw [wipeA_len]; omega)] at h; cases h
  · rw [wipeA_out hi] at h; exact ⟨h, hi⟩
theorem wipeA_ext {l l' : List (Option α)} {vs : List Nat} (h : ∀ j, j ∉ vs → l[j]? = l'[j]?) (hl : l.length = l'.length) : wipeA l vs = wipeA l' vs := by
  apply List.ext_getElem?
  intro i
  by_cases hi : i ∈ vs
  · by_cases hn : i < l.length
    · rw [wipeA_in hi hn, wipeA_in hi (by omega)]
    · rw [List.getElem?_eq_none (by rw [wipeA_len]; omega), List.getElem?_eq_none (by rw [wipeA_len]; omega)]
  · rw [wipeA_out hi, wipeA_out hi, h i hi]
theorem wipe_eq (σ : St) : ∀ vs, wipe σ vs = wipeA σ vs
  | [] => rfl
  | v :: vs => by unfold wipe wipeA; rw [wipe_eq σ vs]
def restA (l l1 : List (Option α)) : List Nat → List (Option α)
  | [] => l
  | v :: vs => (restA l l1 vs).set v ((l1[v]?).getD none)
theorem restA_len (l l1 : List (Option α)) : ∀ vs, (restA l l1 vs).length = l.length
  | [] => rfl
  | v :: vs => by unfold restA; rw [List.length_set, restA_len l l1 vs]
theorem restA_out {l l1 : List (Option α)} {i : Nat} : ∀ {vs : List Nat}, i ∉ vs → (restA l l1 vs)[i]? = l[i]?
  | [], _ => rfl
  | v :: vs, h => by
    rw [List.mem_cons, not_or] at h
    unfold restA
    rw [List.getElem?_set_ne (Ne.symm h.1), restA_out h.2]
theorem restA_in {l l1 : List (Option α)} {i : Nat} : ∀ {vs : List Nat}, i ∈ vs → i < l.length → (restA l l1 vs)[i]? = some ((l1[i]?).getD none)
  | [], h, _ => by cases h
  | v :: vs, h, hl => by
    unfold restA
    by_cases e : v = i
    · subst e
      rw [List.getElem?_set_self (by rw [restA_len]; exact hl)]
    · rw [List.getElem?_set_ne e]
      rcases List.mem_cons.mp h with z | z
      · exact absurd z.symm e
      · exact restA_in z hl
end
section
variable {K : PySem.W.Frag} {H H' H1 : Hp} {M M' M1 O O' : Mset} {π : Nat → Option Addr} {ρ ρ1 ρ2 : Fm} {σ : St} {vs : List Nat} {p : Addr}
theorem SR.wipe (h : SR K H M O π ρ σ) (vs : List Nat) : SR K H M O π (wipeA ρ vs) (wipeA σ vs) := by
  refine ⟨by rw [wipeA_len, wipeA_len]; exact h.len, h.sub, h.live, fun i d e => ?_, fun i b ds e => ?_, fun i j b c ds es a hij e f g => ?_⟩
  · obtain ⟨e1, n⟩ := wipeA_some e
    rw [wipeA_out n]; exact h.imm i d e1
  · obtain ⟨e1, n⟩ := wipeA_some e
    rw [wipeA_out n]; exact h.own i b ds e1
  · obtain ⟨e1, n⟩ := wipeA_some e
    obtain ⟨f1, n2⟩ := wipeA_some f
    rw [wipeA_out n] at g
    rw [wipeA_out n2]; exact h.uniq i j b c ds es a hij e1 f1 g
def vsOk (ρ : Fm) (vs : List Nat) : Bool := vs.all fun i => match ρ[i]? with
  | some (some (.own _ _)) => false
  | _ => true
theorem vsOk_own (h : vsOk ρ vs = true) {i : Nat} (hi : i ∈ vs) {b : Kd} {ds : List D} (e : ρ[i]? = some (some (.own b ds))) : False := by
  have := List.all_eq_true.mp h i hi
  rw [e] at this
  cases this
theorem SR.unwipe (h1 : SR K H1 M1 O π ρ1 σ) (ok : vsOk ρ1 vs = true) (h2 : SR K H M O π ρ2 (wipeA σ vs)) (l : Lat H1 M1 H M) : SR K H M O π (restA ρ2 ρ1 vs) σ := by
  have len : ρ2.length = σ.length := by rw [h2.len, wipeA_len]
  have get : ∀ {i : Nat} {s : Sv}, (restA ρ2 ρ1 vs)[i]? = some (some s) → (i ∈ vs ∧ ρ1[i]? = some (some s)) ∨ (i ∉ vs ∧ ρ2[i]? = some (some s)) := fun {i s} e => by
    by_cases hi : i ∈ vs
    · by_cases hl : i < ρ2.length
      · rw [restA_in hi hl] at e
        refine .inl ⟨hi, ?_⟩
        cases q : ρ1[i]? with
        | none => rw [q] at e; cases e
        | some x => rw [q] at e; exact e
      · rw [List.getElem?_eq_none (by rw [restA_len]; omega)] at e; cases e
    · rw [restA_out hi] at e; exact .inr ⟨hi, e⟩
  refine ⟨by rw [restA_len]; exact len, h2.sub, h2.live, fun i d e => ?_, fun i b ds e => ?_, fun i j b c ds es a hij e f g => ?_⟩
  · rcases get e with ⟨hi, e⟩ | ⟨hi, e⟩
    · obtain ⟨v, f1, f2⟩ := h1.imm i d e
      exact ⟨v, f1, f2.tr l⟩
    · obtain ⟨v, f1, f2⟩ := h2.imm i d e
      rw [wipeA_out hi] at f1
      exact ⟨v, f1, f2⟩
  · rcases get e with ⟨hi, e⟩ | ⟨hi, e⟩
    · exact (vsOk_own ok hi e).elim
    · obtain ⟨x, vs', f1, f2⟩ := h2.own i b ds e
      rw [wipeA_out hi] at f1
      exact ⟨x, vs', f1, f2⟩
  · rcases get e with ⟨hi, e⟩ | ⟨hi, e⟩
    · exact (vsOk_own ok hi e).elim
    · rcases get f with ⟨hj, f⟩ | ⟨hj, f⟩
      · exact (vsOk_own ok hj f).elim
      · have := h2.uniq i j b c ds es a hij e f (by rw [wipeA_out hi]; exact g)
        rw [wipeA_out hj] at this
        exact this
/-- a held list is written -/
theorem upd_lat {o : HO} (hM : M p) : Lat H M (upd H p o) M := fun a u q n => by
  have ne : a ≠ p := fun z => n (z ▸ hM)
  refine ⟨?_, n⟩
  rcases q with q | ⟨o', q⟩
  · exact .inl (by rw [upd_ne ne]; exact q)
  · exact .inr ⟨o', by rw [upd_ne ne]; exact q⟩
theorem SR.writeO {o : HO} (h : SR K H M O π ρ σ) (hM : M p) (hO : O p) : SR K (upd H p o) M O π ρ σ := by
  refine ⟨h.len, h.sub, fun a q => ?_, fun i d e => ?_, fun i b ds e => ?_, h.uniq⟩
  · by_cases ha : a = p
    · subst ha; rw [upd_same]; intro z; cases z
    · rw [upd_ne ha]; exact h.live a q
  · obtain ⟨v, e1, r⟩ := h.imm i d e
    exact ⟨v, e1, r.tr (upd_lat hM)⟩
  · obtain ⟨a, ws, e1, e2, e3, e4, r, e5⟩ := h.own i b ds e
    exact ⟨a, ws, e1, by rw [upd_ne (fun z => e4 (by rw [z]; exact hO))]; exact e2, e3, e4, r.tr (upd_lat hM), e5⟩
theorem Ext.updM {o : HO} (x : Ext O H1 M1 H M) (hM : M1 p) (hO : ¬ O p) : Ext O H1 M1 (upd H p o) M :=
  ⟨fun a u e q => by rw [upd_ne (fun z => by subst z; exact q.elim hO fun n => n hM)]; exact x.keep a u e q, x.sub, x.new⟩
end

/-! ### comprehensions -/
section
variable {mg : MG} {mt : MT} {me : ME} {vs ts : List Nat}
def cloop (mg : MG) (mt : MT) (me : ME) (vs : List Nat) : List D → Fm → Option (List D × Fm)
  | [], ρ => some ([], ρ)
  | d :: ds, ρ => match mg d ρ with
    | some ρ1 => match mt ρ1 with
      | some (true, ρ2) => match me ρ2 with
        | some (pr, ρ3) => match frz ρ3 pr with
          | some (e, ρ4) => match cloop mg mt me vs ds (wipeA ρ4 vs) with
            | some (es, ρ5) => some (e :: es, ρ5)
            | none => none
          | none => none
        | none => none
      | some (false, ρ2) => cloop mg mt me vs ds (wipeA ρ2 vs)
      | none => none
    | none => none
theorem cread {K : PySem.W.Frag} (hts : ∀ i ∈ ts, i ∈ vs) {J : It} {ds : List D} {H0 Hs : Hp} {M0 Ms O : Mset} {π : Nat → Option Addr} {σ : St} {Dd : Addr} {ρa ρ2 : Fm} {es ea : List D} {acc : List V} {Qd : Hp → Prop}
    (src : Src K J ds H0 M0) (l : Lat H0 M0 Hs Ms) (s : SR K Hs Ms (wth O Dd) π ρa (wipeA σ vs)) (hO : ¬ O Dd) (hA : Hs Dd = some (.lst acc)) (hR : Reps K Hs Ms acc ea) (hz : ea.length + es.length ≤ sizeLine)
    (e : cloop mg mt me vs ds ρa = some (es, ρ2)) (hq : ∀ H M acc', Ext O Hs Ms H M → SR K H M (wth O Dd) π ρ2 (wipeA σ vs) → H Dd = some (.lst acc') → Reps K H M acc' (ea ++ es) → Qd H) :
    ∃ W : Nat → Nat → Hp → Prop, (∃ m, W 0 m Hs) ∧ ∀ i m H, W i m H →
      (J.stop i H ∧ Qd H) ∨ (J.go i H ∧ ∃ Nx : Hp → Prop, (∀ H', Nx H' → ∃ m', m' < m ∧ W (i + 1) m' H') ∧ ∀ x H', J.yld i H x H' → tG K mg ts x (wipe σ vs) H' fun σ2 H2 => wipe σ2 vs = wipe σ vs ∧ tT K mt σ2 H2 fun b H3 =>
        if b = true then tE K me σ2 H3 fun y H4 => ∃ acc, H4 Dd = some (.lst acc) ∧ acc.length < sizeLine ∧ Nx (upd H4 Dd (.lst (acc ++ [y]))) else Nx H3) := by
  have hMs : Ms Dd := s.sub Dd (.inr rfl)
  have less : ∀ a, O a → wth O Dd a := fun a q => .inl q
  refine ⟨fun i m H => m = ds.length - i ∧ i ≤ ds.length ∧ ∃ ρb M acc' eb es', SR K H M (wth O Dd) π ρb (wipeA σ vs) ∧ Ext O Hs Ms H M ∧ H Dd = some (.lst acc') ∧ Reps K H M acc' eb ∧ cloop mg mt me vs (ds.drop i) ρb = some (es', ρ2) ∧ ea ++ es = eb ++ es',
    ⟨_, rfl, Nat.zero_le _, ρa, Ms, acc, ea, es, s, .refl (s.less less), hA, hR, e, rfl⟩, ?_⟩
  rintro i m H ⟨rfl, hi, ρb, M, acc', eb, es', sb, xb, hAb, hRb, eb', eq⟩
  have lb : Lat H0 M0 H M := l.trans xb.tr
  by_cases hlt : i < ds.length
  · rw [List.drop_eq_getElem_cons hlt] at eb'
    have hd : ds[i]? = some ds[i] := List.getElem?_eq_getElem hlt
    refine .inr ⟨src.go H M lb i hlt, fun H' => ds.length - (i + 1) = ds.length - (i + 1) ∧ i + 1 ≤ ds.length ∧ ∃ ρb M acc' eb es', SR K H' M (wth O Dd) π ρb (wipeA σ vs) ∧ Ext O Hs Ms H' M ∧ H' Dd = some (.lst acc') ∧ Reps K H' M acc' eb ∧ cloop mg mt me vs (ds.drop (i + 1)) ρb = some (es', ρ2) ∧ ea ++ es = eb ++ es', fun H' w => ⟨_, by omega, w⟩, fun x H3 y => ?_⟩
    obtain ⟨s3, x3, r3⟩ := (src.yld H M lb i _ x H3 hd y).ok sb
    unfold cloop at eb'
    split at eb'
    · rename_i ρ3 e3
      rw [wipe_eq]
      refine ⟨ρb, M, wth O Dd, π, _, ρ3, s3, r3, e3, fun σ4 s4 fr ln => ?_⟩
      have hw : wipeA σ4 vs = wipeA σ vs := wipeA_ext (fun j hj => by rw [fr j (fun z => hj (hts j z)), wipeA_out hj]) (by rw [ln, wipeA_len])
      refine ⟨by rw [wipe_eq]; exact hw, ?_⟩
      split at eb'
      · rename_i ρ4 e4
        refine ⟨ρ3, M, wth O Dd, π, true, ρ4, s4, e4, fun H5 M5 x5 s5 => iteT ?_⟩
        split at eb'
        · rename_i pr ρ5 e5
          split at eb'
          · rename_i ee ρ6 e6
            split at eb'
            · rename_i es2 ρ7 e7
              cases eb'
              refine ⟨ρ4, M5, wth O Dd, π, pr, ρ5, s5, e5, fun v H6 M6 x6 s6 r6 => ?_⟩
              obtain ⟨M7, x7, s7, r7⟩ := frz_ok s6 r6 e6
              have xx : Ext (wth O Dd) H M H6 M7 := ((x3.trans x5).trans x6).trans x7
              have hA6 : H6 Dd = some (.lst acc') := xx.keep Dd _ hAb (.inl (.inr rfl))
              have hM7 : M7 Dd := s7.sub Dd (.inr rfl)
              have hl : acc'.length < sizeLine := by
                rw [hRb.length]
                have := congrArg List.length eq
                rw [List.length_append, List.length_append, List.length_cons] at this
                omega
              refine ⟨acc', hA6, hl, rfl, hlt, wipeA ρ6 vs, M7, acc' ++ [v], eb ++ [ee], es2, ?_, (xb.trans (xx.less less)).updM hMs hO, upd_same, ((hRb.tr xx.tr).append (.cons r7 .nil)).tr (upd_lat hM7), e7, ?_⟩
              · rw [← hw]; exact (s7.writeO hM7 (.inr rfl)).wipe vs
              · rw [eq, List.append_assoc]; rfl
            · cases eb'
          · cases eb'
        · cases eb'
      · rename_i ρ4 e4
        refine ⟨ρ3, M, wth O Dd, π, false, ρ4, s4, e4, fun H5 M5 x5 s5 => iteF ?_⟩
        have xx : Ext (wth O Dd) H M H5 M5 := x3.trans x5
        refine ⟨rfl, hlt, wipeA ρ4 vs, M5, acc', eb, es', ?_, xb.trans (xx.less less), xx.keep Dd _ hAb (.inl (.inr rfl)), hRb.tr xx.tr, eb', eq⟩
        rw [← hw]; exact s5.wipe vs
      · cases eb'
    · cases eb'
  · have ei : i = ds.length := by omega
    subst ei
    rw [List.drop_length] at eb'
    cases eb'
    rw [List.append_nil] at eq
    exact .inl ⟨src.stop H M lb, hq H M acc' xb sb hAb (by rw [eq]; exact hRb)⟩
def mComp (mi : MI) (mg : MG) (mt : MT) (me : ME) (vs : List Nat) : ME := fun ρ => match mi ρ with
  | some (ds, ρ1) => if vsOk ρ1 vs = true then match cloop mg mt me vs ds (wipeA ρ1 vs) with
    | some (es, ρ2) => if fits es.length = true then some (.val (.own .loc es), restA ρ2 ρ1 vs) else none
    | none => none
    else none
  | none => none
theorem comp_start {K : PySem.W.Frag} {H1 : Hp} {M1 O : Mset} {π : Nat → Option Addr} {ρ1 : Fm} {σ : St} {Dd : Addr} (s1 : SR K H1 M1 O π ρ1 σ) (hD : H1 Dd = none) (vs : List Nat) : SR K (upd H1 Dd (.lst [])) (wth M1 Dd) (wth O Dd) π (wipeA ρ1 vs) (wipeA σ vs) := by
  refine ((s1.allocOwn hD).wipe vs).more (fun a q => q.elim (fun z => .inl (s1.sub a z)) fun z => .inr z) fun i b ds a e1 e2 z => ?_
  obtain ⟨e3, hn⟩ := wipeA_some e1
  rw [wipeA_out hn] at e2
  obtain ⟨a', ws, f1, f2, f3, f4, _⟩ := s1.own i b ds e3
  rw [e2] at f1; cases f1
  rcases z with z | z
  · exact f4 z
  · rw [z, hD] at f2; cases f2
theorem comp_end {K : PySem.W.Frag} {H1 H : Hp} {M1 M O : Mset} {π : Nat → Option Addr} {ρ1 ρ2 : Fm} {σ : St} {Dd : Addr} {acc : List V} {es : List D} (s1 : SR K H1 M1 O π ρ1 σ) (hD : H1 Dd = none) (ok : vsOk ρ1 vs = true) (x : Ext O (upd H1 Dd (.lst [])) (wth M1 Dd) H M) (s : SR K H M (wth O Dd) π ρ2 (wipeA σ vs))
    (hA : H Dd = some (.lst acc)) (hR : Reps K H M acc es) : Ext O H1 M1 H M ∧ SR K H M O π (restA ρ2 ρ1 vs) σ ∧ RP K H M O (restA ρ2 ρ1 vs) σ (.val (.own .loc es)) (.ref Dd) := by
  have less : ∀ a, O a → wth O Dd a := fun a q => .inl q
  have x1 : Ext O H1 M1 H M := (Ext.allocOwn s1 hD).trans x
  have hO : ¬ O Dd := fun z => s1.live Dd (s1.sub Dd z) hD
  refine ⟨x1, s1.unwipe ok (s.less less) x1.tr, Dd, acc, rfl, hA, s.sub Dd (.inr rfl), hO, hR, fun i b ds e1 e2 => ?_⟩
  by_cases hi : i ∈ vs
  · by_cases hl : i < ρ2.length
    · rw [restA_in hi hl] at e1
      cases q : ρ1[i]? with
      | none => rw [q] at e1; cases e1
      | some z => rw [q] at e1; exact vsOk_own ok hi (q.trans e1)
    · rw [List.getElem?_eq_none (by rw [restA_len]; omega)] at e1; cases e1
  · rw [restA_out hi] at e1
    obtain ⟨a', ws, f1, f2, f3, f4, _⟩ := s.own i b ds e1
    rw [wipeA_out hi, e2] at f1; cases f1
    exact f4 (.inr rfl)
theorem lc_read {K : PySem.W.Frag} {mi : MI} (hts : ∀ i ∈ ts, i ∈ vs) {σ : St} {H : Hp} {Q : VK} (h : tE K (mComp mi mg mt me vs) σ H Q) : tLc (tI K mi) (tG K mg ts) (tT K mt) (tE K me) vs σ H Q := by
  obtain ⟨ρ, M, O, π, pr, ρ', h, e, q⟩ := h
  unfold mComp at e
  split at e
  · rename_i ds ρ1 e1
    split at e
    · rename_i ok
      split at e
      · rename_i es ρ2 e2
        split at e
        · rename_i hz
          cases e
          refine ⟨ρ, M, O, π, ds, ρ1, h, e1, fun J H1 M1 x1 s1 src Dd hD => ?_⟩
          have hO : ¬ O Dd := fun z => s1.live Dd (s1.sub Dd z) hD
          refine cread (ea := []) hts src (alloc_tr_own s1 hD) (comp_start s1 hD vs) hO upd_same .nil (by have := fits_le hz; simpa using this) e2 fun H2 M2 acc x2 s2 hA hR => ?_
          obtain ⟨y1, y2, y3⟩ := comp_end s1 hD ok x2 s2 hA hR
          exact q _ H2 M2 (x1.trans y1) y2 y3
        · cases e
      · cases e
    · cases e
  · cases e
/-! two clauses -/
variable {mi1 : MI} {mg1 : MG} {mt1 : MT} {vs1 ts1 : List Nat}
def c2loop (mg : MG) (mt : MT) (mi1 : MI) (mg1 : MG) (mt1 : MT) (me : ME) (vs vs1 : List Nat) : List D → Fm → Option (List D × Fm)
  | [], ρ => some ([], ρ)
  | d :: ds, ρ => match mg d ρ with
    | some ρ1 => match mt ρ1 with
      | some (true, ρ2) => match mi1 ρ2 with
        | some (ds1, ρ3) => match cloop mg1 mt1 me vs1 ds1 (wipeA ρ3 vs1) with
          | some (es1, ρ4) => match c2loop mg mt mi1 mg1 mt1 me vs vs1 ds (wipeA ρ4 vs) with
            | some (es, ρ5) => some (es1 ++ es, ρ5)
            | none => none
          | none => none
        | none => none
      | some (false, ρ2) => c2loop mg mt mi1 mg1 mt1 me vs vs1 ds (wipeA ρ2 vs)
      | none => none
    | none => none
def mComp2 (mi : MI) (mg : MG) (mt : MT) (mi1 : MI) (mg1 : MG) (mt1 : MT) (me : ME) (vs vs1 : List Nat) : ME := fun ρ => match mi ρ with
  | some (ds, ρ1) => if vsOk ρ1 vs = true then match c2loop mg mt mi1 mg1 mt1 me vs vs1 ds (wipeA ρ1 vs) with
    | some (es, ρ2) => if fits es.length = true then some (.val (.own .loc es), restA ρ2 ρ1 vs) else none
    | none => none
    else none
  | none => none
theorem lc2_read {K : PySem.W.Frag} {mi : MI} (hts : ∀ i ∈ ts, i ∈ vs) (hts1 : ∀ i ∈ ts1, i ∈ vs1) (hv : ∀ i ∈ vs1, i ∈ vs) {σ : St} {H : Hp} {Q : VK} (h : tE K (mComp2 mi mg mt mi1 mg1 mt1 me vs vs1) σ H Q) :
    tLc2 (tI K mi) (tG K mg ts) (tT K mt) (tI K mi1) (tG K mg1 ts1) (tT K mt1) (tE K me) vs vs1 σ H Q := by
  obtain ⟨ρ, M, O, π, pr, ρ', h, e, q⟩ := h
  unfold mComp2 at e
  split at e
  · rename_i ds ρ1 e1
    split at e
    · rename_i ok
      split at e
      · rename_i es ρ2 e2
        split at e
        · rename_i hz
          cases e
          refine ⟨ρ, M, O, π, ds, ρ1, h, e1, fun J H1 M1 x1 s1 src Dd hD => ?_⟩
          have hO : ¬ O Dd := fun z => s1.live Dd (s1.sub Dd z) hD
          have less : ∀ a, O a → wth O Dd a := fun a q => .inl q
          have s := comp_start s1 hD vs
          have hMs : wth M1 Dd Dd := .inr rfl
          refine ⟨fun i m H => m = ds.length - i ∧ i ≤ ds.length ∧ ∃ ρb M acc' eb es', SR K H M (wth O Dd) π ρb (wipeA σ vs) ∧ Ext O (upd H1 Dd (.lst [])) (wth M1 Dd) H M ∧ H Dd = some (.lst acc') ∧ Reps K H M acc' eb ∧ c2loop mg mt mi1 mg1 mt1 me vs vs1 (ds.drop i) ρb = some (es', ρ2) ∧ es = eb ++ es',
            ⟨_, rfl, Nat.zero_le _, _, _, [], [], es, s, .refl (s.less less), upd_same, .nil, e2, rfl⟩, ?_⟩
          rintro i m H ⟨rfl, hi, ρb, M, acc', eb, es', sb, xb, hAb, hRb, eb', eq⟩
          have lb : Lat H1 M1 H M := Lat.trans (alloc_tr_own s1 hD) xb.tr
          by_cases hlt : i < ds.length
          · rw [List.drop_eq_getElem_cons hlt] at eb'
            have hd : ds[i]? = some ds[i] := List.getElem?_eq_getElem hlt
            refine .inr ⟨src.go H M lb i hlt, fun H' => ds.length - (i + 1) = ds.length - (i + 1) ∧ i + 1 ≤ ds.length ∧ ∃ ρb M acc' eb es', SR K H' M (wth O Dd) π ρb (wipeA σ vs) ∧ Ext O (upd H1 Dd (.lst [])) (wth M1 Dd) H' M ∧ H' Dd = some (.lst acc') ∧ Reps K H' M acc' eb ∧ c2loop mg mt mi1 mg1 mt1 me vs vs1 (ds.drop (i + 1)) ρb = some (es', ρ2) ∧ es = eb ++ es', fun H' w => ⟨_, by omega, w⟩, fun x H3 y => ?_⟩
            obtain ⟨s3, x3, r3⟩ := (src.yld H M lb i _ x H3 hd y).ok sb
            unfold c2loop at eb'
            split at eb'
            · rename_i ρ3 e3
              rw [wipe_eq]
              refine ⟨ρb, M, wth O Dd, π, _, ρ3, s3, r3, e3, fun σ4 s4 fr ln => ?_⟩
              have hw : wipeA σ4 vs = wipeA σ vs := wipeA_ext (fun j hj => by rw [fr j (fun z => hj (hts j z)), wipeA_out hj]) (by rw [ln, wipeA_len])
              refine ⟨by rw [wipe_eq]; exact hw, ?_⟩
              split at eb'
              · rename_i ρ4 e4
                refine ⟨ρ3, M, wth O Dd, π, true, ρ4, s4, e4, fun H5 M5 x5 s5 => iteT ?_⟩
                split at eb'
                · rename_i ds1 ρ5 e5
                  split at eb'
                  · rename_i es1 ρ6 e6
                    split at eb'
                    · rename_i es2 ρ7 e7
                      cases eb'
                      refine ⟨ρ4, M5, wth O Dd, π, ds1, ρ5, s5, e5, fun J1 H6 M6 x6 s6 src1 => ?_⟩
                      have xx : Ext (wth O Dd) H M H6 M6 := (x3.trans x5).trans x6
                      have hA6 : H6 Dd = some (.lst acc') := xx.keep Dd _ hAb (.inl (.inr rfl))
                      have hl : eb.length + es1.length ≤ sizeLine := by
                        have h1 := fits_le hz
                        have := congrArg List.length eq
                        rw [List.length_append, List.length_append] at this
                        omega
                      refine cread hts1 src1 (fun _ _ h n => ⟨h, n⟩) (s6.wipe vs1) hO hA6 (hRb.tr xx.tr) hl e6 fun H8 M8 acc8 x8 s8 hA8 hR8 => ?_
                      refine ⟨rfl, hlt, wipeA ρ6 vs, M8, acc8, eb ++ es1, es2, ?_, (xb.trans (xx.less less)).trans x8, hA8, hR8, e7, by rw [eq, List.append_assoc]⟩
                      have hw2 : wipeA (wipeA σ4 vs1) vs = wipeA σ vs := by
                        rw [← hw]
                        exact wipeA_ext (fun j hj => wipeA_out fun z => hj (hv j z)) (wipeA_len _ _)
                      rw [← hw2]
                      exact s8.wipe vs
                    · cases eb'
                  · cases eb'
                · cases eb'
              · rename_i ρ4 e4
                refine ⟨ρ3, M, wth O Dd, π, false, ρ4, s4, e4, fun H5 M5 x5 s5 => iteF ?_⟩
                have xx : Ext (wth O Dd) H M H5 M5 := x3.trans x5
                refine ⟨rfl, hlt, wipeA ρ4 vs, M5, acc', eb, es', ?_, xb.trans (xx.less less), xx.keep Dd _ hAb (.inl (.inr rfl)), hRb.tr xx.tr, eb', eq⟩
                rw [← hw]; exact s5.wipe vs
              · cases eb'
            · cases eb'
          · have ei : i = ds.length := by omega
            subst ei
            rw [List.drop_length] at eb'
            cases eb'
            rw [List.append_nil] at eq
            obtain ⟨y1, y2, y3⟩ := comp_end s1 hD ok xb sb hAb (by rw [← eq] at hRb; exact hRb)
            exact .inl ⟨src.stop H M lb, q _ H M (x1.trans y1) y2 y3⟩
        · cases e
      · cases e
    · cases e
  · cases e
end
section
variable {X : Cx} {elt tg iter tg1 iter1 : Expr} {ifs ifs1 : List Expr} {scope : Scope} {own : List (Str × Nat)} {pos : Pos} {mi mi1 : MI} {mg mg1 : MG} {mt mt1 : MT} {me : ME} {ts ts1 vs1 : List Nat}
def DTs (X : Cx) (es : List Expr) (m : MT) : Prop := PTs X es (tT X.K m)
def mYes : MT := fun ρ => some (true, ρ)
theorem dts_nil : DTs X [] mYes := ⟨fun pins s σ H Q I ⟨ρ, M, O, π, b, ρ', h, e, q⟩ => by
  cases e
  exact pts_nil.run pins s σ H Q I (q H M (.refl h) h)⟩
theorem dts_one {c : Expr} (h : DT X c mt) : DTs X [c] mt := pts_one h
/-- a block's context -/
abbrev Bk (X : Cx) (scope : Scope) (P : Cx → Prop) : Prop := ∀ (s : Shared) (H : Hp) (C : Addr) (cl : List (Str × Addr)) (fp : List Addr), P (X.blk s H scope (compEnvC scope cl C X.env) fp)
theorem de_lc (hc : X.calm = true) (hN : X.N.Nodup) (hi : DI X tg iter mi) (ok : BlkOk X.N X.env.scope scope own) (hg : Bk X scope fun Y => DG Y tg mg ts) (ht : Bk X scope fun Y => DTs Y ifs mt) (he : Bk X scope fun Y => DE Y elt me)
    (hts : ∀ i ∈ ts, i ∈ own.map (·.2)) (hs : ∀ x, foldedSetIterable iter X.env x = pure x := by intro _; rfl) : DE X (.ListComp elt [⟨tg, iter, ifs, 0⟩] scope pos) (mComp mi mg mt me (own.map (·.2))) :=
  PE.imp (pe_lc (wi := tI X.K mi) (g := tG X.K mg ts) (tt := tT X.K mt) (te := tE X.K me) hc hN hi ok hg ht he hs) fun σ H Q h => lc_read hts h
theorem ds_setLc {i : Nat} {y : Str} {py spos : Pos} (hc : X.calm = true) (hN : X.N.Nodup) (hy : X.N[i]? = some y) (hyl : X.env.scope.names.lookup y = some .local)
    (hsw : swapsWith (.ListComp elt [⟨tg, iter, ifs, 0⟩] scope pos) (some (.Name y py)) spos.line X.env = pure true) (hi : DI X tg iter mi) (ok : BlkOk X.N X.env.scope scope own) (hg : Bk X scope fun Y => DG Y tg mg ts) (ht : Bk X scope fun Y => DTs Y ifs mt) (he : Bk X scope fun Y => DE Y elt me)
    (hts : ∀ i ∈ ts, i ∈ own.map (·.2)) (hs : ∀ x, foldedSetIterable iter X.env x = pure x := by intro _; rfl) : DS X (.Assign [.Name y py] (.ListComp elt [⟨tg, iter, ifs, 0⟩] scope pos) spos) (mSet i (mComp mi mg mt me (own.map (·.2)))) :=
  PS.imp (ps_setLc (wi := tI X.K mi) (g := tG X.K mg ts) (tt := tT X.K mt) (te := tE X.K me) hc hN hy hyl hsw hi ok hg ht he hs) fun D σ H ⟨ρ, M, O, π, fl, ρ', h, e, q⟩ => by
    unfold mSet at e
    split at e
    · rename_i pr ρ1 e1
      split at e
      · rename_i ρ2 e2
        cases e
        refine lc_read (K := X.K) hts ⟨ρ, M, O, π, pr, ρ1, h, e1, fun v H1 M1 x1 s1 r1 => ?_⟩
        obtain ⟨M2, x2, s2⟩ := put_ok s1 r1 e2
        exact q _ H1 M2 (x1.trans x2) s2
      · cases e
    · cases e
theorem de_lc2 (hc : X.calm = true) (hN : X.N.Nodup) (hi : DI X tg iter mi) (ok : BlkOk X.N X.env.scope scope own) (hv : ∀ i ∈ vs1, i ∈ own.map (·.2)) (hg : Bk X scope fun Y => DG Y tg mg ts) (ht : Bk X scope fun Y => DTs Y ifs mt) (hi1 : Bk X scope fun Y => DI Y tg1 iter1 mi1) (hg1 : Bk X scope fun Y => DG Y tg1 mg1 ts1) (ht1 : Bk X scope fun Y => DTs Y ifs1 mt1) (he : Bk X scope fun Y => DE Y elt me)
    (hts : ∀ i ∈ ts, i ∈ own.map (·.2)) (hts1 : ∀ i ∈ ts1, i ∈ vs1) (hs : ∀ x, foldedSetIterable iter X.env x = pure x := by intro _; rfl) (hs1 : ∀ env x, foldedSetIterable iter1 env x = pure x := by intro _ _; rfl) :
    DE X (.ListComp elt [⟨tg, iter, ifs, 0⟩, ⟨tg1, iter1, ifs1, 0⟩] scope pos) (mComp2 mi mg mt mi1 mg1 mt1 me (own.map (·.2)) vs1) :=
  PE.imp (pe_lc2 (wi := tI X.K mi) (g := tG X.K mg ts) (tt := tT X.K mt) (wi1 := tI X.K mi1) (g1 := tG X.K mg1 ts1) (tt1 := tT X.K mt1) (te := tE X.K me) hc hN hi ok hv hg ht hi1 hg1 ht1 he hs hs1) fun σ H Q h => lc2_read hts hts1 hv h
theorem ds_setLc2 {i : Nat} {y : Str} {py spos : Pos} (hc : X.calm = true) (hN : X.N.Nodup) (hy : X.N[i]? = some y) (hyl : X.env.scope.names.lookup y = some .local)
    (hsw : swapsWith (.ListComp elt [⟨tg, iter, ifs, 0⟩, ⟨tg1, iter1, ifs1, 0⟩] scope pos) (some (.Name y py)) spos.line X.env = pure true) (hi : DI X tg iter mi) (ok : BlkOk X.N X.env.scope scope own) (hv : ∀ i ∈ vs1, i ∈ own.map (·.2)) (hg : Bk X scope fun Y => DG Y tg mg ts) (ht : Bk X scope fun Y => DTs Y ifs mt) (hi1 : Bk X scope fun Y => DI Y tg1 iter1 mi1) (hg1 : Bk X scope fun Y => DG Y tg1 mg1 ts1) (ht1 : Bk X scope fun Y => DTs Y ifs1 mt1) (he : Bk X scope fun Y => DE Y elt me)
    (hts : ∀ i ∈ ts, i ∈ own.map (·.2)) (hts1 : ∀ i ∈ ts1, i ∈ vs1) (hs : ∀ x, foldedSetIterable iter X.env x = pure x := by intro _; rfl) (hs1 : ∀ env x, foldedSetIterable iter1 env x = pure x := by intro _ _; rfl) :
    DS X (.Assign [.Name y py] (.ListComp elt [⟨tg, iter, ifs, 0⟩, ⟨tg1, iter1, ifs1, 0⟩] scope pos) spos) (mSet i (mComp2 mi mg mt mi1 mg1 mt1 me (own.map (·.2)) vs1)) :=
  PS.imp (ps_setLc2 (wi := tI X.K mi) (g := tG X.K mg ts) (tt := tT X.K mt) (wi1 := tI X.K mi1) (g1 := tG X.K mg1 ts1) (tt1 := tT X.K mt1) (te := tE X.K me) hc hN hy hyl hsw hi ok hv hg ht hi1 hg1 ht1 he hs hs1) fun D σ H ⟨ρ, M, O, π, fl, ρ', h, e, q⟩ => by
    unfold mSet at e
    split at e
    · rename_i pr ρ1 e1
      split at e
      · rename_i ρ2 e2
        cases e
        refine lc2_read (K := X.K) hts hts1 hv ⟨ρ, M, O, π, pr, ρ1, h, e1, fun v H1 M1 x1 s1 r1 => ?_⟩
        obtain ⟨M2, x2, s2⟩ := put_ok s1 r1 e2
        exact q _ H1 M2 (x1.trans x2) s2
      · cases e
    · cases e
end
end Vi

namespace Vi
open PySem PySem.Spec PyProof.Rows L2

/-! ### what a def does, over data -/
/-- the names' values, what is handed back and the lists that were handed in to be changed -/
abbrev Out := Sv × List (Option (List D))
abbrev Fn := List Sv → Option Out
def outsOf : List Sv → Fm → Option (List (Option (List D)))
  | [], _ => some []
  | .imm _ :: as, _ :: ρ => match outsOf as ρ with
    | some os => some (none :: os)
    | none => none
  | .own _ _ :: as, some (.own .par ds) :: ρ => match outsOf as ρ with
    | some os => some (some ds :: os)
    | none => none
  | _, _ => none
def pinned : List Sv → Bool
  | [] => true
  | .imm _ :: as => pinned as
  | .own .par _ :: as => pinned as
  | .own _ _ :: _ => false
/-- nN: how many names, np: how many parameters -/
def mFn (nN np : Nat) (body : MS) : Fn := fun args =>
  if args.length = np then match body (args.map some ++ List.replicate (nN - np) none) with
    | some (.ret r, ρ) => match outsOf args ρ with
      | some os => some (r, os)
      | none => none
    | some (.next, ρ) => match outsOf args ρ with
      | some os => some (.imm .none, os)
      | none => none
    | _ => none
  else none
def OutR (K : PySem.W.Frag) (H : Hp) (M : Mset) (π : Nat → Option Addr) (os : List (Option (List D))) : Prop :=
  ∀ (i : Nat) (ds : List D), os[i]? = some (some ds) → ∃ a ws, π i = some a ∧ H a = some (.lst ws) ∧ M a ∧ Reps K H M ws ds
def RetR (K : PySem.W.Frag) (H : Hp) (M O : Mset) (π : Nat → Option Addr) (os : List (Option (List D))) : Sv → V → Prop
  | .imm d, v => Rep K H M v d
  | .own b ds, v => ∃ p vs, v = .ref p ∧ H p = some (cell b p vs ds) ∧ M p ∧ ¬ O p ∧ Reps K H M vs ds ∧ ∀ (i : Nat) (es : List D), os[i]? = some (some es) → π i ≠ some p
def spD (K : PySem.W.Frag) (n : Nat) (f : Fn) : Sp := fun vs H Q _ => ∃ M O π args r os, vs.length = n ∧ SR K H M O π (args.map some) (vs.map some) ∧ f args = some (r, os) ∧
  ∀ v H' M', (∀ a, M' a → H' a ≠ none) → Ext O H M H' M' → OutR K H' M' π os → RetR K H' M' O π os r v → Q v H'
theorem outs_len : ∀ {as : List Sv} {ρ : Fm} {os : List (Option (List D))}, outsOf as ρ = some os → os.length = as.length
  | [], _, _, e => by cases e; rfl
  | .imm _ :: as, [], _, e => by cases e
  | .imm d :: as, x :: ρ, os, e => by
    unfold outsOf at e
    split at e
    · rename_i o e1
      cases e
      rw [List.length_cons, List.length_cons, outs_len e1]
    · cases e
  | .own _ _ :: as, [], _, e => by cases e
  | .own _ _ :: as, none :: ρ, _, e => by cases e
  | .own _ _ :: as, some (.imm _) :: ρ, _, e => by cases e
  | .own _ _ :: as, some (.own .loc _) :: ρ, _, e => by cases e
  | .own _ _ :: as, some (.own .par ds) :: ρ, os, e => by
    unfold outsOf at e
    split at e
    · rename_i o e1
      cases e
      rw [List.length_cons, List.length_cons, outs_len e1]
    · cases e
theorem outs_get : ∀ {as : List Sv} {ρ : Fm} {os : List (Option (List D))} {i : Nat} {ds : List D}, outsOf as ρ = some os → os[i]? = some (some ds) → ρ[i]? = some (some (.own .par ds)) ∧ ∃ b es, as[i]? = some (.own b es)
  | [], _, _, _, _, e, h => by cases e; simp at h
  | .imm _ :: as, [], _, _, _, e, h => by cases e
  | .imm d :: as, x :: ρ, os, i, ds, e, h => by
    unfold outsOf at e
    split at e
    · rename_i o e1
      cases e
      cases i with
      | zero => simp at h
      | succ i =>
        obtain ⟨h1, h2⟩ := outs_get e1 (by simpa using h)
        exact ⟨by simpa using h1, by simpa using h2⟩
    · cases e
  | .own _ _ :: as, [], _, _, _, e, h => by cases e
  | .own _ _ :: as, none :: ρ, _, _, _, e, h => by cases e
  | .own _ _ :: as, some (.imm _) :: ρ, _, _, _, e, h => by cases e
  | .own _ _ :: as, some (.own .loc _) :: ρ, _, _, _, e, h => by cases e
  | .own b es :: as, some (.own .par ds') :: ρ, os, i, ds, e, h => by
    unfold outsOf at e
    split at e
    · rename_i o e1
      cases e
      cases i with
      | zero =>
        simp at h
        subst h
        exact ⟨rfl, b, es, rfl⟩
      | succ i =>
        obtain ⟨h1, h2⟩ := outs_get e1 (by simpa using h)
        exact ⟨by simpa using h1, by simpa using h2⟩
    · cases e
/-- an own parameter is handed out -/
theorem outs_own : ∀ {as : List Sv} {ρ : Fm} {os : List (Option (List D))} {i : Nat} {b : Kd} {es : List D}, outsOf as ρ = some os → as[i]? = some (.own b es) → ∃ ds, os[i]? = some (some ds)
  | [], _, _, _, _, _, e, h => by simp at h
  | .imm _ :: as, [], _, _, _, _, e, h => by cases e
  | .imm d :: as, x :: ρ, os, i, _, _, e, h => by
    unfold outsOf at e
    split at e
    · rename_i o e1
      cases e
      cases i with
      | zero => simp at h
      | succ i => obtain ⟨ds, h1⟩ := outs_own e1 (by simpa using h); exact ⟨ds, by simpa using h1⟩
    · cases e
  | .own _ _ :: as, [], _, _, _, _, e, h => by cases e
  | .own _ _ :: as, none :: ρ, _, _, _, _, e, h => by cases e
  | .own _ _ :: as, some (.imm _) :: ρ, _, _, _, _, e, h => by cases e
  | .own _ _ :: as, some (.own .loc _) :: ρ, _, _, _, _, e, h => by cases e
  | .own b es :: as, some (.own .par ds') :: ρ, os, i, _, _, e, h => by
    unfold outsOf at e
    split at e
    · rename_i o e1
      cases e
      cases i with
      | zero => exact ⟨ds', rfl⟩
      | succ i => obtain ⟨ds, h1⟩ := outs_own e1 (by simpa using h); exact ⟨ds, by simpa using h1⟩
    · cases e

section
variable {P : Program} {w : World} {K : PySem.W.Frag} {mg : Str → Option Value} {base : Heap}
theorem SR.pad {H : Hp} {M O : Mset} {π : Nat → Option Addr} {as : List Sv} {vs : List V} (h : SR K H M O π (as.map some) (vs.map some)) (n : Nat) : SR K H M O π (as.map some ++ List.replicate n none) (vs.map some ++ List.replicate n none) := by
  have len : as.length = vs.length := by have := h.len; simpa using this
  have get : ∀ {i : Nat} {s : Sv}, (as.map some ++ List.replicate n none)[i]? = some (some s) → (as.map some)[i]? = some (some s) ∧ i < vs.length := fun {i s} e => by
    by_cases hi : i < as.length
    · rw [List.getElem?_append_left (by simpa using hi)] at e
      exact ⟨e, by omega⟩
    · rw [List.getElem?_append_right (by simpa using hi), List.getElem?_replicate] at e
      split at e <;> cases e
  have up : ∀ {i : Nat}, i < vs.length → (vs.map some ++ List.replicate n none)[i]? = (vs.map some)[i]? := fun {i} hi => List.getElem?_append_left (by simpa using hi)
  refine ⟨by rw [List.length_append, List.length_append, h.len]; simp, h.sub, h.live, fun i d e => ?_, fun i b ds e => ?_, fun i j b c ds es a hij e f g => ?_⟩
  · obtain ⟨e1, hi⟩ := get e
    rw [up hi]; exact h.imm i d e1
  · obtain ⟨e1, hi⟩ := get e
    rw [up hi]; exact h.own i b ds e1
  · obtain ⟨e1, hi⟩ := get e
    obtain ⟨f1, hj⟩ := get f
    rw [up hi] at g
    rw [up hj]; exact h.uniq i j b c ds es a hij e1 f1 g
/-- THE RULE for a def -/
theorem fn_ok {x qual : Str} {st : Stmt} {f : Addr} {fd : FuncData} {N ps : List Str} {k : Nat} {body : MS} (F : Fun K x qual st f fd) (S : FnScope N ps (defScope st))
    (hb : ∀ (cdv : Value) (A : Around) (outer : List Env) (s : Shared) (H : Hp) (E : XK), Room k (A.deeper (envOfC qual (defScope st) s.heap.objs.size f cdv)) → DSs (cxOf CX0 P w K mg base N qual (defScope st) f cdv A outer s H E).nox (defBody st) body) :
    FnOk P w K mg base CX0 (k + 1) f fd ps (spD K ps.length (mFn N.length ps.length body)) := by
  refine F.ok S (fun vs H Q E h => ?_) (fun cdv A outer s H vs Q E hr h => ?_)
  · obtain ⟨M, O, π, args, r, os, hl, _⟩ := h
    exact hl
  · obtain ⟨M, O, π, args, r, os, hl, hs, e, q⟩ := h
    have hal : args.length = vs.length := by have := hs.len; simpa using this
    refine ⟨_, hb cdv A outer s H E hr, ?_⟩
    unfold mFn at e
    have start_eq : L2.start N vs = vs.map some ++ List.replicate (N.length - ps.length) none := by unfold L2.start; rw [hl]
    have fin : ∀ {σ' : St} {ρ' : Fm} {H' : Hp} {M' : Mset} {rr : Sv} {v : V}, Ext O H M H' M' → SR K H' M' O π ρ' σ' → RV K H' M' O ρ' σ' rr v → outsOf args ρ' = some os → rr = r → Q v H' := fun {σ' ρ' H' M' rr v} x s r1 eo er => by
      subst er
      refine q v H' M' s.live x (fun i ds ei => ?_) ?_
      · obtain ⟨e1, _⟩ := outs_get eo ei
        obtain ⟨a, ws, f1, f2, f3, f4, f5, f6⟩ := s.own i .par ds e1
        exact ⟨a, ws, f6 rfl, f2, f3, f5⟩
      · cases rr with
        | imm d => exact r1
        | own b ds =>
          obtain ⟨p, ws, g1, g2, g3, g4, g5, g6⟩ := r1
          refine ⟨p, ws, g1, g2, g3, g4, g5, fun i es ei hp => ?_⟩
          obtain ⟨e1, _⟩ := outs_get eo ei
          obtain ⟨a, us, f1, f2, f3, f4, f5, f6⟩ := s.own i .par es e1
          rw [f6 rfl] at hp; cases hp
          exact g6 i es e1 f1
    split at e
    · rename_i hn
      split at e
      · rename_i r' ρ' e1
        split at e
        · rename_i os' e2
          cases e
          refine ⟨_, M, O, π, .ret r, ρ', by rw [start_eq]; exact hs.pad _, e1, fun v σ' H' M' x s r1 => fin x s r1 e2 rfl⟩
        · cases e
      · rename_i ρ' e1
        split at e
        · rename_i os' e2
          cases e
          refine ⟨_, M, O, π, .next, ρ', by rw [start_eq]; exact hs.pad _, e1, fun σ' H' M' x s => fin (rr := .imm .none) x s .non e2 rfl⟩
        · cases e
      · cases e
    · cases e
end

/-! ### calls -/
/-- an argument: a value, or a name's own list that the callee may change -/
inductive AR where
  | v (d : D)
  | s (i : Nat)
abbrev MR := Fm → Option (List AR × Fm)
def ARep (K : PySem.W.Frag) (H : Hp) (M : Mset) (σ : St) : AR → V → Prop
  | .v d, v => Rep K H M v d
  | .s i, v => σ[i]? = some (some v)
abbrev AReps (K : PySem.W.Frag) (H : Hp) (M : Mset) (σ : St) : List V → List AR → Prop := Paired fun v a => ARep K H M σ a v
def tR (K : PySem.W.Frag) (m : MR) : TA := fun σ H Q => ∃ ρ M O π as ρ', SR K H M O π ρ σ ∧ m ρ = some (as, ρ') ∧ ∀ vs H' M', Ext O H M H' M' → SR K H' M' O π ρ' σ → AReps K H' M' σ vs as → Q vs H'
def DR (X : Cx) (es : List Expr) (m : MR) : Prop := PA X es (tR X.K m)
def rNil : MR := fun ρ => some ([], ρ)
def rVal (me : ME) (n : MR) : MR := fun ρ => match me ρ with
  | some (pr, ρ1) => match frz ρ1 pr with
    | some (d, ρ2) => match n ρ2 with
      | some (as, ρ3) => some (.v d :: as, ρ3)
      | none => none
    | none => none
  | none => none
def rSlot (i : Nat) (n : MR) : MR := fun ρ => match ρ[i]? with
  | some (some (.own _ _)) => match n ρ with
    | some (as, ρ3) => some (.s i :: as, ρ3)
    | none => none
  | _ => none
section
variable {X : Cx} {e : Expr} {es : List Expr} {me : ME} {n : MR}
theorem ARep.tr {K : PySem.W.Frag} {H H' : Hp} {M M' : Mset} {σ : St} {a : AR} {v : V} (l : Lat H M H' M') (r : ARep K H M σ a v) : ARep K H' M' σ a v := by
  cases a with
  | v d => exact Rep.tr l r
  | s i => exact r
theorem dr_nil : DR X [] rNil := PA.imp pa_nil fun σ H Q ⟨ρ, M, O, π, ds, ρ', h, e, q⟩ => by
  cases e
  exact q [] H M (.refl h) h .nil
theorem dr_val (he : DE X e me) (hes : DR X es n) (hs : starEach (e :: es) X.env = (false, eval e X.env) :: starEach es X.env := by rfl) : DR X (e :: es) (rVal me n) :=
  PA.imp (pa_cons he hes hs) fun σ H Q ⟨ρ, M, O, π, ds, ρ', h, e, q⟩ => by
    unfold rVal at e
    split at e
    · rename_i pr ρ1 e1
      split at e
      · rename_i d ρ2 e2
        split at e
        · rename_i as ρ3 e3
          cases e
          refine ⟨ρ, M, O, π, pr, ρ1, h, e1, fun v H1 M1 x1 s1 r1 => ?_⟩
          obtain ⟨M2, x2, s2, r2⟩ := frz_ok s1 r1 e2
          exact ⟨ρ2, M2, O, π, as, _, s2, e3, fun vs H3 M3 x3 s3 r3 => q (v :: vs) H3 M3 ((x1.trans x2).trans x3) s3 (.cons (r2.tr x3.tr) r3)⟩
        · cases e
      · cases e
    · cases e
theorem dr_slot {i : Nat} (he : PE X e (tVar i)) (hes : DR X es n) (hs : starEach (e :: es) X.env = (false, eval e X.env) :: starEach es X.env := by rfl) : DR X (e :: es) (rSlot i n) :=
  PA.imp (pa_cons he hes hs) fun σ H Q ⟨ρ, M, O, π, ds, ρ', h, e, q⟩ => by
    unfold rSlot at e
    split at e
    · rename_i b0 ds0 e0
      split at e
      · rename_i as ρ3 e3
        cases e
        obtain ⟨a, vs, f1, _⟩ := h.own i b0 ds0 e0
        exact ⟨_, f1, ρ, M, O, π, as, _, h, e3, fun vs H3 M3 x3 s3 r3 => q _ H3 M3 x3 s3 (.cons f1 r3)⟩
      · cases e
    · cases e
/-- the arguments as the callee sees them -/
def argsOf (ρ : Fm) : List AR → Option (List Sv)
  | [] => some []
  | .v d :: as => match argsOf ρ as with
    | some xs => some (.imm d :: xs)
    | none => none
  | .s i :: as => match ρ[i]? with
    | some (some (.own .dic _)) => none
    | some (some (.own _ ds)) => match argsOf ρ as with
      | some xs => some (.own .par ds :: xs)
      | none => none
    | _ => none
def slotsOf : List AR → List Nat
  | [] => []
  | .v _ :: as => slotsOf as
  | .s i :: as => i :: slotsOf as
def nodupB : List Nat → Bool
  | [] => true
  | i :: is => !is.contains i && nodupB is
/-- the callee's changes -/
def backTo (ρ : Fm) : List AR → List (Option (List D)) → Option Fm
  | [], [] => some ρ
  | .v _ :: as, _ :: os => backTo ρ as os
  | .s i :: as, some ds :: os => match ρ[i]? with
    | some (some (.own .dic _)) => none
    | some (some (.own b _)) => backTo (ρ.set i (some (.own b ds))) as os
    | _ => none
  | _, _ => none
def mCall (f : Fn) (mr : MR) : ME := fun ρ => match mr ρ with
  | some (as, ρ1) => if nodupB (slotsOf as) = true then match argsOf ρ1 as with
    | some args => match f args with
      | some (r, os) => match backTo ρ1 as os with
        | some ρ2 => some (.val r, ρ2)
        | none => none
      | none => none
    | none => none
    else none
  | none => none
end
section
variable {K : PySem.W.Frag} {H H' : Hp} {M M' O : Mset} {π : Nat → Option Addr} {ρ ρ' : Fm} {σ : St} {as : List AR} {vs : List V} {args : List Sv} {os : List (Option (List D))}
theorem args_len : ∀ {as : List AR} {args : List Sv}, argsOf ρ as = some args → args.length = as.length
  | [], _, e => by cases e; rfl
  | .v d :: as, _, e => by
    unfold argsOf at e
    split at e
    · rename_i xs e1
      cases e; rw [List.length_cons, List.length_cons, args_len e1]
    · cases e
  | .s i :: as, _, e => by
    unfold argsOf at e
    split at e
    · cases e
    · split at e
      · rename_i xs e1
        cases e; rw [List.length_cons, List.length_cons, args_len e1]
      · cases e
    · cases e
theorem args_get : ∀ {as : List AR} {args : List Sv} {j : Nat} {s : Sv}, argsOf ρ as = some args → args[j]? = some s → (∃ d, as[j]? = some (.v d) ∧ s = .imm d) ∨ ∃ i b ds, as[j]? = some (.s i) ∧ ρ[i]? = some (some (.own b ds)) ∧ b.isL = true ∧ s = .own .par ds
  | [], _, _, _, e, h => by cases e; simp at h
  | .v d :: as, _, j, s, e, h => by
    unfold argsOf at e
    split at e
    · rename_i xs e1
      cases e
      cases j with
      | zero => simp at h; exact .inl ⟨d, rfl, h.symm⟩
      | succ j => simpa using args_get e1 (by simpa using h)
    · cases e
  | .s i :: as, _, j, s, e, h => by
    unfold argsOf at e
    split at e
    · cases e
    · rename_i b ds hbn hb
      split at e
      · rename_i xs e1
        cases e
        cases j with
        | zero => simp at h; exact .inr ⟨i, b, ds, rfl, hb, isL_of hbn, h.symm⟩
        | succ j => simpa using args_get e1 (by simpa using h)
      · cases e
    · cases e
theorem slots_mem : ∀ {as : List AR} {j i : Nat}, as[j]? = some (.s i) → i ∈ slotsOf as
  | [], _, _, h => by simp at h
  | .v _ :: as, 0, _, h => by simp at h
  | .v _ :: as, j + 1, i, h => slots_mem (as := as) (j := j) (by simpa using h)
  | .s k :: as, 0, i, h => by simp at h; subst h; exact List.mem_cons_self ..
  | .s k :: as, j + 1, i, h => List.mem_cons_of_mem _ (slots_mem (as := as) (j := j) (by simpa using h))
theorem slots_at : ∀ {as : List AR} {i : Nat}, i ∈ slotsOf as → ∃ (j : Nat), as[j]? = some (AR.s i)
  | [], _, h => by cases h
  | .v _ :: as, i, h => by obtain ⟨j, e⟩ := slots_at (as := as) h; exact ⟨j + 1, by simpa using e⟩
  | .s k :: as, i, h => by
    rcases List.mem_cons.mp h with rfl | h
    · exact ⟨0, rfl⟩
    · obtain ⟨j, e⟩ := slots_at (as := as) h; exact ⟨j + 1, by simpa using e⟩
theorem slots_inj : ∀ {as : List AR} {j k i : Nat}, nodupB (slotsOf as) = true → as[j]? = some (.s i) → as[k]? = some (.s i) → j = k
  | [], _, _, _, _, h, _ => by simp at h
  | .v _ :: as, 0, _, _, _, h, _ => by simp at h
  | .v _ :: as, _ + 1, 0, _, _, _, h => by simp at h
  | .v _ :: as, j + 1, k + 1, i, n, h, g => by rw [slots_inj (as := as) (j := j) (k := k) n (by simpa using h) (by simpa using g)]
  | .s m :: as, 0, 0, _, _, _, _ => rfl
  | .s m :: as, 0, k + 1, i, n, h, g => by
    simp at h; subst h
    have : m ∈ slotsOf as := slots_mem (j := k) (by simpa using g)
    unfold slotsOf nodupB at n
    rw [Bool.and_eq_true] at n
    simp [this] at n
  | .s m :: as, j + 1, 0, i, n, h, g => by
    simp at g; subst g
    have : m ∈ slotsOf as := slots_mem (j := j) (by simpa using h)
    unfold slotsOf nodupB at n
    rw [Bool.and_eq_true] at n
    simp [this] at n
  | .s m :: as, j + 1, k + 1, i, n, h, g => by
    unfold slotsOf nodupB at n
    rw [Bool.and_eq_true] at n
    rw [slots_inj (as := as) (j := j) (k := k) n.2 (by simpa using h) (by simpa using g)]
theorem paired_get {α β : Type} {F : α → β → Prop} : ∀ {xs : List α} {ys : List β} {i : Nat} {y : β}, Paired F xs ys → ys[i]? = some y → ∃ x, xs[i]? = some x ∧ F x y
  | _, _, _, _, .nil, e => by simp at e
  | _, _, 0, y, .cons r _, e => by simp at e; subst e; exact ⟨_, rfl, r⟩
  | _, _, i + 1, y, .cons _ t, e => by
    obtain ⟨x, h1, h2⟩ := paired_get (i := i) t (by simpa using e)
    exact ⟨x, by simpa using h1, h2⟩
/-- what the callee may not touch -/
def calO (M : Mset) (σ : St) (is : List Nat) : Mset := fun a => M a ∧ ∀ i ∈ is, σ[i]? ≠ some (some (.ref a))
def calP (vs : List V) : Nat → Option Addr := fun j => match vs[j]? with
  | some (.ref a) => some a
  | _ => none
theorem call_start (h : SR K H M O π ρ σ) (r : AReps K H M σ vs as) (n : nodupB (slotsOf as) = true) (e : argsOf ρ as = some args) : SR K H M (calO M σ (slotsOf as)) (calP vs) (args.map some) (vs.map some) := by
  have hl : args.length = vs.length := by rw [args_len e]; exact (Paired.length r).symm
  have get : ∀ {j : Nat} {s : Sv}, (args.map some)[j]? = some (some s) → args[j]? = some s := fun {j s} q => by
    rw [List.getElem?_map] at q
    obtain ⟨x, h1, h2⟩ := Option.map_eq_some_iff.mp q
    cases h2; exact h1
  have own : ∀ {j : Nat} {c : Kd} {ds : List D}, (args.map some)[j]? = some (some (.own c ds)) → ∃ i b a ws, as[j]? = some (.s i) ∧ ρ[i]? = some (some (.own b ds)) ∧ c = .par ∧ vs[j]? = some (.ref a) ∧ σ[i]? = some (some (.ref a)) ∧ H a = some (.lst ws) ∧ M a ∧ ¬ O a ∧ Reps K H M ws ds := fun {j c ds} q => by
    rcases args_get e (get q) with ⟨d, _, z⟩ | ⟨i, b, ds', e1, e2, hL, z⟩
    · cases z
    · cases z
      obtain ⟨v, e3, e4⟩ := paired_get r e1
      obtain ⟨a, ws, f1, f2, f3, f4, f5, _⟩ := h.ownL e2 hL
      have e4' : σ[i]? = some (some v) := e4
      rw [f1] at e4'; cases e4'
      exact ⟨i, b, a, ws, e1, e2, rfl, e3, f1, f2, f3, f4, f5⟩
  have up : ∀ {j : Nat} {v : V}, vs[j]? = some v → (vs.map some)[j]? = some (some v) := fun q => by rw [List.getElem?_map, q]; rfl
  refine ⟨by rw [List.length_map, List.length_map, hl], fun a q => q.1, h.live, fun j d q => ?_, fun j c ds q => ?_, fun j k c c' ds es a hjk q q2 q3 q4 => ?_⟩
  · rcases args_get e (get q) with ⟨d', e1, z⟩ | ⟨i, b, ds', e1, e2, hL, z⟩
    · cases z
      obtain ⟨v, e3, e4⟩ := paired_get r e1
      exact ⟨v, up e3, e4⟩
    · cases z
  · obtain ⟨i, b, a, ws, e1, e2, e3, e4, f1, f2, f3, f4, f5⟩ := own q
    subst e3
    refine ⟨a, ws, up e4, f2, f3, fun z => z.2 i (slots_mem e1) f1, f5, fun _ => ?_⟩
    unfold calP
    rw [e4]
  · obtain ⟨i, b, a1, ws, e1, e2, e3, e4, f1, f2, f3, f4, f5⟩ := own q
    obtain ⟨i', b', a2, ws', e1', e2', e3', e4', f1', f2', f3', f4', f5'⟩ := own q2
    rw [up e4] at q3; cases q3
    rw [up e4'] at q4; cases q4
    have hi : i ≠ i' := fun z => by
      subst z
      exact hjk (slots_inj n e1 e1')
    exact h.uniq i i' b b' ds es a hi e2 e2' f1 f1'
/-- the names behind the callee's changes -/
theorem back_get : ∀ {as : List AR} {os : List (Option (List D))} {ρ ρ' : Fm}, nodupB (slotsOf as) = true → backTo ρ as os = some ρ' → ρ'.length = ρ.length ∧ (∀ (i : Nat), i ∉ slotsOf as → ρ'[i]? = ρ[i]?) ∧
    ∀ (i : Nat), i ∈ slotsOf as → ∃ (j : Nat) (b : Kd) (ds es : List D), as[j]? = some (AR.s i) ∧ os[j]? = some (some ds) ∧ ρ[i]? = some (some (.own b es)) ∧ ρ'[i]? = some (some (.own b ds)) ∧ b.isL = true
  | [], [], ρ, ρ', _, e => by
    cases e
    exact ⟨rfl, fun _ _ => rfl, fun i hi => by cases hi⟩
  | [], _ :: _, _, _, _, e => by cases e
  | .v _ :: as, [], _, _, _, e => by cases e
  | .v _ :: as, o :: os, ρ, ρ', n, e => by
    obtain ⟨h1, h2, h3⟩ := back_get (as := as) (os := os) n e
    refine ⟨h1, h2, fun i hi => ?_⟩
    obtain ⟨j, b, ds, es, g1, g2, g3, g4⟩ := h3 i hi
    exact ⟨j + 1, b, ds, es, by simpa using g1, by simpa using g2, g3, g4⟩
  | .s _ :: as, [], _, _, _, e => by cases e
  | .s _ :: as, none :: os, _, _, _, e => by cases e
  | .s m :: as, some ds :: os, ρ, ρ', n, e => by
    unfold backTo at e
    split at e
    · cases e
    · rename_i b es hbn hb
      unfold slotsOf nodupB at n
      rw [Bool.and_eq_true] at n
      have nm : m ∉ slotsOf as := fun z => by have := n.1; simp [z] at this
      obtain ⟨h1, h2, h3⟩ := back_get (as := as) (os := os) n.2 e
      refine ⟨by rw [h1, List.length_set], fun i hi => ?_, fun i hi => ?_⟩
      · unfold slotsOf at hi
        rw [List.mem_cons, not_or] at hi
        rw [h2 i hi.2, List.getElem?_set_ne (Ne.symm hi.1)]
      · unfold slotsOf at hi
        rcases List.mem_cons.mp hi with rfl | hi
        · exact ⟨0, b, ds, es, rfl, rfl, hb, by rw [h2 i nm]; exact get_set_same hb, isL_of hbn⟩
        · obtain ⟨j, b', ds', es', g1, g2, g3, g4, gL⟩ := h3 i hi
          have hne : i ≠ m := fun z => nm (z ▸ hi)
          rw [List.getElem?_set_ne (Ne.symm hne)] at g3
          exact ⟨j + 1, b', ds', es', by simpa using g1, by simpa using g2, g3, g4, gL⟩
    · cases e
theorem call_end (h : SR K H M O π ρ σ) (r : AReps K H M σ vs as) (n : nodupB (slotsOf as) = true) (eb : backTo ρ as os = some ρ') (lv : ∀ a, M' a → H' a ≠ none) (x : Ext (calO M σ (slotsOf as)) H M H' M') (ho : OutR K H' M' (calP vs) os) :
    Ext O H M H' M' ∧ SR K H' M' O π ρ' σ := by
  obtain ⟨b1, b2, b3⟩ := back_get n eb
  have sub : ∀ a, O a → calO M σ (slotsOf as) a := fun a q => ⟨h.sub a q, fun i hi z => by
    obtain ⟨j, b, ds, es, g1, g2, g3, g4, gL⟩ := b3 i hi
    obtain ⟨a', ws, f1, f2, f3, f4, _⟩ := h.own i b es g3
    rw [z] at f1; cases f1
    exact f4 q⟩
  have same : ∀ {i : Nat} {s : Sv}, ρ'[i]? = some (some s) → i ∉ slotsOf as → ρ[i]? = some (some s) := fun e hi => by rw [b2 _ hi] at e; exact e
  have ow : ∀ {i : Nat} {b : Kd} {ds : List D}, ρ'[i]? = some (some (.own b ds)) → ∃ es, ρ[i]? = some (some (.own b es)) := fun {i b ds} e => by
    by_cases hi : i ∈ slotsOf as
    · obtain ⟨j, b', ds', es, g1, g2, g3, g4, gL⟩ := b3 i hi
      rw [e] at g4; cases g4
      exact ⟨es, g3⟩
    · exact ⟨ds, same e hi⟩
  refine ⟨x.less sub, ⟨by rw [b1]; exact h.len, fun a q => x.sub a (sub a q), lv, fun i d e => ?_, fun i b ds e => ?_, fun i j b c ds es a hij e f g => ?_⟩⟩
  · by_cases hi : i ∈ slotsOf as
    · obtain ⟨j, b', ds', es, g1, g2, g3, g4, gL⟩ := b3 i hi
      rw [e] at g4; cases g4
    · obtain ⟨v, e1, rr⟩ := h.imm i d (same e hi)
      exact ⟨v, e1, rr.tr x.tr⟩
  · by_cases hi : i ∈ slotsOf as
    · obtain ⟨j, b', ds', es, g1, g2, g3, g4, gL⟩ := b3 i hi
      rw [e] at g4; cases g4
      obtain ⟨a, ws, f1, f2, f3, f4, f5, f6⟩ := h.ownL g3 gL
      obtain ⟨v, e3, e4⟩ := paired_get r g1
      have e4' : σ[i]? = some (some v) := e4
      rw [f1] at e4'; cases e4'
      obtain ⟨a', us, p1, p2, p3, p4⟩ := ho j ds g2
      unfold calP at p1
      rw [e3] at p1
      cases p1
      exact ⟨a, us, f1, p2.trans (congrArg some (cell_lst gL).symm), p3, f4, p4, f6⟩
    · have e0 := same e hi
      obtain ⟨a, ws, f1, f2, f3, f4, f5, f6⟩ := h.own i b ds e0
      have ha : calO M σ (slotsOf as) a := ⟨f3, fun k hk z => by
        obtain ⟨j, b', ds', es, g1, g2, g3, g4, gL⟩ := b3 k hk
        exact h.uniq i k _ _ _ _ a (fun q => hi (q ▸ hk)) e0 g3 f1 z⟩
      exact ⟨a, ws, f1, x.keep a _ f2 (.inl ha), x.sub a ha, f4, f5.tr x.tr, f6⟩
  · obtain ⟨ds', e1⟩ := ow e
    obtain ⟨es', f1⟩ := ow f
    exact h.uniq i j b c ds' es' a hij e1 f1 g
/-- what comes back -/
theorem call_ret {rr : Sv} {v : V} (h : SR K H M O π ρ σ) (r : AReps K H M σ vs as) (n : nodupB (slotsOf as) = true) (eb : backTo ρ as os = some ρ') (x : Ext (calO M σ (slotsOf as)) H M H' M') (ho : OutR K H' M' (calP vs) os) (q : RetR K H' M' (calO M σ (slotsOf as)) (calP vs) os rr v) :
    RP K H' M' O ρ' σ (.val rr) v := by
  cases rr with
  | imm d => exact q
  | own b0 ds0 =>
    obtain ⟨p, ws, e1, e2, e3, e4, e5, e6⟩ := q
    obtain ⟨b1, b2, b3⟩ := back_get n eb
    refine ⟨p, ws, e1, e2, e3, fun z => e4 ⟨h.sub p z, fun i hi y => ?_⟩, e5, fun i b ds e y => ?_⟩
    · obtain ⟨j, b, ds, es, g1, g2, g3, g4, gL⟩ := b3 i hi
      obtain ⟨a', ws', f1, f2, f3, f4, _⟩ := h.own i b es g3
      rw [y] at f1; cases f1
      exact f4 z
    · by_cases hi : i ∈ slotsOf as
      · obtain ⟨j, b', ds', es, g1, g2, g3, g4, gL⟩ := b3 i hi
        obtain ⟨v', e7, e8⟩ := paired_get r g1
        have e8' : σ[i]? = some (some v') := e8
        rw [y] at e8'; cases e8'
        exact e6 j ds' g2 (by unfold calP; rw [e7])
      · rw [b2 i hi] at e
        obtain ⟨a, us, f1, f2, f3, f4, f5, f6⟩ := h.own i b ds e
        rw [y] at f1; cases f1
        exact e4 ⟨f3, fun k hk z => by
          obtain ⟨j, b', ds', es, g1, g2, g3, g4, gL⟩ := b3 k hk
          exact h.uniq i k _ _ _ _ p (fun q => hi (q ▸ hk)) e g3 y z⟩
end
section
variable {X : Cx} {e : Expr} {es : List Expr} {me : ME} {mr : MR} {k np : Nat} {f : Addr} {fd : FuncData} {ps : List Str} {g : Fn} {x : Str} {p pos : Pos}
theorem tR_call {σ : St} {H : Hp} {Q : VK} (hn : ∀ ρ as ρ', mr ρ = some (as, ρ') → as.length = np) (h : tE X.K (mCall g mr) σ H Q) : tR X.K mr σ H fun vs H1 => spD X.K np g vs H1 Q E0 := by
  obtain ⟨ρ, M, O, π, pr, ρ', h, e, q⟩ := h
  unfold mCall at e
  split at e
  · rename_i as ρ1 e1
    split at e
    · rename_i n
      split at e
      · rename_i args e2
        split at e
        · rename_i r os e3
          split at e
          · rename_i ρ2 e4
            cases e
            refine ⟨ρ, M, O, π, as, ρ1, h, e1, fun vs H1 M1 x1 s1 r1 => ?_⟩
            refine ⟨M1, _, _, args, r, os, by rw [Paired.length r1]; exact hn _ _ _ e1, call_start s1 r1 n e2, e3, fun v H2 M2 lv x2 ho rr => ?_⟩
            obtain ⟨x3, s3⟩ := call_end s1 r1 n e4 lv x2 ho
            exact q v H2 M2 (x1.trans x3) s3 (call_ret s1 r1 n e4 x2 ho rr)
          · cases e
        · cases e
      · cases e
    · cases e
  · cases e
/-- f(e, ..) -/
theorem de_call (F : FnOk X.prog X.w X.K X.mg X.base CX0 k f fd ps (spD X.K ps.length g)) (hr : Room k X.A) (hg : Gl X x) (hm : X.mg x = some (.ref f)) (hk : PySem.W.keepIn X.K (.ref f) = true) (hb : Binds X.K fd ps [])
    (ha : DR X (e :: es) mr) (hn : ∀ ρ as ρ', mr ρ = some (as, ρ') → as.length = ps.length) (hdb : (x == ("__debug__" : Str)) = false := by decide) (he : starEach (e :: es) X.env = (false, eval e X.env) :: starEach es X.env := by rfl) (hpl : (PySem.backTo pos (starEach es X.env)).any (·.1) = false := by rfl) :
    DE X (.Call (.Name x p) (e :: es) [] pos) (mCall g mr) :=
  PE.imp (pe_call F hr hg hm hk hb .nil pass0 ha hdb he hpl) fun σ H Q h => by
    have := tR_call (X := X) hn h
    obtain ⟨ρ, M, O, π, as, ρ', h, e, q⟩ := this
    exact ⟨ρ, M, O, π, as, ρ', h, e, fun vs H' M' x s r => by show spD X.K ps.length g (vs ++ []) H' Q E0; rw [List.append_nil]; exact q vs H' M' x s r⟩
theorem de_call0 (F : FnOk X.prog X.w X.K X.mg X.base CX0 k f fd [] (spD X.K 0 g)) (hr : Room k X.A) (hg : Gl X x) (hm : X.mg x = some (.ref f)) (hk : PySem.W.keepIn X.K (.ref f) = true) (hb : Binds X.K fd [] []) (hdb : (x == ("__debug__" : Str)) = false := by decide) :
    DE X (.Call (.Name x p) [] [] pos) (mCall g rNil) :=
  PE.imp (pe_call0 (dvs := []) F hr hg hm hk hb .nil pass0 hdb) fun σ H Q h => by
    obtain ⟨ρ, M, O, π, as, ρ', h, e, q⟩ := tR_call (X := X) (np := 0) (fun ρ as ρ' e => by cases e; rfl) h
    cases e
    exact q [] H M (.refl h) h .nil
end
end Vi

namespace PySem
open Sem (wp)
open AutoSeq1 (wpAny_loadPart')
theorem vi_meets_enumerate_newT (l : Addr) (items : Array Value) (n : Nat) (dct : Option Addr) (sl : Array (Option Value)) :
    Meets (Builtin.«enumerate.__new__» ⟨[.type "enumerate", .ref l], []⟩) (fun _ R s => s.heap.get? l = some { cls := .type "tuple", dict := dct, data := .seq items n, slots := sl } ∧
      R (.ok (.ret (.ref (s.heap.push { cls := .type "tuple_iterator", data := .fields #[.ref l, .int 0 0] }).objs.size)))
        { s with heap := (s.heap.push { cls := .type "tuple_iterator", data := .fields #[.ref l, .int 0 0] }).push { cls := .type "enumerate", data := .fields #[.none, .bool false, .ref s.heap.objs.size, rawInt 0, .none, .none] } }) :=
  .of_wp fun prog w A R s h => by
    obtain ⟨hp, g, d, tk, os⟩ := s; obtain ⟨hl, h⟩ := h
    have hsub := sub_enumerate
    have hL : Heap.IsTuple (Shared.heap ⟨hp, g, d, tk, os⟩) l items := ⟨_, hl, rfl, n, rfl⟩
    wp_walk using wpAny_loadPart' hl
    refine wpAny_stack_any fun st => wpAny_pure ?_
    split
    · rename_i c _ _ _ _ _
      cases (c == Value.type "enumerate")
      · wp_walk using wpAny_loadPart' hl, wpAny_pyIter_tuple hL
        exact ⟨_, rfl, h⟩
      · wp_walk using wpAny_loadPart' hl, wpAny_pyIter_tuple hL
        exact ⟨_, rfl, h⟩
    · wp_walk using wpAny_loadPart' hl, wpAny_pyIter_tuple hL
      exact ⟨_, rfl, h⟩
theorem vi_call_enumerate_tuple {prog : Program} {w : World} {A : Around} {E : Value → Shared → Prop} {s : Shared} {l : Addr} {items : Array Value} {Q : Value → Shared → Prop} (hL : s.heap.IsTuple l items)
    (h : ∀ h', IsEnum h' (s.heap.objs.size + 1) s.heap.objs.size 0 .none → h'.IsTupleIter s.heap.objs.size l 0 → h'.objs.size = s.heap.objs.size + 2 →
      (∀ b o, s.heap.get? b = some o → h'.get? b = some o) → Q (.ref (s.heap.objs.size + 1)) { s with heap := h' }) :
    wpAny (model prog w) A (call (.type "enumerate") [.ref l]) Q E s := by
  obtain ⟨⟨c, dct, dt, sl⟩, hl, hc, n, hd⟩ := hL
  replace hc : c = .type "tuple" := hc
  replace hd : dt = .seq items n := hd
  subst hc hd
  refine callType_new F.called_enumerate (by decide) (F.typeCall_enumerate_1 _) (F.newCall_enumerate_1 _) (fun obj => F.args_object_init_2 obj _) F.entry_enumerate_new
    (vi_meets_enumerate_newT l items n dct sl) ⟨hl, ?_⟩
  have hz : (s.heap.push { cls := .type "tuple_iterator", data := .fields #[.ref l, .int 0 0] }).objs.size = s.heap.objs.size + 1 := Heap.size_push ..
  show _ ∧ _
  rw [hz]
  have he : IsEnum ((s.heap.push { cls := .type "tuple_iterator", data := .fields #[.ref l, .int 0 0] }).push
      { cls := .type "enumerate", data := .fields #[.none, .bool false, .ref s.heap.objs.size, rawInt 0, .none, .none] }) (s.heap.objs.size + 1) s.heap.objs.size 0 .none := by
    have := Heap.get?_push_size (s.heap.push { cls := .type "tuple_iterator", data := .fields #[.ref l, .int 0 0] })
      (o := { cls := .type "enumerate", data := .fields #[.none, .bool false, .ref s.heap.objs.size, rawInt 0, .none, .none] }) rfl
    rw [hz] at this; exact this
  refine ⟨⟨_, he, rfl⟩, h _ he ⟨_, Heap.get?_push_of_some _ (Heap.get?_push_size _ rfl), rfl, rfl⟩ (by rw [Heap.size_push, hz]) fun b o x => Heap.get?_push_of_some _ (Heap.get?_push_of_some _ x)⟩
end PySem
namespace Vi
open PySem PySem.Spec PyProof.Rows L2
/-! ### enumerate of a tuple -/
def IteT (K : PySem.W.Frag) (a : Addr) : It :=
  ⟨fun i H => ∃ (xs : List V) (x : V), SqT K H a xs ∧ xs[i]? = some x, fun i H v H' => ∃ T x, v = .ref T ∧ H T = none ∧ H' = upd H T (.tup [.int (i : Nat), x]) ∧ ∀ xs, SqT K H a xs → xs[i]? = some x, fun i H => ∃ xs : List V, SqT K H a xs ∧ xs.length ≤ i⟩
theorem turn_enumT {P : Program} {w : World} {K : PySem.W.Frag} {elts : List Expr} {kk : Nat} {tpos : Pos} (a e it : Addr) (hai : a ≠ it) (hae : a ≠ e) :
    Turn P w K (.Tuple elts kk tpos) (IteT K a) [e, it] e (fun i h => (∃ old, IsEnum h e it ((i : Nat) : Int) old) ∧ h.IsTupleIter it a i ∧ e ≠ it) where
  mem := by simp
  obj := fun i h st b hb => by
    obtain ⟨⟨old, he⟩, ⟨o, ho, hc, hd⟩, _⟩ := st
    have e' : b = e ∨ b = it := by simpa using hb
    rcases e' with z | z
    · rw [z]; exact ⟨_, he, fun v q => nomatch q⟩
    · rw [z]; exact ⟨o, ho, fun v q => by rw [hd] at q; cases q⟩
  keep := fun i h h' st k => let ⟨⟨old, he⟩, hi, hne⟩ := st; ⟨⟨old, k e (by simp) _ he⟩, hi.at fun o q => k it (by simp) o q, hne⟩
  item := by
    intro X hP hw hK hc i pins s σ H E I hf st hg
    subst hP hw hK
    obtain ⟨⟨old, he⟩, hit, hne⟩ := st
    obtain ⟨xs, x, hq, hx⟩ := hg
    obtain ⟨its, rv, p, hz⟩ := I.tuple hq
    obtain ⟨u, hu, ru⟩ := rv.get hx
    have hel : e < s.heap.objs.size := Heap.lt_size he
    have hil : it < s.heap.objs.size := by obtain ⟨_, q, _⟩ := hit; exact Heap.lt_size q
    have hlt : i < its.toArray.size := by simpa using (List.getElem?_eq_some_iff.mp hu).1
    refine wpAny_pyNext_enum_itemD (Draws.tuple (A := X.A.in1) (I.ok.hd hc) it a hai its.toArray) he ⟨hit, p⟩ hlt hne (by simp; exact ⟨hne, fun z => hae z.symm⟩) fun y h' tk py ho ⟨hit', _⟩ hT hsz hk => ?_
    have ey : y = u := by
      have h1 : its.toArray[i]? = some y := py
      have h2 : its.toArray[i]? = some u := by simpa using hu
      rw [h2] at h1; exact (Option.some.inj h1).symm
    subst ey
    refine ⟨_, rfl, wpAny_letOwnedTupleGo_enum (s := { s with heap := h', toks := tk + 1 }) ho fun h'' he' sb => ?_⟩
    have hT2 : h''.get? s.heap.objs.size = some { cls := .type "tuple", data := .seq #[.int i tk, y] } := (sb.2 _ (Nat.ne_of_gt hel)).trans hT
    have new : ObjOk X.prog X.w (upd H s.heap.objs.size (.tup [.int (i : Nat), x])) h'' s.heap.objs.size (.tup [.int (i : Nat), x]) :=
      ⟨by show 2 ≤ sizeLine; decide, [.int i tk, y], .cons ⟨_, rfl⟩ (.cons ru .nil), ⟨_, hT2, rfl, _, rfl⟩⟩
    have I1 : Inv X pins σ (upd H s.heap.objs.size (.tup [.int (i : Nat), x])) { s with heap := h'', toks := tk + 1 } :=
      I.turnedNew (ch := [e, it]) (fun b ob hb q => (sb.2 b (fun z => hb (by simp [z]))).trans (hk b ob (fun z => hb (by simp [z])) (fun z => hb (by simp [z])) q)) hf (Nat.le_refl _) new
    refine ⟨.ref s.heap.objs.size, _, I1, rfl, ⟨_, x, rfl, I.hok.fresh (Nat.le_refl _), rfl, fun ys hy => by rw [I.tuple_inj hy hq]; exact hx⟩, ⟨⟨y, ?_⟩, hit'.at fun o q => (sb.2 it (Ne.symm hne)).trans q, hne⟩, fun b hb => ?_⟩
    · have e1 : ((i + 1 : Nat) : Int) = (i : Int) + 1 := by omega
      rw [e1]; exact he'
    · have hb' : b < s.heap.objs.size := by
        have e' : b = e ∨ b = it := by simpa using hb
        rcases e' with z | z
        · rw [z]; exact hel
        · rw [z]; exact hil
      rw [upd_ne (Nat.ne_of_lt hb')]
      exact (hf b hb).1
  done := by
    intro X hP hw hK hc i pins s σ H E I hf st hg
    subst hP hw hK
    obtain ⟨⟨old, he⟩, hit, hne⟩ := st
    obtain ⟨xs, hq, hx⟩ := hg
    obtain ⟨its, rv, p, hz⟩ := I.tuple hq
    obtain ⟨f0, f1, f2, f3, f4, f5⟩ := hf it (by simp)
    have hl := rv.length
    have hT : s.TypeIs (.ref e) "enumerate" := ⟨_, he, rfl⟩
    unfold pyNext
    refine wpAny_bind (wpAny_attempt (wpAny_callSpecial?_slot (name := Str.ofString "__next__") hT F.slot_enumerate_next
      (wpAny_call_entry F.slot_enumerate_next hT F.entry_enumerate_next ?_ (F.args_enumerate_next_1 _))))
    show wpAny _ _ (field (.ref e) 2 >>= _) _ _ _
    refine wpAny_bind (wpAny_field he rfl (x := .ref it) rfl ?_)
    refine wpAny_bind (wpAny_nextOf_tuple_end (I.ok.hd hc) hit p (by simp; omega) fun h' x he' hx' => ?_)
    obtain ⟨o, ho, hc⟩ := hx'
    refine wpAny_bind (wpAny_isInstance (T := "StopIteration") (b := true) ⟨o, ho, hc⟩ isSubtype_stop ?_)
    exact wpAny_pure ⟨rfl, I.turned (t' := s.toks) (fun b o hb q => he' b o hb q) f0 f1 f3 f4 f5⟩
  self := fun A i s Q E st h => let ⟨⟨_, he⟩, _⟩ := st; wpAny_pyIter_enum he h
section
variable {X : Cx}
def iEnumA (K : PySem.W.Frag) (ta : TA) : TI := fun σ H R => ta σ H fun vs H1 => ∃ a xs, vs = [.ref a] ∧ ((SqL K H1 a xs ∧ R (Ite K a) H1) ∨ (SqT K H1 a xs ∧ R (IteT K a) H1))
theorem pi_enumA {e : Expr} {ta : TA} {p pos tpos : Pos} {elts : List Expr} {kk : Nat} (hg : Gl X "enumerate") (hm : X.mg "enumerate" = none) (ha : PA X [e] ta) (hs : starEach [e] X.env = [(false, eval e X.env)] := by rfl) :
    PI X (.Tuple elts kk tpos) (.Call (.Name "enumerate" p) [e] [] pos) (iEnumA X.K ta) := by
  refine ⟨fun pins s σ H R I h => ?_⟩
  refine Call_ (ld_blt I hg hm boot_enumerate (PyProof.Rows.callWith_type1 (thn (ha.run pos pins s σ H _ I h) fun us s1 ⟨vs, H1, I1, r1, q1⟩ => ?_) hs rfl))
  obtain ⟨a, xs, ex, q1⟩ := q1
  subst ex
  cases r1 with
  | cons r rr =>
    cases rr
    cases r
    rcases q1 with ⟨hq, q⟩ | ⟨hq, q⟩
    · obtain ⟨its, rv, p', hz⟩ := I1.list hq
      refine call_enumerate_list p'.isList fun h' he hit hsz hk => wpAny_pyIter_enum he ?_
      have I2 : Inv X pins σ H1 { s1 with heap := h' } := I1.kept (t' := s1.toks) hk
      refine ⟨s1.heap.objs.size + 1, [s1.heap.objs.size + 1, s1.heap.objs.size], _, _, H1, rfl, I2, turn_enum a (s1.heap.objs.size + 1) s1.heap.objs.size, ⟨⟨.none, he⟩, hit, Nat.succ_ne_self _⟩, fun b hb => ?_, q⟩
      have e' : b = s1.heap.objs.size + 1 ∨ b = s1.heap.objs.size := by simpa using hb
      have hle : s1.heap.objs.size ≤ b := by
        rcases e' with z | z
        · rw [z]; exact Nat.le_add_right _ _
        · rw [z]; exact Nat.le_refl _
      exact I1.fpOk hle (I1.hok.fresh hle)
    · obtain ⟨its, rv, p', hz⟩ := I1.tuple hq
      have hat : a < s1.heap.objs.size := p'.lt
      refine vi_call_enumerate_tuple p' fun h' he hit hsz hk => wpAny_pyIter_enum he ?_
      have I2 : Inv X pins σ H1 { s1 with heap := h' } := I1.kept (t' := s1.toks) hk
      refine ⟨s1.heap.objs.size + 1, [s1.heap.objs.size + 1, s1.heap.objs.size], _, _, H1, rfl, I2, turn_enumT a (s1.heap.objs.size + 1) s1.heap.objs.size (Nat.ne_of_lt hat) (Nat.ne_of_lt (Nat.lt_succ_of_lt hat)), ⟨⟨.none, he⟩, hit, Nat.succ_ne_self _⟩, fun b hb => ?_, q⟩
      have e' : b = s1.heap.objs.size + 1 ∨ b = s1.heap.objs.size := by simpa using hb
      have hle : s1.heap.objs.size ≤ b := by
        rcases e' with z | z
        · rw [z]; exact Nat.le_add_right _ _
        · rw [z]; exact Nat.le_refl _
      exact I1.fpOk hle (I1.hok.fresh hle)
theorem src_enumT {K : PySem.W.Frag} {H0 : Hp} {M0 : Mset} {a : Addr} {vs : List V} {xs : List D} (h : TupAt K H0 M0 a vs) (r : Reps K H0 M0 vs xs) : Src K (IteT K a) (enumD 0 xs) H0 M0 := by
  refine ⟨fun H M l i hi => ?_, fun H M l => ⟨vs, tupAt_lat h l, by rw [enumD_len, r.length]; exact Nat.le_refl _⟩, fun H M l i d x H' ed y => ?_⟩
  · rw [enumD_len, ← r.length] at hi
    exact ⟨vs, vs[i], tupAt_lat h l, by simp [hi]⟩
  · obtain ⟨p, e1, rfl⟩ := enumD_get ed
    obtain ⟨v, hv, rv⟩ := r.get e1
    obtain ⟨T, vx, rfl, hT, rfl, f1⟩ := y
    have g1 := f1 vs (tupAt_lat h l)
    rw [hv] at g1; cases g1
    rw [Nat.zero_add]
    exact .inr ⟨T, _, _, rfl, hT, rfl, rfl, .cons (.int _) (.cons (rv.tr l) .nil)⟩
def mIEnum (ma : MA) : MI := fun ρ => match ma ρ with
  | some ([.list xs], ρ1) => some (enumD 0 xs, ρ1)
  | some ([.tuple xs], ρ1) => some (enumD 0 xs, ρ1)
  | _ => none
theorem di_enum {e : Expr} {ma : MA} {p pos tpos : Pos} {elts : List Expr} {kk : Nat} (hg : Gl X "enumerate") (hm : X.mg "enumerate" = none) (ha : DA X [e] ma) (hs : starEach [e] X.env = [(false, eval e X.env)] := by rfl) :
    DI X (.Tuple elts kk tpos) (.Call (.Name "enumerate" p) [e] [] pos) (mIEnum ma) :=
  PI.imp (pi_enumA hg hm ha hs) fun σ H R ⟨ρ, M, O, π, ds, ρ', h, e, q⟩ => by
    unfold mIEnum at e
    split at e
    · rename_i xs ρ1 e1
      cases e
      refine ⟨ρ, M, O, π, _, _, h, e1, fun vs H1 M1 x1 s1 r1 => ?_⟩
      cases r1 with
      | cons rv rr =>
        cases rr
        cases rv with
        | lst hr n rr => exact ⟨_, _, rfl, .inl ⟨.inl hr, q _ H1 M1 x1 s1 (src_enumL hr n rr)⟩⟩
    · rename_i xs ρ1 e1
      cases e
      refine ⟨ρ, M, O, π, _, _, h, e1, fun vs H1 M1 x1 s1 r1 => ?_⟩
      cases r1 with
      | cons rv rr =>
        cases rr
        cases rv with
        | tup hr rr => exact ⟨_, _, rfl, .inr ⟨hr.sq, q _ H1 M1 x1 s1 (src_enumT hr rr)⟩⟩
    · cases e

/-! ### a, b = x, y -/
theorem take_ok {K : PySem.W.Frag} {H : Hp} {M O : Mset} {π : Nat → Option Addr} {ρ ρ' : Fm} {σ : St} {pr : PR} {v : V} {sv : Sv} (h : SR K H M O π ρ σ) (r : RP K H M O ρ σ pr v) (e : take ρ pr = some (sv, ρ')) : ∃ M', Ext O H M H M' ∧ SR K H M' O π ρ' σ ∧ RP K H M' O ρ' σ (.val sv) v := by
  match pr, v, r with
  | .val (.imm d), v, r => cases e; exact ⟨M, .refl h, h, r⟩
  | .val (.own b ds), v, ⟨p, vs, e1, e2, e3, e4, e5, e6⟩ =>
    cases b with
    | dic => cases e; exact ⟨M, .refl h, h, p, vs, e1, e2, e3, e4, e5, e6⟩
    | loc => cases e; exact ⟨M, .refl h, h, p, vs, e1, e2, e3, e4, e5, e6⟩
    | par => cases e; exact ⟨M, .refl h, h, p, vs, e1, e2, e3, e4, e5, e6⟩
  | .slot j, v, r =>
    unfold take at e
    simp only at e
    cases ef : frz ρ (.slot j) with
    | none => rw [ef] at e; cases e
    | some dρ =>
      obtain ⟨d, ρ1⟩ := dρ
      rw [ef] at e
      cases e
      obtain ⟨M', x, s, rr⟩ := frz_ok h r ef
      exact ⟨M', x, s, rr⟩
theorem SR.setVal {K : PySem.W.Frag} {H : Hp} {M O : Mset} {π : Nat → Option Addr} {ρ : Fm} {σ : St} {v : V} {sv : Sv} (h : SR K H M O π ρ σ) (r : RP K H M O ρ σ (.val sv) v) (hp : ∀ ds, sv ≠ .own .par ds) (i : Nat) : SR K H M O π (ρ.set i (some sv)) (σ.set i (some v)) := by
  cases sv with
  | imm d => exact h.setImm r
  | own b ds =>
    obtain ⟨p, vs, rfl, e2, e3, e4, e5, e6⟩ := r
    cases b with
    | par => exact absurd rfl (hp ds)
    | loc => exact h.setOwn e2 e3 e4 e5 e6
    | dic => exact h.setOwnC (fun z => by cases z) e2 e3 e4 e5 e6
theorem RP.set {K : PySem.W.Frag} {H : Hp} {M O : Mset} {ρ : Fm} {σ : St} {v1 v2 : V} {s1 s2 : Sv} {i : Nat} (r1 : RP K H M O ρ σ (.val s1) v1) (r2 : RP K H M (hold O (.val s1) v1) ρ σ (.val s2) v2) (hl : ρ.length = σ.length) : RP K H M O (ρ.set i (some s1)) (σ.set i (some v1)) (.val s2) v2 := by
  cases s2 with
  | imm d => exact r2
  | own b ds =>
    obtain ⟨p, vs, rfl, e2, e3, e4, e5, e6⟩ := r2
    refine ⟨p, vs, rfl, e2, e3, fun z => e4 (hold_le O _ v1 p z), e5, fun j c es f g => ?_⟩
    rcases get_set f with ⟨hj, z⟩ | ⟨hj, f'⟩
    · have hz : s1 = .own c es := (Option.some.inj z).symm
      subst hz
      have hlt : i < ρ.length := by
        subst hj
        have := (List.getElem?_eq_some_iff.mp f).1
        rwa [List.length_set] at this
      obtain ⟨q, ws, e1, _⟩ := r1
      subst e1
      subst hj
      rw [List.getElem?_set_self (by rw [← hl]; exact hlt)] at g
      cases g
      exact e4 (.inr rfl)
    · rw [List.getElem?_set_ne (Ne.symm hj)] at g
      exact e6 j c es f' g
def fine : Sv → Bool
  | .own .par _ => false
  | _ => true
theorem fine_ne {s : Sv} (h : fine s = true) : ∀ ds, s ≠ .own .par ds := fun ds e => by subst e; cases h
def mPar (i j : Nat) (ma mb : ME) : MS := fun ρ => match ma ρ with
  | some (p1, ρ1) => match take ρ1 p1 with
    | some (s1, ρ2) => match mb ρ2 with
      | some (p2, ρ3) => match take ρ3 p2 with
        | some (s2, ρ4) => if (fine s1 && fine s2) = true then some (.next, (ρ4.set i (some s1)).set j (some s2)) else none
        | none => none
      | none => none
    | none => none
  | none => none
theorem ds_par {st : Stmt} {a b : Expr} {ma mb : ME} {i j : Nat} (h : ∀ ta, PA X [a, b] ta → PS X st (tPar i j ta)) (ha : DE X a ma) (hb : DE X b mb) (hs : starEach [a, b] X.env = (false, eval a X.env) :: starEach [b] X.env := by rfl) (hs2 : starEach [b] X.env = (false, eval b X.env) :: starEach [] X.env := by rfl) : DS X st (mPar i j ma mb) :=
  PS.imp (h _ (pa_cons ha (pa_cons hb pa_nil hs2) hs)) fun D σ H ⟨ρ, M, O, π, fl, ρ', h, e, q⟩ => by
    unfold mPar at e
    split at e
    · rename_i p1 ρ1 e1
      split at e
      · rename_i s1 ρ2 e2
        split at e
        · rename_i p2 ρ3 e3
          split at e
          · rename_i s2 ρ4 e4
            split at e
            · rename_i hz
              cases e
              rw [Bool.and_eq_true] at hz
              refine ⟨ρ, M, O, π, p1, ρ1, h, e1, fun v1 H1 M1 x1 t1 r1 => ?_⟩
              obtain ⟨M2, x2, t2, r2⟩ := take_ok t1 r1 e2
              refine ⟨ρ2, M2, Vi.hold O (.val s1) v1, π, p2, ρ3, t2.hold r2, e3, fun v2 H3 M3 x3 t3 r3 => ⟨v1, v2, rfl, ?_⟩⟩
              obtain ⟨M4, x4, t4, r4⟩ := take_ok t3 r3 e4
              have le := hold_le O (.val s1) v1
              have r1' := r2.held (x3.trans x4) t4
              have t5 := (t4.less le).setVal r1' (fine_ne hz.1) i
              have r5 := RP.set (i := i) r1' r4 t4.len
              exact q _ H3 M4 ((x1.trans x2).trans ((x3.trans x4).less le)) (t5.setVal r5 (fine_ne hz.2) j)
            · cases e
          · cases e
        · cases e
      · cases e
    · cases e
/-- targets of a value that is a tuple -/
def mAsgG (me : ME) (mg : MG) : MS := fun ρ => match me ρ with
  | some (pr, ρ1) => match frz ρ1 pr with
    | some (d, ρ2) => match mg d ρ2 with
      | some ρ3 => some (.next, ρ3)
      | none => none
    | none => none
  | none => none
theorem ds_asgG {st : Stmt} {e tg : Expr} {me : ME} {mg : MG} {ts : List Nat} (h : ∀ te g, PE X e te → PG X tg g → PS X st (tAsg te g)) (he : DE X e me) (hg : DG X tg mg ts) : DS X st (mAsgG me mg) :=
  PS.imp (h _ _ he hg) fun D σ H ⟨ρ, M, O, π, fl, ρ', h, e, q⟩ => by
    unfold mAsgG at e
    split at e
    · rename_i pr ρ1 e1
      split at e
      · rename_i d ρ2 e2
        split at e
        · rename_i ρ3 e3
          cases e
          refine ⟨ρ, M, O, π, pr, ρ1, h, e1, fun v H1 M1 x1 s1 r1 => ?_⟩
          obtain ⟨M2, x2, s2, r2⟩ := frz_ok s1 r1 e2
          exact ⟨ρ2, M2, O, π, d, _, s2, r2, e3, fun σ' s3 _ _ => q σ' H1 M2 (x1.trans x2) s3⟩
        · cases e
      · cases e
    · cases e

/-! ### calls by keyword -/
theorem pe_callK0 {CX : CXT} {k : Nat} {f : Addr} {fd : FuncData} {ps ks : List Str} {sp : Sp} {E : XK} {x : Str} {p pos : Pos} {kws : List Keyword} {tk : TA} {g : List Value → List Value → List Value} {gV : List V → List V → List V}
    (F : FnOk X.prog X.w X.K X.mg X.base CX k f fd ps sp) (hr : Room k X.A) (hg : Gl X x) (hm : X.mg x = some (.ref f)) (hk : PySem.W.keepIn X.K (.ref f) = true) (hb : KBinds X.K fd ps ks g gV) (hx : Passes CX X E)
    (hkw : PK X kws tk) (hall : (backToKw pos (keywordEach kws X.env)).all (·.1.isSome) = true := by rfl) (hks : (backToKw pos (keywordEach kws X.env)).filterMap (·.1) = ks := by rfl)
    (hdb : (x == ("__debug__" : Str)) = false := by decide) (hpl : ((PySem.backTo pos (starEach [] X.env)).any (·.1) || (backToKw pos (keywordEach kws X.env)).any (·.1.isNone)) = false := by rfl) :
    PE X (.Call (.Name x p) [] kws pos) (tCallK sp gV E tNil tk) := by
  refine ⟨fun pins s σ H Q I h => ?_⟩
  refine wpAny_Call_Name_kw (ld_glob I hg hm ?_ hdb)
  refine PySem.W.callWith_KW0 (h₀ := X.base) I.ok.mod.kin hk hall (thn (hkw.run pos pins s σ H _ I h) fun ws s2 ⟨zs, H2, I2, rz, q2⟩ => ⟨I2.kIn, ?_⟩) hpl
  rw [hks]
  exact run_fnk (us := []) (vs := []) F hr hb hx I2 .nil rz q2
/-- the arguments in the parameters' order -/
def perm {α : Type} (n1 n2 : Nat) (is : List Nat) (us ws : List α) : List α := if us.length = n1 ∧ ws.length = n2 then is.filterMap fun i => (us ++ ws)[i]? else []
theorem perm_rel {α β : Type} {F : α → β → Prop} (n1 n2 : Nat) (is : List Nat) {vs : List α} {us : List β} {zs : List α} {ws : List β} (r : Paired F vs us) (s : Paired F zs ws) : Paired F (perm n1 n2 is vs zs) (perm n1 n2 is us ws) := by
  have ap : ∀ {vs : List α} {us : List β} {zs : List α} {ws : List β}, Paired F vs us → Paired F zs ws → Paired F (vs ++ zs) (us ++ ws) := fun {vs us zs ws} r s => by
    induction r with
    | nil => exact s
    | cons h t ih => exact .cons h ih
  have get : ∀ {xs : List α} {ys : List β} (i : Nat), Paired F xs ys → (xs[i]? = none ∧ ys[i]? = none) ∨ ∃ x y, xs[i]? = some x ∧ ys[i]? = some y ∧ F x y := fun {xs ys} i r => by
    induction r generalizing i with
    | nil => exact .inl ⟨by simp, by simp⟩
    | cons h t ih =>
      cases i with
      | zero => exact .inr ⟨_, _, rfl, rfl, h⟩
      | succ i => simpa using ih i
  unfold perm
  rw [Paired.length r, Paired.length s]
  split
  · have all := ap r s
    induction is with
    | nil => exact .nil
    | cons i is ih =>
      rcases get i all with ⟨e1, e2⟩ | ⟨x, y, e1, e2, f⟩
      · rw [List.filterMap_cons, List.filterMap_cons, e1, e2]; exact ih
      · rw [List.filterMap_cons, List.filterMap_cons, e1, e2]; exact .cons f ih
  · exact .nil
theorem _root_.L2.Fun.kbinds {K : PySem.W.Frag} {x qual : Str} {st : Stmt} {f : Addr} {fd : FuncData} {ps ks : List Str} {n1 n2 : Nat} {is : List Nat} (F : Fun K x qual st f fd) (hp : ps ≠ [])
    (h : ∀ (kV doc pm : Value) (an : Option Addr) (cdv ct : Value) (us ws : List Value), us.length = n1 → ws.length = n2 → bindArgs (PySem.W.fnOf x qual (defArgs st) (defBody st) (defScope st) .none kV doc pm an cdv ct) ⟨us, ks.zip ws⟩ = pure (ps.zip (is.filterMap fun i => (us ++ ws)[i]?))) : KBinds K fd ps ks (perm n1 n2 is) (perm n1 n2 is) := by
  obtain ⟨oc, od, kV, doc, pm, an, cdv, ct, osl, rfl, lk, hcd⟩ := F.ex
  refine ⟨fun s us ws _ hl => ?_, fun r s => perm_rel n1 n2 is r s⟩
  by_cases hc : us.length = n1 ∧ ws.length = n2
  · refine .of_eq ?_
    unfold perm
    rw [if_pos hc]
    exact h kV doc pm an cdv ct us ws hc.1 hc.2
  · unfold perm at hl
    rw [if_neg hc] at hl
    cases ps with
    | nil => exact absurd rfl hp
    | cons a b => cases hl
/-- keywords' values -/
def DK (X : Cx) (kws : List Keyword) (m : MR) : Prop := PK X kws (tR X.K m)
theorem _root_.L2.PK.imp {kws : List Keyword} {t t' : TA} (h : PK X kws t) (i : ∀ σ H Q, t' σ H Q → t σ H Q) : PK X kws t' := ⟨fun pos pins s σ H Q I q => h.run pos pins s σ H Q I (i σ H Q q)⟩
theorem dk_nil : DK X [] rNil := PK.imp pk_nil fun σ H Q ⟨ρ, M, O, π, ds, ρ', h, e, q⟩ => by
  cases e
  exact q [] H M (.refl h) h .nil
theorem dk_val {nm : Option Str} {e : Expr} {kpos : Pos} {kws : List Keyword} {me : ME} {n : MR} (he : DE X e me) (hes : DK X kws n) : DK X (⟨nm, e, kpos⟩ :: kws) (rVal me n) :=
  PK.imp (pk_cons he hes) fun σ H Q ⟨ρ, M, O, π, ds, ρ', h, e, q⟩ => by
    unfold rVal at e
    split at e
    · rename_i pr ρ1 e1
      split at e
      · rename_i d ρ2 e2
        split at e
        · rename_i as ρ3 e3
          cases e
          refine ⟨ρ, M, O, π, pr, ρ1, h, e1, fun v H1 M1 x1 s1 r1 => ?_⟩
          obtain ⟨M2, x2, s2, r2⟩ := frz_ok s1 r1 e2
          exact ⟨ρ2, M2, O, π, as, _, s2, e3, fun vs H3 M3 x3 s3 r3 => q (v :: vs) H3 M3 ((x1.trans x2).trans x3) s3 (.cons (r2.tr x3.tr) r3)⟩
        · cases e
      · cases e
    · cases e
def rPerm (n1 n2 : Nat) (is : List Nat) (mr mk : MR) : MR := fun ρ => match mr ρ with
  | some (as, ρ1) => match mk ρ1 with
    | some (bs, ρ2) => some (perm n1 n2 is as bs, ρ2)
    | none => none
  | none => none
theorem AReps.tr {K : PySem.W.Frag} {H H' : Hp} {M M' : Mset} {σ : St} (l : Lat H M H' M') : ∀ {vs : List V} {as : List AR}, AReps K H M σ vs as → AReps K H' M' σ vs as
  | _, _, .nil => .nil
  | _, _, .cons h t => .cons (ARep.tr l h) (AReps.tr l t)
theorem tR_perm {mr mk : MR} {n1 n2 : Nat} {is : List Nat} {σ : St} {H : Hp} {Q : List V → Hp → Prop} (h : tR X.K (rPerm n1 n2 is mr mk) σ H Q) : tR X.K mr σ H fun vs H1 => tR X.K mk σ H1 fun zs H2 => Q (perm n1 n2 is vs zs) H2 := by
  obtain ⟨ρ, M, O, π, as, ρ', h, e, q⟩ := h
  unfold rPerm at e
  split at e
  · rename_i as ρ1 e1
    split at e
    · rename_i bs ρ2 e2
      cases e
      refine ⟨ρ, M, O, π, as, ρ1, h, e1, fun vs H1 M1 x1 s1 r1 => ⟨ρ1, M1, O, π, bs, _, s1, e2, fun zs H2 M2 x2 s2 r2 => q _ H2 M2 (x1.trans x2) s2 ?_⟩⟩
      exact perm_rel n1 n2 is (AReps.tr x2.tr r1) r2
    · cases e
  · cases e
theorem de_callK0 {k : Nat} {f : Addr} {fd : FuncData} {ps ks : List Str} {g : Fn} {x : Str} {p pos : Pos} {kws : List Keyword} {mk : MR} {n1 n2 : Nat} {is : List Nat} (F : FnOk X.prog X.w X.K X.mg X.base CX0 k f fd ps (spD X.K ps.length g)) (hr : Room k X.A) (hg : Gl X x) (hm : X.mg x = some (.ref f)) (hk : PySem.W.keepIn X.K (.ref f) = true) (hb : KBinds X.K fd ps ks (perm n1 n2 is) (perm n1 n2 is))
    (hkw : DK X kws mk) (hn : ∀ ρ as ρ', rPerm n1 n2 is rNil mk ρ = some (as, ρ') → as.length = ps.length) (hall : (backToKw pos (keywordEach kws X.env)).all (·.1.isSome) = true := by rfl) (hks : (backToKw pos (keywordEach kws X.env)).filterMap (·.1) = ks := by rfl)
    (hdb : (x == ("__debug__" : Str)) = false := by decide) (hpl : ((PySem.backTo pos (starEach [] X.env)).any (·.1) || (backToKw pos (keywordEach kws X.env)).any (·.1.isNone)) = false := by rfl) :
    DE X (.Call (.Name x p) [] kws pos) (mCall g (rPerm n1 n2 is rNil mk)) :=
  PE.imp (pe_callK0 F hr hg hm hk hb pass0 hkw hall hks hdb hpl) fun σ H Q h => by
    obtain ⟨ρ, M, O, π, as, ρ', h, e, q⟩ := tR_perm (tR_call (X := X) hn h)
    cases e
    exact q [] H M (.refl h) h .nil
theorem de_callK {k : Nat} {f : Addr} {fd : FuncData} {ps ks : List Str} {g : Fn} {x : Str} {p pos : Pos} {e : Expr} {es : List Expr} {kws : List Keyword} {mr mk : MR} {n1 n2 : Nat} {is : List Nat} (F : FnOk X.prog X.w X.K X.mg X.base CX0 k f fd ps (spD X.K ps.length g)) (hr : Room k X.A) (hg : Gl X x) (hm : X.mg x = some (.ref f)) (hk : PySem.W.keepIn X.K (.ref f) = true) (hb : KBinds X.K fd ps ks (perm n1 n2 is) (perm n1 n2 is))
    (ha : DR X (e :: es) mr) (hkw : DK X kws mk) (hn : ∀ ρ as ρ', rPerm n1 n2 is mr mk ρ = some (as, ρ') → as.length = ps.length) (hall : (backToKw pos (keywordEach kws X.env)).all (·.1.isSome) = true := by rfl) (hks : (backToKw pos (keywordEach kws X.env)).filterMap (·.1) = ks := by rfl)
    (hdb : (x == ("__debug__" : Str)) = false := by decide) (he : starEach (e :: es) X.env = (false, eval e X.env) :: starEach es X.env := by rfl) (hpl : ((PySem.backTo pos (starEach (e :: es) X.env)).any (·.1) || (backToKw pos (keywordEach kws X.env)).any (·.1.isNone)) = false := by rfl) :
    DE X (.Call (.Name x p) (e :: es) kws pos) (mCall g (rPerm n1 n2 is mr mk)) :=
  PE.imp (pe_callK F hr hg hm hk hb pass0 ha hkw hall hks hdb he hpl) fun σ H Q h => tR_perm (tR_call (X := X) hn h)
/-! how many arguments -/
theorem rl_nil {n : Nat} (hn : n = 0) : ∀ ρ as ρ', rNil ρ = some (as, ρ') → as.length = n := fun ρ as ρ' e => by cases e; exact hn.symm
theorem rl_val {me : ME} {n : MR} {k : Nat} (h : ∀ ρ as ρ', n ρ = some (as, ρ') → as.length = k) : ∀ ρ as ρ', rVal me n ρ = some (as, ρ') → as.length = k + 1 := fun ρ as ρ' e => by
  unfold rVal at e
  split at e
  · split at e
    · split at e
      · rename_i e3
        cases e
        rw [List.length_cons, h _ _ _ e3]
      · cases e
    · cases e
  · cases e
theorem rl_slot {i : Nat} {n : MR} {k : Nat} (h : ∀ ρ as ρ', n ρ = some (as, ρ') → as.length = k) : ∀ ρ as ρ', rSlot i n ρ = some (as, ρ') → as.length = k + 1 := fun ρ as ρ' e => by
  unfold rSlot at e
  split at e
  · split at e
    · rename_i e3
      cases e
      rw [List.length_cons, h _ _ _ e3]
    · cases e
  · cases e
theorem rl_perm {mr mk : MR} {n1 n2 : Nat} {is : List Nat} (h1 : ∀ ρ as ρ', mr ρ = some (as, ρ') → as.length = n1) (h2 : ∀ ρ as ρ', mk ρ = some (as, ρ') → as.length = n2) (hi : is.all (fun i => decide (i < n1 + n2)) = true) : ∀ ρ as ρ', rPerm n1 n2 is mr mk ρ = some (as, ρ') → as.length = is.length := fun ρ as ρ' e => by
  unfold rPerm at e
  split at e
  · rename_i as1 ρ1 e1
    split at e
    · rename_i bs ρ2 e2
      cases e
      unfold perm
      rw [if_pos ⟨h1 _ _ _ e1, h2 _ _ _ e2⟩]
      have hl : (as1 ++ bs).length = n1 + n2 := by rw [List.length_append, h1 _ _ _ e1, h2 _ _ _ e2]
      clear e1 e2
      induction is with
      | nil => rfl
      | cons i is ih =>
        rw [List.all_cons, Bool.and_eq_true] at hi
        have hi1 : i < (as1 ++ bs).length := by rw [hl]; exact of_decide_eq_true hi.1
        rw [List.filterMap_cons, List.getElem?_eq_getElem hi1, List.length_cons, List.length_cons, ih hi.2]
    · cases e
  · cases e
/-! ### room -/
theorem room70 {A : Around} {k : Nat} (r : Room k A) : A.units + 70 < cLine := by have := r.un; omega
theorem room65 {A : Around} {k : Nat} (r : Room k A) : A.units + 65 < cLine := by have := r.un; omega
theorem room64 {A : Around} {k : Nat} (r : Room k A) : A.units + 64 < cLine := by have := r.un; omega
end
/-- a def that nothing is promised of -/
theorem fn_zero {P : Program} {w : World} {K : PySem.W.Frag} {mg : Str → Option Value} {base : Heap} {f : Addr} {fd : FuncData} {ps : List Str} {k : Nat} : FnOk P w K mg base CX0 k f fd ps (spD K ps.length fun _ => none) :=
  ⟨fun vs H Q E ⟨M, O, π, args, r, os, hl, _⟩ => hl, fun A outer s H args us vs Q E _ _ _ _ ⟨M, O, π, as, r, os, _, _, e, _⟩ => by cases e⟩
/-- the law's promise -/
theorem law_sp {K : PySem.W.Frag} {g : Fn} {H : Hp} {a : Addr} {ns : List Int} (hS : SqL K H a (ns.map V.int)) (e : ∃ os, g [.imm (.dict (ns.map fun n => (.int n, .none)))] = some (.imm (.bool true), os)) : spD K 1 g [.ref a] H (fun v _ => v = .bl true) fun _ _ _ => False := by
  obtain ⟨os, e⟩ := e
  have rs : Reps K H (fun _ => False) (ns.map V.int) ((ns.map fun n => ((.int n : D), (.none : D))).map Prod.fst) := by
    induction ns with
    | nil => exact .nil
    | cons n ns ih => exact .cons (.int n) (by
        clear ih e hS
        induction ns with
        | nil => exact .nil
        | cons m ns ih => exact .cons (.int m) ih)
  refine ⟨fun _ => False, fun _ => False, fun _ => none, _, _, os, rfl, ⟨rfl, fun _ z => z, fun _ z => z.elim, fun i d h => ?_, fun i b ds h => ?_, fun i j b c ds es x _ h => ?_⟩, e, fun v H' M' _ _ _ r => ?_⟩
  · cases i with
    | zero =>
      cases h
      exact ⟨.ref a, rfl, .scr (by
        rcases hS with h | h
        · exact .inl ⟨h, fun z => z⟩
        · exact .inr h) rs⟩
    | succ i => simp at h
  · cases i with
    | zero => cases h
    | succ i => simp at h
  · cases i with
    | zero => cases h
    | succ i => simp at h
  · cases (show Rep K H' M' v (.bool true) from r)
    rfl
end Vi

namespace Vi
open PySem PySem.Spec PyProof.Rows L2
section
variable {K : PySem.W.Frag} {H H' : Hp} {M M' O O' : Mset} {π : Nat → Option Addr} {ρ ρ' : Fm} {σ : St} {v : V}
theorem last_get {α : Type} {l : List α} {x y : α} {i : Nat} (h : (l ++ [x])[i]? = some y) : l[i]? = some y ∨ (i = l.length ∧ y = x) := by
  by_cases hi : i < l.length
  · rw [List.getElem?_append_left hi] at h; exact .inl h
  · rw [List.getElem?_append_right (by omega)] at h
    by_cases hz : i - l.length = 0
    · rw [hz] at h; cases h; exact .inr ⟨by omega, rfl⟩
    · obtain ⟨m, hm⟩ : ∃ m, i - l.length = m + 1 := ⟨i - l.length - 1, by omega⟩
      rw [hm] at h; simp at h
theorem lt_of_get {α : Type} {l : List α} {i : Nat} {y : α} (h : l[i]? = some y) : i < l.length := by
  rcases Nat.lt_or_ge i l.length with q | q
  · exact q
  · rw [List.getElem?_eq_none q] at h; cases h
/-- a hidden name for a fresh list -/
theorem SR.snoc (h : SR K H M O π ρ σ) {b : Kd} {ds : List D} {p : Addr} (hb : b.isL = true) (r : RP K H M O ρ σ (.val (.own b ds)) (.ref p)) : SR K H M O π (ρ ++ [some (.own .loc ds)]) (σ ++ [some (.ref p)]) := by
  obtain ⟨p', vs, e0, e1, e2, e3, e4, e5⟩ := r
  cases e0
  have up : ∀ {i : Nat}, i < σ.length → (σ ++ [some (V.ref p)])[i]? = σ[i]? := fun {i} hi => List.getElem?_append_left hi
  have lastσ : (σ ++ [some (V.ref p)])[ρ.length]? = some (some (.ref p)) := by rw [h.len, List.getElem?_append_right (Nat.le_refl _), Nat.sub_self]; rfl
  refine ⟨by rw [List.length_append, List.length_append, h.len]; rfl, h.sub, h.live, fun i d e => ?_, fun i c es e => ?_, fun i j c c' es fs x hij e f g => ?_⟩
  · rcases last_get e with e | ⟨_, e⟩
    · obtain ⟨v, f1, f2⟩ := h.imm i d e
      exact ⟨v, by rw [up (lt_of_get f1)]; exact f1, f2⟩
    · cases e
  · rcases last_get e with e | ⟨rfl, e2⟩
    · obtain ⟨a, ws, f1, f2⟩ := h.own i c es e
      exact ⟨a, ws, by rw [up (lt_of_get f1)]; exact f1, f2⟩
    · cases e2
      exact ⟨p, vs, lastσ, e1.trans (congrArg some (cell_lst hb)), e2, e3, e4, fun z => by cases z⟩
  · rcases last_get e with e | ⟨rfl, _⟩
    · have hi := lt_of_get e
      rw [up (by rw [← h.len]; exact hi)] at g
      rcases last_get f with f | ⟨rfl, _⟩
      · have hj := lt_of_get f
        rw [up (by rw [← h.len]; exact hj)]
        exact h.uniq i j c c' es fs x hij e f g
      · rw [lastσ]
        intro z; cases z
        exact e5 i c es e g
    · rw [lastσ] at g
      cases g
      rcases last_get f with f | ⟨rfl, _⟩
      · have hj := lt_of_get f
        rw [up (by rw [← h.len]; exact hj)]
        exact e5 j c' fs f
      · exact absurd rfl hij
theorem SR.unsnoc {x : Option Sv} {y : Option V} (h : SR K H M O π (ρ ++ [x]) (σ ++ [y])) : SR K H M O π ρ σ := by
  have hl : ρ.length = σ.length := by have := h.len; simpa using this
  have up : ∀ {i : Nat} {s : Option Sv}, ρ[i]? = some s → (ρ ++ [x])[i]? = some s ∧ (σ ++ [y])[i]? = σ[i]? := fun {i s} e => by
    have hi := lt_of_get e
    exact ⟨by rw [List.getElem?_append_left hi]; exact e, List.getElem?_append_left (by omega)⟩
  refine ⟨hl, h.sub, h.live, fun i d e => ?_, fun i c es e => ?_, fun i j c c' es fs a hij e f g => ?_⟩
  · obtain ⟨e1, e2⟩ := up e
    rw [← e2]; exact h.imm i d e1
  · obtain ⟨e1, e2⟩ := up e
    rw [← e2]; exact h.own i c es e1
  · obtain ⟨e1, e2⟩ := up e
    obtain ⟨f1, f2⟩ := up f
    rw [← f2]; exact h.uniq i j c c' es fs a hij e1 f1 (by rw [e2]; exact g)
theorem RP.unsnoc {x : Option Sv} {y : Option V} {s : Sv} (hl : ρ.length = σ.length) (h : RP K H M O (ρ ++ [x]) (σ ++ [y]) (.val s) v) : RP K H M O ρ σ (.val s) v := by
  cases s with
  | imm d => exact h
  | own b ds =>
    obtain ⟨p, vs, e0, e1, e2, e3, e4, e5⟩ := h
    refine ⟨p, vs, e0, e1, e2, e3, e4, fun i c es e => ?_⟩
    have hi := lt_of_get e
    have := e5 i c es (by rw [List.getElem?_append_left hi]; exact e)
    rw [List.getElem?_append_left (by omega)] at this
    exact this
end
/-- f(e), e a fresh list that f may change -/
def mCallO (f : Fn) (me : ME) : ME := fun ρ => match me ρ with
  | some (.val (.own .dic _), _) => none
  | some (.val (.own _ ds), ρ1) => match f [.own .par ds] with
    | some (r, [some _]) => some (.val r, ρ1)
    | _ => none
  | _ => none
section
variable {X : Cx} {e : Expr} {me : ME} {k : Nat} {f : Addr} {fd : FuncData} {ps : List Str} {g : Fn} {x : Str} {p pos : Pos}
theorem de_callO (F : FnOk X.prog X.w X.K X.mg X.base CX0 k f fd ps (spD X.K ps.length g)) (hr : Room k X.A) (hg : Gl X x) (hm : X.mg x = some (.ref f)) (hk : PySem.W.keepIn X.K (.ref f) = true) (hb : Binds X.K fd ps [])
    (ha : DE X e me) (hp : ps.length = 1) (hdb : (x == ("__debug__" : Str)) = false := by decide) (he : starEach [e] X.env = (false, eval e X.env) :: starEach [] X.env := by rfl) (hpl : (PySem.backTo pos (starEach [] X.env)).any (·.1) = false := by rfl) :
    DE X (.Call (.Name x p) [e] [] pos) (mCallO g me) :=
  PE.imp (pe_call F hr hg hm hk hb .nil pass0 (pa_cons ha pa_nil he) hdb he hpl) fun σ H Q ⟨ρ, M, O, π, pr, ρ', h, e, q⟩ => by
    unfold mCallO at e
    split at e
    · cases e
    · rename_i b ds ρ1 hnb e1
      split at e
      · rename_i r ds' e2
        cases e
        refine ⟨ρ, M, O, π, _, _, h, e1, fun v H1 M1 x1 s1 r1 => ?_⟩
        obtain ⟨a, vs, rfl, r2⟩ := (show ∃ a vs, v = .ref a ∧ _ from r1)
        have s2 := s1.snoc (isL_of hnb) r1
        have as2 : AReps X.K H1 M1 (σ ++ [some (V.ref a)]) [.ref a] [AR.s ρ'.length] := .cons (show (σ ++ [some (V.ref a)])[ρ'.length]? = some (some (.ref a)) by rw [s1.len, List.getElem?_append_right (Nat.le_refl _), Nat.sub_self]; rfl) .nil
        have gt : (ρ' ++ [some (Sv.own .loc ds)])[ρ'.length]? = some (some (.own .loc ds)) := by rw [List.getElem?_append_right (Nat.le_refl _), Nat.sub_self]; rfl
        have ea : argsOf (ρ' ++ [some (Sv.own .loc ds)]) [AR.s ρ'.length] = some [.own .par ds] := by
          unfold argsOf; rw [gt]; rfl
        have eb : backTo (ρ' ++ [some (Sv.own .loc ds)]) [AR.s ρ'.length] [some ds'] = some (ρ' ++ [some (Sv.own .loc ds')]) := by
          unfold backTo; rw [gt]
          show some ((ρ' ++ [some (Sv.own .loc ds)]).set ρ'.length (some (.own .loc ds'))) = _
          rw [List.set_append_right _ _ (Nat.le_refl _), Nat.sub_self]; rfl
        show spD X.K ps.length g ([V.ref a] ++ []) H1 Q E0
        refine ⟨M1, _, _, [.own .par ds], r, [some ds'], by rw [hp]; rfl, call_start s2 as2 rfl ea, e2, fun v H2 M2 lv x2 ho rr => ?_⟩
        obtain ⟨x3, s3⟩ := call_end s2 as2 rfl eb lv x2 ho
        have r3 := call_ret s2 as2 rfl eb x2 ho rr
        have s4 := s3.unsnoc
        exact q v H2 M2 (x1.trans x3) s4 (r3.unsnoc s4.len)
      · cases e
    · cases e
end
end Vi

namespace Vi
open PySem PySem.Spec PyProof.Rows L2
section
variable {X : Cx}
/-! ### < and the like of any data -/
def rCmpD (K : PySem.W.Frag) (f : D → D → Bool) : R2 := fun x y H Q => ∃ d e, Dp K H x d ∧ Dp K H y e ∧ SeqAt.shaped d = true ∧ SeqAt.shaped e = true ∧ W.alike d e = true ∧ d ≠ .none ∧ Q (.bl (f d e)) H
theorem room_cmp {A : Around} {d e : D} (h : SeqAt.shaped d = true) (hu : A.units + 64 < cLine) : A.units + min d.depth e.depth < cLine := by
  have h1 := SeqAt.depth_of_shaped h
  have h2 : min d.depth e.depth ≤ d.depth := Nat.min_le_left _ _
  omega
theorem op_ltDD (hu : X.A.units + 64 < cLine) : OpR X (compareOp .Lt) (rCmpD X.K fun d e => W.dataLt d e) := by
  intro pins s σ H x y v u Q I rx ry h
  obtain ⟨d, e, hd, he, sd, se, al, hn, q⟩ := h
  obtain ⟨as, r1⟩ := Dp.reads I d x v hd rx
  obtain ⟨bs, r2⟩ := Dp.reads I e y u he ry
  exact W.lt_data r1 r2 al hn (room_cmp sd hu) ⟨.bl _, H, I, rfl, q⟩
theorem op_gtDD (hu : X.A.units + 64 < cLine) : OpR X (compareOp .Gt) (rCmpD X.K fun d e => W.dataLt e d) := by
  intro pins s σ H x y v u Q I rx ry h
  obtain ⟨d, e, hd, he, sd, se, al, hn, q⟩ := h
  obtain ⟨as, r1⟩ := Dp.reads I d x v hd rx
  obtain ⟨bs, r2⟩ := Dp.reads I e y u he ry
  exact W.gt_data r1 r2 al hn (room_cmp sd hu) ⟨.bl _, H, I, rfl, q⟩
theorem op_leDD (hu : X.A.units + 64 < cLine) : OpR X (compareOp .LtE) (rCmpD X.K fun d e => !W.dataLt e d) := by
  intro pins s σ H x y v u Q I rx ry h
  obtain ⟨d, e, hd, he, sd, se, al, hn, q⟩ := h
  obtain ⟨as, r1⟩ := Dp.reads I d x v hd rx
  obtain ⟨bs, r2⟩ := Dp.reads I e y u he ry
  exact W.le_data r1 r2 al hn (room_cmp sd hu) ⟨.bl _, H, I, rfl, q⟩
theorem op_geDD (hu : X.A.units + 64 < cLine) : OpR X (compareOp .GtE) (rCmpD X.K fun d e => !W.dataLt d e) := by
  intro pins s σ H x y v u Q I rx ry h
  obtain ⟨d, e, hd, he, sd, se, al, hn, q⟩ := h
  obtain ⟨as, r1⟩ := Dp.reads I d x v hd rx
  obtain ⟨bs, r2⟩ := Dp.reads I e y u he ry
  exact W.ge_data r1 r2 al hn (room_cmp sd hu) ⟨.bl _, H, I, rfl, q⟩
def dCmpD (g : Int → Int → Bool) (f : D → D → Bool) : D → D → Option Sv
  | .int i, .int j => some (.imm (.bool (g i j)))
  | a, b => if (okD a && okD b && W.alike a b && !isNon a) = true then some (.imm (.bool (f a b))) else none
theorem os_cmpD {g : Int → Int → Bool} {f : D → D → Bool} : OpS X (fun x y H Q => rI0 (fun i j => .bl (g i j)) x y H Q ∨ rCmpD X.K f x y H Q) (dCmpD g f) := by
  intro H M O π ρ σ v1 v2 d1 d2 res Q h r1 r2 e q
  unfold dCmpD at e
  split at e
  · cases e
    cases r1.inI; cases r2.inI
    exact .inl ⟨_, _, rfl, rfl, Post.now q h (.bl _)⟩
  · split at e
    · rename_i hz
      cases e
      rw [Bool.and_eq_true, Bool.and_eq_true, Bool.and_eq_true] at hz
      exact .inr ⟨d1, d2, r1.dp (SeqAt.canLay_of_shaped hz.1.1.1), r2.dp (SeqAt.canLay_of_shaped hz.1.1.2), hz.1.1.1, hz.1.1.2, hz.1.2, fun z => by rw [z] at hz; exact absurd hz.2 (by decide), Post.now q h (.bl _)⟩
    · cases e
theorem op_ltA (hu : X.A.units + 64 < cLine) : OpR X (compareOp .Lt) (fun x y H Q => rI0 (fun i j => .bl (decide (i < j))) x y H Q ∨ rCmpD X.K (fun d e => W.dataLt d e) x y H Q) := op_lt.or (op_ltDD hu)
theorem op_leA (hu : X.A.units + 64 < cLine) : OpR X (compareOp .LtE) (fun x y H Q => rI0 (fun i j => .bl (decide (i ≤ j))) x y H Q ∨ rCmpD X.K (fun d e => !W.dataLt e d) x y H Q) := op_le.or (op_leDD hu)
theorem op_gtA (hu : X.A.units + 64 < cLine) : OpR X (compareOp .Gt) (fun x y H Q => rI0 (fun i j => .bl (decide (j < i))) x y H Q ∨ rCmpD X.K (fun d e => W.dataLt e d) x y H Q) := op_gt.or (op_gtDD hu)
theorem op_geA (hu : X.A.units + 64 < cLine) : OpR X (compareOp .GtE) (fun x y H Q => rI0 (fun i j => .bl (decide (j ≤ i))) x y H Q ∨ rCmpD X.K (fun d e => !W.dataLt d e) x y H Q) := op_ge.or (op_geDD hu)
abbrev dLtA := dCmpD (fun i j => decide (i < j)) fun d e => W.dataLt d e
abbrev dLeA := dCmpD (fun i j => decide (i ≤ j)) fun d e => !W.dataLt e d
abbrev dGtA := dCmpD (fun i j => decide (j < i)) fun d e => W.dataLt e d
abbrev dGeA := dCmpD (fun i j => decide (j ≤ i)) fun d e => !W.dataLt d e
/-! ### sum, str, list times a number -/
def intsOf : List D → Option (List Int)
  | [] => some []
  | .int i :: r => (intsOf r).map (i :: ·)
  | _ :: _ => none
theorem ints_reps {K : PySem.W.Frag} {H : Hp} {M : Mset} : ∀ {vs : List V} {ds : List D} {bs : List Int}, Reps K H M vs ds → intsOf ds = some bs → vs = bs.map V.int
  | _, _, _, .nil, e => by cases e; rfl
  | _, _, bs, .cons h r, e => by
    cases h with
    | int b =>
      obtain ⟨cs, e1, rfl⟩ := Option.map_eq_some_iff.mp (show (intsOf _).map (b :: ·) = some bs from e)
      rw [ints_reps r e1]; rfl
    | _ => cases e
def dSum : D → Option Sv
  | .list ds => (intsOf ds).map fun ns => .imm (.int ns.sum)
  | _ => none
theorem us_sum : UnS X (fun v H Q => rSum X.K [v] H Q) dSum := by
  intro H M O π ρ σ v1 d1 res Q h r1 e q
  unfold dSum at e
  split at e
  · obtain ⟨bs, e1, rfl⟩ := Option.map_eq_some_iff.mp e
    obtain ⟨a, vs, rfl, rd, rs⟩ := r1.inL
    exact ⟨a, bs, rfl, .inl (by rw [← ints_reps rs e1]; exact rd), Post.now q h (.int _)⟩
  · cases e
def dStr : D → Option Sv
  | .int i => if decide (i.natAbs.log2 < 1920) = true then some (.imm (.str (toString i))) else none
  | _ => none
theorem us_str : UnS X (fun v H Q => (fun xs H Q => ∃ i, xs = [V.int i] ∧ i.natAbs.log2 < 1920 ∧ Q (.str (toString i)) H) [v] H Q) dStr := by
  intro H M O π ρ σ v1 d1 res Q h r1 e q
  unfold dStr at e
  split at e
  · split at e
    · rename_i hz
      cases e
      cases r1.inI
      exact ⟨_, rfl, of_decide_eq_true hz, Post.now q h (.str _)⟩
    · cases e
  · cases e
variable {a b e : Expr} {ma mb me : ME} {mes : MA} {es : List Expr} {pos : Pos}
/-- a fresh list * k -/
def mRep (ma mb : ME) : ME := fun ρ => match ma ρ with
  | some (.val (.own .dic _), _) => none
  | some (.val (.own _ xs), ρ1) => match mb ρ1 with
    | some (pk, ρ2) => match peek ρ2 pk with
      | some (.int k) => if decide (-(2 ^ 63) ≤ k ∧ k < 2 ^ 63 ∧ xs.length * k.toNat ≤ sizeLine) = true then some (.val (.own .loc (List.replicate k.toNat xs).flatten), ρ2) else none
      | _ => none
    | none => none
  | _ => none
theorem de_rep (ha : DE X a ma) (hb : DE X b mb) : DE X (.BinOp a .Mult b pos) (mRep ma mb) := PE.imp (pe_op op_rep ha hb) fun σ H Q ⟨ρ, M, O, π, pr, ρ', h, e, q⟩ => by
  unfold mRep at e
  split at e
  · cases e
  · rename_i b0 xs ρ1 hnb e1
    split at e
    · rename_i pk ρ2 e2
      split at e
      · rename_i k ek
        split at e
        · rename_i hz
          cases e
          have hz' := of_decide_eq_true hz
          refine ⟨ρ, M, O, π, _, ρ1, h, e1, fun v1 H1 M1 x1 s1 r1 => ?_⟩
          refine ⟨ρ1, M1, Vi.hold O _ v1, π, pk, _, s1.hold r1, e2, fun v2 H2 M2 x2 s2 r2 => ?_⟩
          have s2' := s2.less (hold_le O (.val (.own b0 xs)) v1)
          obtain ⟨p, vs, e3, e4', e5, e6, e7, e8⟩ := r1.held x2 s2
          have e4 := e4'.trans (congrArg some (cell_lst (isL_of hnb)))
          have ev := (peek_vw s2' (r2.less (hold_le O (.val (.own b0 xs)) v1)) ek).inI
          subst e3 ev
          exact ⟨p, k, vs, rfl, rfl, e4, hz'.1, hz'.2.1, by rw [e7.length]; exact hz'.2.2, fun p' hp' => Post.lst (Q := Q) (fun v H' M' x3 s3 r3 => q v H' M' ((x1.trans (x2.less (hold_le O (.val (.own b0 xs)) (.ref p)))).trans x3) s3 r3) s2' (e7.rep k.toNat) hp'⟩
        · cases e
      · cases e
    · cases e
  · cases e
/-! ### built-ins of several values -/
def mA (f : List D → Option Sv) (m : MA) : ME := fun ρ => match m ρ with
  | some (ds, ρ1) => match f ds with
    | some r => some (.val r, ρ1)
    | none => none
  | none => none
def AS (X : Cx) (r : List V → Hp → VK → Prop) (f : List D → Option Sv) : Prop := ∀ {H : Hp} {M O : Mset} {π : Nat → Option Addr} {ρ : Fm} {σ : St} {vs : List V} {ds : List D} {res : Sv} {Q : VK}, SR X.K H M O π ρ σ → Reps X.K H M vs ds → f ds = some res →
  (∀ v H' M', Ext O H M H' M' → SR X.K H' M' O π ρ σ → RP X.K H' M' O ρ σ (.val res) v → Q v H') → r vs H Q
theorem de_callA {id : String} {x : Str} {p : Pos} {r : List V → Hp → VK → Prop} {f : List D → Option Sv} (hc : CallR X (.builtin id) r) (hs : AS X r f) (hg : Gl X x) (hm : X.mg x = none) (hv : bootBuiltins x = some (.builtin id)) (ha : DA X (e :: es) mes)
    (hn : x ≠ "__name__" := by decide) (hd : (x == ("__debug__" : Str)) = false := by decide) (he : starEach (e :: es) X.env = (false, eval e X.env) :: starEach es X.env := by rfl) (hpl : (PySem.backTo pos (starEach es X.env)).any (·.1) = false := by rfl) : DE X (.Call (.Name x p) (e :: es) [] pos) (mA f mes) :=
  PE.imp (pe_callB hc hg hm hv ha hn hd he hpl) fun σ H Q ⟨ρ, M, O, π, pr, ρ', h, e, q⟩ => by
    unfold mA at e
    split at e
    · rename_i ds ρ1 e1
      split at e
      · rename_i r er
        cases e
        exact ⟨ρ, M, O, π, ds, _, h, e1, fun vs H1 M1 x1 s1 r1 => hs s1 r1 er fun v H' M' x3 s3 r3 => q v H' M' (x1.trans x3) s3 r3⟩
      · cases e
    · cases e
def dMin2 : List D → Option Sv
  | [.int i, .int j] => some (.imm (.int (if j < i then j else i)))
  | _ => none
def dMax2 : List D → Option Sv
  | [.int i, .int j] => some (.imm (.int (if j > i then j else i)))
  | _ => none
theorem as_min2 : AS X (fun xs H Q => ∃ i j, xs = [V.int i, V.int j] ∧ Q (.int (if j < i then j else i)) H) dMin2 := by
  intro H M O π ρ σ vs ds res Q h r e q
  unfold dMin2 at e
  split at e
  · cases e
    cases r with
    | cons r1 r2 => cases r2 with
      | cons r2 r3 =>
        cases r3; cases r1; cases r2
        exact ⟨_, _, rfl, Post.now q h (.int _)⟩
  · cases e
theorem as_max2 : AS X (fun xs H Q => ∃ i j, xs = [V.int i, V.int j] ∧ Q (.int (if j > i then j else i)) H) dMax2 := by
  intro H M O π ρ σ vs ds res Q h r e q
  unfold dMax2 at e
  split at e
  · cases e
    cases r with
    | cons r1 r2 => cases r2 with
      | cons r2 r3 =>
        cases r3; cases r1; cases r2
        exact ⟨_, _, rfl, Post.now q h (.int _)⟩
  · cases e
/-! ### x.pop(), x.extend(e) -/
def mPop (i : Nat) : ME := fun ρ => match ρ[i]? with
  | some (some (.own .dic _)) => none
  | some (some (.own b ds)) => match ds[ds.length - 1]? with
    | some d => some (.val (.imm d), ρ.set i (some (.own b ds.dropLast)))
    | none => none
  | _ => none
theorem Reps.dropLast {K : PySem.W.Frag} {H : Hp} {M : Mset} {vs : List V} {ds : List D} (h : Reps K H M vs ds) : Reps K H M vs.dropLast ds.dropLast := by
  rw [List.dropLast_eq_take, List.dropLast_eq_take, h.length]; exact h.take _
theorem de_pop {i : Nat} {st_e : Expr} (h : PE X st_e (tBM0 X.K "list" rPop (tVar i))) : DE X st_e (mPop i) :=
  PE.imp h fun σ H Q ⟨ρ, M, O, π, fl, ρ', h, e, q⟩ => by
    unfold mPop at e
    split at e
    · cases e
    · rename_i b ds hne0 e0
      obtain ⟨a, vs, f1, f2, f3, f4, f5, f6⟩ := h.ownL e0 (isL_of hne0)
      split at e
      · rename_i d ed
        cases e
        obtain ⟨w, hw, rw'⟩ := f5.get ed
        obtain ⟨s3, x3, t3⟩ := h.write (ws := vs.dropLast) (es := ds.dropLast) e0 (isL_of hne0) f1 f5.dropLast
        exact ⟨.ref a, f1, .inl ⟨rfl, vs, .inl (.inl f2)⟩, a, vs, w, rfl, rfl, f2, by rw [f5.length]; exact hw, q _ _ M x3 s3 (rw'.tr t3)⟩
      · cases e
    · cases e
def ownD (ρ : Fm) : PR → Option (List D)
  | .val (.own .dic _) => none
  | .val (.own _ ds) => some ds
  | .slot j => match ρ[j]? with
    | some (some (.own .dic _)) => none
    | some (some (.own _ ds)) => some ds
    | _ => none
  | _ => none
theorem ownD_ok {K : PySem.W.Frag} {H : Hp} {M O : Mset} {π : Nat → Option Addr} {ρ : Fm} {σ : St} {pr : PR} {v : V} {ds : List D} (h : SR K H M O π ρ σ) (r : RP K H M O ρ σ pr v) (e : ownD ρ pr = some ds) : ∃ p vs, v = .ref p ∧ H p = some (.lst vs) ∧ Reps K H M vs ds := by
  match pr, v, r, e with
  | .val (.own b ds'), v, ⟨p, vs, e1, e2, _, _, e4, _⟩, e =>
    cases b with
    | dic => cases e
    | loc => cases e; exact ⟨p, vs, e1, e2, e4⟩
    | par => cases e; exact ⟨p, vs, e1, e2, e4⟩
  | .slot j, v, r, e =>
    have r' : σ[j]? = some (some v) := r
    unfold ownD at e
    simp only at e
    split at e
    · cases e
    · rename_i b ds' hnb hs
      cases e
      obtain ⟨a, vs, f1, f2, f3, f4, f5, f6⟩ := h.ownL hs (isL_of hnb)
      rw [r'] at f1; cases f1
      exact ⟨a, vs, rfl, f2, f5⟩
    · cases e
/-- x.extend(e), e a list of nobody else's -/
def mExt (i : Nat) (me : ME) : ME := fun ρ => match ρ[i]? with
  | some (some (.own .dic _)) => none
  | some (some (.own _ _)) => match me ρ with
    | some (pr, ρ1) => match ownD ρ1 pr with
      | some es => match ρ1[i]? with
        | some (some (.own .dic _)) => none
        | some (some (.own b ds)) => if fits (ds.length + es.length) = true then some (.val (.imm .none), ρ1.set i (some (.own b (ds ++ es)))) else none
        | _ => none
      | none => none
    | none => none
  | _ => none
theorem de_ext {i : Nat} {st_e : Expr} (h : ∀ t, PA X [e] t → PE X st_e (tBM X.K "list" rExtend (tVar i) t)) (he : DE X e me) (hs : starEach (e :: []) X.env = (false, eval e X.env) :: starEach [] X.env := by rfl) : DE X st_e (mExt i me) :=
  PE.imp (h _ (pa_cons he pa_nil hs)) fun σ H Q ⟨ρ, M, O, π, fl, ρ', h, e, q⟩ => by
    unfold mExt at e
    split at e
    · cases e
    · rename_i b0 ds0 hne0 e0
      obtain ⟨a, vs, f1, f2, f3, f4, f5, f6⟩ := h.ownL e0 (isL_of hne0)
      refine ⟨.ref a, f1, .inl ⟨rfl, vs, .inl (.inl f2)⟩, ?_⟩
      split at e
      · rename_i pr ρ1 e1
        split at e
        · rename_i es e2
          split at e
          · cases e
          · rename_i b ds hne3 e3
            split at e
            · rename_i hz
              cases e
              refine ⟨ρ, M, O, π, pr, ρ1, h, e1, fun v H1 M1 x1 s1 r1 => ?_⟩
              obtain ⟨a', ws, g1, g2, g3, g4, g5, g6⟩ := s1.ownL e3 (isL_of hne3)
              rw [f1] at g1; cases g1
              obtain ⟨p, zs, rfl, g7, g8⟩ := ownD_ok s1 r1 e2
              obtain ⟨s3, x3, t3⟩ := s1.write (ws := ws ++ zs) (es := ds ++ es) e3 (isL_of hne3) f1 (g5.append g8)
              exact ⟨a, p, ws, zs, rfl, rfl, g2, g7, by have := fits_le hz; rw [g5.length, g8.length]; omega, q _ _ M1 (x1.trans x3) s3 .non⟩
            · cases e
          · cases e
        · cases e
      · cases e
    · cases e
end
end Vi

namespace HT
open PySem PyProof.Rows PySem.Spec
section
variable {prog : Program} {w : World} {A : Around} {E : Value → Shared → Prop} {s : Shared}
theorem vi_applied_rev {sl : Addr} {vs : Value} {n : Nat} {Q : Int × Int × Nat → Shared → Prop} (hs : s.heap.IsSliceOf sl .none .none vs) (ps : IsPart vs (some (-1)))
    (h : Q ((n : Int) - 1, -1, n) s) : wpAny (model prog w) A (Builtin.Slice.sliceApplied (.ref sl) (pure (n : Int))) Q E s := by
  obtain ⟨os, hos, hcs, hds⟩ := id hs
  unfold Builtin.Slice.sliceApplied Builtin.Slice.sliceFields
  refine wpAny_bind (wpAny_bind (wpAny_field hos hds (x := Value.none) rfl (wpAny_bind (wpAny_field hos hds (x := Value.none) rfl (wpAny_bind (wpAny_field hos hds (x := vs) rfl (wpAny_pure ?_)))))))
  refine wpAny_bind (slicePart_ ps ?_)
  show wpAny _ _ (if ((-1 : Int) == 0) = true then _ else _) _ _ s
  rw [if_neg (by decide)]
  refine wpAny_bind (slicePart_none (wpAny_bind (slicePart_none (wpAny_bind (wpAny_pure ?_)))))
  show wpAny _ _ (pure ((n : Int) - 1, (-1 : Int), Builtin.Slice.slicePlaces ((n : Int) - 1) (-1) (-1))) _ _ s
  have e : Builtin.Slice.slicePlaces ((n : Int) - 1) (-1) (-1) = n := by
    unfold Builtin.Slice.slicePlaces
    rw [if_neg (by decide)]
    by_cases hn : (n : Int) - 1 > -1
    · rw [if_pos hn, show (-(-1) : Int) = 1 by decide, Int.ediv_one]; omega
    · rw [if_neg hn]; omega
  rw [e]
  exact wpAny_pure h
theorem vi_fm_congr {α β : Type} {f g : α → Option β} : ∀ {l : List α}, (∀ x ∈ l, f x = g x) → l.filterMap f = l.filterMap g
  | [], _ => rfl
  | x :: l, h => by rw [List.filterMap_cons, List.filterMap_cons, h x (List.mem_cons_self ..), vi_fm_congr fun y hy => h y (List.mem_cons_of_mem _ hy)]
theorem vi_fm_all {α : Type} : ∀ l : List α, (List.range l.length).filterMap (fun m => l[m]?) = l
  | [] => rfl
  | x :: l => by
    rw [List.length_cons, List.range_succ_eq_map, List.filterMap_cons, List.filterMap_map]
    show x :: (List.range l.length).filterMap (fun m => l[m]?) = _
    rw [vi_fm_all l]
theorem vi_pick_rev (xs : Array Value) : ((List.range xs.size).filterMap fun (m : Nat) => xs[(((xs.size : Int) - 1) + (m : Int) * (-1)).toNat]?).toArray = xs.toList.reverse.toArray := by
  have e : ∀ m ∈ List.range xs.size, (fun (m : Nat) => xs[(((xs.size : Int) - 1) + (m : Int) * (-1)).toNat]?) m = xs.toList.reverse[m]? := fun m hm => by
    have hm' := List.mem_range.mp hm
    show xs[(((xs.size : Int) - 1) + (m : Int) * (-1)).toNat]? = _
    rw [List.getElem?_reverse (by simpa using hm'), show (((xs.size : Int) - 1) + (m : Int) * (-1)).toNat = xs.toList.length - 1 - m by rw [Array.length_toList]; omega]
    simp
  rw [vi_fm_congr e]
  have := vi_fm_all xs.toList.reverse
  rw [List.length_reverse, Array.length_toList] at this
  rw [this]
theorem vi_tuple_rev {t sl : Addr} {items : Array Value} {vs : Value} {Q : Value → Shared → Prop} (ht : IsTup s.heap t items) (hs : s.heap.IsSliceOf sl .none .none vs) (ps : IsPart vs (some (-1)))
    (h : Q (.ref s.heap.objs.size) { s with heap := s.heap.push { cls := .type "tuple", data := .seq items.toList.reverse.toArray } })
    (hsz : items.size ≤ sizeLine) : wpAny (model prog w) A (getItem (.ref t) (.ref sl)) Q E s := by
  have htake : sizeOk (.seq items.toList.reverse.toArray) := by
    show items.toList.reverse.toArray.size ≤ sizeLine
    rw [List.size_toArray, List.length_reverse, Array.length_toList]
    exact hsz
  obtain ⟨os, hos, hcs, hds⟩ := id hs
  have hTs : s.TypeIs (.ref sl) "slice" := ⟨os, hos, hcs⟩
  unfold getItem
  try with_reducible refine wpAny_holding ?_
  first | refine wpAny_bind (wpAny_pure ?_) | skip
  refine wpAny_bind (wpAny_sequenceKey ht.typeIs (by decide) ?_)
  refine wpAny_bind (wpAny_callSpecial?_slot (name := Str.ofString "__getitem__") ht.typeIs PyProof.Rows.slot_tuple_getitem
    (wpAny_call_entry PyProof.Rows.slot_tuple_getitem ht.typeIs entry_tuple_getitem ?_ (args_tuple_getitem _ _)))
  show wpAny _ _ (Builtin.Tuple.tupleItemsOf (.ref t) >>= _) _ _ s
  refine wpAny_bind (tupleItemsOf_ ht ?_)
  refine wpAny_bind (wpAny_typeOf hTs ?_)
  rw [if_pos (by decide)]
  refine wpAny_bind (vi_applied_rev hs ps ?_)
  show wpAny _ _ (if ((((items.size : Int) - 1)) == 0 && (-1 : Int) == 1 && items.size == items.size) = true then _ else _) _ _ s
  rw [if_neg (by simp), vi_pick_rev]
  first
    | exact wpAny_bind (m := Builtin.Tuple.tupleExact _) (wpAny_newObj_type (wpAny_pure ⟨_, rfl, wpAny_pure h⟩) htake)
    | exact wpAny_bind (m := Builtin.Tuple.tupleExact _) (wpAny_newObj_type (wpAny_bind (wpAny_pure (wpAny_pure ⟨_, rfl, wpAny_pure h⟩))) htake)
    | exact wpAny_bind (wpAny_bind (m := Builtin.Tuple.tupleExact _) (wpAny_newObj_type (wpAny_pure (wpAny_pure ⟨_, rfl, wpAny_pure h⟩)) htake))
    | exact wpAny_bind (wpAny_bind (m := Builtin.Tuple.tupleExact _) (wpAny_newObj_type (wpAny_pure ⟨_, rfl, wpAny_pure h⟩) htake))
end
end HT
namespace Vi
open PySem PySem.Spec PyProof.Rows L2 HT
section
variable {X : Cx} {e : Expr} {te : TE} {me : ME}
def tRevT (K : PySem.W.Frag) (te : TE) : TE := fun σ H Q => te σ H fun x H1 => ∃ a xs, x = .ref a ∧ SqT K H1 a xs ∧ ∀ p, H1 p = none → Q (.ref p) (upd H1 p (.tup xs.reverse))
theorem pe_revT {k : Nat} {p1 p2 p3 pos : Pos} (he : PE X e te) : PE X (.Subscript e (.Slice none none (some (.UnaryOp .USub (.Constant (.int 1) k p1) p2)) p3) pos) (tRevT X.K te) := by
  refine ⟨fun pins s σ H Q I h => ?_⟩
  refine Subscript_ (thn (he.run pins s σ H _ I h) fun v s1 ⟨x, H1, I1, r1, q1⟩ => ?_)
  obtain ⟨a, xs, ex, hx, q⟩ := q1
  subst ex
  cases r1
  have hst : PO X (some (.UnaryOp .USub (.Constant (.int 1) k p1) p2)) (tPart (tUn (rU fun i => .int (-i)) (tC (.int 1)))) := po_some (pe_un un_neg pe_int)
  refine wpAny_Slice (thn (po_none.run pins s1 σ H1 (fun o H2 => o = none ∧ H2 = H1) I1 ⟨rfl, rfl⟩) fun vl s2 ⟨l, H2, I2, pl, el, e2⟩ => ?_)
  subst el e2
  refine thn (po_none.run pins s2 σ H2 (fun o H3 => o = none ∧ H3 = H2) I2 ⟨rfl, rfl⟩) fun vu s3 ⟨u, H3, I3, pu, eu, e3⟩ => ?_
  subst eu e3
  refine thn (hst.run pins s3 σ H3 (fun o H4 => o = some (-1) ∧ H4 = H3) I3 ⟨1, rfl, -1, rfl, rfl, rfl⟩) fun vs s4 ⟨o, H4, I4, ps, eo, e4⟩ => ?_
  subst eo e4
  have I5 : Inv X pins σ H4 { s4 with heap := s4.heap.push { cls := .type "slice", data := .fields #[vl, vu, vs] } } := I4.kept (t' := s4.toks) fun b ob q => Heap.get?_push_of_some _ q
  obtain ⟨its, r, ht, hz⟩ := I5.tuple hx
  have hlen := r.length
  cases pl
  cases pu
  show wpAny (model X.prog X.w) X.A (subscriptTail e (.Slice none none (some (.UnaryOp .USub (.Constant (.int 1) k p1) p2)) p3) (.ref a) (.ref s4.heap.objs.size)) (EP X pins σ Q) X.xe { s4 with heap := s4.heap.push { cls := .type "slice", data := .fields #[.none, .none, vs] } }
  refine tail_any (ops := [.ref a, .ref s4.heap.objs.size]) ht.typeIs (PyProof.Rows.slot_tuple_getitem.lookup) ?_ (by with_unfolding_all rfl)
  refine vi_tuple_rev ht (Heap.IsSliceOf.new _ .none .none vs) ps ?_ (by rw [List.size_toArray]; omega)
  refine ⟨.ref _, _, I5.laid (t' := s4.toks) (o := .tup xs.reverse) (fun b ob q => Heap.get?_push_of_some _ q) (Nat.le_refl _) ?_, rfl, q _ (I5.hok.fresh (Nat.le_refl _))⟩
  exact ⟨by rw [List.length_reverse]; exact hz, _, r.reverse, ⟨_, Heap.get?_push_size _ rfl, rfl, 0, rfl⟩⟩
theorem pe_either {e : Expr} {t u : TE} (h1 : PE X e t) (h2 : PE X e u) : PE X e fun σ H Q => t σ H Q ∨ u σ H Q := ⟨fun pins s σ H Q I h => h.elim (fun z => h1.run pins s σ H Q I z) fun z => h2.run pins s σ H Q I z⟩
theorem Reps.reverse {K : PySem.W.Frag} {H : Hp} {M : Mset} : ∀ {vs : List V} {ds : List D}, Reps K H M vs ds → Reps K H M vs.reverse ds.reverse
  | _, _, .nil => .nil
  | _, _, .cons h r => by
    rw [List.reverse_cons, List.reverse_cons]
    exact (Reps.reverse r).append (.cons h .nil)
def dRev : D → Option Sv
  | .list ds => some (.own .loc ds.reverse)
  | .tuple ds => some (.imm (.tuple ds.reverse))
  | _ => none
/-- e[::-1] -/
theorem de_rev {k : Nat} {p1 p2 p3 pos : Pos} (he : DE X e me) : DE X (.Subscript e (.Slice none none (some (.UnaryOp .USub (.Constant (.int 1) k p1) p2)) p3) pos) (un dRev me) :=
  PE.imp (pe_either (pe_revL he) (pe_revT he)) fun σ H Q h => by
    obtain ⟨ρ, M, O, π, pr, ρ', h0, e, q⟩ := h
    unfold un at e
    split at e
    · rename_i a ρ1 ea
      split at e
      · rename_i x ex
        split at e
        · rename_i res er
          simp only [Option.some.injEq, Prod.mk.injEq] at e
          obtain ⟨rfl, rfl⟩ := e
          cases x with
          | list ds =>
            cases er
            refine .inl ⟨ρ, M, O, π, a, ρ1, h0, ea, fun v1 H1 M1 x1 s1 r1 => ?_⟩
            obtain ⟨a', vs, rfl, rd, rs⟩ := (peek_vw s1 r1 ex).inL
            exact ⟨a', vs, rfl, .inl rd, fun p hp => Post.lst (Q := Q) (fun v H' M' x3 s3 r3 => q v H' M' (x1.trans x3) s3 r3) s1 rs.reverse hp⟩
          | tuple ds =>
            cases er
            refine .inr ⟨ρ, M, O, π, a, ρ1, h0, ea, fun v1 H1 M1 x1 s1 r1 => ?_⟩
            obtain ⟨a', vs, rfl, rd, rs⟩ := (peek_vw s1 r1 ex).inT
            exact ⟨a', vs, rfl, rd.sq, fun p hp => Post.tup (Q := Q) (fun v H' M' x3 s3 r3 => q v H' M' (x1.trans x3) s3 r3) s1 rs.reverse hp⟩
          | _ => cases er
        · cases e
      · cases e
    · cases e
end
end Vi

namespace Vi
open PySem PySem.Spec PyProof.Rows L2
section
variable {X : Cx} {pos : Pos} {me mk : ME} {e k : Expr}
/-! ### op= -/
theorem pget_list : PGet X (rIxL X.K) := by
  intro pins s σ H x y v u Q I rx ry h
  obtain ⟨p, xs, i, z, rfl, rfl, hq, he, q⟩ := h
  cases rx
  obtain ⟨t, rfl⟩ := ry
  obtain ⟨its, r, pl, hz⟩ := I.list hq
  obtain ⟨j, h1, h2, h3, h4, h5⟩ := atI_get he
  obtain ⟨w, ew, rw'⟩ := r.get h2
  have hl := r.length
  have hn := line63
  have fin : EP X pins σ Q w s := ⟨z, H, I, rw', q⟩
  by_cases h0 : 0 ≤ i
  · have hj : i.toNat = j := by
      rw [seqIndex_of h0 h5] at h1
      exact Option.some.inj h1
    exact wpAny_getItem_list pl.isList h0 (by omega) (by rw [hj]; simpa using ew) fin
  · have hj : (i + (its.toArray.size : Int)).toNat = j := by
      rw [seqIndex_neg (by omega) h4] at h1
      rw [List.size_toArray, ← hl]
      exact Option.some.inj h1
    exact wpAny_getItem_list_neg pl.isList (by omega) (by rw [List.size_toArray] <;> omega) (by omega) (by rw [hj]; simpa using ew) fin
/-- x[k] op= e, of ints -/
def mAugS (f : Int → Int → Int) (i : Nat) (mk me : ME) : MS := fun ρ => match ρ[i]? with
  | some (some (.own .dic _)) => none
  | some (some (.own _ _)) => match mk ρ with
    | some (pk, ρ1) => match peek ρ1 pk with
      | some (.int k) => match ρ1[i]? with
        | some (some (.own .dic _)) => none
        | some (some (.own _ ds)) => match atI ds k with
          | some (.int x) => match me ρ1 with
            | some (pr, ρ2) => match peek ρ2 pr with
              | some (.int y) => match ρ2[i]? with
                | some (some (.own .dic _)) => none
                | some (some (.own b ds)) => match ixN ds.length k with
                  | some j => some (.next, ρ2.set i (some (.own b (ds.set j (.int (f x y))))))
                  | none => none
                | _ => none
              | _ => none
            | none => none
          | _ => none
        | _ => none
      | _ => none
    | none => none
  | _ => none
theorem ds_augS {st : Stmt} {f : Int → Int → Int} {i : Nat} (h : ∀ te tk, PE X e te → PE X k tk → PS X st (tAugS (tVar i) tk te (rIxL X.K) (ipI f) rSetL)) (he : DE X e me) (hk : DE X k mk) : DS X st (mAugS f i mk me) :=
  PS.imp (h _ _ he hk) fun D σ H ⟨ρ, M, O, π, fl, ρ', h, e, q⟩ => by
    unfold mAugS at e
    split at e
    · cases e
    · rename_i b0 ds0 hne0 e0
      split at e
      · rename_i pk ρ1 e1
        split at e
        · rename_i k e2
          split at e
          · cases e
          · rename_i b1 ds1 hne3 e3
            split at e
            · rename_i x e4
              split at e
              · rename_i pr ρ2 e5
                split at e
                · rename_i y e6
                  split at e
                  · cases e
                  · rename_i b ds hne7 e7
                    split at e
                    · rename_i j ej
                      cases e
                      obtain ⟨a, vs, f1, f2, f3, f4, f5, f6⟩ := h.ownL e0 (isL_of hne0)
                      refine ⟨.ref a, f1, ρ, M, O, π, pk, ρ1, h, e1, fun v H1 M1 x1 s1 r1 => ?_⟩
                      obtain ⟨a', ws, g1, g2, g3, g4, g5, g6⟩ := s1.ownL e3 (isL_of hne3)
                      rw [f1] at g1; cases g1
                      have hk := (peek_vw s1 r1 e2).inI
                      subst hk
                      obtain ⟨w, ew, rw'⟩ := atI_rep g5 e4
                      cases rw'
                      refine ⟨a, ws, k, .int x, rfl, rfl, .inl (.inl g2), ew, ?_⟩
                      refine ⟨ρ1, M1, O, π, pr, ρ2, s1, e5, fun w H2 M2 x2 s2 r2 => ?_⟩
                      have hy := (peek_vw s2 r2 e6).inI
                      subst hy
                      obtain ⟨a'', us, k1, k2, k3, k4, k5, k6⟩ := s2.ownL e7 (isL_of hne7)
                      rw [f1] at k1; cases k1
                      refine ⟨x, y, rfl, rfl, ?_⟩
                      obtain ⟨s4, x4, t4⟩ := s2.write (ws := us.set j (.int (f x y))) (es := ds.set j (.int (f x y))) e7 (isL_of hne7) f1 (k5.set j (.int _))
                      exact ⟨a, us, k, j, rfl, rfl, k2, by rw [k5.length]; exact ej, q _ _ M2 ((x1.trans x2).trans x4) s4⟩
                    · cases e
                  · cases e
                · cases e
              · cases e
            · cases e
          · cases e
        · cases e
      · cases e
    · cases e
/-- x op= e, of ints -/
def mAugN (f : Int → Int → Int) (i : Nat) (me : ME) : MS := fun ρ => match ρ[i]? with
  | some (some (.imm (.int x))) => match me ρ with
    | some (pr, ρ1) => match peek ρ1 pr with
      | some (.int y) => match put i (.val (.imm (.int (f x y)))) ρ1 with
        | some ρ2 => some (.next, ρ2)
        | none => none
      | _ => none
    | none => none
  | _ => none
theorem ds_augN {st : Stmt} {f : Int → Int → Int} {i : Nat} (h : ∀ te, PE X e te → PS X st (tAug i te (ipI f))) (he : DE X e me) : DS X st (mAugN f i me) :=
  PS.imp (h _ he) fun D σ H ⟨ρ, M, O, π, fl, ρ', h, e, q⟩ => by
    unfold mAugN at e
    split at e
    · rename_i x e0
      split at e
      · rename_i pr ρ1 e1
        split at e
        · rename_i y e2
          split at e
          · rename_i ρ2 e3
            cases e
            obtain ⟨v, f1, f2⟩ := h.imm i _ e0
            cases f2
            refine ⟨.int x, f1, ρ, M, O, π, pr, ρ1, h, e1, fun w H1 M1 x1 s1 r1 => ?_⟩
            have hy := (peek_vw s1 r1 e2).inI
            subst hy
            refine ⟨x, y, rfl, rfl, ?_⟩
            obtain ⟨M2, x2, s2⟩ := put_ok s1 (show RP X.K H1 M1 O ρ1 σ (.val (.imm (.int (f x y)))) (.int (f x y)) from .int _) e3
            exact q _ H1 M2 (x1.trans x2) s2
          · cases e
        · cases e
      · cases e
    · cases e
/-- a, b = x, y with names that comprehensions read -/
theorem ds_parC {st : Stmt} {a b : Expr} {ma mb : ME} {i j : Nat} (h : ∀ ta, PA X [a, b] ta → PS X st (tAsg (tTup ta) (gTup X.K 2 (gCons (gName i) (gCons (gName j) gNil))))) (ha : DE X a ma) (hb : DE X b mb) (hs : starEach [a, b] X.env = (false, eval a X.env) :: starEach [b] X.env := by rfl) (hs2 : starEach [b] X.env = (false, eval b X.env) :: starEach [] X.env := by rfl) : DS X st (mPar i j ma mb) :=
  PS.imp (h _ (pa_cons ha (pa_cons hb pa_nil hs2) hs)) fun D σ H ⟨ρ, M, O, π, fl, ρ', h, e, q⟩ => by
    unfold mPar at e
    split at e
    · rename_i p1 ρ1 e1
      split at e
      · rename_i s1 ρ2 e2
        split at e
        · rename_i p2 ρ3 e3
          split at e
          · rename_i s2 ρ4 e4
            split at e
            · rename_i hz
              cases e
              rw [Bool.and_eq_true] at hz
              refine ⟨ρ, M, O, π, p1, ρ1, h, e1, fun v1 H1 M1 x1 t1 r1 => ?_⟩
              obtain ⟨M2, x2, t2, r2⟩ := take_ok t1 r1 e2
              refine ⟨ρ2, M2, Vi.hold O (.val s1) v1, π, p2, ρ3, t2.hold r2, e3, fun v2 H3 M3 x3 t3 r3 => ⟨by show 2 ≤ sizeLine; decide, fun p hp => ⟨p, [v1, v2], rfl, .inl (.inl upd_same), rfl, v1, [v2], rfl, v2, [], rfl, rfl, ?_⟩⟩⟩
              obtain ⟨M4, x4, t4, r4⟩ := take_ok t3 r3 e4
              have le := hold_le O (.val s1) v1
              have y1 : Ext (Vi.hold (Vi.hold O (.val s1) v1) (.val s2) v2) H3 M4 (upd H3 p (.tup [v1, v2])) M4 := .alloc (t4.hold r4) hp
              have u4 := (t4.hold r4).alloc (o := .tup [v1, v2]) hp
              have le2 := hold_le (Vi.hold O (.val s1) v1) (.val s2) v2
              have r4' := r4.held y1 u4
              have r1' := r2.held ((x3.trans x4).trans (y1.less le2)) (u4.less le2)
              have t5 := ((u4.less le2).less le).setVal r1' (fine_ne hz.1) i
              have r5 := RP.set (i := i) r1' r4' u4.len
              exact q _ _ M4 ((x1.trans x2).trans (((x3.trans x4).trans (y1.less le2)).less le)) (t5.setVal r5 (fine_ne hz.2) j)
            · cases e
          · cases e
        · cases e
      · cases e
    · cases e
end
end Vi

namespace Vi
open PySem PySem.Spec PyProof.Rows L2
section
variable {ρ ρ0 ρ1 ρ2 ρ3 : Fm} {me ma mb : ME} {m n : MS} {mt : MT} {mi : MI} {mg : MG} {d s t : D} {r sv : Sv} {ds es : List D} {pr p1 p2 : PR} {i : Nat} {os : List (Option (List D))} {fl : Fl}
theorem c_fits {n : Nat} (h : n ≤ 10000) : fits n = true := decide_eq_true (by unfold sizeLine; omega)
theorem c_rng {i : Int} (h : -1000000 ≤ i ∧ i ≤ 1000000) : rngOk i = true := decide_eq_true (by constructor <;> omega)
theorem c_call {f : Fn} {mr : MR} {as : List AR} {args : List Sv} (h1 : mr ρ = some (as, ρ1)) (h2 : nodupB (slotsOf as) = true) (h3 : argsOf ρ1 as = some args) (h4 : f args = some (r, os)) (h5 : Vi.backTo ρ1 as os = some ρ2) : mCall f mr ρ = some (.val r, ρ2) := by
  unfold mCall
  rw [h1]
  simp only [h2, h3, h4, h5, if_true]
theorem c_set (h1 : me ρ = some (pr, ρ1)) (h2 : put i pr ρ1 = some ρ2) : mSet i me ρ = some (.next, ρ2) := by
  unfold mSet
  rw [h1]
  simp only [h2]
theorem c_ret (h1 : me ρ = some (pr, ρ1)) (h2 : give ρ1 pr = some r) : mRet me ρ = some (.ret r, ρ1) := by
  unfold mRet
  rw [h1]
  simp only [h2]
theorem c_drop (h1 : me ρ = some (pr, ρ1)) : mDrop me ρ = some (.next, ρ1) := by
  unfold mDrop
  rw [h1]
theorem c_bin {f : D → D → Option Sv} (h1 : ma ρ = some (p1, ρ1)) (h2 : mb ρ1 = some (p2, ρ2)) (h3 : peek ρ2 p1 = some s) (h4 : peek ρ2 p2 = some t) (h5 : f s t = some r) : bin f ma mb ρ = some (.val r, ρ2) := by
  unfold bin
  rw [h1]
  simp only [h2, h3, h4, h5]
theorem c_un {f : D → Option Sv} (h1 : ma ρ = some (p1, ρ1)) (h3 : peek ρ1 p1 = some s) (h5 : f s = some r) : un f ma ρ = some (.val r, ρ1) := by
  unfold un
  rw [h1]
  simp only [h3, h5]
theorem c_seq {x : Option (Fl × Fm)} (h : m ρ = some (.next, ρ1)) (h2 : n ρ1 = x) : mSeq m n ρ = x := by unfold mSeq; rw [h]; exact h2
theorem c_for {x : Option (Fl × Fm)} (h : mi ρ = some (ds, ρ1)) (h2 : loop mg m ds ρ1 = x) : mFor mi mg m ρ = x := by unfold mFor; rw [h]; exact h2
theorem c_nil : loop mg m [] ρ = some (.next, ρ) := rfl
theorem c_cons {x : Option (Fl × Fm)} (h1 : mg d ρ = some ρ1) (h2 : m ρ1 = some (.next, ρ2)) (h3 : loop mg m ds ρ2 = x) : loop mg m (d :: ds) ρ = x := by
  rw [loop, h1]
  simp only [h2]
  exact h3
theorem c_cons_cont {x : Option (Fl × Fm)} (h1 : mg d ρ = some ρ1) (h2 : m ρ1 = some (.cont, ρ2)) (h3 : loop mg m ds ρ2 = x) : loop mg m (d :: ds) ρ = x := by
  rw [loop, h1]
  simp only [h2]
  exact h3
theorem c_ifT {x : Option (Fl × Fm)} (h : mt ρ = some (true, ρ1)) (h2 : m ρ1 = x) : mIfS mt m n ρ = x := by unfold mIfS; rw [h]; exact h2
theorem c_ifF {x : Option (Fl × Fm)} (h : mt ρ = some (false, ρ1)) (h2 : n ρ1 = x) : mIfS mt m n ρ = x := by unfold mIfS; rw [h]; exact h2
theorem c_tru {b : Bool} (h1 : me ρ = some (pr, ρ1)) (h2 : peek ρ1 pr = some d) (h3 : dTru d = some b) : mTru me ρ = some (b, ρ1) := by
  unfold mTru
  rw [h1]
  simp only [h2, h3]
theorem c_andT {x : Option (PR × Fm)} (h1 : ma ρ = some (pr, ρ1)) (h2 : peek ρ1 pr = some d) (h3 : dTru d = some true) (h4 : mb ρ1 = x) : mAnd ma mb ρ = x := by
  unfold mAnd
  rw [h1]
  simp only [h2, h3]
  exact h4
theorem c_andF (h1 : ma ρ = some (pr, ρ1)) (h2 : peek ρ1 pr = some d) (h3 : dTru d = some false) : mAnd ma mb ρ = some (pr, ρ1) := by
  unfold mAnd
  rw [h1]
  simp only [h2, h3]
/-- a and b, of bools -/
theorem c_andB {a b : Bool} (h1 : ma ρ = some (.val (.imm (.bool a)), ρ)) (h2 : a = true → mb ρ = some (.val (.imm (.bool b)), ρ)) : mAnd ma mb ρ = some (.val (.imm (.bool (a && b))), ρ) := by
  cases a
  · exact c_andF h1 rfl rfl
  · exact c_andT h1 rfl rfl (h2 rfl)
theorem c_comp {mg : MG} {mt : MT} {me : ME} {vs : List Nat} (h1 : mi ρ = some (ds, ρ1)) (h2 : vsOk ρ1 vs = true) (h3 : cloop mg mt me vs ds (wipeA ρ1 vs) = some (es, ρ2)) (h4 : fits es.length = true) (h5 : restA ρ2 ρ1 vs = ρ3) : mComp mi mg mt me vs ρ = some (.val (.own .loc es), ρ3) := by
  show (match mi ρ with
    | some (ds, ρ1) => if vsOk ρ1 vs = true then match cloop mg mt me vs ds (wipeA ρ1 vs) with
      | some (es, ρ2) => if fits es.length = true then some (PR.val (.own .loc es), restA ρ2 ρ1 vs) else none
      | none => none
      else none
    | none => none) = _
  rw [h1]
  show (if vsOk ρ1 vs = true then _ else _) = _
  rw [if_pos h2, h3]
  show (if fits es.length = true then _ else _) = _
  rw [if_pos h4, h5]
theorem c_cnil {vs : List Nat} : cloop mg mt me vs [] ρ = some ([], ρ) := rfl
theorem c_ccons {vs : List Nat} {ρ4 ρ5 : Fm} {e : D} (h1 : mg d ρ = some ρ1) (h2 : mt ρ1 = some (true, ρ2)) (h3 : me ρ2 = some (pr, ρ3)) (h4 : frz ρ3 pr = some (e, ρ4)) (h5 : cloop mg mt me vs ds (wipeA ρ4 vs) = some (es, ρ5)) : cloop mg mt me vs (d :: ds) ρ = some (e :: es, ρ5) := by
  rw [cloop, h1]
  simp only [h2, h3, h4, h5]
theorem c_cskip {vs : List Nat} {x : Option (List D × Fm)} (h1 : mg d ρ = some ρ1) (h2 : mt ρ1 = some (false, ρ2)) (h5 : cloop mg mt me vs ds (wipeA ρ2 vs) = x) : cloop mg mt me vs (d :: ds) ρ = x := by
  rw [cloop, h1]
  simp only [h2, h5]
theorem c_fn {nN np : Nat} {ms : MS} {us : List Sv} (hn : us.length = np) (h0 : us.map some ++ List.replicate (nN - np) none = ρ0) (h : ms ρ0 = some (.ret r, ρ)) (ho : outsOf us ρ = some os) : mFn nN np ms us = some (r, os) := by
  unfold mFn
  rw [if_pos hn, h0, h]
  simp only [ho]
theorem c_rng1 {ma : MA} {n : Nat} (h : ma ρ = some ([.int (n : Int)], ρ1)) (hn : n ≤ 1000000) : mIRng1 ma ρ = some (rngD 0 n, ρ1) := by
  have r1 : rngOk (n : Int) = true := c_rng (by omega)
  unfold mIRng1
  rw [h]
  simp only [r1, if_true, Int.toNat_natCast]
theorem c_rng2 {ma : MA} {i j : Int} {n : Nat} (h : ma ρ = some ([.int i, .int j], ρ1)) (hi : -1000000 ≤ i ∧ i ≤ 1000000) (hj : -1000000 ≤ j ∧ j ≤ 1000000) (hn : (j - i).toNat = n) : mIRng2 ma ρ = some (rngD i n, ρ1) := by
  have r1 : rngOk i = true := c_rng hi
  have r2 : rngOk j = true := c_rng hj
  unfold mIRng2
  rw [h]
  simp only [r1, r2, Bool.and_self, if_true, hn]
theorem c_addL (h : ds.length + es.length ≤ 10000) : dAdd (.list ds) (.list es) = some (.own .loc (ds ++ es)) := by
  have hf : fits (ds.length + es.length) = true := c_fits h
  unfold dAdd
  simp only [hf, if_true]
theorem c_addT (h : ds.length + es.length ≤ 10000) : dAdd (.tuple ds) (.tuple es) = some (.imm (.tuple (ds ++ es))) := by
  have hf : fits (ds.length + es.length) = true := c_fits h
  unfold dAdd
  simp only [hf, if_true]
theorem c_mul {i j : Int} (h : -(2 ^ 64) < j ∧ j < 2 ^ 64) : mulOk i j = true := by
  unfold mulOk; rw [Bool.or_eq_true, Bool.or_eq_true]; exact .inl (.inr (decide_eq_true h))
theorem c_mul' {i j : Int} (h : -(2 ^ 64) < i ∧ i < 2 ^ 64) : mulOk i j = true := by
  unfold mulOk; rw [Bool.or_eq_true, Bool.or_eq_true]; exact .inl (.inl (decide_eq_true h))
end
end Vi

namespace Vi
open PySem PySem.Spec PyProof.Rows L2 RT
section
variable {X : Cx} {pos : Pos} {e : Expr} {es : List Expr} {me : ME} {mes : MA} {tg : Expr}
/-! ### a function that a module's name holds -/
theorem de_callF {id : String} {x : Str} {p : Pos} {r : List V → Hp → VK → Prop} {f : List D → Option Sv} (hc : CallR X (.builtin id) r) (hs : AS X r f) (hg : Gl X x) (hm : X.mg x = some (.builtin id)) (ha : DA X (e :: es) mes)
    (hd : (x == ("__debug__" : Str)) = false := by decide) (he : starEach (e :: es) X.env = (false, eval e X.env) :: starEach es X.env := by rfl) (hpl : (PySem.backTo pos (starEach es X.env)).any (·.1) = false := by rfl) : DE X (.Call (.Name x p) (e :: es) [] pos) (mA f mes) :=
  PE.imp (pe_callBfun hc hg hm ha hd he hpl) fun σ H Q ⟨ρ, M, O, π, pr, ρ', h, e, q⟩ => by
    unfold mA at e
    split at e
    · rename_i ds ρ1 e1
      split at e
      · rename_i r er
        cases e
        exact ⟨ρ, M, O, π, ds, _, h, e1, fun vs H1 M1 x1 s1 r1 => hs s1 r1 er fun v H' M' x3 s3 r3 => q v H' M' (x1.trans x3) s3 r3⟩
      · cases e
    · cases e
def dGcd : List D → Option Sv
  | [.int i, .int j] => some (.imm (.int ((Nat.gcd i.natAbs j.natAbs : Nat) : Int)))
  | _ => none
theorem as_gcd : AS X rGcd dGcd := by
  intro H M O π ρ σ vs ds res Q h r e q
  unfold dGcd at e
  split at e
  · cases e
    cases r with
    | cons r1 r2 => cases r2 with
      | cons r2 r3 =>
        cases r3; cases r1; cases r2
        exact ⟨_, _, rfl, Post.now q h (.int _)⟩
  · cases e
/-! ### a module's tuple of whole numbers -/
def ConstT (K : PySem.W.Frag) (mg : Str → Option Value) (x : Str) (is : List Int) : Prop :=
  ∃ (z : Addr) (o : Obj) (its : Array Value) (n : Nat), mg x = some (.ref z) ∧ K.lookup z = some o ∧ o.cls = .type "tuple" ∧ o.data = .seq its n ∧ its.size ≤ sizeLine ∧ Vals (is.map V.int) its.toList
theorem reps_ints {K : PySem.W.Frag} {H : Hp} {M : Mset} : ∀ is : List Int, Reps K H M (is.map V.int) (is.map PyData.int)
  | [] => .nil
  | i :: is => .cons (.int i) (reps_ints is)
theorem de_const {x : Str} {is : List Int} (hg : Gl X x) (hc : ConstT X.K X.mg x is) (hd : (x == ("__debug__" : Str)) = false := by decide) : DE X (.Name x pos) (mC (.tuple (is.map .int))) := by
  obtain ⟨z, o, its, n, h1, h2, h3, h4, h5, h6⟩ := hc
  exact de_c (v := .ref z) (pe_glob hg h1 rfl hd) fun H M => .tup (.inr ⟨o, its, n, h2, h3, h4, h5, h6⟩) (reps_ints is)
/-! ### reversed -/
theorem src_revL {K : PySem.W.Frag} {H0 : Hp} {M0 : Mset} {a : Addr} {vs : List V} {ds : List D} (h : Rd H0 a (.lst vs)) (n : ¬ M0 a) (r : Reps K H0 M0 vs ds) : Src K (Itv K a vs.length) ds.reverse H0 M0 := by
  refine ⟨fun H M l i hi => ?_, fun H M l => by show vs.length ≤ ds.reverse.length; rw [List.length_reverse, r.length]; exact Nat.le_refl _, fun H M l i d x H' ed y => ?_⟩
  · rw [List.length_reverse, ← r.length] at hi
    exact ⟨hi, vs, vs[vs.length - 1 - i]'(by omega), .inl (l a _ h n).1, List.getElem?_eq_getElem _⟩
  · have hi : i < ds.length := by
      have := (List.getElem?_eq_some_iff.mp ed).1
      rwa [List.length_reverse] at this
    rw [List.getElem?_reverse hi] at ed
    obtain ⟨v, hv, rv⟩ := r.get ed
    obtain ⟨e1, e2⟩ := y
    have e3 := e2 vs (.inl (l a _ h n).1)
    rw [r.length, hv] at e3; cases e3
    exact .inl ⟨e1, rv.tr l⟩
theorem src_revT {K : PySem.W.Frag} {H0 : Hp} {M0 : Mset} {a : Addr} {vs : List V} {ds : List D} (h : TupAt K H0 M0 a vs) (r : Reps K H0 M0 vs ds) : Src K (ItvT K a vs.length) ds.reverse H0 M0 := by
  refine ⟨fun H M l i hi => ?_, fun H M l => by show vs.length ≤ ds.reverse.length; rw [List.length_reverse, r.length]; exact Nat.le_refl _, fun H M l i d x H' ed y => ?_⟩
  · rw [List.length_reverse, ← r.length] at hi
    exact ⟨hi, vs, vs[vs.length - 1 - i]'(by omega), tupAt_lat h l, List.getElem?_eq_getElem _⟩
  · have hi : i < ds.length := by
      have := (List.getElem?_eq_some_iff.mp ed).1
      rwa [List.length_reverse] at this
    rw [List.getElem?_reverse hi] at ed
    obtain ⟨v, hv, rv⟩ := r.get ed
    obtain ⟨e1, e2⟩ := y
    have e3 := e2 vs (tupAt_lat h l)
    rw [r.length, hv] at e3; cases e3
    exact .inl ⟨e1, rv.tr l⟩
def mIRev (me : ME) : MI := fun ρ => match me ρ with
  | some (pr, ρ1) => match frz ρ1 pr with
    | some (d, ρ2) => match itemsOf d with
      | some ds => some (ds.reverse, ρ2)
      | none => none
    | none => none
  | none => none
theorem di_rev {p : Pos} (hg : Gl X "reversed") (hm : X.mg "reversed" = none) (he : DE X e me) (hs : starEach [e] X.env = (false, eval e X.env) :: starEach [] X.env := by rfl) : DI X tg (.Call (.Name "reversed" p) [e] [] pos) (mIRev me) := PI.imp (pi_revA hg hm he hs) fun σ H R ⟨ρ, M, O, π, ds, ρ', h, e, q⟩ => by
  unfold mIRev at e
  split at e
  · rename_i pr ρ1 e1
    split at e
    · rename_i d ρ2 e2
      split at e
      · rename_i ds' e3
        cases e
        refine ⟨ρ, M, O, π, pr, ρ1, h, e1, fun v H1 M1 x1 s1 r1 => ?_⟩
        obtain ⟨M2, x2, s2, r2⟩ := frz_ok s1 r1 e2
        unfold itemsOf at e3
        split at e3
        · cases e3
          cases r2 with
          | lst hr n rr => exact ⟨_, _, rfl, .inl ⟨.inl hr, q _ H1 M2 (x1.trans x2) s2 (src_revL hr n rr)⟩⟩
        · cases e3
          cases r2 with
          | tup ht rr => exact ⟨_, _, rfl, .inr ⟨ht.sq, q _ H1 M2 (x1.trans x2) s2 (src_revT ht rr)⟩⟩
        · cases e3
      · cases e
    · cases e
  · cases e
/-! ### range(i, j, -1) -/
def downD (lo : Int) (n : Nat) : List D := (List.range n).map fun k => .int (lo + (k : Nat) * (-1))
theorem src_down {K : PySem.W.Frag} {H0 : Hp} {M0 : Mset} {lo : Int} {n : Nat} : Src K (Itc lo (-1) n) (downD lo n) H0 M0 where
  go := fun H M l i hi => by unfold downD at hi; rw [List.length_map, List.length_range] at hi; exact hi
  stop := fun H M l => by unfold downD; rw [List.length_map, List.length_range]; exact Nat.le_refl _
  yld := fun H M l i d x H' ed y => by
    obtain ⟨e1, e2⟩ := y
    subst e2
    refine .inl ⟨e1, ?_⟩
    unfold downD at ed
    rw [List.getElem?_map] at ed
    obtain ⟨k, ek, rfl⟩ := Option.map_eq_some_iff.mp ed
    have hk : k = i := by
      obtain ⟨h1, h2⟩ := List.getElem?_eq_some_iff.mp ek
      rw [List.getElem_range] at h2
      exact h2.symm
    subst hk
    exact .int _
def mIDown (ma : MA) : MI := fun ρ => match ma ρ with
  | some ([.int i, .int j, .int (-1)], ρ1) => if (rngOk i && rngOk j) = true then some (downD i (i - j).toNat, ρ1) else none
  | _ => none
theorem di_down {a b c : Expr} {ma : MA} {p : Pos} (hg : Gl X "range") (hm : X.mg "range" = none) (ha : DA X [a, b, c] ma)
    (hs : starEach [a, b, c] X.env = (false, eval a X.env) :: starEach [b, c] X.env := by rfl) (hpl : (PySem.backTo pos (starEach [b, c] X.env)).any (·.1) = false := by rfl) : DI X tg (.Call (.Name "range" p) [a, b, c] [] pos) (mIDown ma) :=
  PI.imp (pi_range3 hg hm ha hs hpl) fun σ H R ⟨ρ, M, O, π, ds, ρ', h, e, q⟩ => by
    unfold mIDown at e
    split at e
    · rename_i i j ρ1 e1
      split at e
      · rename_i hz
        cases e
        rw [Bool.and_eq_true] at hz
        have hz1 := of_decide_eq_true hz.1
        have hz2 := of_decide_eq_true hz.2
        refine ⟨ρ, M, O, π, _, _, h, e1, fun vs H1 M1 x1 s1 r1 => ?_⟩
        cases r1 with
        | cons rv rr =>
          cases rr with
          | cons rw' rr =>
            cases rr with
            | cons rz rr =>
              cases rr
              cases rv
              cases rw'
              cases rz
              exact ⟨i, j, -1, _, rfl, RgC.neg (by omega) (by omega) (by omega) (by omega), q _ H1 M1 x1 s1 src_down⟩
      · cases e
    · cases e
end
end Vi

namespace Vi
open PySem PySem.Spec PyProof.Rows L2
section
variable {X : Cx}
/-! ### min(a list of data), max -/
def notNone : D → Bool
  | .none => false
  | _ => true
def minOk (ds : List D) : Bool := alikeAllB ds && ds.all notNone && ds.all okD && decide (PyData.depthAll ds ≤ 64)
theorem minOk_al {ds : List D} (h : minOk ds = true) : W.AlikeAll ds := by
  unfold minOk alikeAllB at h
  rw [Bool.and_eq_true, Bool.and_eq_true, Bool.and_eq_true] at h
  refine ⟨fun d hd e he => List.all_eq_true.mp (List.all_eq_true.mp h.1.1.1 d hd) e he, fun d hd z => ?_⟩
  have := List.all_eq_true.mp h.1.1.2 d hd
  rw [z] at this; cases this
theorem minOk_lay {ds : List D} (h : minOk ds = true) : PyData.canLayAll0 ds = true := lay_all fun d hd => by
  unfold minOk at h
  rw [Bool.and_eq_true, Bool.and_eq_true, Bool.and_eq_true] at h
  exact SeqAt.canLay_of_shaped (List.all_eq_true.mp h.1.2 d hd)
theorem minOk_dep {ds : List D} (h : minOk ds = true) : PyData.depthAll ds ≤ 64 := by
  unfold minOk at h
  rw [Bool.and_eq_true] at h
  exact of_decide_eq_true h.2
theorem readsAll_i {h : Heap} : ∀ {ds : List D} {us : List Value} {as : List Addr} {i : Nat} {u : Value}, ReadsAll h us ds as → us[i]? = some u → ∃ d bs, ds[i]? = some d ∧ Reads h u d bs
  | [], _, _, i, _, r, e => by cases r; simp at e
  | d :: ds, _, _, 0, _, .cons r1 r2, e1 => by
    simp at e1; subst e1; exact ⟨_, _, rfl, r1⟩
  | d :: ds, _, _, i + 1, _, .cons r1 r2, e1 => by
    obtain ⟨d', bs, h1, h2⟩ := readsAll_i r2 (i := i) (by simpa using e1)
    exact ⟨d', bs, by simpa using h1, h2⟩
def rMinD (K : PySem.W.Frag) : List V → Hp → VK → Prop := fun vs H Q => ∃ (a : Addr) (xs : List V) (d : D) (ds : List D), vs = [.ref a] ∧ SqL K H a xs ∧ DpAll K H xs (d :: ds) ∧ minOk (d :: ds) = true ∧ ∀ (i : Nat) (x : V), xs[i]? = some x → (d :: ds)[i]? = some (W.minD d ds) → Q x H
theorem cr_minD (hc : X.calm = true) (hu : X.A.units + 70 < cLine) : CallR X (.builtin "min") (rMinD X.K) := by
  intro pins s σ H vs us Q I r h
  obtain ⟨a, xs, d, ds, rfl, hsq, hdp, hok, q⟩ := h
  rw [Vals.ref1 r]
  obtain ⟨its, rv, pl, hz⟩ := I.list hsq
  obtain ⟨as, hr⟩ := Dp.readsAll I (d :: ds) xs its hdp rv
  have hdep := minOk_dep hok
  refine W.min_list_data (I.ok.hd hc) pl.isList (show ReadsAll s.heap its.toArray.toList (d :: ds) as by simpa using hr) (minOk_al hok) (by omega) fun i v h' tk bs hv rd kp => ?_
  have hv' : its[i]? = some v := by simpa using hv
  obtain ⟨e, bs2, he, re⟩ := readsAll_i hr hv'
  have e1 := (Reads.unique (Reads.keeps kp re) _ _ rd).1
  subst e1
  have hl := rv.length
  have hi : i < xs.length := by
    have := (List.getElem?_eq_some_iff.mp hv').1
    omega
  obtain ⟨w, ew, rw'⟩ := rv.get (List.getElem?_eq_getElem hi)
  rw [hv'] at ew; cases ew
  exact ⟨_, H, I.kept (t' := tk) kp, rw', q i _ (List.getElem?_eq_getElem hi) he⟩
def dMinL : D → Option Sv
  | .list (d :: ds) => if minOk (d :: ds) = true then some (.imm (W.minD d ds)) else none
  | _ => none
theorem us_minL : UnS X (fun v H Q => rMinD X.K [v] H Q) dMinL := by
  intro H M O π ρ σ v1 d1 res Q h r1 e q
  unfold dMinL at e
  split at e
  · split at e
    · rename_i hz
      cases e
      obtain ⟨a, vs, rfl, rd, rs⟩ := r1.inL
      refine ⟨a, vs, _, _, rfl, .inl rd, rs.dp (minOk_lay hz), hz, fun i x hx hd => ?_⟩
      obtain ⟨y, hy, ry⟩ := rs.get hd
      rw [hx] at hy; cases hy
      exact Post.now q h ry
    · cases e
  · cases e
end
end Vi

namespace Vi
open PySem PySem.Spec PyProof.Rows L2
section
variable {prog : Program} {w : World} {A : Around} {E : Value → Shared → Prop} {s : Shared}
theorem draw_list {it t : Addr} {items : Array Value} (hne : t ≠ it) : ∀ (n i : Nat) (s : Shared) (Q : List Value → Shared → Prop), s.heap.IsListIter it t i → s.heap.IsList t items → i + n ≤ items.size →
    (∀ h', h'.IsListIter it t (i + n) → Heap.SameBut it s.heap h' → Q ((items.toList.drop i).take n) { s with heap := h' }) → wpAny (model prog w) A (draw (.ref it) n) Q E s
  | 0, i, s, Q, hit, _, _, hQ => by
    show wpAny _ _ (pure []) Q E s
    exact wpAny_pure (by simpa using hQ s.heap hit (Heap.SameBut.refl ..))
  | n + 1, i, s, Q, hit, ht, hle, hQ => by
    have hlt : i < items.size := by omega
    show wpAny _ _ (pyNext (.ref it) >>= _) Q E s
    refine wpAny_bind (wpAny_pyNext_list_item hit ht (x := items[i]) (by simp [hlt]) fun h₁ hit₁ hs₁ => ?_)
    refine wpAny_bind (wpAny_holding (draw_list hne n (i + 1) _ _ hit₁ (ht.extBut hs₁.extBut hne) (by omega) fun h₂ hit₂ hs₂ => wpAny_pure ?_))
    have hd : items.toList.drop i = items[i] :: items.toList.drop (i + 1) := by simp [List.drop_eq_getElem_cons, hlt]
    have := hQ h₂ (by rw [show i + (n + 1) = i + 1 + n by omega]; exact hit₂) (hs₁.trans hs₂)
    rw [hd, List.take_succ_cons] at this
    exact this
theorem isList_push {h : Heap} {t : Addr} {items : Array Value} (o : Obj) (x : h.IsList t items) : (h.push o).IsList t items := let ⟨o', ho, r⟩ := x; ⟨o', Heap.get?_push_of_some _ ho, r⟩
theorem unpackItems_list {t : Addr} {items : Array Value} {Q : List Value → Shared → Prop} (hh : A.handled = none) (ht : s.heap.IsList t items)
    (hQ : ∀ h', Heap.ExtBut s.heap.objs.size s.heap h' → Q items.toList { s with heap := h' }) : wpAny (model prog w) A (unpackItems (.ref t) items.size none) Q E s := by
  have hlt : t ≠ s.heap.objs.size := by obtain ⟨o, ho, _⟩ := ht; exact Nat.ne_of_lt (Heap.lt_size ho)
  unfold unpackItems
  refine wpAny_bind ?_
  · unfold notIterableAtAll
    refine wpAny_bind (wpAny_specialOf ht.typeIs slot_list_iter.lookup ?_)
    refine wpAny_pure ?_
    simp only [Bool.false_eq_true, if_false]
    refine wpAny_bind (wpAny_holding (wpAny_pyIter_list ht ?_))
    refine wpAny_bind (wpAny_holding (draw_list hlt items.size 0 _ _ ⟨_, Heap.get?_push_size _ rfl, rfl, rfl⟩ (isList_push _ ht) (by omega) fun h₁ hit₁ hs₁ => ?_))
    have hall : List.take items.size (List.drop 0 items.toList) = items.toList := by
      rw [List.drop_zero]; exact List.take_of_length_le (by simp)
    rw [hall]
    rw [if_neg (by simp)]
    have ht₁ : h₁.IsList t items := (isList_push _ ht).extBut hs₁.extBut hlt
    refine wpAny_bind (wpAny_holding (wpAny_pyNext_list_end hh hit₁ ht₁ (by simp) fun h₂ he₂ => ?_))
    simp only [Option.isSome_none, Bool.false_eq_true, if_false]
    refine wpAny_pure (hQ h₂ fun b o hb e => he₂ b o hb (hs₁.extBut b o hb (Heap.get?_push_of_some _ e)))
theorem assign_Tuple_list {env : Env} {elts : List Expr} {x1} {pos : Pos} {t : Addr} {items : Array Value} {Q : Unit → Shared → Prop} (hh : A.handled = none) (ht : s.heap.IsList t items)
    (hn : (assignEach elts env).length = items.size) (hstar : (assignEach elts env).findIdx? (·.1) = none)
    (h : ∀ h', Heap.ExtBut s.heap.objs.size s.heap h' → wpAny (model prog w) A (assignInOrder ((assignEach elts env).map (·.2)) items.toList) Q E { s with heap := h' }) :
    wpAny (model prog w) A (assign (.Tuple elts x1 pos) env (.ref t)) Q E s := by
  rw [assign_Tuple]
  refine wpAny_bind (wpAny_standAt ?_)
  unfold unpack
  rw [hn, hstar]
  exact wpAny_bind (wpAny_holding (unpackItems_list hh ht h))
end
section
variable {X : Cx} {pos : Pos}
/-- (a, b, ..) = a tuple or a list of that length -/
def gSeq (K : PySem.W.Frag) (n : Nat) (t : TGs) : TG := fun v σ H Q => ∃ a xs, v = .ref a ∧ (SqT K H a xs ∨ SqL K H a xs) ∧ xs.length = n ∧ t xs σ H Q
theorem pg_seq {es : List Expr} {k : Nat} {t : TGs} {n : Nat} (hc : X.calm = true) (h : PGs X es t)
    (hn : (assignEach es X.env).length = n := by rfl) (hst : (assignEach es X.env).findIdx? (·.1) = none := by rfl) : PG X (.Tuple es k pos) (gSeq X.K n t) := by
  refine ⟨fun pins s σ H v u Q I r hw => ?_⟩
  obtain ⟨a, xs, e1, hq, hl, hw⟩ := hw
  subst e1
  cases r
  rcases hq with hq | hq
  · obtain ⟨its, rv, ht, hz⟩ := I.tuple hq
    refine assign_Tuple_tuple (I.ok.hd hc) ht (by simp [hn, ← hl, rv.length]) hst fun h' hx => ?_
    have I1 : Inv X pins σ H { s with heap := h' } := I.kept (t' := s.toks) fun b o e => hx b o (Nat.ne_of_lt (Heap.lt_size e)) e
    exact h.run pins _ σ H xs _ Q I1 (by simpa using rv) hw
  · obtain ⟨its, rv, ht, hz⟩ := I.list hq
    refine assign_Tuple_list (I.ok.hd hc) ht.isList (by simp [hn, ← hl, rv.length]) hst fun h' hx => ?_
    have I1 : Inv X pins σ H { s with heap := h' } := I.kept (t' := s.toks) fun b o e => hx b o (Nat.ne_of_lt (Heap.lt_size e)) e
    exact h.run pins _ σ H xs _ Q I1 (by simpa using rv) hw
variable {es : List Expr}
def mGseq (k : Nat) (n : MGs) : MG := fun d ρ => match d with
  | .tuple ds => if ds.length = k then n ds ρ else none
  | .list ds => if ds.length = k then n ds ρ else none
  | _ => none
theorem dg_seq {k : Nat} {n : MGs} {ts : List Nat} {kk : Nat} (hc : X.calm = true) (h : DGs X es n ts) (hn : (assignEach es X.env).length = k := by rfl) (hst : (assignEach es X.env).findIdx? (·.1) = none := by rfl) : DG X (.Tuple es kk pos) (mGseq k n) ts :=
  PG.imp (pg_seq hc h hn hst) fun v σ H Q ⟨ρ, M, O, π, d, ρ', hs, r, e, q⟩ => by
    unfold mGseq at e
    split at e
    · rename_i ds
      split at e
      · rename_i hl
        cases r with
        | tup ht rr => exact ⟨_, _, rfl, .inl ht.sq, by rw [rr.length]; exact hl, ρ, M, O, π, ds, ρ', hs, rr, e, q⟩
      · cases e
    · rename_i ds
      split at e
      · rename_i hl
        cases r with
        | lst hr n rr => exact ⟨_, _, rfl, .inr (.inl hr), by rw [rr.length]; exact hl, ρ, M, O, π, ds, ρ', hs, rr, e, q⟩
      · cases e
    · cases e
end
end Vi

namespace Vi
open PySem PySem.Spec PyProof.Rows L2
section
variable {X : Cx} {pos p2 : Pos}
/-- o[a:c] = v -/
def gSlc (to : TE) (ta tc : TO) : TG := fun v σ H Q => to σ H fun o H1 => ta σ H1 fun a H2 => tc σ H2 fun c H3 =>
  ∃ (l b : Addr) (xs ys : List V) (i j : Int), o = .ref l ∧ v = .ref b ∧ a = some i ∧ c = some j ∧ H3 l = some (.lst xs) ∧ H3 b = some (.lst ys) ∧ l ≠ b ∧ 0 ≤ i ∧ i ≤ j ∧ j ≤ xs.length ∧ xs.length + ys.length ≤ sizeLine ∧ Q σ (upd H3 l (.lst (xs.take i.toNat ++ ys ++ xs.drop j.toNat)))
theorem pg_slc {o ea ec : Expr} {to : TE} {ta tc : TO} (ho : PE X o to) (h1 : PO X (some ea) ta) (h2 : PO X (some ec) tc)
    (ha : ∀ v, assign (.Subscript o (.Slice (some ea) (some ec) none p2) pos) X.env v = (do
      let ov ← holding [v] (eval o X.env)
      let iv ← holding [v, ov] (eval (.Slice (some ea) (some ec) none p2) X.env)
      standAt pos
      holding [v, ov, iv] (setItem ov iv v)
      release [iv, v, ov] []) := by intro _; rfl) : PG X (.Subscript o (.Slice (some ea) (some ec) none p2) pos) (gSlc to ta tc) := by
  refine ⟨fun pins s σ H v u Q I r h => ?_⟩
  rw [ha]
  refine wpAny_bind (wpAny_holding (thn (ho.run pins s σ H _ I h) fun ov s1 ⟨x, H1, I1, r1, q1⟩ => ?_))
  refine wpAny_bind (wpAny_holding (wpAny_Slice (thn (h1.run pins s1 σ H1 _ I1 q1) fun vl s2 ⟨l', H2, I2, pl, q2⟩ => thn (h2.run pins s2 σ H2 _ I2 q2) fun vu s3 ⟨u', H3, I3, pu, q3⟩ => ?_)))
  rw [evalPart_none]
  refine wpAny_pure ?_
  obtain ⟨l, b, xs, ys, i, j, rfl, rfl, rfl, rfl, hl, hb, hne, h0, hij, hj, hz, q⟩ := q3
  have I4 : Inv X pins σ H3 { s3 with heap := s3.heap.push { cls := .type "slice", data := .fields #[vl, vu, .none] } } := I3.kept (t' := s3.toks) fun b ob q => Heap.get?_push_of_some _ q
  obtain rfl : ov = Value.ref l := r1
  obtain rfl : u = Value.ref b := r
  have ra : RelV (.int i) vl := by cases pl; exact ⟨_, rfl⟩
  have rc : RelV (.int j) vu := by cases pu; exact ⟨_, rfl⟩
  refine wpAny_bind (wpAny_standAt (wpAny_bind (wpAny_holding (set_slice I4 hl hb hne (Heap.IsSliceOf.new ..) ra rc h0 hij hj hz fun s5 I5 => ?_))))
  exact wpAny_release ⟨σ, _, I5, q⟩
variable {me : ME} {mk mk2 : MO} {e ka kc : Expr}
/-- x[a:c] = a fresh list -/
def mSlice (i : Nat) (ma mc : MO) (me : ME) : MS := fun ρ => match me ρ with
  | some (.val (.own .dic _), _) => none
  | some (.val (.own _ ys), ρ1) => match ρ1[i]? with
    | some (some (.own .dic _)) => none
    | some (some (.own _ _)) => match ma ρ1 with
      | some (some a, ρ2) => match mc ρ2 with
        | some (some c, ρ3) => match ρ3[i]? with
          | some (some (.own .dic _)) => none
          | some (some (.own b ds)) => if (decide (0 ≤ a) && decide (a ≤ c) && decide (c ≤ ds.length) && fits (ds.length + ys.length)) = true then some (.next, ρ3.set i (some (.own b (ds.take a.toNat ++ ys ++ ds.drop c.toNat)))) else none
          | _ => none
        | _ => none
      | _ => none
    | _ => none
  | _ => none
theorem ds_slice {st : Stmt} {i : Nat} (h : ∀ te ta tc, PE X e te → PO X (some ka) ta → PO X (some kc) tc → PS X st (tAsg te (gSlc (tVar i) ta tc))) (he : DE X e me) (h1 : DO X (some ka) mk) (h2 : DO X (some kc) mk2) : DS X st (mSlice i mk mk2 me) :=
  PS.imp (h _ _ _ he h1 h2) fun D σ H ⟨ρ, M, O, π, fl, ρ', h, e, q⟩ => by
    unfold mSlice at e
    split at e
    · cases e
    · rename_i b0 ys ρ1 hnb e1
      split at e
      · cases e
      · rename_i b1 ds1 hne2 e2
        split at e
        · rename_i a ρ2 e3
          split at e
          · rename_i c ρ3 e4
            split at e
            · cases e
            · rename_i b ds hne5 e5
              split at e
              · rename_i hz
                cases e
                rw [Bool.and_eq_true, Bool.and_eq_true, Bool.and_eq_true] at hz
                have z1 := of_decide_eq_true hz.1.1.1
                have z2 := of_decide_eq_true hz.1.1.2
                have z3 := of_decide_eq_true hz.1.2
                have z4 := fits_le hz.2
                refine ⟨ρ, M, O, π, .val (.own b0 ys), ρ1, h, e1, fun v H1 M1 x1 s1 r1 => ?_⟩
                obtain ⟨l, vs, f1, f2, f3, f4, f5, f6⟩ := s1.ownL e2 (isL_of hne2)
                refine ⟨.ref l, f1, ρ1, M1, Vi.hold O (.val (.own b0 ys)) v, π, some a, ρ2, s1.hold r1, e3, fun H2 M2 x2 s2 => ?_⟩
                refine ⟨ρ2, M2, Vi.hold O (.val (.own b0 ys)) v, π, some c, ρ3, s2, e4, fun H3 M3 x3 s3 => ?_⟩
                have le := hold_le O (.val (.own b0 ys)) v
                obtain ⟨p, ws, k1, k2', k3, k4, k5, k6⟩ := r1.held (x2.trans x3) s3
                have k2 := k2'.trans (congrArg some (cell_lst (isL_of hnb)))
                subst k1
                have s3' := s3.less le
                obtain ⟨l', us, g1, g2, g3, g4, g5, g6⟩ := s3'.ownL e5 (isL_of hne5)
                rw [f1] at g1; cases g1
                have hne : l ≠ p := fun z => k6 i b ds e5 (by rw [f1, z])
                obtain ⟨s4, x4, t4⟩ := s3'.write (ws := us.take a.toNat ++ ws ++ us.drop c.toNat) (es := ds.take a.toNat ++ ys ++ ds.drop c.toNat) e5 (isL_of hne5) f1 (((g5.take _).append k5).append (g5.drop _))
                exact ⟨l, p, us, ws, a, c, rfl, rfl, rfl, rfl, g2, k2, hne, z1, z2, by rw [g5.length]; exact z3, by rw [g5.length, k5.length]; exact z4, q _ _ M3 ((x1.trans ((x2.trans x3).less le)).trans x4) s4⟩
              · cases e
            · cases e
          · cases e
        · cases e
      · cases e
    · cases e
end
end Vi

namespace Vi
open PySem PySem.Spec PyProof.Rows L2
section
variable {X : Cx} {pos p p2 pos2 : Pos} {e : Expr} {me : ME}
/-- list(range(e)) -/
def mLRng (me : ME) : ME := fun ρ => match me ρ with
  | some (pr, ρ1) => match peek ρ1 pr with
    | some (.int j) => if (rngOk j && decide (j ≤ 16777216)) = true then some (.val (.own .loc (rngD 0 j.toNat)), ρ1) else none
    | _ => none
  | none => none
theorem reps_rng {K : PySem.W.Frag} {H : Hp} {M : Mset} (lo : Int) : ∀ l : List Nat, Reps K H M (l.map fun i => V.int (lo + (i : Nat))) (l.map fun i => PyData.int (lo + (i : Nat)))
  | [] => .nil
  | i :: l => .cons (.int _) (reps_rng lo l)
theorem de_lrng (hc : X.calm = true) (hg : Gl X "list") (hm : X.mg "list" = none) (hg2 : Gl X "range") (hm2 : X.mg "range" = none) (he : DE X e me) (na : starEach [e] X.env = (false, eval e X.env) :: starEach [] X.env := by rfl)
    (na2 : starEach [.Call (.Name "range" p2) [e] [] pos2] X.env = (false, eval (.Call (.Name "range" p2) [e] [] pos2) X.env) :: starEach [] X.env := by rfl) : DE X (.Call (.Name "list" p) [.Call (.Name "range" p2) [e] [] pos2] [] pos) (mLRng me) :=
  PE.imp (pe_listRg hc hg hm (prg_1 hg2 hm2 he na) na2) fun σ H Q ⟨ρ, M, O, π, pr, ρ', h, e, q⟩ => by
    unfold mLRng at e
    split at e
    · rename_i pr1 ρ1 e1
      split at e
      · rename_i j e2
        split at e
        · rename_i hz
          cases e
          rw [Bool.and_eq_true] at hz
          have z1 := of_decide_eq_true hz.1
          have z2 := of_decide_eq_true hz.2
          refine ⟨ρ, M, O, π, pr1, _, h, e1, fun v H1 M1 x1 s1 r1 => ?_⟩
          have ev := (peek_vw s1 r1 e2).inI
          subst ev
          refine ⟨j, rfl, ⟨by omega, by omega, by omega, by omega, by omega⟩, fun a ha => ?_⟩
          have hr : Reps X.K H1 M1 (rgV 0 j) (rngD 0 j.toNat) := by
            unfold rgV rngD
            rw [show j - 0 = j by omega]
            exact reps_rng 0 _
          exact Post.lst (Q := Q) (fun v H' M' x3 s3 r3 => q v H' M' (x1.trans x3) s3 r3) s1 hr ha
        · cases e
      · cases e
    · cases e
end
end Vi

namespace Vi
open PySem PySem.Spec PyProof.Rows L2
section
variable {X : Cx} {pos : Pos}
def tPar3 (i j k : Nat) (ta : TA) : TS := fun D σ H => ta σ H fun vs H1 => ∃ u v w, vs = [u, v, w] ∧ D.nx (((σ.set i (some u)).set j (some v)).set k (some w)) H1
theorem set3 {α : Type} (l : List α) {i j k : Nat} (a b c : α) (h1 : i ≠ j) (h2 : i ≠ k) (h3 : j ≠ k) : ((l.set k c).set j b).set i a = ((l.set i a).set j b).set k c := by
  rw [List.set_comm c b (Ne.symm h3), List.set_comm c a (Ne.symm h2), List.set_comm b a (Ne.symm h1)]
theorem ps_par3 {i j k : Nat} {x y z : Str} {a b c : Expr} {ta : TA} {px py pz pt : Pos} {kt k2 pt2} (hc : X.calm = true) (hN : X.N.Nodup) (hi : X.N[i]? = some x) (hj : X.N[j]? = some y) (hk : X.N[k]? = some z) (hij : i ≠ j) (hik : i ≠ k) (hjk : j ≠ k)
    (hx : X.env.scope.names.lookup x = some .local) (hy : X.env.scope.names.lookup y = some .local) (hz : X.env.scope.names.lookup z = some .local) (ha : PA X [a, b, c] ta)
    (hw : swappedStores [.Tuple [.Name x px, .Name y py, .Name z pz] kt pt] (.Tuple [a, b, c] k2 pt2) X.env = pure (some [x, y, z]))
    (hs : swapsWithSole [.Tuple [.Name x px, .Name y py, .Name z pz] kt pt] (.Tuple [a, b, c] k2 pt2) pos.line X.env = pure false := by rfl) :
    PS X (.Assign [.Tuple [.Name x px, .Name y py, .Name z pz] kt pt] (.Tuple [a, b, c] k2 pt2) pos) (tPar3 i j k ta) := by
  refine ⟨fun pins s σ H D I h => ?_⟩
  rw [exec_Assign_arm]
  refine wpAny_bind (wpAny_standAt ?_)
  rw [hs]
  refine wpAny_bind (wpAny_pure ?_)
  rw [if_neg (by decide)]
  refine wpAny_bind (Tuple_ (thn (ha.run _ pins s σ H _ I h) fun us s1 ⟨vs, H1, I1, r1, q1⟩ => ?_))
  obtain ⟨u, v, w, e1, q1⟩ := q1
  subst e1
  obtain ⟨u1, u2, u3, rfl, rv, rw', rz⟩ : ∃ u1 u2 u3, us = [u1, u2, u3] ∧ RelV u u1 ∧ RelV v u2 ∧ RelV w u3 := by
    cases r1 with
    | cons p q =>
      cases q with
      | cons p' q' =>
        cases q' with
        | cons p'' q'' =>
          cases q''
          exact ⟨_, _, _, rfl, p, p', p''⟩
  refine wpAny_newObj_type ?_ (by show 3 ≤ sizeLine; decide)
  have I2 : Inv X pins σ H1 { s1 with heap := s1.heap.push { cls := .type "tuple", data := .seq [u1, u2, u3].toArray } } := I1.kept (t' := s1.toks) fun b o e => Heap.get?_push_of_some _ e
  rw [hw]
  refine wpAny_bind (wpAny_pure ?_)
  show wpAny (model X.prog X.w) X.A (do rule "assign.swapped-stores"; let items ← unpackItems (.ref s1.heap.objs.size) 3 none; assignInOrder [fun v => bindName X.env z v, fun v => bindName X.env y v, fun v => bindName X.env x v] items.reverse; pure Flow.next) _ _ _
  refine wpAny_bind (wpAny_rule (wpAny_bind (unpackItems_tuple (items := #[u1, u2, u3]) (I.ok.hd hc) (IsTup.new s1.heap _) fun h' hx' => ?_)))
  have I3 := I2.kept (h' := h') (t' := s1.toks) fun b o e => hx' b o (Nat.ne_of_lt (Heap.lt_size e)) e
  show wpAny _ _ (assignInOrder [fun v => bindName X.env z v, fun v => bindName X.env y v, fun v => bindName X.env x v] [u3, u2, u1] >>= fun _ => pure Flow.next) _ _ _
  refine wpAny_bind (assignInOrder_cons (wpAny_bindName (store_ok I3 hN hk (.inl hz) rz (fun s2 I4 => ?_) (.inr hz))))
  refine assignInOrder_cons (wpAny_bindName (store_ok I4 hN hj (.inl hy) rw' (fun s3 I5 => ?_) (.inr hy)))
  refine assignInOrder_cons (wpAny_bindName (store_ok I5 hN hi (.inl hx) rv (fun s4 I6 => assignInOrder_nil (wpAny_pure ?_)) (.inr hx)))
  rw [set3 _ _ _ _ hij hik hjk] at I6
  exact ⟨_, H1, I6, q1⟩
/-- a, b, c = x, y, z -/
def mPar3 (i j k : Nat) (ma mb mc : ME) : MS := fun ρ => match ma ρ with
  | some (p1, ρ1) => match frz ρ1 p1 with
    | some (d1, ρ2) => match mb ρ2 with
      | some (p2, ρ3) => match frz ρ3 p2 with
        | some (d2, ρ4) => match mc ρ4 with
          | some (p3, ρ5) => match frz ρ5 p3 with
            | some (d3, ρ6) => some (.next, ((ρ6.set i (some (.imm d1))).set j (some (.imm d2))).set k (some (.imm d3)))
            | none => none
          | none => none
        | none => none
      | none => none
    | none => none
  | none => none
theorem ds_par3 {st : Stmt} {a b c : Expr} {ma mb mc : ME} {i j k : Nat} (h : ∀ ta, PA X [a, b, c] ta → PS X st (tPar3 i j k ta)) (ha : DE X a ma) (hb : DE X b mb) (hcc : DE X c mc) (hs : starEach [a, b, c] X.env = (false, eval a X.env) :: starEach [b, c] X.env := by rfl) (hs2 : starEach [b, c] X.env = (false, eval b X.env) :: starEach [c] X.env := by rfl) (hs3 : starEach [c] X.env = (false, eval c X.env) :: starEach [] X.env := by rfl) : DS X st (mPar3 i j k ma mb mc) :=
  PS.imp (h _ (pa_cons ha (pa_cons hb (pa_cons hcc pa_nil hs3) hs2) hs)) fun D σ H ⟨ρ, M, O, π, fl, ρ', h, e, q⟩ => by
    unfold mPar3 at e
    split at e
    · rename_i p1 ρ1 e1
      split at e
      · rename_i d1 ρ2 e2
        split at e
        · rename_i p2 ρ3 e3
          split at e
          · rename_i d2 ρ4 e4
            split at e
            · rename_i p3 ρ5 e5
              split at e
              · rename_i d3 ρ6 e6
                cases e
                refine ⟨ρ, M, O, π, p1, ρ1, h, e1, fun v1 H1 M1 x1 t1 r1 => ?_⟩
                obtain ⟨M2, x2, t2, r2⟩ := frz_ok t1 r1 e2
                refine ⟨ρ2, M2, O, π, p2, ρ3, t2, e3, fun v2 H3 M3 x3 t3 r3 => ?_⟩
                obtain ⟨M4, x4, t4, r4⟩ := frz_ok t3 r3 e4
                refine ⟨ρ4, M4, O, π, p3, ρ5, t4, e5, fun v3 H5 M5 x5 t5 r5 => ⟨v1, v2, v3, rfl, ?_⟩⟩
                obtain ⟨M6, x6, t6, r6⟩ := frz_ok t5 r5 e6
                have y1 := r2.tr (((x3.trans x4).trans x5).trans x6).tr
                have y2 := r4.tr (x5.trans x6).tr
                exact q _ H5 M6 ((((((x1.trans x2).trans x3).trans x4).trans x5).trans x6)) (((t6.setImm y1).setImm y2).setImm r6)
              · cases e
            · cases e
          · cases e
        · cases e
      · cases e
    · cases e
end
end Vi

namespace Vi
open PySem PySem.Spec PyProof.Rows L2
section
variable {ρ ρ0 ρ1 ρ2 ρ3 : Fm} {me ma mb : ME} {m n : MS} {mt : MT} {mi : MI} {mg : MG} {d s t : D} {r sv : Sv} {ds es : List D} {pr p1 p2 : PR} {i : Nat} {as : MA}
theorem c_lst (h : as ρ = some (ds, ρ1)) (hf : fits ds.length = true) : mLst as ρ = some (.val (.own .loc ds), ρ1) := by
  unfold mLst
  rw [h]
  simp only [hf, if_true]
theorem c_tup (h : as ρ = some (ds, ρ1)) (hf : fits ds.length = true) : mTup as ρ = some (.val (.imm (.tuple ds)), ρ1) := by
  unfold mTup
  rw [h]
  simp only [hf, if_true]
theorem c_acons (h1 : me ρ = some (pr, ρ1)) (h2 : frz ρ1 pr = some (d, ρ2)) (h3 : as ρ2 = some (ds, ρ3)) : mCons me as ρ = some (d :: ds, ρ3) := by
  unfold mCons
  rw [h1]
  simp only [h2, h3]
theorem c_anil : mNil ρ = some ([], ρ) := rfl
theorem c_rval {mr : MR} {ars : List AR} (h1 : me ρ = some (pr, ρ1)) (h2 : frz ρ1 pr = some (d, ρ2)) (h3 : mr ρ2 = some (ars, ρ3)) : rVal me mr ρ = some (.v d :: ars, ρ3) := by
  unfold rVal
  rw [h1]
  simp only [h2, h3]
theorem c_b {b : Bool} (h : me ρ = some (.val (.imm (.bool b)), ρ1)) : mB me ρ = some (b, ρ1) := by
  unfold mB
  rw [h]
theorem c_not {b : Bool} (h : mt ρ = some (b, ρ1)) : mNotT mt ρ = some (!b, ρ1) := by
  unfold mNotT
  rw [h]
theorem c_seqA {a b : MS} {x : Option (Fl × Fm)} (h : mSeq (mSeq a b) n ρ = x) : mSeq a (mSeq b n) ρ = x := by
  rw [← h]
  unfold mSeq
  cases a ρ with
  | none => rfl
  | some r => obtain ⟨f, ρ1⟩ := r; cases f <;> rfl
theorem c_whF {k : Nat} (h : mt ρ = some (false, ρ1)) : whl mt m (k + 1) ρ = some (.next, ρ1) := by
  rw [whl, h]
theorem c_whT {k : Nat} {x : Option (Fl × Fm)} (h : mt ρ = some (true, ρ1)) (h2 : m ρ1 = some (.next, ρ2)) (h3 : whl mt m k ρ2 = x) : whl mt m (k + 1) ρ = x := by
  rw [whl, h]
  simp only [h2]
  exact h3
theorem c_par {i j : Nat} {s1 s2 : Sv} (h1 : ma ρ = some (p1, ρ1)) (h2 : take ρ1 p1 = some (s1, ρ2)) (h3 : mb ρ2 = some (p2, ρ3)) {ρ4 : Fm} (h4 : take ρ3 p2 = some (s2, ρ4)) (h5 : (fine s1 && fine s2) = true) : mPar i j ma mb ρ = some (.next, (ρ4.set i (some s1)).set j (some s2)) := by
  unfold mPar
  rw [h1]
  simp only [h2, h3, h4, h5, if_true]
theorem c_app {i : Nat} {b b2 : Kd} {ys : List D} (h0 : ρ[i]? = some (some (.own b2 ys))) (h1 : me ρ = some (pr, ρ1)) (h2 : frz ρ1 pr = some (d, ρ2)) (h3 : ρ2[i]? = some (some (.own b ds))) (h4 : fits (ds.length + 1) = true) (hb : b.isL = true := by rfl) (hb2 : b2.isL = true := by rfl) : mApp i me ρ = some (.val (.imm .none), ρ2.set i (some (.own b (ds ++ [d])))) := by
  unfold mApp
  cases b <;> cases b2 <;> first | (exact absurd hb (by decide)) | (exact absurd hb2 (by decide)) | (rw [h0]; simp only [h1, h2, h3, h4, if_true])
end
end Vi

namespace Vi
open PySem PySem.Spec PyProof.Rows L2
section
variable {X : Cx}
/-! ### in, of any data in a tuple -/
def rInT (K : PySem.W.Frag) (neg : Bool) : R2 := fun x y H Q => ∃ d ds, Dp K H x d ∧ Dp K H y (.tuple ds) ∧ SeqAt.shaped d = true ∧ SeqAt.shaped (.tuple ds) = true ∧ Q (.bl (if neg then !hasD d ds else hasD d ds)) H
theorem op_inT (hu : X.A.units + 65 < cLine) : OpR X (compareOp .In) (rInT X.K false) := by
  intro pins s σ H x y v u Q I rx ry h
  obtain ⟨d, ds, hd, he, sd, se, q⟩ := h
  obtain ⟨as, r1⟩ := Dp.reads I d x v hd rx
  obtain ⟨bs, r2⟩ := Dp.reads I (.tuple ds) y u he ry
  exact SeqAt.in_tuple_reads r2 r1 (SeqAt.canLay_of_shaped se) (SeqAt.canLay_of_shaped sd) (room_in_shaped sd hu) ⟨.bl _, H, I, rfl, q⟩
theorem op_notInT (hu : X.A.units + 65 < cLine) : OpR X (compareOp .NotIn) (rInT X.K true) := by
  intro pins s σ H x y v u Q I rx ry h
  obtain ⟨d, ds, hd, he, sd, se, q⟩ := h
  obtain ⟨as, r1⟩ := Dp.reads I d x v hd rx
  obtain ⟨bs, r2⟩ := Dp.reads I (.tuple ds) y u he ry
  exact SeqAt.notIn_tuple_reads r2 r1 (SeqAt.canLay_of_shaped se) (SeqAt.canLay_of_shaped sd) (room_in_shaped sd hu) ⟨.bl _, H, I, rfl, q⟩
def dInT (neg : Bool) (x y : D) : Option Sv := match y with
  | .tuple ds => if (okD x && okD (.tuple ds)) = true then some (.imm (.bool (if neg then !hasD x ds else hasD x ds))) else none
  | y => dIn neg x y
abbrev rInB (X : Cx) (neg : Bool) : R2 := fun x y H Q => rInA X neg x y H Q ∨ rInT X.K neg x y H Q
theorem op_inB (hu : X.A.units + 65 < cLine) : OpR X (compareOp .In) (rInB X false) := (op_inA hu).or (op_inT hu)
theorem op_notInB (hu : X.A.units + 65 < cLine) : OpR X (compareOp .NotIn) (rInB X true) := (op_notInA hu).or (op_notInT hu)
theorem os_inB (neg : Bool) : OpS X (rInB X neg) (dInT neg) := by
  intro H M O π ρ σ v1 v2 d1 d2 res Q h r1 r2 e q
  unfold dInT at e
  split at e
  · rename_i ds
    split at e
    · rename_i hz
      cases e
      rw [Bool.and_eq_true] at hz
      exact .inr ⟨d1, ds, r1.dp (SeqAt.canLay_of_shaped hz.1), r2.dp (SeqAt.canLay_of_shaped hz.2), hz.1, hz.2, Post.now q h (.bl _)⟩
    · cases e
  · exact .inl (os_in neg h r1 r2 e q)
end
end Vi

namespace Vi
open PySem PySem.Spec PyProof.Rows L2
theorem ends_at {a c n : Nat} (hac : a ≤ c) (ha : a ≤ n) : sliceBounds (some (a : Int)) (some (c : Int)) none n = ((a : Int), ((min c n : Nat) : Int), 1) := by
  have h1 : ¬ ((a : Int) < 0) := by omega
  have h2 : ¬ ((c : Int) < 0) := by omega
  simp only [sliceBounds, Option.getD_none, h1, h2, if_false, show (1 : Int) > 0 by decide, if_true]
  congr 1
  · omega
  · congr 1; omega
section
variable {prog : Program} {w : World} {A : Around} {E : Value → Shared → Prop} {s : Shared}
/-- xs[a:c] = ys, c maybe behind the end -/
theorem put_slice {l b sl : Addr} {xs ys : Array Value} {n n2 : Nat} {vl vu : Value} {a c : Nat} {Q : Unit → Shared → Prop} (e : s.heap.get? l = some { cls := .type "list", data := .seq xs n }) (e2 : s.heap.get? b = some { cls := .type "list", data := .seq ys n2 }) (hne : l ≠ b) (hs : s.heap.IsSliceOf sl vl vu .none)
    (pl : IsPart vl (some (a : Int))) (pu : IsPart vu (some (c : Int))) (hac : a ≤ c) (ha : a ≤ xs.size) (hsz : xs.size + ys.size ≤ sizeLine) (h : Q () { s with heap := s.heap.update l (Obj.mapSeq fun zs => zs.extract 0 a ++ ys ++ zs.extract (min c xs.size) zs.size) }) : wpAny (model prog w) A (setItem (.ref l) (.ref sl) (.ref b)) Q E s := by
  have hl : s.heap.IsList l xs := PySem.IsL.isList e; have hb : s.heap.IsList b ys := PySem.IsL.isList e2
  obtain ⟨os, hos, hcs, hds⟩ := id hs; have hTs : s.TypeIs (.ref sl) "slice" := ⟨os, hos, hcs⟩
  have hstep : ¬ ((rawPart none == rawInt 0) = true) := Bool.false_ne_true; have hsame : Builtin.List.listSameRef (.ref l) (.ref b) = false := beq_eq_false_iff_ne.mpr hne
  have hmax : (max (a : Int) ((min c xs.size : Nat) : Int)).toNat = min c xs.size := by omega
  have hz' : ((fun zs : Array Value => zs.extract 0 a ++ ys ++ zs.extract (min c xs.size) zs.size) xs).size ≤ sizeLine + 1 := by simp only [Array.size_append, Array.size_extract]; omega
  unfold setItem; try with_reducible refine wpAny_holding ?_
  first | refine wpAny_bind (wpAny_pure ?_) | skip
  refine wpAny_bind (wpAny_sequenceKey hl.typeIs (by decide) ?_); refine wpAny_bind (wpAny_callSpecial?_slot (name := Str.ofString "__setitem__") hl.typeIs slot_list_setitem (wpAny_call_entry slot_list_setitem hl.typeIs entry_list_setitem ?_ (args_list_setitem _ _ _)))
  show wpAny _ _ (Builtin.List.listSubscript? (.ref sl) >>= _) _ _ s; refine wpAny_bind ?_; unfold Builtin.List.listSubscript?
  refine wpAny_bind (wpAny_specialOf hTs slice_no_index ?_); simp only [Option.isNone_none, if_true]; refine wpAny_pure ?_
  show wpAny _ _ (typeOf (.ref sl) >>= _) _ _ s; refine wpAny_bind (wpAny_typeOf hTs ?_)
  first | rw [if_neg (by decide)] | refine PySem.W.KFB.if_not (by decide) ?_
  rw [listSliceParts_eq]; refine wpAny_bind (wpAny_bind (wpAny_field hos hds (x := .none) rfl (wpAny_bind (wpAny_listPart .none ?_))))
  rw [if_neg hstep]; refine wpAny_bind (wpAny_field hos hds (x := vl) rfl (wpAny_bind (wpAny_listPart pl ?_)))
  refine wpAny_bind (wpAny_field hos hds (x := vu) rfl (wpAny_bind (wpAny_listPart pu (wpAny_pure ?_)))); first | simp only [hsame, Bool.false_eq_true, if_false] | refine PySem.W.KFB.if_not hsame ?_ | (dsimp only; rw [if_neg (by rw [hsame]; exact Bool.false_ne_true)])
  refine wpAny_bind (m := Builtin.List.listAllItems (.ref b) "must assign iterable to extended slice") ?_; unfold Builtin.List.listAllItems
  refine wpAny_bind (wpAny_typeOf hb.typeIs ?_); first | refine PySem.W.KFB.if_so (by decide) ?_ | rw [if_pos (by decide)] | simp only [beq_self_eq_true, Bool.true_or, if_true]
  unfold Builtin.List.listItems; refine wpAny_bind (wpAny_seqItems e2 rfl (wpAny_pure ?_)); refine wpAny_bind (wpAny_bind (wpAny_seqItems e rfl (wpAny_pure ?_)))
  refine wpAny_bind (wpAny_of_eq ((sliceIndices_raw (some (a : Int)) (some (c : Int)) none xs.size (by simp)).trans (congrArg (pure : Int × Int × Int → Sem (Int × Int × Int)) (ends_at hac ha))) ?_)
  show wpAny _ _ (if ((1 : Int) == 1) = true then _ else _) _ _ s; rw [if_pos (by decide)]; refine wpAny_bind (wpAny_rule ?_)
  first | simp only [notLongL hsz, Bool.false_eq_true, if_false] | refine PySem.W.KFB.if_not (notLongL hsz) ?_
  first | refine wpAny_bind (wpAny_pure ?_) | skip
  show wpAny _ _ (updateSeq l (fun zs => zs.extract 0 ((a : Int)).toNat ++ ys ++ zs.extract (max (a : Int) ((min c xs.size : Nat) : Int)).toNat zs.size) >>= _) _ _ _
  rw [hmax, Int.toNat_natCast]; refine wpAny_bind (wpAny_updateSeq (hz := Nat.le_trans (Nat.le_add_right _ _) hsz) (_hz' := hz') e rfl ?_); refine wpAny_bind (wpAny_letGo ?_)
  first | exact wpAny_bind (wpAny_pure (wpAny_pure ⟨.none, rfl, wpAny_pure h⟩)) | exact wpAny_pure ⟨.none, rfl, wpAny_pure h⟩
end
section
variable {X : Cx} {pos p2 : Pos}
theorem put_slice_I {pins : List (Addr × Obj)} {s : Shared} {σ : St} {H : Hp} {l b sl : Addr} {xs ys : List V} {a c : Nat} {vl vu : Value} {Q : Unit → Shared → Prop} (I : Inv X pins σ H s) (hH : H l = some (.lst xs)) (hB : H b = some (.lst ys)) (hne : l ≠ b) (hs : s.heap.IsSliceOf sl vl vu .none)
    (pl : IsPart vl (some (a : Int))) (pu : IsPart vu (some (c : Int))) (hac : a ≤ c) (ha : a ≤ xs.length) (hz : xs.length + ys.length ≤ sizeLine) (h : ∀ s', Inv X pins σ (upd H l (.lst (xs.take a ++ ys ++ xs.drop c))) s' → Q () s') : wpAny (model X.prog X.w) X.A (setItem (.ref l) (.ref sl) (.ref b)) Q X.xe s := by
  obtain ⟨z, its, n, r, hl, e⟩ := I.lstM hH; obtain ⟨z2, its2, n2, r2, hl2, e2⟩ := I.lstM hB
  have hd : xs.drop (min c its.length) = xs.drop c := by
    have := r.length
    by_cases k : c ≤ xs.length
    · rw [Nat.min_eq_left (by omega)]
    · rw [Nat.min_eq_right (by omega), List.drop_of_length_le (by omega), List.drop_of_length_le (by omega)]
  rw [← hd] at h
  refine put_slice (a := a) (c := c) e e2 hne hs pl pu hac (by rw [List.size_toArray]; omega) (by rw [List.size_toArray, List.size_toArray]; omega) (h _ ?_)
  refine I.lset (its' := its.take a ++ its2 ++ its.drop (min c its.length)) (t' := s.toks) hH e ?_ (Vals.append (Vals.append (r.take _) r2) (r.drop _)) ?_
  · rw [← splice_eq]
    simp only [List.size_toArray]
  · rw [List.length_append, List.length_append, List.length_take, List.length_drop]
    omega
def gSlx (to : TE) (ta tc : TO) : TG := fun v σ H Q => to σ H fun o H1 => ta σ H1 fun a H2 => tc σ H2 fun c H3 =>
  ∃ (l b : Addr) (xs ys : List V) (i j : Nat), o = .ref l ∧ v = .ref b ∧ a = some (i : Int) ∧ c = some (j : Int) ∧ H3 l = some (.lst xs) ∧ H3 b = some (.lst ys) ∧ l ≠ b ∧ i ≤ j ∧ i ≤ xs.length ∧ xs.length + ys.length ≤ sizeLine ∧ Q σ (upd H3 l (.lst (xs.take i ++ ys ++ xs.drop j)))
theorem pg_slx {o ea ec : Expr} {to : TE} {ta tc : TO} (ho : PE X o to) (h1 : PO X (some ea) ta) (h2 : PO X (some ec) tc)
    (ha : ∀ v, assign (.Subscript o (.Slice (some ea) (some ec) none p2) pos) X.env v = (do
      let ov ← holding [v] (eval o X.env)
      let iv ← holding [v, ov] (eval (.Slice (some ea) (some ec) none p2) X.env)
      standAt pos
      holding [v, ov, iv] (setItem ov iv v)
      release [iv, v, ov] []) := by intro _; rfl) : PG X (.Subscript o (.Slice (some ea) (some ec) none p2) pos) (gSlx to ta tc) := by
  refine ⟨fun pins s σ H v u Q I r h => ?_⟩
  rw [ha]
  refine wpAny_bind (wpAny_holding (thn (ho.run pins s σ H _ I h) fun ov s1 ⟨x, H1, I1, r1, q1⟩ => ?_))
  refine wpAny_bind (wpAny_holding (wpAny_Slice (thn (h1.run pins s1 σ H1 _ I1 q1) fun vl s2 ⟨l', H2, I2, pl, q2⟩ => thn (h2.run pins s2 σ H2 _ I2 q2) fun vu s3 ⟨u', H3, I3, pu, q3⟩ => ?_)))
  rw [evalPart_none]
  refine wpAny_pure ?_
  obtain ⟨l, b, xs, ys, i, j, rfl, rfl, rfl, rfl, hl, hb, hne, hij, hj, hz, q⟩ := q3
  have I4 : Inv X pins σ H3 { s3 with heap := s3.heap.push { cls := .type "slice", data := .fields #[vl, vu, .none] } } := I3.kept (t' := s3.toks) fun b ob q => Heap.get?_push_of_some _ q
  obtain rfl : ov = Value.ref l := r1
  obtain rfl : u = Value.ref b := r
  refine wpAny_bind (wpAny_standAt (wpAny_bind (wpAny_holding (put_slice_I I4 hl hb hne (Heap.IsSliceOf.new ..) pl pu hij hj hz fun s5 I5 => ?_))))
  exact wpAny_release ⟨σ, _, I5, q⟩
variable {me : ME} {mk mk2 : MO} {e ka kc : Expr}
/-- x[a:c] = a fresh list, c maybe behind the end -/
def mSlx (i : Nat) (ma mc : MO) (me : ME) : MS := fun ρ => match me ρ with
  | some (.val (.own .dic _), _) => none
  | some (.val (.own _ ys), ρ1) => match ρ1[i]? with
    | some (some (.own .dic _)) => none
    | some (some (.own _ _)) => match ma ρ1 with
      | some (some a, ρ2) => match mc ρ2 with
        | some (some c, ρ3) => match ρ3[i]? with
          | some (some (.own .dic _)) => none
          | some (some (.own b ds)) => if (decide (0 ≤ a) && decide (a ≤ c) && decide (a ≤ ds.length) && fits (ds.length + ys.length)) = true then some (.next, ρ3.set i (some (.own b (ds.take a.toNat ++ ys ++ ds.drop c.toNat)))) else none
          | _ => none
        | _ => none
      | _ => none
    | _ => none
  | _ => none
theorem ds_slx {st : Stmt} {i : Nat} (h : ∀ te ta tc, PE X e te → PO X (some ka) ta → PO X (some kc) tc → PS X st (tAsg te (gSlx (tVar i) ta tc))) (he : DE X e me) (h1 : DO X (some ka) mk) (h2 : DO X (some kc) mk2) : DS X st (mSlx i mk mk2 me) :=
  PS.imp (h _ _ _ he h1 h2) fun D σ H ⟨ρ, M, O, π, fl, ρ', h, e, q⟩ => by
    unfold mSlx at e
    split at e
    · cases e
    · rename_i b0 ys ρ1 hnb e1
      split at e
      · cases e
      · rename_i b1 ds1 hne2 e2
        split at e
        · rename_i a ρ2 e3
          split at e
          · rename_i c ρ3 e4
            split at e
            · cases e
            · rename_i b ds hne5 e5
              split at e
              · rename_i hz
                cases e
                rw [Bool.and_eq_true, Bool.and_eq_true, Bool.and_eq_true] at hz
                have z1 := of_decide_eq_true hz.1.1.1
                have z2 := of_decide_eq_true hz.1.1.2
                have z3 := of_decide_eq_true hz.1.2
                have z4 := fits_le hz.2
                obtain ⟨a, rfl⟩ := Int.eq_ofNat_of_zero_le z1
                obtain ⟨c, rfl⟩ := Int.eq_ofNat_of_zero_le (Int.le_trans z1 z2)
                rw [Int.toNat_natCast, Int.toNat_natCast] at q
                refine ⟨ρ, M, O, π, .val (.own b0 ys), ρ1, h, e1, fun v H1 M1 x1 s1 r1 => ?_⟩
                obtain ⟨l, vs, f1, f2, f3, f4, f5, f6⟩ := s1.ownL e2 (isL_of hne2)
                refine ⟨.ref l, f1, ρ1, M1, Vi.hold O (.val (.own b0 ys)) v, π, _, ρ2, s1.hold r1, e3, fun H2 M2 x2 s2 => ?_⟩
                refine ⟨ρ2, M2, Vi.hold O (.val (.own b0 ys)) v, π, _, ρ3, s2, e4, fun H3 M3 x3 s3 => ?_⟩
                have le := hold_le O (.val (.own b0 ys)) v
                obtain ⟨p, ws, k1, k2', k3, k4, k5, k6⟩ := r1.held (x2.trans x3) s3
                have k2 := k2'.trans (congrArg some (cell_lst (isL_of hnb)))
                subst k1
                have s3' := s3.less le
                obtain ⟨l', us, g1, g2, g3, g4, g5, g6⟩ := s3'.ownL e5 (isL_of hne5)
                rw [f1] at g1; cases g1
                have hne : l ≠ p := fun z => k6 i b ds e5 (by rw [f1, z])
                obtain ⟨s4, x4, t4⟩ := s3'.write (ws := us.take a ++ ws ++ us.drop c) (es := ds.take a ++ ys ++ ds.drop c) e5 (isL_of hne5) f1 (((g5.take _).append k5).append (g5.drop _))
                exact ⟨l, p, us, ws, a, c, rfl, rfl, rfl, rfl, g2, k2, hne, by omega, by rw [g5.length]; omega, by rw [g5.length, k5.length]; exact z4, q _ _ M3 ((x1.trans ((x2.trans x3).less le)).trans x4) s4⟩
              · cases e
            · cases e
          · cases e
        · cases e
      · cases e
    · cases e
end
end Vi

namespace Vi
open PySem PySem.Spec PyProof.Rows L2
section
variable {K : PySem.W.Frag} {H : Hp} {M O : Mset} {π : Nat → Option Addr} {ρ : Fm} {σ : St} {i : Nat} {b : Kd} {ds : List D} {a : Addr} {vl : List V}
theorem get_drop {ρ : Fm} {i j : Nat} {s : Sv} (e : (ρ.set i none)[j]? = some (some s)) : j ≠ i ∧ ρ[j]? = some (some s) := by
  rcases get_set e with ⟨_, z⟩ | z
  · cases z
  · exact z
/-- a name's own list is lent: nobody may look at the name -/
theorem SR.lend (h : SR K H M O π ρ σ) (e : ρ[i]? = some (some (.own b ds))) (ea : σ[i]? = some (some (.ref a))) (hM : M a) : SR K H M (wth O a) π (ρ.set i none) σ := by
  have h1 : SR K H M O π (ρ.set i none) σ := ⟨by rw [List.length_set]; exact h.len, h.sub, h.live, fun j d f => h.imm j d (get_drop f).2, fun j c es f => h.own j c es (get_drop f).2, fun j k c d es fs x hjk f g => h.uniq j k c d es fs x hjk (get_drop f).2 (get_drop g).2⟩
  refine h1.more (fun x q => q.elim (h.sub x) fun z => z ▸ hM) fun j c es x f g z => ?_
  obtain ⟨hj, f'⟩ := get_drop f
  rcases z with z | rfl
  · obtain ⟨y, _, k1, _, _, k2, _⟩ := h.own j c es f'
    rw [g] at k1; cases k1
    exact k2 z
  · exact h.uniq i j b c ds es x (Ne.symm hj) e f' ea g
/-- and given back -/
theorem SR.back (h : SR K H M (wth O a) π ρ σ) (hb : b.isL = true) (ea : σ[i]? = some (some (.ref a))) (hH : H a = some (.lst vl)) (hM : M a) (hO : ¬ O a) (hr : Reps K H M vl ds) (hp : b = .par → π i = some a) : SR K H M O π (ρ.set i (some (.own b ds))) σ := by
  refine ⟨by rw [List.length_set]; exact h.len, fun x q => h.sub x (.inl q), h.live, fun j d f => ?_, fun j c es f => ?_, fun j k c d es fs x hjk f g k1 => ?_⟩
  · rcases get_set f with ⟨_, z⟩ | ⟨_, f⟩
    · cases z
    · exact h.imm j d f
  · rcases get_set f with ⟨rfl, z⟩ | ⟨_, f⟩
    · cases z
      exact ⟨a, vl, ea, hH.trans (congrArg some (cell_lst hb).symm), hM, hO, hr, hp⟩
    · obtain ⟨y, ws, k1, k2, k3, k4, k5, k6⟩ := h.own j c es f
      exact ⟨y, ws, k1, k2, k3, fun z => k4 (.inl z), k5, k6⟩
  · rcases get_set f with ⟨hj, z⟩ | ⟨hj, f⟩
    · subst hj
      rcases get_set g with ⟨hk, _⟩ | ⟨hk, g⟩
      · exact fun _ => hjk hk.symm
      · intro k2
        rw [ea] at k1; cases k1
        obtain ⟨y, _, m1, _, _, m2, _⟩ := h.own k d fs g
        rw [k2] at m1; cases m1
        exact m2 (.inr rfl)
    · rename_i f0
      have f' : ρ[j]? = some (some (.own c es)) := (get_set f0).elim (fun z => absurd z.1 hj) fun z => z.2
      rcases get_set g with ⟨hk, z⟩ | ⟨hk, g⟩
      · subst hk
        intro k2
        rw [ea] at k2; cases k2
        obtain ⟨y, _, m1, _, _, m2, _⟩ := h.own j c es f'
        rw [k1] at m1; cases m1
        exact m2 (.inr rfl)
      · exact h.uniq j k c d es fs x hjk f' g k1
end
section
variable {mg : MG} {mt : MT} {me : ME} {vs ts : List Nat}
theorem creadB {K : PySem.W.Frag} (hts : ∀ i ∈ ts, i ∈ vs) {a : Addr} {vl : List V} {ds : List D} {Hs : Hp} {Ms O : Mset} {π : Nat → Option Addr} {σ : St} {Dd : Addr} {ρa ρ2 : Fm} {es ea : List D} {acc : List V} {Qd : Hp → Prop}
    (ha : O a) (hH : Hs a = some (.lst vl)) (hr : Reps K Hs Ms vl ds) (s : SR K Hs Ms (wth O Dd) π ρa (wipeA σ vs)) (hO : ¬ O Dd) (hA : Hs Dd = some (.lst acc)) (hR : Reps K Hs Ms acc ea) (hz : ea.length + es.length ≤ sizeLine)
    (e : cloop mg mt me vs ds ρa = some (es, ρ2)) (hq : ∀ H M acc', Ext O Hs Ms H M → SR K H M (wth O Dd) π ρ2 (wipeA σ vs) → H Dd = some (.lst acc') → Reps K H M acc' (ea ++ es) → Qd H) :
    ∃ W : Nat → Nat → Hp → Prop, (∃ m, W 0 m Hs) ∧ ∀ i m H, W i m H →
      ((Itl K a).stop i H ∧ Qd H) ∨ ((Itl K a).go i H ∧ ∃ Nx : Hp → Prop, (∀ H', Nx H' → ∃ m', m' < m ∧ W (i + 1) m' H') ∧ ∀ x H', (Itl K a).yld i H x H' → tG K mg ts x (wipe σ vs) H' fun σ2 H2 => wipe σ2 vs = wipe σ vs ∧ tT K mt σ2 H2 fun b H3 =>
        if b = true then tE K me σ2 H3 fun y H4 => ∃ acc, H4 Dd = some (.lst acc) ∧ acc.length < sizeLine ∧ Nx (upd H4 Dd (.lst (acc ++ [y]))) else Nx H3) := by
  have hMs : Ms Dd := s.sub Dd (.inr rfl)
  have less : ∀ a, O a → wth O Dd a := fun a q => .inl q
  refine ⟨fun i m H => m = ds.length - i ∧ i ≤ ds.length ∧ ∃ ρb M acc' eb es', SR K H M (wth O Dd) π ρb (wipeA σ vs) ∧ Ext O Hs Ms H M ∧ H Dd = some (.lst acc') ∧ Reps K H M acc' eb ∧ cloop mg mt me vs (ds.drop i) ρb = some (es', ρ2) ∧ ea ++ es = eb ++ es',
    ⟨_, rfl, Nat.zero_le _, ρa, Ms, acc, ea, es, s, .refl (s.less less), hA, hR, e, rfl⟩, ?_⟩
  rintro i m H ⟨rfl, hi, ρb, M, acc', eb, es', sb, xb, hAb, hRb, eb', eq⟩
  have hHa : H a = some (.lst vl) := xb.keep a _ hH (.inl ha)
  have hrb : Reps K H M vl ds := hr.tr xb.tr
  by_cases hlt : i < ds.length
  · rw [List.drop_eq_getElem_cons hlt] at eb'
    have hd : ds[i]? = some ds[i] := List.getElem?_eq_getElem hlt
    refine .inr ⟨walk_list.goes i H (by rw [hrb.length]; exact hlt) (.inl (.inl hHa)), fun H' => ds.length - (i + 1) = ds.length - (i + 1) ∧ i + 1 ≤ ds.length ∧ ∃ ρb M acc' eb es', SR K H' M (wth O Dd) π ρb (wipeA σ vs) ∧ Ext O Hs Ms H' M ∧ H' Dd = some (.lst acc') ∧ Reps K H' M acc' eb ∧ cloop mg mt me vs (ds.drop (i + 1)) ρb = some (es', ρ2) ∧ ea ++ es = eb ++ es', fun H' w => ⟨_, by omega, w⟩, fun x H3 y => ?_⟩
    obtain ⟨s3, x3, r3⟩ : SR K H3 M (wth O Dd) π ρb (wipeA σ vs) ∧ Ext (wth O Dd) H M H3 M ∧ Rep K H3 M x ds[i] := by
      obtain ⟨v, hv, rv⟩ := hrb.get hd
      obtain ⟨y1, y2⟩ := walk_list.yields i H x H3 (by rw [hrb.length]; exact hlt) (.inl (.inl hHa)) y
      rw [hv] at y2; cases y2
      subst y1
      exact ⟨sb, .refl sb, rv⟩
    unfold cloop at eb'
    split at eb'
    · rename_i ρ3 e3
      rw [wipe_eq]
      refine ⟨ρb, M, wth O Dd, π, _, ρ3, s3, r3, e3, fun σ4 s4 fr ln => ?_⟩
      have hw : wipeA σ4 vs = wipeA σ vs := wipeA_ext (fun j hj => by rw [fr j (fun z => hj (hts j z)), wipeA_out hj]) (by rw [ln, wipeA_len])
      refine ⟨by rw [wipe_eq]; exact hw, ?_⟩
      split at eb'
      · rename_i ρ4 e4
        refine ⟨ρ3, M, wth O Dd, π, true, ρ4, s4, e4, fun H5 M5 x5 s5 => iteT ?_⟩
        split at eb'
        · rename_i pr ρ5 e5
          split at eb'
          · rename_i ee ρ6 e6
            split at eb'
            · rename_i es2 ρ7 e7
              cases eb'
              refine ⟨ρ4, M5, wth O Dd, π, pr, ρ5, s5, e5, fun v H6 M6 x6 s6 r6 => ?_⟩
              obtain ⟨M7, x7, s7, r7⟩ := frz_ok s6 r6 e6
              have xx : Ext (wth O Dd) H M H6 M7 := ((x3.trans x5).trans x6).trans x7
              have hA6 : H6 Dd = some (.lst acc') := xx.keep Dd _ hAb (.inl (.inr rfl))
              have hM7 : M7 Dd := s7.sub Dd (.inr rfl)
              have hl : acc'.length < sizeLine := by
                rw [hRb.length]
                have := congrArg List.length eq
                rw [List.length_append, List.length_append, List.length_cons] at this
                omega
              refine ⟨acc', hA6, hl, rfl, hlt, wipeA ρ6 vs, M7, acc' ++ [v], eb ++ [ee], es2, ?_, (xb.trans (xx.less less)).updM hMs hO, upd_same, ((hRb.tr xx.tr).append (.cons r7 .nil)).tr (upd_lat hM7), e7, ?_⟩
              · rw [← hw]; exact (s7.writeO hM7 (.inr rfl)).wipe vs
              · rw [eq, List.append_assoc]; rfl
            · cases eb'
          · cases eb'
        · cases eb'
      · rename_i ρ4 e4
        refine ⟨ρ3, M, wth O Dd, π, false, ρ4, s4, e4, fun H5 M5 x5 s5 => iteF ?_⟩
        have xx : Ext (wth O Dd) H M H5 M5 := x3.trans x5
        refine ⟨rfl, hlt, wipeA ρ4 vs, M5, acc', eb, es', ?_, xb.trans (xx.less less), xx.keep Dd _ hAb (.inl (.inr rfl)), hRb.tr xx.tr, eb', eq⟩
        rw [← hw]; exact s5.wipe vs
      · cases eb'
    · cases eb'
  · have ei : i = ds.length := by omega
    subst ei
    rw [List.drop_length] at eb'
    cases eb'
    rw [List.append_nil] at eq
    exact .inl ⟨by rw [← hrb.length]; exact walk_list.stops H (.inl (.inl hHa)), hq H M acc' xb sb hAb (by rw [eq]; exact hRb)⟩
/-- a comprehension over a name's own list, which stays its own -/
def mCompB (i : Nat) (mg : MG) (mt : MT) (me : ME) (vs : List Nat) : ME := fun ρ => match ρ[i]? with
  | some (some (.own .dic _)) => none
  | some (some (.own b ds)) => if (!vs.contains i && vsOk (ρ.set i none) vs) = true then match cloop mg mt me vs ds (wipeA (ρ.set i none) vs) with
    | some (es, ρ2) => if fits es.length = true then some (.val (.own .loc es), (restA ρ2 (ρ.set i none) vs).set i (some (.own b ds))) else none
    | none => none
    else none
  | _ => none
theorem lcB_read {K : PySem.W.Frag} {i : Nat} (hts : ∀ i ∈ ts, i ∈ vs) {σ : St} {H : Hp} {Q : VK} (h : tE K (mCompB i mg mt me vs) σ H Q) : tLc (iSeq K (tVar i)) (tG K mg ts) (tT K mt) (tE K me) vs σ H Q := by
  obtain ⟨ρ, M, O, π, pr, ρ', h, e, q⟩ := h
  unfold mCompB at e
  split at e
  · cases e
  · rename_i b ds hne0 e0
    split at e
    · rename_i ok'
      rw [Bool.and_eq_true] at ok'
      have ok := ok'.2
      split at e
      · rename_i es ρ2 e2
        split at e
        · rename_i hz
          cases e
          obtain ⟨a, vl, f1, f2, f3, f4, f5, f6⟩ := h.ownL e0 (isL_of hne0)
          have s0 := h.lend e0 f1 f3
          refine ⟨.ref a, f1, a, rfl, .inl ⟨⟨vl, .inl (.inl f2)⟩, fun Dd hD => ?_⟩⟩
          have hne : a ≠ Dd := fun z => by rw [z, hD] at f2; cases f2
          have hO : ¬ wth O a Dd := fun z => z.elim (fun z => h.live Dd (h.sub Dd z) hD) fun z => hne z.symm
          refine creadB (ea := []) (vl := vl) hts (.inr rfl) (by rw [upd_ne hne]; exact f2) (f5.tr (alloc_tr_own h hD)) (comp_start s0 hD vs) hO upd_same .nil (by have := fits_le hz; simpa using this) e2 fun H2 M2 acc x2 s2 hA hR => ?_
          obtain ⟨y1, y2, y3⟩ := comp_end s0 hD ok x2 s2 hA hR
          have g1 : H2 a = some (.lst vl) := y1.keep a _ f2 (.inl (.inr rfl))
          have g2 : M2 a := y1.sub a (.inr rfl)
          obtain ⟨p, ws, k1, k2, k3, k4, k5, k6⟩ := y3
          refine q _ H2 M2 (y1.less fun x z => .inl z) (y2.back (isL_of hne0) f1 g1 g2 f4 (f5.tr y1.tr) f6) ⟨p, ws, k1, k2, k3, fun z => k4 (.inl z), k5, fun j c fs z1 z2 => ?_⟩
          rcases get_set z1 with ⟨rfl, _⟩ | ⟨_, z1⟩
          · rw [f1] at z2; cases z2
            exact k4 (.inr rfl)
          · exact k6 j c fs z1 z2
        · cases e
      · cases e
    · cases e
  · cases e
end
section
variable {X : Cx} {elt tg iter : Expr} {ifs : List Expr} {scope : Scope} {own : List (Str × Nat)} {pos : Pos} {mg : MG} {mt : MT} {me : ME} {ts : List Nat}
theorem de_lcB {j : Nat} (hc : X.calm = true) (hN : X.N.Nodup) (hi : PE X iter (tVar j)) (ok : BlkOk X.N X.env.scope scope own) (hg : Bk X scope fun Y => DG Y tg mg ts) (ht : Bk X scope fun Y => DTs Y ifs mt) (he : Bk X scope fun Y => DE Y elt me)
    (hts : ∀ i ∈ ts, i ∈ own.map (·.2)) (hs : ∀ x, foldedSetIterable iter X.env x = pure x := by intro _; rfl) : DE X (.ListComp elt [⟨tg, iter, ifs, 0⟩] scope pos) (mCompB j mg mt me (own.map (·.2))) :=
  PE.imp (pe_lc (wi := iSeq X.K (tVar j)) (g := tG X.K mg ts) (tt := tT X.K mt) (te := tE X.K me) hc hN (pi_seq hi) ok hg ht he hs) fun σ H Q h => lcB_read hts h
theorem ds_setLcB {i j : Nat} {y : Str} {py spos : Pos} (hc : X.calm = true) (hN : X.N.Nodup) (hy : X.N[i]? = some y) (hyl : X.env.scope.names.lookup y = some .local)
    (hsw : swapsWith (.ListComp elt [⟨tg, iter, ifs, 0⟩] scope pos) (some (.Name y py)) spos.line X.env = pure true) (hi : PE X iter (tVar j)) (ok : BlkOk X.N X.env.scope scope own) (hg : Bk X scope fun Y => DG Y tg mg ts) (ht : Bk X scope fun Y => DTs Y ifs mt) (he : Bk X scope fun Y => DE Y elt me)
    (hts : ∀ i ∈ ts, i ∈ own.map (·.2)) (hs : ∀ x, foldedSetIterable iter X.env x = pure x := by intro _; rfl) : DS X (.Assign [.Name y py] (.ListComp elt [⟨tg, iter, ifs, 0⟩] scope pos) spos) (mSet i (mCompB j mg mt me (own.map (·.2)))) :=
  PS.imp (ps_setLc (wi := iSeq X.K (tVar j)) (g := tG X.K mg ts) (tt := tT X.K mt) (te := tE X.K me) hc hN hy hyl hsw (pi_seq hi) ok hg ht he hs) fun D σ H ⟨ρ, M, O, π, fl, ρ', h, e, q⟩ => by
    unfold mSet at e
    split at e
    · rename_i pr ρ1 e1
      split at e
      · rename_i ρ2 e2
        cases e
        refine lcB_read (K := X.K) hts ⟨ρ, M, O, π, pr, ρ1, h, e1, fun v H1 M1 x1 s1 r1 => ?_⟩
        obtain ⟨M2, x2, s2⟩ := put_ok s1 r1 e2
        exact q _ H1 M2 (x1.trans x2) s2
      · cases e
    · cases e
end
end Vi

namespace Vi
open PySem PySem.Spec PyProof.Rows L2
section
variable {X : Cx}
/-! ### a tuple some times -/
def dMulT : D → D → Option Sv
  | .tuple ds, .int k => if (!ds.isEmpty && decide (2 ≤ k) && decide (k ≤ 1000) && decide (ds.length ≤ 1000)) = true then some (.imm (.tuple (List.replicate k.toNat ds).flatten)) else none
  | a, b => dMul a b
theorem op_mulT : OpR X (binaryOp .Mult) (fun x y H Q => rMul x y H Q ∨ rRepT X.K x y H Q) := op_mulA.or op_repT
theorem os_mulT : OpS X (fun x y H Q => rMul x y H Q ∨ rRepT X.K x y H Q) dMulT := by
  intro H M O π ρ σ v1 v2 d1 d2 res Q h r1 r2 e q
  unfold dMulT at e
  split at e
  · rename_i ds k
    split at e
    · rename_i hz
      cases e
      rw [Bool.and_eq_true, Bool.and_eq_true, Bool.and_eq_true] at hz
      obtain ⟨a, vs, rfl, rd, rs⟩ := r1.inT
      cases r2.inI
      refine .inr ⟨a, k, vs, rfl, rfl, rd.sq, fun z => ?_, of_decide_eq_true hz.1.1.2, of_decide_eq_true hz.1.2, by rw [rs.length]; exact of_decide_eq_true hz.2, fun p hp => Post.tup q h (rs.rep k.toNat) hp⟩
      have hl := rs.length
      rw [z] at hl
      have : ds = [] := List.length_eq_zero_iff.mp hl.symm
      rw [this] at hz
      exact absurd hz.1.1.1 (by decide)
    · cases e
  · exact .inl (os_mul h r1 r2 e q)
end
end Vi

namespace Vi
open PySem PySem.Spec PyProof.Rows L2
/-! sorted(set(x)) of pairs of small counts -/
def prOf : D → Option (Int × Int)
  | .tuple [.int a, .int b] => if decide (0 ≤ a ∧ a < 64 ∧ 0 ≤ b ∧ b < 64) = true then some (a, b) else none
  | _ => none
def prsOf : List D → Option (List (Int × Int))
  | [] => some []
  | d :: ds => match prOf d, prsOf ds with
    | some p, some ps => some (p :: ps)
    | _, _ => none
def cd (p : Int × Int) : Int := p.1 * 64 + p.2
def insP (x : Int × Int) : List (Int × Int) → List (Int × Int)
  | [] => [x]
  | y :: ys => if cd x < cd y then x :: y :: ys else if cd x = cd y then y :: ys else y :: insP x ys
def setP (ps : List (Int × Int)) : List (Int × Int) := ps.foldr insP []
def toP (p : Int × Int) : D := .tuple [.int p.1, .int p.2]
def dSortSet : D → Option Sv
  | .list ds => match prsOf ds with
    | some ps => if decide (ps.length < 64) = true then some (.own .loc ((setP ps).map toP)) else none
    | none => none
  | _ => none
/-! strictly ascending -/
def Asc (ps : List (Int × Int)) : Prop := ps.Pairwise fun p q => cd p < cd q
theorem ins_mem {x y : Int × Int} : ∀ {ps : List (Int × Int)}, y ∈ insP x ps → y = x ∨ y ∈ ps
  | [], h => .inl (List.mem_singleton.mp h)
  | z :: ps, h => by
    unfold insP at h
    split at h
    · exact (List.mem_cons.mp h)
    · split at h
      · exact .inr h
      · rcases List.mem_cons.mp h with h | h
        · exact .inr (by rw [h]; exact List.mem_cons_self ..)
        · rcases ins_mem h with h | h
          · exact .inl h
          · exact .inr (List.mem_cons_of_mem _ h)
theorem ins_asc {x : Int × Int} : ∀ {ps : List (Int × Int)}, Asc ps → Asc (insP x ps)
  | [], _ => List.pairwise_singleton ..
  | z :: ps, h => by
    have h1 := List.pairwise_cons.mp h
    unfold insP
    split
    · rename_i c
      exact List.pairwise_cons.mpr ⟨fun y hy => by
        rcases List.mem_cons.mp hy with rfl | hy
        · exact c
        · have := h1.1 y hy; omega, h⟩
    · split
      · exact h
      · exact List.pairwise_cons.mpr ⟨fun y hy => by
          rcases ins_mem hy with rfl | hy
          · omega
          · exact h1.1 y hy, ins_asc h1.2⟩
theorem set_asc : ∀ ps, Asc (setP ps)
  | [] => List.Pairwise.nil
  | x :: ps => ins_asc (set_asc ps)
theorem ins_has {x : Int × Int} : ∀ {ps : List (Int × Int)}, (∃ y ∈ insP x ps, cd y = cd x) ∧ ∀ y ∈ ps, y ∈ insP x ps
  | [] => ⟨⟨x, List.mem_singleton.mpr rfl, rfl⟩, fun _ h => by cases h⟩
  | z :: ps => by
    unfold insP
    split
    · exact ⟨⟨x, List.mem_cons_self .., rfl⟩, fun y hy => List.mem_cons_of_mem _ hy⟩
    · split
      · rename_i c
        exact ⟨⟨z, List.mem_cons_self .., c.symm⟩, fun y hy => hy⟩
      · obtain ⟨⟨y, h1, h2⟩, h3⟩ := ins_has (x := x) (ps := ps)
        refine ⟨⟨y, List.mem_cons_of_mem _ h1, h2⟩, fun w hw => ?_⟩
        rcases List.mem_cons.mp hw with rfl | hw
        · exact List.mem_cons_self ..
        · exact List.mem_cons_of_mem _ (h3 w hw)
theorem set_sub : ∀ {ps : List (Int × Int)} {y : Int × Int}, y ∈ setP ps → y ∈ ps
  | [], _, h => by cases h
  | x :: ps, y, h => by
    rcases ins_mem (show y ∈ insP x (setP ps) from h) with rfl | h
    · exact List.mem_cons_self ..
    · exact List.mem_cons_of_mem _ (set_sub h)
theorem set_all : ∀ {ps : List (Int × Int)} {y : Int × Int}, y ∈ ps → ∃ z ∈ setP ps, cd z = cd y
  | x :: ps, y, h => by
    rcases List.mem_cons.mp h with rfl | h
    · exact ins_has.1
    · obtain ⟨z, h1, h2⟩ := set_all h
      exact ⟨z, ins_has.2 z h1, h2⟩
/-- two that ascend and have the same codes are equal, where the code tells the pair -/
theorem asc_eq : ∀ {ps qs : List (Int × Int)}, Asc ps → Asc qs → (∀ p ∈ ps, p ∈ qs) → (∀ q ∈ qs, q ∈ ps) → ps = qs
  | [], [], _, _, _, _ => rfl
  | [], q :: qs, _, _, _, h => absurd (h q (List.mem_cons_self ..)) (List.not_mem_nil)
  | p :: ps, [], _, _, h, _ => absurd (h p (List.mem_cons_self ..)) (List.not_mem_nil)
  | p :: ps, q :: qs, h1, h2, h3, h4 => by
    have a1 := List.pairwise_cons.mp h1
    have a2 := List.pairwise_cons.mp h2
    have e : p = q := by
      rcases List.mem_cons.mp (h3 p (List.mem_cons_self ..)) with e | e
      · exact e
      · rcases List.mem_cons.mp (h4 q (List.mem_cons_self ..)) with f | f
        · exact f.symm
        · have := a2.1 p e; have := a1.1 q f; omega
    subst e
    rw [asc_eq a1.2 a2.2 (fun x hx => by
      rcases List.mem_cons.mp (h3 x (List.mem_cons_of_mem _ hx)) with rfl | e
      · have := a1.1 x hx; omega
      · exact e) fun x hx => by
      rcases List.mem_cons.mp (h4 x (List.mem_cons_of_mem _ hx)) with rfl | e
      · have := a2.1 x hx; omega
      · exact e]
def Bp (p : Int × Int) : Prop := (0 ≤ p.1 ∧ p.1 < 64) ∧ (0 ≤ p.2 ∧ p.2 < 64)
theorem cd_inj {p q : Int × Int} (hp : Bp p) (hq : Bp q) (h : cd p = cd q) : p = q := by
  obtain ⟨a, b⟩ := p
  obtain ⟨c, d⟩ := q
  obtain ⟨⟨h1, h2⟩, h3, h4⟩ := hp
  obtain ⟨⟨h5, h6⟩, h7, h8⟩ := hq
  simp only [cd] at *
  have : a = c := by omega
  have : b = d := by omega
  subst_vars
  rfl
theorem pr_of {d : D} {p : Int × Int} (h : prOf d = some p) : d = toP p ∧ Bp p := by
  unfold prOf at h
  split at h
  · split at h
    · rename_i a b c
      cases h
      have := of_decide_eq_true c
      exact ⟨rfl, ⟨this.1, this.2.1⟩, this.2.2.1, this.2.2.2⟩
    · cases h
  · cases h
theorem prs_of : ∀ {ds : List D} {ps : List (Int × Int)}, prsOf ds = some ps → ds = ps.map toP ∧ ∀ p ∈ ps, Bp p
  | [], ps, h => by cases h; exact ⟨rfl, fun _ h => by cases h⟩
  | d :: ds, ps, h => by
    unfold prsOf at h
    split at h
    · rename_i p qs h1 h2
      cases h
      obtain ⟨e1, b1⟩ := pr_of h1
      obtain ⟨e2, b2⟩ := prs_of h2
      refine ⟨by rw [List.map_cons, ← e1, ← e2], fun x hx => ?_⟩
      rcases List.mem_cons.mp hx with rfl | hx
      · exact b1
      · exact b2 x hx
    · cases h
def ls (p : Int × Int) : List Int := [p.1, p.2]
theorem ls_inj {p q : Int × Int} (h : ls p = ls q) : p = q := by
  obtain ⟨a, b⟩ := p
  obtain ⟨c, d⟩ := q
  simp only [ls, List.cons.injEq] at h
  rw [h.1, h.2.1]
theorem reps_prs {K : PySem.W.Frag} {H : Hp} {M : Mset} : ∀ {ps : List (Int × Int)} {vs : List V}, Reps K H M vs (ps.map toP) → ∃ ks : List (Addr × List Int), vs = ks.map (fun p => V.ref p.1) ∧ ks.map (·.2) = ps.map ls ∧ ∀ p ∈ ks, TupAt K H M p.1 (p.2.map V.int)
  | [], _, .nil => ⟨[], rfl, rfl, fun _ h => by cases h⟩
  | p :: ps, _, .cons h r => by
    obtain ⟨ks, h1, h2, h3⟩ := reps_prs r
    obtain ⟨a, b⟩ := p
    cases h with
    | @tup ad xs ds ht hr =>
      cases hr with
      | cons q1 hr =>
        cases hr with
        | cons q2 hr =>
          cases hr
          cases q1
          cases q2
          refine ⟨(ad, [a, b]) :: ks, by rw [h1]; rfl, by rw [List.map_cons, List.map_cons, h2]; rfl, fun p hp => ?_⟩
          rcases List.mem_cons.mp hp with rfl | hp
          · exact ht
          · exact h3 p hp
theorem reps_of {K : PySem.W.Frag} {H : Hp} {M : Mset} : ∀ {ks : List (Addr × List Int)} {ps : List (Int × Int)}, ks.map (·.2) = ps.map ls → (∀ p ∈ ks, TupAt K H M p.1 (p.2.map V.int)) → Reps K H M (ks.map fun p => V.ref p.1) (ps.map toP)
  | [], [], _, _ => .nil
  | [], p :: ps, h, _ => by simp at h
  | k :: ks, [], h, _ => by simp at h
  | k :: ks, p :: ps, h, hk => by
    rw [List.map_cons, List.map_cons] at h
    injection h with h1 h2
    have hk1 := hk k (List.mem_cons_self ..)
    rw [h1] at hk1
    exact .cons (.tup hk1 (.cons (.int _) (.cons (.int _) .nil))) (reps_of h2 fun q hq => hk q (List.mem_cons_of_mem _ hq))
section
variable {X : Cx}
def rSS (X : Cx) (v : V) (H : Hp) (Q : VK) : Prop := rSetOfT X.K X.prog X.w [v] H fun v2 H2 => rSortedT X.K X.prog X.w [v2] H2 Q
theorem us_sortset : UnS X (rSS X) dSortSet := by
  intro H M O π ρ σ v1 d1 res Q h r1 e q
  unfold dSortSet at e
  split at e
  · rename_i ds
    split at e
    · rename_i ps hps
      split at e
      · rename_i hl
        cases e
        have hl := of_decide_eq_true hl
        obtain ⟨hds, hb⟩ := prs_of hps
        subst hds
        obtain ⟨a, vs, rfl, rd, rs⟩ := r1.inL
        obtain ⟨ks, rfl, hk2, hk3⟩ := reps_prs rs
        have hkl : ks.length = ps.length := by
          have := congrArg List.length hk2
          rwa [List.length_map, List.length_map] at this
        refine ⟨a, ks, rfl, .inl rd, fun p hp => (hk3 p hp).sq, by omega, fun b L hbn hs1 hs2 => ?_⟩
        have tr := (Ext.alloc h (o := SetTO X.prog X.w b L) hbn).tr
        have h2 := h.alloc (o := SetTO X.prog X.w b L) hbn
        have tt : ∀ {x : Addr} {us : List V}, TupAt X.K H M x us → TupAt X.K (upd H b (SetTO X.prog X.w b L)) M x us := fun t => by
          rcases t with ⟨t, n⟩ | t
          · exact .inl (tr _ _ t n)
          · exact .inr t
        have hLs : ∀ p ∈ L, ∃ w ∈ ps, p.2 = ls w := fun p hp => by
          have hm : p.2 ∈ ks.map (·.2) := List.mem_map.mpr ⟨p, hs1 p hp, rfl⟩
          rw [hk2] at hm
          obtain ⟨w, hw, e⟩ := List.mem_map.mp hm
          exact ⟨w, hw, e.symm⟩
        refine ⟨b, L, 2, 64, rfl, upd_same, fun p hp => (tt (hk3 p (hs1 p hp))).sq, by decide, fun p hp => ?_, fun L' p pm nd hf pw hp => ?_⟩
        · obtain ⟨w, hw, e⟩ := hLs p hp
          rw [e]
          refine ⟨rfl, fun m hm => ?_⟩
          have := hb w hw
          simp only [ls, List.mem_cons, List.not_mem_nil, or_false] at hm
          rcases hm with rfl | rfl
          · exact this.1
          · exact this.2
        · obtain ⟨qs, hqs⟩ : ∃ qs : List (Int × Int), L'.map (·.2) = qs.map ls ∧ ∀ w ∈ qs, w ∈ ps := by
            have : ∀ L0 : List (Addr × List Int), (∀ p ∈ L0, p ∈ L) → ∃ qs : List (Int × Int), L0.map (·.2) = qs.map ls ∧ ∀ w ∈ qs, w ∈ ps := by
              intro L0
              induction L0 with
              | nil => intro _; exact ⟨[], rfl, fun _ h => by cases h⟩
              | cons k L0 ih =>
                intro hh
                obtain ⟨qs, e1, e2⟩ := ih fun p hp => hh p (List.mem_cons_of_mem _ hp)
                obtain ⟨w, hw, e⟩ := hLs k (hh k (List.mem_cons_self ..))
                refine ⟨w :: qs, by rw [List.map_cons, List.map_cons, e1, e], fun x hx => ?_⟩
                rcases List.mem_cons.mp hx with rfl | hx
                · exact hw
                · exact e2 x hx
            exact this L' fun p hp => pm.mem_iff.mp hp
          obtain ⟨hq1, hq2⟩ := hqs
          have hcode : ∀ w : Int × Int, TS.code 64 (ls w) = cd w := fun w => code_pair w.1 w.2
          have hasc : Asc qs := by
            have p1 : (qs.map ls).Pairwise fun x y => TS.code 64 x ≤ TS.code 64 y := by
              rw [← hq1, List.pairwise_map]
              exact pw
            have p2 : (qs.map ls).Pairwise (· ≠ ·) := by rw [← hq1]; exact nd
            rw [List.pairwise_map] at p1 p2
            refine (p1.and p2).imp_of_mem fun {x y} hx hy hxy => ?_
            have c := hxy.1
            rw [hcode, hcode] at c
            have : cd x ≠ cd y := fun z => hxy.2 (by rw [cd_inj (hb x (hq2 x hx)) (hb y (hq2 y hy)) z])
            omega
          have hsame : qs = setP ps := asc_eq hasc (set_asc ps) (fun x hx => by
              obtain ⟨z, z1, z2⟩ := set_all (hq2 x hx)
              rw [← cd_inj (hb z (set_sub z1)) (hb x (hq2 x hx)) z2]
              exact z1) fun x hx => by
              have h1 : ls x ∈ ks.map (·.2) := by rw [hk2]; exact List.mem_map.mpr ⟨x, set_sub hx, rfl⟩
              obtain ⟨k, hk, e⟩ := List.mem_map.mp h1
              have h2 : ls x ∈ L.map (·.2) := by rw [← e]; exact hs2 k hk
              have h3 : ls x ∈ L'.map (·.2) := ((pm.map (·.2)).mem_iff).mpr h2
              rw [hq1] at h3
              obtain ⟨w, hw, e⟩ := List.mem_map.mp h3
              rw [← ls_inj e]
              exact hw
          have rr : Reps X.K (upd H b (SetTO X.prog X.w b L)) M (L'.map fun p => V.ref p.1) (qs.map toP) := reps_of hq1 fun p hp => tt (hk3 p (hs1 p (pm.mem_iff.mp hp)))
          rw [hsame] at rr
          have q2 : Post X.K (upd H b (SetTO X.prog X.w b L)) M O π ρ σ (.own .loc ((setP ps).map toP)) Q := fun v H' M' x s r => q v H' M' ((Ext.alloc h (o := SetTO X.prog X.w b L) hbn).trans x) s r
          exact q2.lst h2 rr hp
      · cases e
    · cases e
  · cases e
variable {a : Expr} {ma : ME}
theorem de_sortset {x y : Str} {p1 p2 pos1 pos2 : Pos} {f : D → Option Sv} (hcS : CallR X (.type "set") (rSetOfT X.K X.prog X.w)) (hcT : CallR X (.builtin "sorted") (rSortedT X.K X.prog X.w)) (hs : UnS X (rSS X) f)
    (hg1 : Gl X x) (hm1 : X.mg x = none) (hv1 : bootBuiltins x = some (.builtin "sorted")) (hg2 : Gl X y) (hm2 : X.mg y = none) (hv2 : bootBuiltins y = some (.type "set")) (ha : DE X a ma)
    (hn1 : x ≠ "__name__" := by decide) (hd1 : (x == ("__debug__" : Str)) = false := by decide) (hn2 : y ≠ "__name__" := by decide) (hd2 : (y == ("__debug__" : Str)) = false := by decide)
    (he2 : starEach (a :: []) X.env = (false, eval a X.env) :: starEach [] X.env := by rfl) (hpl2 : (PySem.backTo pos2 (starEach [] X.env)).any (·.1) = false := by rfl)
    (he1 : starEach (.Call (.Name y p2) [a] [] pos2 :: []) X.env = (false, eval (.Call (.Name y p2) [a] [] pos2) X.env) :: starEach [] X.env := by rfl) (hpl1 : (PySem.backTo pos1 (starEach [] X.env)).any (·.1) = false := by rfl) :
    DE X (.Call (.Name x p1) [.Call (.Name y p2) [a] [] pos2] [] pos1) (un f ma) :=
  PE.imp (pe_callB hcT hg1 hm1 hv1 (pa_cons (pe_callTy hcS hg2 hm2 hv2 (pa_cons ha pa_nil he2) hn2 hd2 he2 hpl2) pa_nil he1) hn1 hd1 he1 hpl1) fun σ H Q h => tE_un hs h
end
end Vi

namespace Vi
open PySem PySem.Spec PyProof.Rows L2
section
variable {X : Cx}
/-- sorted(x) of data, or of a list of one item at most -/
def rSortW (K : PySem.W.Frag) : List V → Hp → VK → Prop := fun vs H Q => rSortD K vs H Q ∨ ∃ (a : Addr) (xs : List V), vs = [.ref a] ∧ SqL K H a xs ∧ xs.length ≤ 1 ∧ ∀ p, H p = none → Q (.ref p) (upd H p (.lst xs))
theorem perm_one {α : Type} {l m : List α} (h : l.Perm m) (hm : m.length ≤ 1) : l = m := by
  match m, hm with
  | [], _ => exact h.eq_nil
  | [x], _ => exact List.perm_singleton.mp h
theorem cr_sortW (hu : X.A.units + 70 < cLine) : CallR X (.builtin "sorted") (rSortW X.K) := by
  intro pins s σ H vs us Q I r h
  rcases h with h | ⟨a, xs, rfl, hs, hl, q⟩
  · exact cr_sortD hu pins s σ H vs us Q I r h
  · obtain ⟨its, rv, hls, hz⟩ := I.list hs
    rw [Vals.ref1 r]
    have hlen : its.length = xs.length := rv.length.symm
    refine Srt.sorted_any (vs := its) (by simpa using hls.isList) (by rw [hlen]; exact hz) (fun h2 => absurd h2 (by omega)) fun out ho => ?_
    have e : out = its := perm_one ho (by omega)
    subst e
    obtain ⟨ep, he'⟩ := PyProof.Rows.sortedAll_at s.heap out out.toArray
    have hfit : xs.length ≤ sizeLine := hz
    exact ⟨.ref _, upd H (s.heap.objs.size + 1) (.lst xs), I.laid (t' := s.toks) (fun _ _ => PyProof.Rows.sortedAll_old) (Nat.le_succ _) ⟨hfit, out, ep, rv, he'⟩, rfl, q _ (I.hok.fresh (Nat.le_succ _))⟩
def dSortW : D → Option Sv
  | .list ds => if sortOk ds = true then some (.own .loc (sortD ds)) else if decide (ds.length ≤ 1) = true then some (.own .loc ds) else none
  | d => dSort d
theorem us_sortW : UnS X (fun v H Q => rSortW X.K [v] H Q) dSortW := by
  intro H M O π ρ σ v1 d1 res Q h r1 e q
  unfold dSortW at e
  split at e
  · rename_i ds
    split at e
    · rename_i hz
      exact .inl (us_sort h r1 (show (if sortOk ds = true then some (Sv.own .loc (sortD ds)) else none) = some res by rw [if_pos hz]; exact e) q)
    · split at e
      · rename_i hl
        cases e
        have hl := of_decide_eq_true hl
        obtain ⟨a, vs, rfl, rd, rs⟩ := r1.inL
        have q2 : Post X.K H M O π ρ σ (.own .loc ds) Q := q
        exact .inr ⟨a, vs, rfl, .inl rd, by rw [rs.length]; exact hl, fun p hp => q2.lst h rs hp⟩
      · cases e
  · exact .inl (us_sort h r1 e q)
end
end Vi

namespace Vi
open PySem PySem.Spec PyProof.Rows L2
/-! ### a tuple any number of times -/
theorem rep_same (at0 : Addr) (vs : Array Value) (en : Nat) (td : Option Addr) (ts : Array (Option Value)) (k : Int) (tk0 : Tok)
    (big : (decide (k < -(2 ^ 63)) || decide (k ≥ 2 ^ 63)) = false) (one : (vs.isEmpty || k == 1) = true) :
    Meets (Builtin.«tuple.__mul__» ⟨[.ref at0, .int k tk0], []⟩) (fun _ R s => s.heap.get? at0 = some { cls := .type "tuple", dict := td, data := .seq vs en, slots := ts } ∧ R (.ok (.ret (Value.ref at0))) s) :=
  .of_wp fun prog w A R s ⟨hat, k1⟩ => by
    obtain ⟨s1, s2, s3, s4, s5⟩ := s
    have ix := AutoSeq1.idx_int
    wp_walk using wpAny_loadPart' hat
    repeat (first
      | (refine wpAny_ite_false (decide_eq_false (by rw [big]; decide)) ?_; wp_walk using wpAny_loadPart' hat)
      | (refine wpAny_ite_true (decide_eq_true one) ?_; wp_walk using wpAny_loadPart' hat))
    all_goals (first | exact ⟨_, rfl, k1⟩ | exact k1 | skip)
theorem rep_none (at0 : Addr) (vs : Array Value) (en : Nat) (td : Option Addr) (ts : Array (Option Value)) (k : Int) (tk0 : Tok)
    (big : (decide (k < -(2 ^ 63)) || decide (k ≥ 2 ^ 63)) = false) (one : (vs.isEmpty || k == 1) = false) (low : (decide (k ≤ 0) || vs.isEmpty) = true) :
    Meets (Builtin.«tuple.__mul__» ⟨[.ref at0, .int k tk0], []⟩) (fun _ R s => s.heap.get? at0 = some { cls := .type "tuple", dict := td, data := .seq vs en, slots := ts } ∧
      R (.ok (.ret (Value.ref s.heap.objs.size))) { s with heap := s.heap.push { cls := Value.type "tuple", data := Data.seq #[] }, toks := s.toks }) :=
  .of_wp fun prog w A R s ⟨hat, k1⟩ => by
    obtain ⟨s1, s2, s3, s4, s5⟩ := s
    have ix := AutoSeq1.idx_int
    wp_walk using wpAny_loadPart' hat
    repeat (first
      | (refine wpAny_ite_false (decide_eq_false (by rw [big]; decide)) ?_; wp_walk using wpAny_loadPart' hat)
      | (refine wpAny_ite_false (decide_eq_false (by rw [one]; decide)) ?_; wp_walk using wpAny_loadPart' hat)
      | (refine wpAny_ite_true (decide_eq_true low) ?_; wp_walk using wpAny_loadPart' hat))
    all_goals (first | exact ⟨_, rfl, k1⟩ | exact k1 | skip)
/-- tuple * k, no new tuple or the empty one -/
def rRepS (K : PySem.W.Frag) : R2 := fun x y H Q => ∃ l k xs, x = .ref l ∧ y = .int k ∧ SqT K H l xs ∧ -1000000 ≤ k ∧ k ≤ 1000000 ∧ (xs = [] ∨ k = 1) ∧ Q (.ref l) H
def rRep0 (K : PySem.W.Frag) : R2 := fun x y H Q => ∃ l k xs, x = .ref l ∧ y = .int k ∧ SqT K H l xs ∧ -1000000 ≤ k ∧ k ≤ 0 ∧ xs ≠ [] ∧ ∀ p, H p = none → Q (.ref p) (upd H p (.tup []))
section
variable {X : Cx}
theorem op_repS : OpR X (binaryOp .Mult) (rRepS X.K) := by
  intro pins s σ H x y v u Q I rx ry h
  obtain ⟨l, k, xs, rfl, rfl, hT, h1, h2, hor, q⟩ := h
  cases rx
  obtain ⟨t, rfl⟩ := ry
  obtain ⟨its, r, ⟨⟨cls, dd, data, sl⟩, ho, hc, n, hd⟩, hs⟩ := I.tuple hT
  simp only at hc hd
  subst hc hd
  have big : (decide (k < -(2 ^ 63)) || decide (k ≥ 2 ^ 63)) = false := by
    rw [Bool.or_eq_false_iff]; exact ⟨decide_eq_false (by omega), decide_eq_false (by omega)⟩
  have one : (its.toArray.isEmpty || k == 1) = true := by
    rcases hor with h | h
    · have : its = [] := List.eq_nil_of_length_eq_zero (by rw [← r.length, h]; rfl)
      rw [this]; rfl
    · rw [h]; simp
  refine wpAny_binaryOp_repeat_ref (T := "tuple") (U := "int") (by decide) ⟨_, ho, rfl⟩ (fun s' => typeIs_int s' k t) noFill_tuple_mul F.fills_int_mul F.slot_int_rmul repeat_tuple F.slot_int_index.lookup ?_
  refine call_meets F.slot_int_rmul (typeIs_int s k t) F.entry_int_rmul (F.args_int_rmul_2 _ _) (int_rmul_tuple k t l its.toArray n dd sl) ⟨ho, rfl, ⟨_, ho, rfl⟩, ?_⟩
  exact call_meets F.slot_tuple_mul ⟨_, ho, rfl⟩ F.entry_tuple_mul (F.args_tuple_mul_2 _ _) (rep_same l its.toArray n dd sl k t big one) ⟨ho, ⟨.ref l, H, I, rfl, q⟩⟩
theorem op_rep0 : OpR X (binaryOp .Mult) (rRep0 X.K) := by
  intro pins s σ H x y v u Q I rx ry h
  obtain ⟨l, k, xs, rfl, rfl, hT, h1, h2, hne, q⟩ := h
  cases rx
  obtain ⟨t, rfl⟩ := ry
  obtain ⟨its, r, ⟨⟨cls, dd, data, sl⟩, ho, hc, n, hd⟩, hs⟩ := I.tuple hT
  simp only at hc hd
  subst hc hd
  have big : (decide (k < -(2 ^ 63)) || decide (k ≥ 2 ^ 63)) = false := by
    rw [Bool.or_eq_false_iff]; exact ⟨decide_eq_false (by omega), decide_eq_false (by omega)⟩
  have one : (its.toArray.isEmpty || k == 1) = false := by
    have hk : (k == 1) = false := beq_eq_false_iff_ne.mpr (by omega)
    cases its with
    | nil => exact absurd (List.eq_nil_of_length_eq_zero (by rw [r.length]; rfl)) hne
    | cons a b => rw [hk]; rfl
  have low : (decide (k ≤ 0) || its.toArray.isEmpty) = true := by rw [decide_eq_true h2]; rfl
  refine wpAny_binaryOp_repeat_ref (T := "tuple") (U := "int") (by decide) ⟨_, ho, rfl⟩ (fun s' => typeIs_int s' k t) noFill_tuple_mul F.fills_int_mul F.slot_int_rmul repeat_tuple F.slot_int_index.lookup ?_
  refine call_meets F.slot_int_rmul (typeIs_int s k t) F.entry_int_rmul (F.args_int_rmul_2 _ _) (int_rmul_tuple k t l its.toArray n dd sl) ⟨ho, rfl, ⟨_, ho, rfl⟩, ?_⟩
  refine call_meets F.slot_tuple_mul ⟨_, ho, rfl⟩ F.entry_tuple_mul (F.args_tuple_mul_2 _ _) (rep_none l its.toArray n dd sl k t big one low) ⟨ho, ?_⟩
  exact ⟨.ref s.heap.objs.size, _, I.laid (t' := s.toks) (o := .tup []) (fun b ob q => Heap.get?_push_of_some _ q) (Nat.le_refl _) ⟨Nat.zero_le _, [], .nil, IsTup.new _ _⟩, rfl, q _ (I.hok.fresh (Nat.le_refl _))⟩
def dMulN : D → D → Option Sv
  | .tuple ds, .int k => if decide (-1000000 ≤ k ∧ k ≤ 1000000) = true then (if (ds.isEmpty || k == 1) = true then some (.imm (.tuple ds)) else if decide (k ≤ 0) = true then some (.imm (.tuple [])) else dMulT (.tuple ds) (.int k)) else none
  | a, b => dMul a b
abbrev rMulN (K : PySem.W.Frag) : R2 := fun x y H Q => (rMul x y H Q ∨ rRepT K x y H Q) ∨ rRepS K x y H Q ∨ rRep0 K x y H Q
theorem op_mulN : OpR X (binaryOp .Mult) (rMulN X.K) := op_mulT.or (op_repS.or op_rep0)
theorem os_mulN : OpS X (rMulN X.K) dMulN := by
  intro H M O π ρ σ v1 v2 d1 d2 res Q h r1 r2 e q
  unfold dMulN at e
  split at e
  · rename_i ds k
    split at e
    · rename_i hz
      have hz := of_decide_eq_true hz
      obtain ⟨a, vs, hv, rd, rs⟩ := r1.inT
      split at e
      · rename_i h1
        cases e
        have hr : Rep X.K H M v1 (.tuple ds) := r1
        cases r2.inI
        subst hv
        refine .inr (.inl ⟨a, k, vs, rfl, rfl, rd.sq, hz.1, hz.2, ?_, ?_⟩)
        · rw [Bool.or_eq_true] at h1
          rcases h1 with h1 | h1
          · exact .inl (List.eq_nil_of_length_eq_zero (by rw [rs.length, List.isEmpty_iff.mp h1]; rfl))
          · exact .inr (beq_iff_eq.mp h1)
        · exact Post.now q h hr
      · rename_i h1
        split at e
        · rename_i h2
          cases e
          cases r2.inI
          subst hv
          refine .inr (.inr ⟨a, k, vs, rfl, rfl, rd.sq, hz.1, of_decide_eq_true h2, fun z => h1 ?_, fun p hp => Post.tup q h .nil hp⟩)
          have hl := rs.length
          rw [z] at hl
          rw [List.length_eq_zero_iff.mp hl.symm]; rfl
        · exact .inl (os_mulT h r1 r2 e q)
    · cases e
  · exact .inl (.inl (os_mul h r1 r2 e q))
end
end Vi

namespace Vi
open PySem PySem.Spec PyProof.Rows L2
section
variable {X : Cx}
/-! ### max(a list of data) -/
def rMaxDL (K : PySem.W.Frag) : List V → Hp → VK → Prop := fun vs H Q => ∃ (a : Addr) (xs : List V) (d : D) (ds : List D), vs = [.ref a] ∧ SqL K H a xs ∧ DpAll K H xs (d :: ds) ∧ minOk (d :: ds) = true ∧ ∀ (i : Nat) (x : V), xs[i]? = some x → (d :: ds)[i]? = some (W.maxD d ds) → Q x H
theorem cr_maxDL (hc : X.calm = true) (hu : X.A.units + 70 < cLine) : CallR X (.builtin "max") (rMaxDL X.K) := by
  intro pins s σ H vs us Q I r h
  obtain ⟨a, xs, d, ds, rfl, hsq, hdp, hok, q⟩ := h
  rw [Vals.ref1 r]
  obtain ⟨its, rv, pl, hz⟩ := I.list hsq
  obtain ⟨as, hr⟩ := Dp.readsAll I (d :: ds) xs its hdp rv
  have hdep := minOk_dep hok
  refine W.max_list_data (I.ok.hd hc) pl.isList (show ReadsAll s.heap its.toArray.toList (d :: ds) as by simpa using hr) (minOk_al hok) (by omega) fun i v h' tk bs hv rd kp => ?_
  have hv' : its[i]? = some v := by simpa using hv
  obtain ⟨e, bs2, he, re⟩ := readsAll_i hr hv'
  have e1 := (Reads.unique (Reads.keeps kp re) _ _ rd).1
  subst e1
  have hl := rv.length
  have hi : i < xs.length := by
    have := (List.getElem?_eq_some_iff.mp hv').1
    omega
  obtain ⟨w, ew, rw'⟩ := rv.get (List.getElem?_eq_getElem hi)
  rw [hv'] at ew; cases ew
  exact ⟨_, H, I.kept (t' := tk) kp, rw', q i _ (List.getElem?_eq_getElem hi) he⟩
def dMaxL : D → Option Sv
  | .list (d :: ds) => if minOk (d :: ds) = true then some (.imm (W.maxD d ds)) else none
  | _ => none
theorem us_maxL : UnS X (fun v H Q => rMaxDL X.K [v] H Q) dMaxL := by
  intro H M O π ρ σ v1 d1 res Q h r1 e q
  unfold dMaxL at e
  split at e
  · split at e
    · rename_i hz
      cases e
      obtain ⟨a, vs, rfl, rd, rs⟩ := r1.inL
      refine ⟨a, vs, _, _, rfl, .inl rd, rs.dp (minOk_lay hz), hz, fun i x hx hd => ?_⟩
      obtain ⟨y, hy, ry⟩ := rs.get hd
      rw [hx] at hy; cases hy
      exact Post.now q h ry
    · cases e
  · cases e
end
end Vi

namespace Vi
open PySem PySem.Spec PyProof.Rows L2
/-! a name's own list, looked at and given back -/
def atomD : D → Bool
  | .none | .bool _ | .int _ | .str _ => true
  | _ => false
section
variable {K : PySem.W.Frag} {H H' : Hp} {M M' O : Mset} {π : Nat → Option Addr} {ρ ρ' : Fm} {σ : St} {v : V} {d : D}
theorem atom_rep (h : Rep K H M v d) (a : atomD d = true) : Rep K H' M' v d := by
  cases h with
  | non => exact .non
  | bl b => exact .bl b
  | int i => exact .int i
  | str x => exact .str x
  | lst _ _ _ => cases a
  | tup _ _ => cases a
  | scr _ _ => cases a
theorem atom_reps : ∀ {vs : List V} {ds : List D}, Reps K H M vs ds → ds.all atomD = true → Reps K H' M' vs ds
  | _, _, .nil, _ => .nil
  | _, _, .cons h r, a => by
    rw [List.all_cons, Bool.and_eq_true] at a
    exact .cons (atom_rep h a.1) (atom_reps r a.2)
def keep1 : Option Sv → Option Sv → Option Sv
  | some (.imm d), _ => some (.imm d)
  | some (.own _ _), some (.own b ds) => if ds.all atomD = true then some (.own b ds) else none
  | _, _ => none
def keepF (i : Nat) (ds : List D) (ρ ρ' : Fm) : Fm := (List.zipWith keep1 ρ ρ').set i (some (.own .loc ds))
theorem keepF_at {i j : Nat} {ds : List D} {s : Sv} (h : (keepF i ds ρ ρ')[j]? = some (some s)) : (j = i ∧ s = .own .loc ds) ∨ (j ≠ i ∧ ∃ x y, ρ[j]? = some x ∧ ρ'[j]? = some y ∧ keep1 x y = some s) := by
  unfold keepF at h
  rcases get_set h with ⟨h1, h2⟩ | ⟨h1, h2⟩
  · cases h2; exact .inl ⟨h1, rfl⟩
  · rw [List.getElem?_zipWith] at h2
    refine .inr ⟨h1, ?_⟩
    cases ex : ρ[j]? with
    | none => rw [ex] at h2; cases h2
    | some x =>
      cases ey : ρ'[j]? with
      | none => rw [ex, ey] at h2; cases h2
      | some y =>
        rw [ex, ey] at h2
        exact ⟨x, y, rfl, rfl, by injection h2⟩
theorem keep1_imm {x y : Option Sv} {d : D} (h : keep1 x y = some (.imm d)) : x = some (.imm d) := by
  match x, y, h with
  | some (.imm e), _, h => unfold keep1 at h; exact h
  | some (.own _ _), some (.own b ds), h => unfold keep1 at h; simp only at h; split at h <;> cases h
  | some (.own _ _), some (.imm _), h => unfold keep1 at h; cases h
  | some (.own _ _), none, h => unfold keep1 at h; cases h
  | none, _, h => unfold keep1 at h; cases h
theorem keep1_own {x y : Option Sv} {b : Kd} {ds : List D} (h : keep1 x y = some (.own b ds)) : y = some (.own b ds) ∧ ds.all atomD = true := by
  match x, y, h with
  | some (.imm e), _, h => unfold keep1 at h; cases h
  | some (.own _ _), some (.own c es), h =>
    unfold keep1 at h
    simp only at h
    split at h
    · cases h; exact ⟨rfl, by assumption⟩
    · cases h
  | some (.own _ _), some (.imm _), h => unfold keep1 at h; cases h
  | some (.own _ _), none, h => unfold keep1 at h; cases h
  | none, _, h => unfold keep1 at h; cases h
def mKeep (i : Nat) (me : ME) : ME := fun ρ => match ρ[i]? with
  | some (some (.own .loc ds)) => match me (ρ.set i (some (.imm (.list ds)))) with
    | some (.val (.imm d), ρ') => if (atomD d && decide (ρ'.length = ρ.length)) = true then some (.val (.imm d), keepF i ds ρ ρ') else none
    | _ => none
  | _ => none
theorem tE_keep {i : Nat} {me : ME} {Q : VK} (h : tE K (mKeep i me) σ H Q) : tE K me σ H Q := by
  obtain ⟨ρ, M, O, π, pr, ρ2, hs, e, q⟩ := h
  unfold mKeep at e
  split at e
  · rename_i ds hi
    obtain ⟨a, vl, f1, f2, f3, f4, f5, _⟩ := hs.own i _ ds hi
    have hz := hs.freeze hi f1 f2 f5 f4
    split at e
    · rename_i d ρ' em
      split at e
      · rename_i hc
        rw [Bool.and_eq_true, decide_eq_true_eq] at hc
        cases e
        refine ⟨_, wo M a, O, π, _, ρ', hz, em, fun v H' M' x s r => ?_⟩
        have t : ∀ y u, Rd H y u → ¬ M y → Rd H' y u ∧ ¬ wth M' a y := fun y u h1 h2 => by
          obtain ⟨h3, h4⟩ := x.tr y u h1 fun z => h2 z.1
          exact ⟨h3, fun z => z.elim h4 fun z => h2 (z ▸ f3)⟩
        have ha : H' a = some (.lst vl) := x.keep a _ f2 (.inr fun z => z.2 rfl)
        have hn : ¬ M' a := (x.tr a _ (.inl f2) fun z => z.2 rfl).2
        refine q v H' (wth M' a) ⟨fun y o h1 h2 => x.keep y o h1 (h2.imp id fun h3 z => h3 z.1), fun y h1 => .inl (x.sub y h1), fun y h1 => ?_⟩ ?_ (atom_rep r hc.1)
        · rcases h1 with h1 | rfl
          · exact (x.new y h1).imp (fun z => z.1) id
          · exact .inl f3
        · have hl : (keepF i ds ρ ρ').length = ρ.length := by
            unfold keepF
            rw [List.length_set, List.length_zipWith, hc.2, Nat.min_self]
          refine ⟨hl.trans hs.len, fun y h1 => .inl (s.sub y h1), fun y h1 => ?_, fun j d' h1 => ?_, fun j b es h1 => ?_, fun j k b c es gs y hjk h1 h2 h3 h4 => ?_⟩
          · rcases h1 with h1 | rfl
            · exact s.live y h1
            · rw [ha]; intro z; cases z
          · rcases keepF_at h1 with ⟨_, z⟩ | ⟨_, u, w, k1, _, k3⟩
            · cases z
            · obtain ⟨v', g1, g2⟩ := hs.imm j d' (by rw [k1, keep1_imm k3])
              exact ⟨v', g1, g2.tr t⟩
          · rcases keepF_at h1 with ⟨rfl, z⟩ | ⟨_, u, w, _, k2, k3⟩
            · cases z
              exact ⟨a, vl, f1, ha, .inr rfl, f4, f5.tr t, fun z => by cases z⟩
            · obtain ⟨k4, k5⟩ := keep1_own k3
              obtain ⟨y, ws, g1, g2, g3, g4, g5, g6⟩ := s.own j b es (by rw [k2, k4])
              exact ⟨y, ws, g1, g2, .inl g3, g4, atom_reps g5 k5, g6⟩
          · rcases keepF_at h1 with ⟨rfl, _⟩ | ⟨n1, u, w, _, k2, k3⟩
            · rcases keepF_at h2 with ⟨rfl, _⟩ | ⟨_, u', w', _, k2', k3'⟩
              · exact hjk rfl
              · obtain ⟨y', ws, g1, g2, g3, _⟩ := s.own k c gs (by rw [k2', (keep1_own k3').1])
                rw [h4] at g1; cases g1
                rw [f1] at h3; cases h3
                exact hn g3
            · obtain ⟨y', ws, g1, g2, g3, _⟩ := s.own j b es (by rw [k2, (keep1_own k3).1])
              rcases keepF_at h2 with ⟨rfl, _⟩ | ⟨_, u', w', _, k2', k3'⟩
              · rw [h3] at g1; cases g1
                rw [f1] at h4; cases h4
                exact hn g3
              · exact s.uniq j k b c es gs y hjk (by rw [k2, (keep1_own k3).1]) (by rw [k2', (keep1_own k3').1]) h3 h4
      · cases e
    · cases e
  · cases e
def mFz (i : Nat) (me : ME) : ME := fun ρ => match frz ρ (.slot i) with
  | some (_, ρ1) => me ρ1
  | none => none
theorem tE_fz {i : Nat} {me : ME} {Q : VK} (h : tE K (mFz i me) σ H Q) : tE K me σ H Q := by
  obtain ⟨ρ, M, O, π, pr, ρ2, hs, e, q⟩ := h
  unfold mFz at e
  split at e
  · rename_i d ρ1 hf
    have : ∃ v, σ[i]? = some (some v) := by
      unfold frz at hf
      simp only at hf
      split at hf
      · rename_i d' hd; exact hs.at hd
      · rename_i ds hd; exact hs.at hd
      · cases hf
    obtain ⟨v, hv⟩ := this
    obtain ⟨M', x, s, _⟩ := frz_ok hs (pr := .slot i) (v := v) hv hf
    exact ⟨ρ1, M', O, π, pr, ρ2, s, e, fun v2 H2 M2 x2 s2 r2 => q v2 H2 M2 (x.trans x2) s2 r2⟩
  · cases e
end
theorem de_keep {X : Cx} {e : Expr} {i : Nat} {me : ME} (h : DE X e me) : DE X e (mKeep i me) := PE.imp h fun _ _ _ q => tE_keep q
theorem de_fz {X : Cx} {e : Expr} {i : Nat} {me : ME} (h : DE X e me) : DE X e (mFz i me) := PE.imp h fun _ _ _ q => tE_fz q
end Vi

namespace Vi
open PySem PySem.Spec PyProof.Rows L2
/-! << and two comparisons in a row -/
def dShl : D → D → Option Sv
  | .int i, .int j => if powOk i j = true then some (.imm (.int (i * 2 ^ j.toNat))) else none
  | _, _ => none
theorem os_shl {X : Cx} : OpS X (rI CPow fun i j => .int (i * 2 ^ j.toNat)) dShl := by
  intro H M O π ρ σ v1 v2 d1 d2 res Q h r1 r2 e q
  unfold dShl at e
  split at e
  · split at e
    · rename_i hz
      cases e
      cases r1.inI; cases r2.inI
      unfold powOk at hz
      have hz' := of_decide_eq_true hz
      exact ⟨_, _, rfl, rfl, hz', Post.now q h (.int _)⟩
    · cases e
  · cases e
def mChain (f g : D → D → Option Sv) (ma mb mc : ME) : ME := fun ρ => match ma ρ with
  | some (.val (.imm a), ρ1) => match mb ρ1 with
    | some (.val (.imm b), ρ2) => match f a b with
      | some (.imm (.bool true)) => match mc ρ2 with
        | some (.val (.imm c), ρ3) => match g b c with
          | some r => some (.val r, ρ3)
          | none => none
        | _ => none
      | some (.imm (.bool false)) => some (.val (.imm (.bool false)), ρ2)
      | _ => none
    | _ => none
  | _ => none
theorem tE_chain {X : Cx} {f g : D → D → Option Sv} {r r' : R2} (hf : OpS X r f) (hg : OpS X r' g) {ma mb mc : ME} {σ : St} {H : Hp} {Q : VK} (h : tE X.K (mChain f g ma mb mc) σ H Q) : tChain r r' (tE X.K ma) (tE X.K mb) (tE X.K mc) σ H Q := by
  obtain ⟨ρ, M, O, π, pr, ρ', h0, e, q⟩ := h
  unfold mChain at e
  split at e
  · rename_i a ρ1 ea
    split at e
    · rename_i b ρ2 eb
      refine ⟨ρ, M, O, π, _, ρ1, h0, ea, fun v1 H1 M1 x1 s1 r1 => ?_⟩
      refine ⟨ρ1, M1, O, π, _, ρ2, s1, eb, fun v2 H2 M2 x2 s2 r2 => ?_⟩
      have r1' : Rep X.K H2 M2 v1 a := Rep.tr x2.tr r1
      split at e
      · rename_i ef
        refine hf s2 (.of r1') (.of r2) ef fun z H3 M3 x3 s3 r3 => ?_
        have r3' : Rep X.K H3 M3 z (.bool true) := r3
        cases r3'
        refine ⟨true, rfl, ?_⟩
        split at e
        · rename_i c ρ3 ec
          split at e
          · rename_i res eg
            cases e
            rw [if_pos rfl]
            refine ⟨ρ2, M3, O, π, _, _, s3, ec, fun v4 H4 M4 x4 s4 r4 => ?_⟩
            have r2' : Rep X.K H4 M4 v2 b := Rep.tr x4.tr (Rep.tr x3.tr r2)
            exact hg s4 (.of r2') (.of r4) eg fun v5 H5 M5 x5 s5 r5 => q v5 H5 M5 ((((x1.trans x2).trans x3).trans x4).trans x5) s5 r5
          · cases e
        · cases e
      · rename_i ef
        cases e
        refine hf s2 (.of r1') (.of r2) ef fun z H3 M3 x3 s3 r3 => ?_
        have r3' : Rep X.K H3 M3 z (.bool false) := r3
        cases r3'
        refine ⟨false, rfl, ?_⟩
        rw [if_neg (by decide)]
        exact q _ H3 M3 ((x1.trans x2).trans x3) s3 (.bl false)
      · cases e
    · cases e
  · cases e
theorem de_chain {X : Cx} {a b c : Expr} {ma mb mc : ME} {pos : Pos} {op op' : CmpOp} {r r' : R2} {f g : D → D → Option Sv} (ho : OpR X (compareOp op) r) (hs : OpS X r f) (ho' : OpR X (compareOp op') r') (hs' : OpS X r' g) (ha : DE X a ma) (hb : DE X b mb) (hc : DE X c mc)
    (hm : lastMarks [op, op'] [b, c] = false := by with_unfolding_all rfl) : DE X (.Compare a [op, op'] [b, c] pos) (mChain f g ma mb mc) :=
  PE.imp (pe_chain ho ho' ha hb hc hm) fun _ _ _ q => tE_chain hs hs' q
end Vi

namespace L2
open PySem PySem.Spec PyProof.Rows
section
variable {P : Program} {w : World} {A : Around} {E : Value → Shared → Prop} {s : Shared}
abbrev bare (w : World) : Obj := { cls := .type "set", dict := none, data := .set #[] 0 (.fresh 0 0 (!w.params.followText "set-order")) }
/-- what __init__ of a new set leaves, handed a list -/
def Filled (w : World) (s : Shared) (ns : List Int) (r : Value) (s2 : Shared) : Prop :=
  r = .none ∧ ∃ h' tk c, s2 = { s with heap := h', toks := tk } ∧ SetR w h' s.heap.objs.size (fun j => decide (j ∈ ns)) c ∧ c ≤ ns.length ∧ ∀ b o, s.heap.get? b = some o → h'.get? b = some o
theorem filled_list {l : Addr} {items : Array Value} {ns : List Int} (hA : A.handled = none) (hl : s.heap.IsList l items) (hi : IntsAre items.toList ns) (hb : ns.length + 1 < scanBound) :
    codeAny (model P w) A (.call (.builtin "set.__init__") ⟨[.ref s.heap.objs.size, .ref l], []⟩) (wants (Filled w s ns) E) { s with heap := s.heap.push (bare w) } := by
  have top : (s.heap.push (bare w)).get? s.heap.objs.size = some (bare w) := Heap.get?_push_size _ rfl
  have ty : Shared.TypeIs { s with heap := s.heap.push (bare w) } (.ref s.heap.objs.size) "set" := ⟨_, top, rfl⟩
  refine codeAny_call_builtin F.called_set.init.plain F.entry_set_init (check_set_init_1 ty ?_)
  obtain ⟨⟨k, dd, dt, sl⟩, at_l, e1, m, e2⟩ := hl
  simp only at e1 e2
  subst e1 e2
  have at_l' := Heap.get?_push_of_some (bare w) at_l
  have n1 := F.sub_list_set
  have n2 := F.sub_list_frozenset
  have n3 : (Value.type "list" == Value.type "dict") = false := by decide
  unfold Builtin.«set.__init__» noKeywords Builtin.Frozenset.updateFrom
  generalize hit : pyIter = it
  wp_walk
  subst hit
  have size : items.size = ns.length := by
    have z := IntsAre.length hi
    rwa [Array.length_toList] at z
  have isL : (s.heap.push (bare w)).IsList l items := ⟨_, at_l', rfl, m, rfl⟩
  have lt := Heap.lt_size at_l
  have grow : (s.heap.push (bare w)).objs.size = s.heap.objs.size + 1 := Heap.size_push ..
  apply wpAny_pyIter_list isL
  apply wpAny_bind
  apply wpAny_runValue
  have val : ∀ (i : Nat) (v : Value), items[i]? = some v → ∃ k t, ns[i]? = some k ∧ v = .int k t := by
    intro i v hv
    have hlt : i < ns.length := by rw [← size]; exact (Array.getElem?_eq_some_iff.mp hv).1
    obtain ⟨t, e⟩ := IntsAre.int_at hi i v (by rw [Array.getElem?_toList]; exact hv)
    have hk := List.getElem?_eq_getElem hlt
    rw [List.getD_eq_getElem?_getD, hk] at e
    exact ⟨_, t, hk, e⟩
  have apart : l ≠ (s.heap.push (bare w)).objs.size := by
    rw [grow]; exact Nat.ne_of_lt (Nat.lt_succ_of_lt lt)
  have off : s.heap.objs.size ∉ [(s.heap.push (bare w)).objs.size, l] := by
    intro z
    rcases List.mem_cons.mp z with z | z
    · rw [grow] at z; exact Nat.ne_of_lt (Nat.lt_succ_self _) z
    · exact Nat.ne_of_lt lt (List.mem_singleton.mp z).symm
  have W := (Walks.list (prog := P) (w := w) (A := A.in1.in1) (by simp [hA]) _ l apart items).toS
  have empty : ((s.heap.push (bare w)).push { cls := .type "list_iterator", data := .fields #[.ref l, .int 0 0] }).get? s.heap.objs.size = some (bare w) := Heap.get?_push_of_some _ top
  refine set_update_ints W s.heap.objs.size off ns size hb val items.size 0 _ (by simp) (Nat.zero_le _) ⟨⟨_, Heap.get?_push_size _ rfl, rfl, rfl⟩, isL.push _⟩ ⟨0, Nat.le_refl 0, setR_new_at empty⟩ ?_
  intro s3 n mv le set
  obtain ⟨h3, g3, d3, t3, o3⟩ := s3
  have same : g3 = s.gens ∧ d3 = s.drawn ∧ o3 = s.os := ⟨mv.gens, mv.drawn, mv.os⟩
  obtain ⟨rfl, rfl, rfl⟩ := same
  rw [size] at le
  apply wpAny_pure
  apply wpAny_pure
  refine ⟨rfl, h3, t3, n, rfl, set, le, fun b o e => ?_⟩
  have low := Heap.lt_size e
  refine mv.heap b o (fun z => ?_) (Heap.get?_push_of_some _ (Heap.get?_push_of_some _ e))
  rcases List.mem_cons.mp z with z | z
  · exact Nat.ne_of_lt low z
  · have z2 := List.mem_singleton.mp z
    rw [z2] at low
    change (s.heap.push (bare w)).objs.size < _ at low
    rw [grow] at low
    exact Nat.lt_irrefl _ (Nat.lt_trans (Nat.lt_succ_self _) low)
theorem set_of_list {l : Addr} {items : Array Value} {ns : List Int} {Q : Value → Shared → Prop} (hA : A.handled = none) (hl : s.heap.IsList l items) (hi : IntsAre items.toList ns) (hb : ns.length + 1 < scanBound)
    (h : ∀ r s2, Filled w s ns r s2 → Q (.ref s.heap.objs.size) s2) : wpAny (model P w) A (call (.type "set") [.ref l]) Q E s := by
  have made := F.called_set.made
  have sub := F.called_set.sub
  have one := F.called_set.notType
  have two := F.called_set.canCreate
  have arg := F.typeCall_set_1 (.ref l)
  have lk := F.called_set.init.lookup
  have bd := F.called_set.init.bind (.ref s.heap.objs.size)
  obtain ⟨c, tl, mro⟩ := F.called_set.mro
  wp_walk
  apply codeAny_of_tree
  change wpAny _ _ (callAny (Value.type "set") ⟨[Value.ref l], []⟩) _ _ s
  apply wpAny_pure
  refine ⟨Code.quiet_builtin _ (by decide +kernel), ?_⟩
  apply codeAny_builtin F.entry_type_call
  rw [Around.under_plain (weight_type_call_type "set" _ []) rfl]
  have top : (s.heap.push (bare w)).get? s.heap.objs.size = some (bare w) := Heap.get?_push_size _ rfl
  have ty : Shared.TypeIs { s with heap := s.heap.push (bare w) } (.ref s.heap.objs.size) "set" := ⟨_, top, rfl⟩
  repeat (any_goals (first | wp_step | assumption))
  refine codeAny_mono (code_set_led1 (.ref l) (Q₁ := fun x s1 => x = .ref s.heap.objs.size ∧ s1 = { s with heap := s.heap.push (bare w) }) (E := E) ⟨rfl, rfl⟩) ?_
  intro r s1 hr
  match r, hr with
  | .error e, hr => exact hr
  | .ok (.ret x), hr =>
    obtain ⟨rfl, rfl⟩ := hr
    repeat (any_goals (first | wp_step | assumption))
    refine codeAny_mono (filled_list (E := E) (by simp [hA]) hl hi hb) ?_
    intro r s2 hr
    match r, hr with
    | .error e, hr => exact hr
    | .ok (.ret y), hr =>
      have hf := h y s2 hr
      obtain ⟨rfl, h2, tk, n, rfl, hset, hn, keep⟩ := hr
      repeat (any_goals (first | wp_step | assumption))
end
end L2
namespace Vi
open PySem PySem.Spec PyProof.Rows L2
/-! sorted(set(x)) of a list of whole numbers -/
def insI (x : Int) : List Int → List Int
  | [] => [x]
  | y :: ys => if x < y then x :: y :: ys else if x = y then y :: ys else y :: insI x ys
def setI (ns : List Int) : List Int := ns.foldr insI []
theorem insI_mem {x y : Int} : ∀ {l : List Int}, y ∈ insI x l ↔ y = x ∨ y ∈ l
  | [] => by simp [insI]
  | z :: l => by
    unfold insI
    split
    · simp
    · split
      · rename_i e
        subst e
        simp
      · rw [List.mem_cons, insI_mem (l := l), List.mem_cons]
        constructor
        · rintro (h | h | h)
          · exact .inr (.inl h)
          · exact .inl h
          · exact .inr (.inr h)
        · rintro (h | h | h)
          · exact .inr (.inl h)
          · exact .inl h
          · exact .inr (.inr h)
theorem insI_asc {x : Int} : ∀ {l : List Int}, l.Pairwise (· < ·) → (insI x l).Pairwise (· < ·)
  | [], _ => List.pairwise_singleton ..
  | z :: l, h => by
    obtain ⟨h1, h2⟩ := List.pairwise_cons.mp h
    unfold insI
    split
    · rename_i c
      refine List.pairwise_cons.mpr ⟨fun y hy => ?_, h⟩
      rcases List.mem_cons.mp hy with rfl | hy
      · exact c
      · exact Int.lt_trans c (h1 y hy)
    · split
      · exact h
      · refine List.pairwise_cons.mpr ⟨fun y hy => ?_, insI_asc h2⟩
        rcases insI_mem.mp hy with rfl | hy
        · omega
        · exact h1 y hy
theorem setI_mem {y : Int} : ∀ {ns : List Int}, y ∈ setI ns ↔ y ∈ ns
  | [] => Iff.rfl
  | x :: ns => by
    show y ∈ insI x (setI ns) ↔ _
    rw [insI_mem, setI_mem (ns := ns), List.mem_cons]
theorem setI_asc : ∀ ns : List Int, (setI ns).Pairwise (· < ·)
  | [] => List.Pairwise.nil
  | x :: ns => insI_asc (setI_asc ns)
theorem ascI_eq : ∀ {l m : List Int}, l.Pairwise (· < ·) → m.Pairwise (· < ·) → (∀ k, k ∈ l ↔ k ∈ m) → l = m
  | [], [], _, _, _ => rfl
  | [], y :: m, _, _, h => absurd ((h y).mpr (List.mem_cons_self ..)) List.not_mem_nil
  | x :: l, [], _, _, h => absurd ((h x).mp (List.mem_cons_self ..)) List.not_mem_nil
  | x :: l, y :: m, h1, h2, h => by
    obtain ⟨a1, a2⟩ := List.pairwise_cons.mp h1
    obtain ⟨b1, b2⟩ := List.pairwise_cons.mp h2
    have e : x = y := by
      rcases List.mem_cons.mp ((h x).mp (List.mem_cons_self ..)) with e | e
      · exact e
      · rcases List.mem_cons.mp ((h y).mpr (List.mem_cons_self ..)) with f | f
        · exact f.symm
        · have := a1 y f; have := b1 x e; omega
    subst e
    rw [ascI_eq a2 b2 fun k => ?_]
    constructor
    · intro hk
      rcases List.mem_cons.mp ((h k).mp (List.mem_cons_of_mem _ hk)) with rfl | z
      · have := a1 k hk; omega
      · exact z
    · intro hk
      rcases List.mem_cons.mp ((h k).mpr (List.mem_cons_of_mem _ hk)) with rfl | z
      · have := b1 k hk; omega
      · exact z
def intsOf2 : List D → Option (List Int)
  | [] => some []
  | .int i :: ds => match intsOf2 ds with
    | some ns => some (i :: ns)
    | none => none
  | _ => none
theorem ints_of_eq2 : ∀ {ds : List D} {ns : List Int}, intsOf2 ds = some ns → ds = ns.map .int
  | [], ns, h => by cases h; rfl
  | .int i :: ds, ns, h => by
    unfold intsOf2 at h
    split at h
    · rename_i ms e
      cases h
      rw [ints_of_eq2 e]; rfl
    · cases h
def dSortSetI : D → Option Sv
  | .list ds => match intsOf2 ds with
    | some ns => if decide (ns.length < 63) = true then some (.own .loc ((setI ns).map .int)) else none
    | none => none
  | _ => none
section
variable {X : Cx}
def rSetI (K : PySem.W.Frag) (w : World) : List V → Hp → VK → Prop := fun xs H Q => ∃ (l : Addr) (ns : List Int), xs = [V.ref l] ∧ SqL K H l (ns.map V.int) ∧ ns.length < 63 ∧
  ∀ a c, H a = none → c ≤ ns.length → Q (.ref a) (upd H a (SetO w a (fun j => decide (j ∈ ns)) c))
theorem cr_setI (hc : X.calm = true) : CallR X (.type "set") (rSetI X.K X.w) := by
  intro pins s σ H xs us Q I r h
  obtain ⟨l, ns, rfl, hl, hf, q⟩ := h
  rw [Vals.ref1 r]
  obtain ⟨its, rv, pl, hz⟩ := I.list hl
  have hn : H s.heap.objs.size = none := I.hok.fresh (Nat.le_refl _)
  refine set_of_list (ns := ns) (I.ok.hd hc) pl.isList (by simpa using rv.ints) (by unfold scanBound; omega) fun r s2 f => ?_
  obtain ⟨_, h', tk, c, rfl, R, hcn, k⟩ := f
  exact ⟨.ref s.heap.objs.size, upd H s.heap.objs.size (SetO X.w s.heap.objs.size (fun j => decide (j ∈ ns)) c), I.laid (t' := tk) k (Nat.le_refl _) (setO_new R), rfl, q _ c hn hcn⟩
theorem reps_ints2 {K : PySem.W.Frag} {H : Hp} {M : Mset} : ∀ {ns : List Int} {vs : List V}, Reps K H M vs (ns.map .int) → vs = ns.map V.int
  | [], _, .nil => rfl
  | n :: ns, _, .cons h r => by
    cases h
    rw [reps_ints2 r]; rfl
theorem ints_reps2 {K : PySem.W.Frag} {H : Hp} {M : Mset} : ∀ ns : List Int, Reps K H M (ns.map V.int) (ns.map .int)
  | [] => .nil
  | n :: ns => .cons (.int n) (ints_reps2 ns)
def rSSI (X : Cx) : V → Hp → VK → Prop := fun v H Q => rSetI X.K X.w [v] H fun y H1 => rSortedSet X.w [y] H1 Q
theorem us_sortsetI : UnS X (rSSI X) dSortSetI := by
  intro H M O π ρ σ v1 d1 res Q h r1 e q
  unfold dSortSetI at e
  split at e
  · rename_i ds
    split at e
    · rename_i ns hns
      split at e
      · rename_i hlen
        cases e
        have hlen := of_decide_eq_true hlen
        obtain ⟨a, vs, rfl, rd, rs⟩ := r1.inL
        have hds := ints_of_eq2 hns
        subst hds
        have hv := reps_ints2 rs
        subst hv
        refine ⟨a, ns, rfl, .inl rd, hlen, fun b c hbn hcn => ?_⟩
        have h2 := h.alloc (o := SetO X.w b (fun j => decide (j ∈ ns)) c) hbn
        refine ⟨b, _, c, rfl, upd_same, by omega, fun ms p asc mem _ hp => ?_⟩
        have e : ms = setI ns := ascI_eq asc (setI_asc ns) fun k => by rw [mem, decide_eq_true_eq, setI_mem]
        rw [e]
        have q2 : Post X.K (upd H b (SetO X.w b (fun j => decide (j ∈ ns)) c)) M O π ρ σ (.own .loc ((setI ns).map .int)) Q := fun v H' M' x s r => q v H' M' ((Ext.alloc h (o := SetO X.w b (fun j => decide (j ∈ ns)) c) hbn).trans x) s r
        exact q2.lst h2 (ints_reps2 _) hp
      · cases e
    · cases e
  · cases e
variable {a : Expr} {ma : ME}
theorem de_sortsetI {x y : Str} {p1 p2 pos1 pos2 : Pos} {f : D → Option Sv} (hcS : CallR X (.type "set") (rSetI X.K X.w)) (hcT : CallR X (.builtin "sorted") (rSortedSet X.w)) (hs : UnS X (rSSI X) f)
    (hg1 : Gl X x) (hm1 : X.mg x = none) (hv1 : bootBuiltins x = some (.builtin "sorted")) (hg2 : Gl X y) (hm2 : X.mg y = none) (hv2 : bootBuiltins y = some (.type "set")) (ha : DE X a ma)
    (hn1 : x ≠ "__name__" := by decide) (hd1 : (x == ("__debug__" : Str)) = false := by decide) (hn2 : y ≠ "__name__" := by decide) (hd2 : (y == ("__debug__" : Str)) = false := by decide)
    (he2 : starEach (a :: []) X.env = (false, eval a X.env) :: starEach [] X.env := by rfl) (hpl2 : (PySem.backTo pos2 (starEach [] X.env)).any (·.1) = false := by rfl)
    (he1 : starEach (.Call (.Name y p2) [a] [] pos2 :: []) X.env = (false, eval (.Call (.Name y p2) [a] [] pos2) X.env) :: starEach [] X.env := by rfl) (hpl1 : (PySem.backTo pos1 (starEach [] X.env)).any (·.1) = false := by rfl) :
    DE X (.Call (.Name x p1) [.Call (.Name y p2) [a] [] pos2] [] pos1) (un f ma) :=
  PE.imp (pe_callB hcT hg1 hm1 hv1 (pa_cons (pe_callTy hcS hg2 hm2 hv2 (pa_cons ha pa_nil he2) hn2 hd2 he2 hpl2) pa_nil he1) hn1 hd1 he1 hpl1) fun σ H Q h => tE_un hs h
end
end Vi

namespace Vi
open PySem PySem.Spec PyProof.Rows L2
section
variable {X : Cx}
def rLcm : List V → Hp → VK → Prop := fun vs H Q => ∃ a b : Int, vs = [.int a, .int b] ∧ a.natAbs < 2 ^ 64 ∧ b.natAbs < 2 ^ 64 ∧ Q (.int ((a.natAbs.lcm b.natAbs : Nat) : Int)) H
theorem cr_lcm : CallR X (.builtin "math.lcm") rLcm := by
  intro pins s σ H vs us Q I r h
  obtain ⟨a, b, rfl, ha, hb, q⟩ := h
  obtain ⟨t, u, rfl⟩ := Vals.int2 r
  exact PySem.W.mc_lcm ha hb fun _ => ⟨.int _, H, I.tok _, ⟨_, rfl⟩, q⟩
def dLcm : List D → Option Sv
  | [.int i, .int j] => if decide (i.natAbs < 2 ^ 64 ∧ j.natAbs < 2 ^ 64) = true then some (.imm (.int ((i.natAbs.lcm j.natAbs : Nat) : Int))) else none
  | _ => none
theorem as_lcm : AS X rLcm dLcm := by
  intro H M O π ρ σ vs ds res Q h r e q
  unfold dLcm at e
  split at e
  · split at e
    · rename_i hz
      have hz := of_decide_eq_true hz
      cases e
      cases r with
      | cons r1 r2 => cases r2 with
        | cons r2 r3 =>
          cases r3; cases r1; cases r2
          exact ⟨_, _, rfl, hz.1, hz.2, Post.now q h (.int _)⟩
    · cases e
  · cases e
end
end Vi

namespace Vi
open PySem PySem.Spec PyProof.Rows L2
section
variable {X : Cx}
/-- // by a divisor of either sign -/
def CDivN (_ j : Int) : Prop := j < 0 ∧ j.natAbs.log2 < 9000
theorem op_fdivN : OpR X (binaryOp .FloorDiv) (rI CDivN fun i j => .int ((-i) / (-j))) := opI fun i j _ _ _ _ _ hc q => by
  have h1 : j < 0 := hc.1
  refine floordiv_int (by omega) ?_ (.inl (PyProof.noPylong_of_log2 hc.2))
  have e : i.fdiv j = (-i) / (-j) := by
    rw [← Int.neg_fdiv_neg, Int.fdiv_eq_ediv_of_nonneg (-i) (by omega)]
  rw [e]; exact q
def divNk (j : Int) : Bool := decide (j < 0 ∧ j.natAbs.log2 < 9000)
def dDivN : D → D → Option Sv
  | .int i, .int j => if divOk j = true then some (.imm (.int (i / j))) else if divNk j = true then some (.imm (.int ((-i) / (-j)))) else none
  | _, _ => none
abbrev rDivN : R2 := fun x y H Q => rI CDivW (fun i j => .int (i / j)) x y H Q ∨ rI CDivN (fun i j => .int ((-i) / (-j))) x y H Q
theorem op_fdivA : OpR X (binaryOp .FloorDiv) rDivN := op_fdivW.or op_fdivN
theorem os_divN : OpS X rDivN dDivN := by
  intro H M O π ρ σ v1 v2 d1 d2 res Q h r1 r2 e q
  unfold dDivN at e
  split at e
  · split at e
    · rename_i hz
      cases e
      cases r1.inI; cases r2.inI
      unfold divOk at hz
      have hz' := of_decide_eq_true hz
      exact .inl ⟨_, _, rfl, rfl, hz', Post.now q h (.int _)⟩
    · split at e
      · rename_i hz
        cases e
        cases r1.inI; cases r2.inI
        unfold divNk at hz
        have hz' := of_decide_eq_true hz
        exact .inr ⟨_, _, rfl, rfl, hz', Post.now q h (.int _)⟩
      · cases e
  · cases e
end
end Vi

namespace Vi
open PySem PySem.Spec PyProof.Rows L2

/-! ### own dicts: keys are tuples of whole numbers, and of such tuples -/
section
variable {X : Cx} {pins : List (Addr × Obj)} {σ : St} {H : Hp} {s : Shared} {M : Mset}
theorem keyN_is (I : Inv X pins σ H s) : ∀ (n : Nat) {d : D} {v : V} {u : Value}, keyOkN n d = true → Rep X.K H M v d → RelV v u → NestedIs s.heap (keyOf d) u ∧ (keyOf d).depth ≤ n
  | n, .int i, v, u, _, r, q => by
    cases r
    obtain ⟨t, rfl⟩ := q
    exact ⟨.int i t, Nat.zero_le _⟩
  | n + 1, .tuple ds, v, u, h, r, q => by
    cases r with
    | @tup a xs _ ht hr =>
      cases (show u = Value.ref a from q)
      obtain ⟨its, rv, hit, _⟩ := I.tuple ht.sq
      have hall : ∀ e ∈ ds, keyOkN n e = true := List.all_eq_true.mp (by unfold keyOkN at h; exact h)
      have core : ∀ {es : List D} {xs : List V} {us : List Value}, (∀ e ∈ es, keyOkN n e = true) → Reps X.K H M xs es → Vals xs us → NestedAll s.heap (keysOf es) us ∧ NestedKey.depthAll (keysOf es) ≤ n := by
        intro es
        induction es with
        | nil => intro xs us _ r v; cases r; cases v; exact ⟨.nil, Nat.zero_le _⟩
        | cons e es ih =>
          intro xs us he r v
          cases r with
          | cons r1 r2 =>
            cases v with
            | cons v1 v2 =>
              obtain ⟨k1, k2⟩ := keyN_is I n (he e (List.mem_cons_self ..)) r1 v1
              obtain ⟨k3, k4⟩ := ih (fun x hx => he x (List.mem_cons_of_mem _ hx)) r2 v2
              exact ⟨.cons k1 k3, Nat.max_le.mpr ⟨k2, k4⟩⟩
      obtain ⟨k1, k2⟩ := core hall hr rv
      obtain ⟨o, ho, hc, n', hd⟩ := hit
      exact ⟨.tup ho hc hd (by simpa using k1), Nat.succ_le_succ k2⟩
  | 0, .tuple ds, _, _, h, _, _ => by cases h
  | n, .none, _, _, h, _, _ => by cases n <;> cases h
  | n, .bool _, _, _, h, _, _ => by cases n <;> cases h
  | n, .str _, _, _, h, _, _ => by cases n <;> cases h
  | n, .list _, _, _, h, _, _ => by cases n <;> cases h
  | n, .dict _, _, _, h, _, _ => by cases n <;> cases h
theorem key_tup {d : D} (h : keyOk d = true) : ∃ ds, d = .tuple ds := by
  cases d with
  | tuple ds => exact ⟨ds, rfl⟩
  | _ => cases h
theorem key_okN {d : D} (h : keyOk d = true) : keyOkN 8 d = true := by
  obtain ⟨ds, rfl⟩ := key_tup h
  exact h
theorem key_is (I : Inv X pins σ H s) {d : D} {v : V} {u : Value} (h : keyOk d = true) (r : Rep X.K H M v d) (q : RelV v u) : ∃ b, v = .ref b ∧ u = .ref b ∧ (nestedKind X.prog X.w).is s.heap (keyOf d) b := by
  obtain ⟨ds, rfl⟩ := key_tup h
  have k := keyN_is I 8 (key_okN h) r q
  cases r with
  | @tup a xs _ ht hr =>
    cases (show u = Value.ref a from q)
    exact ⟨a, rfl, rfl, k⟩
end
/-- the hash of such a key is the same in each world -/
theorem hashN : ∀ (n : Nat) {d : D}, keyOkN n d = true → ∀ w w' : World, (keyOf d).hash w = (keyOf d).hash w'
  | n, .int i, _, w, w' => rfl
  | n + 1, .tuple ds, h, w, w' => by
    have hall : ∀ e ∈ ds, keyOkN n e = true := List.all_eq_true.mp (by unfold keyOkN at h; exact h)
    have core : ∀ {es : List D}, (∀ e ∈ es, keyOkN n e = true) → NestedKey.hashes w (keysOf es) = NestedKey.hashes w' (keysOf es) := by
      intro es
      induction es with
      | nil => intro _; rfl
      | cons e es ih =>
        intro he
        show (keyOf e).hash w :: NestedKey.hashes w (keysOf es) = (keyOf e).hash w' :: NestedKey.hashes w' (keysOf es)
        rw [hashN n (he e (List.mem_cons_self ..)) w w', ih fun x hx => he x (List.mem_cons_of_mem _ hx)]
    show reduceHash (Builtin.Tuple.tupleHashOf (NestedKey.hashes w (keysOf ds))) = reduceHash (Builtin.Tuple.tupleHashOf (NestedKey.hashes w' (keysOf ds)))
    rw [core hall]
  | 0, .tuple ds, h, _, _ => by cases h
  | n, .none, h, _, _ => by cases n <;> cases h
  | n, .bool _, h, _, _ => by cases n <;> cases h
  | n, .str _, h, _, _ => by cases n <;> cases h
  | n, .list _, h, _, _ => by cases n <;> cases h
  | n, .dict _, h, _, _ => by cases n <;> cases h
theorem all_ok_mem {n : Nat} {ds : List D} (h : keyOkN (n + 1) (.tuple ds) = true) : ∀ e ∈ ds, keyOkN n e = true := List.all_eq_true.mp (by unfold keyOkN at h; exact h)
/-- == of such data is equality of the keys -/
theorem eqvN : ∀ (n : Nat) {d e : D}, keyOkN n d = true → keyOkN n e = true → (PyData.eqv d e = decide (keyOf d = keyOf e)) := by
  intro n
  induction n with
  | zero =>
    intro d e h1 h2
    cases d with
    | int i =>
      cases e with
      | int j =>
        show (i == j) = decide (NestedKey.num i = NestedKey.num j)
        by_cases h : i = j
        · subst h; simp
        · simp [h]
      | _ => cases h2
    | _ => cases h1
  | succ n ih =>
    intro d e h1 h2
    cases d with
    | int i =>
      cases e with
      | int j =>
        show (i == j) = decide (NestedKey.num i = NestedKey.num j)
        by_cases h : i = j
        · subst h; simp
        · simp [h]
      | tuple es =>
        show false = decide (NestedKey.num i = NestedKey.tup (keysOf es))
        exact (decide_eq_false fun z => nomatch z).symm
      | _ => cases h2
    | tuple ds =>
      cases e with
      | int j =>
        show false = decide (NestedKey.tup (keysOf ds) = NestedKey.num j)
        exact (decide_eq_false fun z => nomatch z).symm
      | tuple es =>
        show PyData.eqvAll ds es = decide (NestedKey.tup (keysOf ds) = NestedKey.tup (keysOf es))
        have core : ∀ {xs ys : List D}, (∀ e ∈ xs, keyOkN n e = true) → (∀ e ∈ ys, keyOkN n e = true) → PyData.eqvAll xs ys = decide (keysOf xs = keysOf ys) := by
          intro xs
          induction xs with
          | nil =>
            intro ys _ _
            cases ys with
            | nil => rfl
            | cons y ys => exact (decide_eq_false fun z => nomatch z).symm
          | cons x xs ihx =>
            intro ys hx hy
            cases ys with
            | nil => exact (decide_eq_false fun z => nomatch z).symm
            | cons y ys =>
              show (PyData.eqv x y && PyData.eqvAll xs ys) = decide (keyOf x :: keysOf xs = keyOf y :: keysOf ys)
              rw [ih (hx x (List.mem_cons_self ..)) (hy y (List.mem_cons_self ..)), ihx (fun e he => hx e (List.mem_cons_of_mem _ he)) fun e he => hy e (List.mem_cons_of_mem _ he)]
              by_cases a : keyOf x = keyOf y
              · by_cases b : keysOf xs = keysOf ys
                · simp [a, b]
                · simp [a, b]
              · simp [a]
        rw [core (all_ok_mem h1) (all_ok_mem h2)]
        by_cases h : keysOf ds = keysOf es
        · simp [h]
        · simp [h]
      | _ => cases h2
    | _ => cases h1
theorem key_eqv {d e : D} (h1 : keyOk d = true) (h2 : keyOk e = true) : PyData.eqv d e = decide (keyOf d = keyOf e) := eqvN 8 (key_okN h1) (key_okN h2)

/-! ### the table, its keys and values in turn -/
abbrev Xs := List (NestedKey × Addr × Value)
inductive XS : Xs → List V → List D → Prop
  | nil : XS [] [] []
  | cons {b : Addr} {val : Value} {v : V} {kd d : D} {xs : Xs} {vs : List V} {ds : List D} : keyOk kd = true → RelV v val → XS xs vs ds → XS ((keyOf kd, b, val) :: xs) (.ref b :: v :: vs) (kd :: d :: ds)
theorem XS.of {P : Program} {w : World} : ∀ {es : List DictEntry} {vs : List V} {ds : List D}, Ents es vs ds → ∃ xs, es = xs.map (entryOfKey (nestedKind P w)) ∧ XS xs vs ds
  | _, _, _, .nil => ⟨[], rfl, .nil⟩
  | _, _, _, .cons (e := e) (b := b) (kd := kd) hk hh he hv r => by
    obtain ⟨xs, h1, h2⟩ := XS.of (P := P) (w := w) r
    refine ⟨(keyOf kd, b, e.val) :: xs, ?_, .cons hk hv h2⟩
    rw [List.map_cons, h1]
    congr 1
    obtain ⟨eh, ek, ev⟩ := e
    have hh' : eh = (keyOf kd).hash w := hh w
    have he' : ek = .ref b := he
    rw [hh', he']
    rfl
theorem XS.to {P : Program} {w : World} : ∀ {xs : Xs} {vs : List V} {ds : List D}, XS xs vs ds → Ents (xs.map (entryOfKey (nestedKind P w))) vs ds
  | _, _, _, .nil => .nil
  | _, _, _, .cons hk hv r => .cons hk (fun w' => hashN 8 (key_okN hk) w w') rfl hv (XS.to r)
theorem XS.keys : ∀ {xs : Xs} {vs : List V} {ds : List D}, XS xs vs ds → xs.map (·.1) = (dKeys ds).map keyOf
  | _, _, _, .nil => rfl
  | _, _, _, .cons hk hv r => by
    show _ :: _ = _ :: _
    rw [XS.keys r]
theorem XS.len : ∀ {xs : Xs} {vs : List V} {ds : List D}, XS xs vs ds → ds.length = 2 * xs.length
  | _, _, _, .nil => rfl
  | _, _, _, .cons hk hv r => by
    show _ + 1 + 1 = _
    rw [XS.len r, List.length_cons]; omega
section
variable {X : Cx} {pins : List (Addr × Obj)} {σ : St} {H : Hp} {s : Shared} {M : Mset}
theorem XS.is (I : Inv X pins σ H s) : ∀ {xs : Xs} {vs : List V} {ds : List D}, XS xs vs ds → Reps X.K H M vs ds → ∀ x ∈ xs, (nestedKind X.prog X.w).is s.heap x.1 x.2.1
  | _, _, _, .nil, _, x, hx => by cases hx
  | _, _, _, .cons hk hv r, .cons q1 (.cons q2 q), x, hx => by
    rcases List.mem_cons.mp hx with rfl | hx
    · obtain ⟨b, e1, e2, e3⟩ := key_is I hk q1 (show RelV (.ref _) (.ref _) from rfl)
      cases e1
      exact e3
    · exact XS.is I r q x hx
/-- what stands at a name's own dict -/
theorem dic_of (I : Inv X pins σ H s) {a : Addr} {vs : List V} {ds : List D} (e : H a = some (dicO a vs ds)) (r : Reps X.K H M vs ds) :
    ∃ xs, s.heap.DictOfH (nestedKind X.prog X.w) a xs ∧ XS xs vs ds ∧ (a == sysModules) = false := by
  obtain ⟨⟨o, es, ep, h1, h2, h3, h4, h5, h6⟩, _⟩ := I.hok a _ e
  obtain ⟨xs, h7, h8⟩ := XS.of (P := X.prog) (w := X.w) h4
  exact ⟨xs, ⟨o, es, ep, h1, h2, h3, h7, h8.is I r, by rw [h8.keys]; exact h5⟩, h8, h6⟩
end
theorem dic_new {P : Program} {w : World} {H' : Hp} {h' : Heap} {a : Addr} {xs : Xs} {vs : List V} {ds : List D} (dd : h'.DictOfH (nestedKind P w) a xs) (x : XS xs vs ds) (hd : (a == sysModules) = false) : ObjOk P w H' h' a (dicO a vs ds) := by
  obtain ⟨o, es, ep, h1, h2, h3, h4, _, h5⟩ := dd
  refine ⟨⟨o, es, ep, h1, h2, h3, by rw [h4]; exact x.to, by rw [← x.keys]; exact h5, hd⟩, ⟨o, h1⟩, fun g1 g2 ⟨o', es', ep', k1, k2⟩ hk => ⟨o', es', ep', hk _ k1, k2⟩⟩
/-! a look, a store -/
def dGet : List D → D → Option D
  | k :: v :: r, d => if PyData.eqv k d = true then some v else dGet r d
  | _, _ => none
def dPut : List D → D → D → List D
  | k :: v :: r, d, x => if PyData.eqv k d = true then k :: x :: r else k :: v :: dPut r d x
  | _, d, x => [d, x]
theorem atKey_cons {y : NestedKey × Addr × Value} {xs : Xs} {k : NestedKey} : atKey (y :: xs) k = if y.1 = k then some y.2 else atKey xs k := by
  unfold atKey
  rw [List.find?_cons]
  by_cases h : y.1 = k
  · simp [h]
  · simp [h]
theorem XS.get {K : PySem.W.Frag} {H : Hp} {M : Mset} {kd : D} (hk : keyOk kd = true) : ∀ {xs : Xs} {vs : List V} {ds : List D}, XS xs vs ds → Reps K H M vs ds →
    (dGet ds kd = none ∧ atKey xs (keyOf kd) = none) ∨ ∃ d p v, dGet ds kd = some d ∧ atKey xs (keyOf kd) = some p ∧ RelV v p.2 ∧ Rep K H M v d
  | _, _, _, .nil, _ => .inl ⟨rfl, rfl⟩
  | _, _, _, .cons (kd := kd') (d := d') hk' hv r, .cons q1 (.cons q2 q) => by
    rw [atKey_cons]
    unfold dGet
    rw [key_eqv hk' hk]
    by_cases h : keyOf kd' = keyOf kd
    · refine .inr ⟨d', _, _, by rw [if_pos (decide_eq_true h)], by rw [if_pos h], hv, q2⟩
    · rw [if_neg (by simpa using h), if_neg h]
      exact XS.get hk r q
theorem stored_cons {y : NestedKey × Addr × Value} {xs : Xs} {k : NestedKey} {a : Addr} {v : Value} (hn : ((y :: xs).map (·.1)).Nodup) : storedH (y :: xs) k a v = if y.1 = k then (y.1, y.2.1, v) :: xs else y :: storedH xs k a v := by
  rw [List.map_cons, List.nodup_cons] at hn
  unfold storedH
  rw [atKey_cons]
  by_cases h : y.1 = k
  · rw [if_pos h, if_pos h]
    simp only [Option.isSome_some, if_true]
    rw [List.map_cons, map_putAt_of_not_mem xs k v (by rw [← h]; exact hn.1)]
    unfold putAt
    rw [if_pos h]
  · rw [if_neg h, if_neg h]
    split
    · rw [List.map_cons]
      unfold putAt
      rw [if_neg h]
    · rfl
theorem XS.put {K : PySem.W.Frag} {H : Hp} {M : Mset} {kd d : D} {b : Addr} {v : V} {val : Value} (hk : keyOk kd = true) (hv : RelV v val) (rk : Rep K H M (.ref b) kd) (rv : Rep K H M v d) : ∀ {xs : Xs} {vs : List V} {ds : List D}, XS xs vs ds → Reps K H M vs ds → (xs.map (·.1)).Nodup →
    ∃ vs', XS (storedH xs (keyOf kd) b val) vs' (dPut ds kd d) ∧ Reps K H M vs' (dPut ds kd d)
  | _, _, _, .nil, _, _ => ⟨[.ref b, v], .cons hk hv .nil, .cons rk (.cons rv .nil)⟩
  | _, _, _, .cons (kd := kd') (d := d') (b := b') (v := v') hk' hv' r, .cons q1 (.cons q2 q), hn => by
    rw [stored_cons hn]
    unfold dPut
    rw [key_eqv hk' hk]
    rw [List.map_cons, List.nodup_cons] at hn
    by_cases h : keyOf kd' = keyOf kd
    · rw [if_pos h, if_pos (decide_eq_true h)]
      exact ⟨_, .cons hk' hv r, .cons q1 (.cons rv q)⟩
    · rw [if_neg h, if_neg (by simpa using h)]
      obtain ⟨vs', h1, h2⟩ := XS.put hk hv rk rv r q hn.2
      exact ⟨_, .cons hk' hv' h1, .cons q1 (.cons q2 h2)⟩

section
variable {K : PySem.W.Frag} {H : Hp} {M O : Mset} {π : Nat → Option Addr} {ρ : Fm} {σ : St} {Q : VK}
theorem Post.cell {ds : List D} {vs : List V} {b : Kd} (q : Post K H M O π ρ σ (.own b ds) Q) (h : SR K H M O π ρ σ) (r : Reps K H M vs ds) {p : Addr} (hp : H p = none) : Q (.ref p) (upd H p (cell b p vs ds)) := by
  refine q _ _ (wth M p) (.allocOwn h hp) (h.allocOwn hp) ⟨p, vs, rfl, upd_same, .inr rfl, fun z => h.live p (h.sub p z) hp, r.tr (alloc_tr_own h hp), fun i b ds e e1 => ?_⟩
  obtain ⟨a, ws, f1, f2, _⟩ := h.own i b ds e
  rw [e1] at f1; cases f1
  rw [hp] at f2; cases f2
end
theorem VW.key {K : PySem.W.Frag} {H : Hp} {M : Mset} {v : V} {d : D} (r : VW K H M v d) (hk : keyOk d = true) : Rep K H M v d := by
  obtain ⟨ds, rfl⟩ := key_tup hk
  exact r
theorem dic_empty {P : Program} {w : World} {H : Hp} (h : Heap) (hb : sysModules < h.objs.size) : ObjOk P w H (h.push { cls := .type "dict", data := .dict #[] }) h.objs.size (dicO h.objs.size [] []) :=
  dic_new (Heap.DictOfH.new h) .nil (beq_eq_false_iff_ne.mpr (Ne.symm (Nat.ne_of_lt hb)))
def tDNew : TE := fun _ H Q => ∀ p, H p = none → Q (.ref p) (upd H p (dicO p [] []))
section
variable {X : Cx} {pos : Pos} {o i e k st_e : Expr} {td ty tv : TE} {me mk : ME}
theorem pe_dnew0 : PE X (.Dict [] [] pos) tDNew := ⟨fun pins s σ H Q I h =>
  wpAny_Dict_empty ⟨.ref s.heap.objs.size, _, I.laid (a := s.heap.objs.size) (o := dicO s.heap.objs.size [] []) (t' := s.toks) (fun _ _ q => Heap.get?_push_of_some _ q) (Nat.le_refl _) (dic_empty s.heap I.big), rfl, h _ (I.hok.fresh (Nat.le_refl _))⟩⟩
/-- {} -/
def mDNew : ME := fun ρ => some (.val (.own .dic []), ρ)
theorem de_dnew : DE X (.Dict [] [] pos) mDNew := PE.imp pe_dnew0 fun σ H Q ⟨ρ, M, O, π, pr, ρ', h, e, q⟩ => by
  cases e
  exact fun p hp => Post.cell (b := .dic) (fun v H' M' x2 => q v H' M' x2) h .nil hp
/-- k in d, k not in d -/
def tInDic (K : PySem.W.Frag) (neg : Bool) (ty td : TE) : TE := fun σ H Q => ty σ H fun y H1 => td σ H1 fun x H2 => ∃ a kd M ds vs, x = .ref a ∧ H2 a = some (dicO a vs ds) ∧ Reps K H2 M vs ds ∧ Rep K H2 M y kd ∧ keyOk kd = true ∧ Q (.bl (neg != (dGet ds kd).isSome)) H2
theorem XS.some {K : PySem.W.Frag} {H : Hp} {M : Mset} {kd : D} {xs : Xs} {vs : List V} {ds : List D} (hk : keyOk kd = true) (x : XS xs vs ds) (r : Reps K H M vs ds) : (atKey xs (keyOf kd)).isSome = (dGet ds kd).isSome := by
  rcases x.get hk r with ⟨h1, h2⟩ | ⟨d, p, v, h1, h2, _⟩
  · rw [h1, h2]; rfl
  · rw [h1, h2]; rfl
theorem pc_inDic (hu : X.A.units + 9 < cLine) (hi : PE X i ty) (ho : PE X o td) : PC X .In i o (tInDic X.K false ty td) := by
  refine ⟨fun pins s σ H Q I h => ?_⟩
  refine thn (hi.run pins s σ H _ I h) fun iv s1 ⟨y, H1, I1, ry, q1⟩ => thn (ho.run pins s1 σ H1 _ I1 q1) fun u s2 ⟨x, H2, I2, rx, a, kd, M, ds, vs, ex, e, r, rk, hk, q2⟩ => ?_
  subst ex
  obtain rfl : u = Value.ref a := rx
  obtain ⟨xs, dd, hx, hd⟩ := dic_of I2 e r
  obtain ⟨b, _, eb, ib⟩ := key_is I2 hk rk ry
  subst eb
  refine in_keyed (knd := nestedKind X.prog X.w) (kvs := pairsH xs) (by show X.A.units + 1 + 8 < cLine; omega) ib hd ⟨xs, dd, rfl⟩ ?_
  refine ⟨.bl _, H2, I2.tok _, ?_, q2⟩
  show Value.bool _ = Value.bool _
  rw [valueAt_pairsH, Option.isSome_map, hx.some hk r]
  simp
theorem pc_notInDic (hu : X.A.units + 9 < cLine) (hi : PE X i ty) (ho : PE X o td) : PC X .NotIn i o (tInDic X.K true ty td) := by
  refine ⟨fun pins s σ H Q I h => ?_⟩
  refine thn (hi.run pins s σ H _ I h) fun iv s1 ⟨y, H1, I1, ry, q1⟩ => thn (ho.run pins s1 σ H1 _ I1 q1) fun u s2 ⟨x, H2, I2, rx, a, kd, M, ds, vs, ex, e, r, rk, hk, q2⟩ => ?_
  subst ex
  obtain rfl : u = Value.ref a := rx
  obtain ⟨xs, dd, hx, hd⟩ := dic_of I2 e r
  obtain ⟨b, _, eb, ib⟩ := key_is I2 hk rk ry
  subst eb
  refine notIn_keyed (knd := nestedKind X.prog X.w) (kvs := pairsH xs) (by show X.A.units + 1 + 8 < cLine; omega) ib hd ⟨xs, dd, rfl⟩ ?_
  refine ⟨.bl _, H2, I2.tok _, ?_, q2⟩
  show Value.bool _ = Value.bool _
  rw [valueAt_pairsH, Option.isSome_map, hx.some hk r]
  simp
def mInD (neg : Bool) (i : Nat) (mk : ME) : ME := fun ρ => match mk ρ with
  | some (pk, ρ1) => match peek ρ1 pk with
    | some kd => match ρ1[i]? with
      | some (some (.own .dic ds)) => if keyOk kd = true then some (.val (.imm (.bool (neg != (dGet ds kd).isSome))), ρ1) else none
      | _ => none
    | none => none
  | none => none
theorem tE_inD {K : PySem.W.Frag} {neg : Bool} {i : Nat} {σ : St} {H : Hp} {Q : VK} (h : tE K (mInD neg i mk) σ H Q) : tInDic K neg (tE K mk) (tVar i) σ H Q := by
  obtain ⟨ρ, M, O, π, pr, ρ', h, e, q⟩ := h
  unfold mInD at e
  split at e
  · rename_i pk ρ1 e1
    split at e
    · rename_i kd e2
      split at e
      · rename_i ds e3
        split at e
        · rename_i hk
          cases e
          refine ⟨ρ, M, O, π, pk, _, h, e1, fun y H1 M1 x1 s1 r1 => ?_⟩
          obtain ⟨a, vs, f1, f2, f3, f4, f5, _⟩ := s1.own i .dic ds e3
          exact ⟨.ref a, f1, a, kd, M1, ds, vs, rfl, f2, f5, (peek_vw s1 r1 e2).key hk, hk, q _ H1 M1 x1 s1 (.bl _)⟩
        · cases e
      · cases e
    · cases e
  · cases e
theorem de_inD {i : Nat} (hu : X.A.units + 9 < cLine) (hk : DE X k mk) (ho : PE X o (tVar i)) (hm : behindInMarks .In o = false) : DE X (.Compare k [.In] [o] pos) (mInD false i mk) :=
  PE.imp (pe_cmp (pc_inDic hu hk ho) hm) fun σ H Q h => tE_inD h
theorem de_notInD {i : Nat} (hu : X.A.units + 9 < cLine) (hk : DE X k mk) (ho : PE X o (tVar i)) (hm : behindInMarks .NotIn o = false) : DE X (.Compare k [.NotIn] [o] pos) (mInD true i mk) :=
  PE.imp (pe_cmp (pc_notInDic hu hk ho) hm) fun σ H Q h => tE_inD h
theorem dt_inD {i : Nat} (hu : X.A.units + 9 < cLine) (hk : DE X k mk) (ho : PE X o (tVar i)) (hm : behindInMarks .In o = false) : DT X (.Compare k [.In] [o] pos) (mB (mInD false i mk)) :=
  PT.imp (pt_cmp (pc_inDic hu hk ho) hm) fun σ H Q h => tE_inD (tT_B h)
theorem dt_notInD {i : Nat} (hu : X.A.units + 9 < cLine) (hk : DE X k mk) (ho : PE X o (tVar i)) (hm : behindInMarks .NotIn o = false) : DT X (.Compare k [.NotIn] [o] pos) (mB (mInD true i mk)) :=
  PT.imp (pt_cmp (pc_notInDic hu hk ho) hm) fun σ H Q h => tE_inD (tT_B h)
/-- d[k] -/
def tDIx (K : PySem.W.Frag) (td ty : TE) : TE := fun σ H Q => td σ H fun x H1 => ty σ H1 fun y H2 => ∃ a kd M ds vs d, x = .ref a ∧ H2 a = some (dicO a vs ds) ∧ Reps K H2 M vs ds ∧ Rep K H2 M y kd ∧ keyOk kd = true ∧ dGet ds kd = some d ∧ ∀ v, Rep K H2 M v d → Q v H2
theorem pe_dix (hu : X.A.units + 9 < cLine) (ho : PE X o td) (hi : PE X i ty) (hs : NoSl i) : PE X (.Subscript o i pos) (tDIx X.K td ty) := by
  refine ⟨fun pins s σ H Q I h => ?_⟩
  refine subD_of PySem.F.slot_dict_getitem.lookup hs (thn (ho.run pins s σ H _ I h) fun u s1 ⟨x, H1, I1, rx, q1⟩ => thn (hi.run pins s1 σ H1 _ I1 q1) fun iv s2 ⟨y, H2, I2, ry, a, kd, M, ds, vs, d, ex, e, r, rk, hk, hg, q2⟩ => ?_)
  subst ex
  obtain rfl : u = Value.ref a := rx
  obtain ⟨xs, dd, hx, hd⟩ := dic_of I2 e r
  obtain ⟨b, _, eb, ib⟩ := key_is I2 hk rk ry
  subst eb
  rcases hx.get hk r with ⟨h1, _⟩ | ⟨d', p, v, h1, h2, h3, h4⟩
  · rw [h1] at hg; cases hg
  · rw [h1] at hg; cases hg
    refine ⟨dd.typeIs, ?_⟩
    exact getItem_keyed (knd := nestedKind X.prog X.w) (kvs := pairsH xs) (by show X.A.units + 1 + 8 < cLine; omega) ib ⟨xs, dd, rfl⟩ (by rw [valueAt_pairsH, h2]; rfl) ⟨v, H2, I2.tok _, h3, q2 v h4⟩
def mDIx (i : Nat) (mk : ME) : ME := fun ρ => match ρ[i]? with
  | some (some (.own .dic _)) => match mk ρ with
    | some (pk, ρ1) => match peek ρ1 pk with
      | some kd => match ρ1[i]? with
        | some (some (.own .dic ds)) => if keyOk kd = true then match dGet ds kd with
          | some d => some (.val (.imm d), ρ1)
          | none => none
          else none
        | _ => none
      | none => none
    | none => none
  | _ => none
theorem de_dix {i : Nat} (hu : X.A.units + 9 < cLine) (ho : PE X o (tVar i)) (hk : DE X k mk) (hs : NoSl k) : DE X (.Subscript o k pos) (mDIx i mk) :=
  PE.imp (pe_dix hu ho hk hs) fun σ H Q ⟨ρ, M, O, π, pr, ρ', h, e, q⟩ => by
    unfold mDIx at e
    split at e
    · rename_i ds0 e0
      obtain ⟨a0, vs0, g1, g2, g3, g4, g5, _⟩ := h.own i .dic ds0 e0
      refine ⟨.ref a0, g1, ?_⟩
      split at e
      · rename_i pk ρ1 e1
        split at e
        · rename_i kd e2
          split at e
          · rename_i ds e3
            split at e
            · rename_i hk
              split at e
              · rename_i d ed
                cases e
                refine ⟨ρ, M, O, π, pk, _, h, e1, fun y H1 M1 x1 s1 r1 => ?_⟩
                obtain ⟨a, vs, f1, f2, f3, f4, f5, _⟩ := s1.own i .dic ds e3
                rw [g1] at f1; cases f1
                exact ⟨a0, kd, M1, ds, vs, d, rfl, f2, f5, (peek_vw s1 r1 e2).key hk, hk, ed, fun v rv => q _ H1 M1 x1 s1 rv⟩
              · cases e
            · cases e
          · cases e
        · cases e
      · cases e
    · cases e
/-- d[k] = v -/
def rSetDic (K : PySem.W.Frag) : TSet := fun o i v H Q => ∃ a kd d M ds vs, o = .ref a ∧ H a = some (dicO a vs ds) ∧ Reps K H M vs ds ∧ Rep K H M i kd ∧ Rep K H M v d ∧ keyOk kd = true ∧ ds.length ≤ sizeLine ∧ ∀ vs', Reps K H M vs' (dPut ds kd d) → Q (upd H a (dicO a vs' (dPut ds kd d)))
theorem set_dic (hu : X.A.units + 9 < cLine) : PSet X (rSetDic X.K) := by
  intro pins s σ H o i v ov iv u Q I ro ri rv h
  obtain ⟨a, kd, d, M, ds, vs, ex, e, r, rk, rd, hk, hz, q⟩ := h
  subst ex
  obtain rfl : ov = Value.ref a := ro
  obtain ⟨xs, dd, hx, hd⟩ := dic_of I e r
  obtain ⟨b, e3, eb, ib⟩ := key_is I hk rk ri
  subst eb e3
  obtain ⟨vs', h1, h2⟩ := XS.put hk rv rk rd hx r dd.nodup
  have hl := hx.len
  refine wpAny_setItem_heap (knd := nestedKind X.prog X.w) (hsz := by omega) (by show X.A.units + 1 + 8 < cLine; omega) ib dd fun h' dd' hs => ⟨_, ?_, q vs' h2⟩
  have he : ∃ q, h'.get? a = some q := let ⟨q, _, _, hq, _⟩ := dd'; ⟨q, hq⟩
  exact d_write I (by rw [e]; exact True.intro) hs he (dic_new dd' h1 hd)
def mDPut (i : Nat) (mk me : ME) : MS := fun ρ => match me ρ with
  | some (pr, ρ1) => match frz ρ1 pr with
    | some (d, ρ2) => match ρ2[i]? with
      | some (some (.own .dic _)) => match mk ρ2 with
        | some (pk, ρ3) => match peek ρ3 pk with
          | some kd => match ρ3[i]? with
            | some (some (.own .dic ds)) => if (keyOk kd && fits ds.length) = true then some (.next, ρ3.set i (some (.own .dic (dPut ds kd d)))) else none
            | _ => none
          | none => none
        | none => none
      | _ => none
    | none => none
  | none => none
theorem ds_dput {st : Stmt} {i : Nat} (h : ∀ te tk, PE X e te → PE X k tk → PS X st (tAsg te (gSub (tVar i) tk (rSetDic X.K)))) (he : DE X e me) (hk : DE X k mk) : DS X st (mDPut i mk me) :=
  PS.imp (h _ _ he hk) fun D σ H ⟨ρ, M, O, π, fl, ρ', h, e, q⟩ => by
    unfold mDPut at e
    split at e
    · rename_i pr ρ1 e1
      split at e
      · rename_i d ρ2 e2
        split at e
        · rename_i ds0 e0
          split at e
          · rename_i pk ρ3 e3
            split at e
            · rename_i kd e4
              split at e
              · rename_i ds e5
                split at e
                · rename_i hz
                  cases e
                  rw [Bool.and_eq_true] at hz
                  refine ⟨ρ, M, O, π, pr, ρ1, h, e1, fun v H1 M1 x1 s1 r1 => ?_⟩
                  obtain ⟨M2, x2, s2, r2⟩ := frz_ok s1 r1 e2
                  obtain ⟨a, vs, f1, f2, f3, f4, f5, f6⟩ := s2.own i .dic ds0 e0
                  refine ⟨.ref a, f1, ρ2, M2, O, π, pk, ρ3, s2, e3, fun w H3 M3 x3 s3 r3 => ?_⟩
                  obtain ⟨a', ws, g1, g2, g3, g4, g5, g6⟩ := s3.own i .dic ds e5
                  rw [f1] at g1; cases g1
                  refine ⟨a, kd, d, M3, ds, ws, rfl, g2, g5, (peek_vw s3 r3 e4).key hz.1, r2.tr x3.tr, hz.1, fits_le hz.2, fun vs' hr => ?_⟩
                  obtain ⟨s4, x4, t4⟩ := s3.writeC (b := .dic) (ws := vs') (es := dPut ds kd d) e5 f1 hr
                  exact q _ _ M3 (((x1.trans x2).trans x3).trans x4) s4
                · cases e
              · cases e
            · cases e
          · cases e
        · cases e
      · cases e
    · cases e
end
end Vi

namespace Vi
open PySem PySem.Spec PyProof.Rows L2
section
variable {X : Cx} {pos : Pos} {e k : Expr} {tk tv : TE} {me mk : ME}
/-- {k: v} -/
def tDisp1 (K : PySem.W.Frag) (tk tv : TE) : TE := fun σ H Q => ∀ p, H p = none → tk σ (upd H p (dicO p [] [])) fun y H1 => tv σ H1 fun v H2 => H2 p = some (dicO p [] []) ∧ ∃ M kd d, Rep K H2 M y kd ∧ Rep K H2 M v d ∧ keyOk kd = true ∧ Q (.ref p) (upd H2 p (dicO p [y, v] [kd, d]))
theorem pe_disp1 (hu : X.A.units + 9 < cLine) (hk : PE X k tk) (hv : PE X e tv) : PE X (.Dict [some k] [e] pos) (tDisp1 X.K tk tv) := by
  refine ⟨fun pins s σ H Q I q => ?_⟩
  have hn := I.hok.fresh (Nat.le_refl s.heap.objs.size)
  have I1 := I.laid (a := s.heap.objs.size) (o := dicO s.heap.objs.size [] []) (h' := s.heap.push { cls := .type "dict", data := .dict #[] }) (t' := s.toks) (fun _ _ q => Heap.get?_push_of_some _ q) (Nat.le_refl _) (dic_empty s.heap I.big)
  have q' := q _ hn
  rw [arm_eval_Dict, zip_pairTrees [some k] [e] X.env pos rfl rfl, dictDisplay_pairs (pairTrees [some k] [e] X.env pos) (by intro z; cases z) (by show 1 < 17; decide)]
  refine wpAny_bind (wpAny_standAt (wpAny_bind (wpAny_subDictH (knd := nestedKind X.prog X.w) (by show X.A.units + 8 < cLine; omega) (by show 1 ≤ 15; decide) ?_)))
  refine thn ((pps_cons (pos := pos) hk hv pps_nil).run pins _ σ _ (fun ps H2 => match ps with | [(y, v)] => (H2 s.heap.objs.size = some (dicO s.heap.objs.size [] []) ∧ ∃ M kd d, Rep X.K H2 M y kd ∧ Rep X.K H2 M v d ∧ keyOk kd = true ∧ Q (.ref s.heap.objs.size) (upd H2 s.heap.objs.size (dicO s.heap.objs.size [y, v] [kd, d]))) | _ => False) I1 q') fun ws s2 ⟨ps, H2, I2, rel, q2⟩ => ?_
  match ps, rel, q2 with
  | [(y, v)], .cons (b := (u, val)) ⟨ry, rv⟩ .nil, ⟨e2, M, kd, d, rk, rd, hkd, q3⟩ =>
    obtain ⟨b, e3, e4, ib⟩ := key_is I2 hkd rk ry
    have e4' : u = .ref b := e4
    subst e3 e4'
    obtain ⟨xs, dd, hx, hd⟩ := dic_of I2 e2 (M := M) .nil
    cases hx
    refine ⟨[(keyOf kd, b, val)], ⟨rfl, rfl, ib, True.intro⟩, dd, fun h' tk dd' hs => wpAny_pure ⟨.ref s.heap.objs.size, _, ?_, rfl, q3⟩⟩
    have he : ∃ q, h'.get? s.heap.objs.size = some q := let ⟨q, _, _, hq, _⟩ := dd'; ⟨q, hq⟩
    exact d_write I2 (by rw [e2]; exact True.intro) hs he (dic_new dd' (.cons hkd rv .nil) hd)
def mDOne (mk me : ME) : ME := fun ρ => match mk ρ with
  | some (pk, ρ1) => match frz ρ1 pk with
    | some (kd, ρ2) => match me ρ2 with
      | some (pr, ρ3) => match frz ρ3 pr with
        | some (d, ρ4) => if keyOk kd = true then some (.val (.own .dic [kd, d]), ρ4) else none
        | none => none
      | none => none
    | none => none
  | none => none
theorem de_done (hu : X.A.units + 9 < cLine) (hk : DE X k mk) (he : DE X e me) : DE X (.Dict [some k] [e] pos) (mDOne mk me) := PE.imp (pe_disp1 hu hk he) fun σ H Q ⟨ρ, M, O, π, pr0, ρ', h, e, q⟩ => by
  unfold mDOne at e
  split at e
  · rename_i pk ρ1 e1
    split at e
    · rename_i kd ρ2 e2
      split at e
      · rename_i pr ρ3 e3
        split at e
        · rename_i d ρ4 e4
          split at e
          · rename_i hkd
            cases e
            intro p hp
            have s0 := (h.allocOwn hp (o := dicO p [] [])).more (O' := wth O p) (fun a z => z.elim (fun z => .inl (h.sub a z)) .inr) fun i b ds a f f1 z => by
              obtain ⟨a', ws, g1, g2, g3, g4, _⟩ := h.own i b ds f
              rw [f1] at g1; cases g1
              exact z.elim g4 fun z => by rw [z, hp] at g2; cases g2
            refine ⟨ρ, _, _, π, pk, ρ1, s0, e1, fun y H1 M1 x1 s1 r1 => ?_⟩
            obtain ⟨M2, x2, s2, r2⟩ := frz_ok s1 r1 e2
            refine ⟨ρ2, M2, _, π, pr, ρ3, s2, e3, fun v H3 M3 x3 s3 r3 => ?_⟩
            obtain ⟨M4, x4, s4, r4⟩ := frz_ok s3 r3 e4
            have x := ((x1.trans x2).trans x3).trans x4
            have hH : H3 p = some (dicO p [] []) := x.keep p _ upd_same (.inl (.inr rfl))
            have hM : M4 p := x.sub p (.inr rfl)
            have rk : Rep X.K H3 M4 y kd := r2.tr (x3.trans x4).tr
            have t : ∀ {o : HO} a u, Rd H3 a u → ¬ M4 a → Rd (upd H3 p o) a u ∧ ¬ M4 a := fun {o} a u z n => by
              have ne : a ≠ p := fun w => n (w ▸ hM)
              refine ⟨?_, n⟩
              rcases z with z | ⟨o', z⟩
              · exact .inl (by rw [upd_ne ne]; exact z)
              · exact .inr ⟨o', by rw [upd_ne ne]; exact z⟩
            refine ⟨hH, M4, kd, d, rk, r4, hkd, ?_⟩
            refine q (.ref p) _ M4 ⟨fun a u f z => ?_, fun a z => x.sub a (.inl z), fun a z => ?_⟩ ((s4.writeO hM (.inr rfl)).less fun a z => .inl z) ⟨p, [y, v], rfl, upd_same, hM, fun z => h.live p (h.sub p z) hp, .cons (rk.tr t) (.cons (r4.tr t) .nil), fun i b ds f f1 => ?_⟩
            · have ne : a ≠ p := fun w => by rw [w, hp] at f; cases f
              rw [upd_ne ne]
              exact x.keep a u (by rw [upd_ne ne]; exact f) (z.imp .inl fun n w => w.elim n ne)
            · rcases x.new a z with w | w
              · rcases w with w | w
                · exact .inl w
                · exact .inr (by rw [w]; exact hp)
              · by_cases ne : a = p
                · exact .inr (by rw [ne]; exact hp)
                · rw [upd_ne ne] at w; exact .inr w
            · obtain ⟨a', ws, g1, g2, g3, g4, _⟩ := s4.own i b ds f
              rw [f1] at g1; cases g1
              exact g4 (.inr rfl)
          · cases e
        · cases e
      · cases e
    · cases e
  · cases e
end
theorem room9 {A : Around} {k : Nat} (r : Room k A) : A.units + 9 < cLine := by have := r.un; omega
end Vi

namespace Vi
open PySem PySem.Spec PyProof.Rows L2
/-! sorted(d) -/
section
variable {prog : Program} {w : World} {A : Around} {E : Value → Shared → Prop} {s : Shared} {β : Type} {vs : List Value} {bs : List β} {enc : β → PyData} {R : Value → β → Prop}
theorem items_eq {es : Array DictEntry} {acc : Array Value} (h : ItemsOf (fun i v => ∃ hi : i < es.size, v = es[i].key) acc es.size) : acc.toList = es.toList.map (·.key) := by
  refine List.ext_getElem? fun i => ?_
  rw [Array.getElem?_toList, List.getElem?_map, Array.getElem?_toList]
  by_cases hi : i < es.size
  · have ha : i < acc.size := by rw [h.1]; exact hi
    rw [Array.getElem?_eq_getElem ha, Array.getElem?_eq_getElem hi]
    obtain ⟨_, e⟩ := h.2 i acc[i] (Array.getElem?_eq_getElem ha)
    rw [e]; rfl
  · rw [Array.getElem?_eq_none (by rw [h.1]; omega), Array.getElem?_eq_none (by omega)]; rfl
theorem sorted_dic {l : Addr} {es : Array DictEntry} {ep : Nat} {Q : Value → Shared → Prop} (hh : A.in1.handled = none) (hr : s.heap.DictRaw l es ep) (lo : (l == sysModules) = false) (hv : es.toList.map (·.key) = vs) (e : W.EachIs R vs bs)
    (er : W.EachIs (fun v b => ∃ as, Reads s.heap v (enc b) as) vs bs) (hal : W.AllAlike (bs.map enc)) (hk : W.Sortable (bs.map enc)) (hL : bs.length ≤ sizeLine) (hu : ∀ b, b ∈ bs → A.units + 2 + (enc b).depth < cLine)
    (h : ∀ (h' : Heap) (tk : Nat) (out : List Value), out.length = bs.length → (∀ b o', s.heap.get? b = some o' → h'.get? b = some o') → W.EachIs R out (bs.mergeSort (W.dataLe false enc)) → Q (.ref h'.objs.size) { s with heap := sortedHeap (h'.push (seqObj "list" vs.toArray 0)) h'.objs.size vs out.toArray, toks := tk }) :
    wpAny (model prog w) A (call (.builtin "sorted") [.ref l]) Q E s := by
  have hlen := e.length
  have hes : es.size = vs.length := by rw [← hv, List.length_map, Array.length_toList]
  refine call_function_entry_kw kind_sorted plain_sorted entry_sorted (args_sorted1 _) ?_
  unfold Builtin.«sorted»
  refine wpAny_bind (m := checkCount "sorted" 1 1 _) (wpAny_pure ?_)
  refine wpAny_bind (PySem.W.kdu_collect (A := A.in1) (PySem.KdlSrc.rawDict (es := es) (ep := ep) lo) hh hr (by rw [hes]; omega) fun h' tk acc kp hacc => ?_)
  have hacc' := items_eq hacc
  rw [hv] at hacc'
  rw [hacc']
  refine wpAny_bind (wpAny_newList ?_ (by show vs.length ≤ _; omega))
  have at_ : (h'.push (seqObj "list" vs.toArray 0)).get? h'.objs.size = some (seqObj "list" vs.toArray 0) := Heap.get?_push_size _ rfl
  have kp2 : ∀ b o', s.heap.get? b = some o' → (h'.push (seqObj "list" vs.toArray 0)).get? b = some o' := fun b o' q => Heap.get?_push_of_some _ (kp b o' q)
  have ne : ∀ b o', h'.get? b = some o' → b ≠ h'.objs.size := fun b o' q => Nat.ne_of_lt (Heap.lt_size q)
  have er' : W.EachIs (fun v b => ∃ as, Reads (W.sortingHeap (h'.push (seqObj "list" vs.toArray 0)) h'.objs.size vs) v (enc b) as) vs bs :=
    er.mono fun _ _ ⟨as, r⟩ => ⟨as, PyProof.Rows.Reads.keeps (fun b o' q => W.sortingHeap_old (ne b o' (kp b o' q)) (kp2 b o' q)) r⟩
  refine wpAny_bind (wpAny_holding (wpAny_call_entry_kw slot_list_sort ⟨_, at_, rfl⟩ entry_list_sort ?body (args_list_sort _)))
  case body =>
    show wpAny (model prog w) A.in1.in1 (Builtin.«list.sort» ⟨[.ref h'.objs.size], []⟩) _ _ { s with heap := h'.push (seqObj "list" vs.toArray 0), toks := tk }
    refine wpAny_mono (W.list_sort_vals (κ := W.dataKind (W.sortingHeap (h'.push (seqObj "list" vs.toArray 0)) h'.objs.size vs) (bs.map enc)) (P := fun f s' => f = .done (.ret .none) ∧ Q (.ref h'.objs.size) s') at_ (W.SortsAt.data (s := { s with heap := W.sortingHeap (h'.push (seqObj "list" vs.toArray 0)) h'.objs.size vs, toks := tk }) (W.each_map (R := fun v d => ∃ as, Reads (W.sortingHeap (h'.push (seqObj "list" vs.toArray 0)) h'.objs.size vs) v d as) enc er') hal hk (W.bound_map hu)) (by omega) ⟨rfl, ?_⟩) (fun f s' hf => ?_) fun _ _ e => e
    · exact h h' tk _ (by rw [W.sortVals_length false rfl]; exact hlen) kp (W.sortVals_data false e er' hal)
    · obtain ⟨rfl, hq⟩ := hf
      exact ⟨_, rfl, wpAny_pure ⟨_, rfl, hq⟩⟩
end
def vKeys : List V → List V
  | k :: _ :: r => k :: vKeys r
  | _ => []
theorem XS.vals : ∀ {xs : Xs} {vs : List V} {ds : List D}, XS xs vs ds → Vals (vKeys vs) (xs.map fun x => Value.ref x.2.1)
  | _, _, _, .nil => .nil
  | _, _, _, .cons hk hv r => .cons rfl (XS.vals r)
theorem Reps.keys {K : PySem.W.Frag} {H : Hp} {M : Mset} : ∀ {xs : Xs} {vs : List V} {ds : List D}, XS xs vs ds → Reps K H M vs ds → Reps K H M (vKeys vs) (dKeys ds)
  | _, _, _, .nil, _ => .nil
  | _, _, _, .cons hk hv r, .cons q1 (.cons q2 q) => .cons q1 (Reps.keys r q)
section
variable {X : Cx}
/-- sorted(d) of an own dict -/
def rSortDic (K : PySem.W.Frag) : List V → Hp → VK → Prop := fun vs H Q => ∃ (a : Addr) (M : Mset) (ws : List V) (ds : List D), vs = [.ref a] ∧ H a = some (dicO a ws ds) ∧ Reps K H M ws ds ∧ sortOk (dKeys ds) = true ∧
  ∀ out, Reps K H M out (sortD (dKeys ds)) → ∀ p, H p = none → Q (.ref p) (upd H p (.lst out))
theorem cr_sortDic (hcalm : X.calm = true) (hu : X.A.units + 70 < cLine) : CallR X (.builtin "sorted") (rSortDic X.K) := by
  intro pins s σ H vs us Q I r h
  obtain ⟨a, M, ws, ds, rfl, e0, rs, hok, q⟩ := h
  rw [Vals.ref1 r]
  obtain ⟨xs, dd, hx, hd⟩ := dic_of I e0 rs
  obtain ⟨o, es, ep, h1, h2, h3, h4, _, h5⟩ := id dd
  have rk := Reps.keys hx rs
  have rv := hx.vals
  have hkeys : es.toList.map (·.key) = xs.map fun x => Value.ref x.2.1 := by
    rw [h4, List.map_map]; rfl
  generalize hits : (xs.map fun x => Value.ref x.2.1) = its at *
  have hlen : (vKeys ws).length = (dKeys ds).length := rk.length
  obtain ⟨as, hr⟩ := Dp.readsAll I (dKeys ds) (vKeys ws) its (rk.dp (sortOk_lay hok)) rv
  have hzl : ((vKeys ws).zip (dKeys ds)).length = (dKeys ds).length := by rw [List.length_zip, hlen, Nat.min_self]
  have e : W.EachIs (fun u (b : V × D) => RelV b.1 u) its ((vKeys ws).zip (dKeys ds)) := each_zip rv hlen fun i u x d _ _ _ r => r
  have er : W.EachIs (fun u (b : V × D) => ∃ as, Reads s.heap u (id (Prod.snd b)) as) its ((vKeys ws).zip (dKeys ds)) := each_zip rv hlen fun i u x d h1 _ h3 _ => readsAll_get hr h1 h3
  have em : ((vKeys ws).zip (dKeys ds)).map (fun b => id (Prod.snd b)) = dKeys ds := zip_snd hlen
  refine sorted_dic (enc := fun b : V × D => id b.2) (R := fun u (b : V × D) => RelV b.1 u) (I.ok.hd hcalm) ⟨o, h1, h2, h3⟩ hd hkeys e er (by rw [em]; exact sortOk_al hok) (by rw [em]; exact sortOk_so hok) (by rw [hzl]; exact sortOk_len hok) (fun b hb => ?_) fun h' tk out hol kp ho2 => ?_
  · have hm : b.2 ∈ dKeys ds := by rw [← em]; exact List.mem_map.mpr ⟨b, hb, rfl⟩
    have := sortOk_dp hok _ hm
    show X.A.units + 2 + b.2.depth < cLine
    omega
  · rw [isort_eq (le := W.dataLe false fun b : V × D => id b.2) (W.sortLe_total _ _ _)] at ho2
    have I1 : Inv X pins σ H { s with heap := h', toks := tk } := I.kept kp
    have hz : ((isort (fun a b : V × D => leD a.2 b.2) ((vKeys ws).zip (dKeys ds))).map Prod.fst).length ≤ sizeLine := by
      rw [List.length_map, (isort_perm _).length_eq, hzl]; exact sortOk_len hok
    have hpush : (h'.push (seqObj "list" its.toArray 0)).get? h'.objs.size = some (seqObj "list" its.toArray 0) := Heap.get?_push_size _ rfl
    obtain ⟨e1, hat⟩ := sortedHeap_at (out := out.toArray) hpush
    have e2 : sortD (dKeys ds) = (isort (fun a b : V × D => leD a.2 b.2) ((vKeys ws).zip (dKeys ds))).map Prod.snd := by
      rw [isort_map (le := leD) Prod.snd, zip_snd hlen]; rfl
    refine ⟨.ref h'.objs.size, _, I1.laid (t' := tk) (o := .lst ((isort (fun a b : V × D => leD a.2 b.2) ((vKeys ws).zip (dKeys ds))).map Prod.fst)) (fun b u eb => ?_) (Nat.le_refl _) ⟨hz, out, e1, each_vals ho2, hat⟩, rfl, q _ (by rw [e2]; exact reps_sort fun b hb => reps_zip rk b ((isort_perm _).mem_iff.mp hb)) _ I1.fresh⟩
    have hb : b < h'.objs.size := Heap.lt_size eb
    rw [sortedHeap_old (Nat.ne_of_lt hb) (by rw [size_push']; exact Nat.lt_succ_of_lt hb)]
    exact Heap.get?_push_of_some _ eb
/-- sorted(d), d a name's own dict -/
def mSortDic (i : Nat) : ME := fun ρ => match ρ[i]? with
  | some (some (.own .dic ds)) => if sortOk (dKeys ds) = true then some (.val (.own .loc (sortD (dKeys ds))), ρ) else none
  | _ => none
theorem de_sortDic {i : Nat} {x : Str} {a : Expr} {p pos : Pos} (hcalm : X.calm = true) (hu : X.A.units + 70 < cLine) (hg : Gl X x) (hm : X.mg x = none) (hv : bootBuiltins x = some (.builtin "sorted")) (ha : PE X a (tVar i))
    (hn : x ≠ "__name__" := by decide) (hd : (x == ("__debug__" : Str)) = false := by decide) (he : starEach (a :: []) X.env = (false, eval a X.env) :: starEach [] X.env := by rfl) (hpl : (PySem.backTo pos (starEach [] X.env)).any (·.1) = false := by rfl) : DE X (.Call (.Name x p) [a] [] pos) (mSortDic i) :=
  PE.imp (pe_callB (cr_sortDic hcalm hu) hg hm hv (pa_cons ha pa_nil he) hn hd he hpl) fun σ H Q ⟨ρ, M, O, π, pr, ρ', h, e, q⟩ => by
    unfold mSortDic at e
    split at e
    · rename_i ds e0
      split at e
      · rename_i hz
        cases e
        obtain ⟨a', vs, f1, f2, f3, f4, f5, _⟩ := h.own i .dic ds e0
        exact ⟨.ref a', f1, a', M, vs, ds, rfl, f2, f5, hz, fun out hout p hp => Post.lst (Q := Q) (fun v H' M' x2 => q v H' M' x2) h hout hp⟩
      · cases e
    · cases e
end
/-- a name that a comprehension takes for its own becomes fixed ahead, if it holds a list -/
def mFzO (i : Nat) (me : ME) : ME := fun ρ => match ρ[i]? with
  | some (some (.own .loc _)) => mFz i me ρ
  | _ => me ρ
theorem tE_fzO {K : PySem.W.Frag} {σ : St} {H : Hp} {i : Nat} {me : ME} {Q : VK} (h : tE K (mFzO i me) σ H Q) : tE K me σ H Q := by
  obtain ⟨ρ, M, O, π, pr, ρ2, hs, e, q⟩ := h
  unfold mFzO at e
  split at e
  · exact tE_fz ⟨ρ, M, O, π, pr, ρ2, hs, e, q⟩
  · exact ⟨ρ, M, O, π, pr, ρ2, hs, e, q⟩
theorem de_fzO {X : Cx} {e : Expr} {i : Nat} {me : ME} (h : DE X e me) : DE X e (mFzO i me) := PE.imp h fun _ _ _ q => tE_fzO q
end Vi

namespace Vi
open PySem PySem.Spec PyProof.Rows L2
/-! ### a class of exceptions of one's own, whose __init__ does nothing: X() -/
section
variable {X : Cx}
theorem mk_end_bare {pins : List (Addr × Obj)} {σ : L2.St} {H1 H2 : Hp} {hp hp2 h2 : Heap} {g1 g2 : Array GenState} {d1 d2 : Drawn} {t1 t2 : Nat} {os1 os2 : OsState} {a C : Addr} (I1 : Inv X pins σ H1 ⟨hp, g1, d1, t1, os1⟩)
    (ha : hp.objs.size ≤ a) (k : ∀ b o, hp.get? b = some o → hp2.get? b = some o) (un : Un (frs X.stack) [] (upd H1 a (exo a C none)) H2 hp2 h2) (hok : HOk X.prog X.w H2 h2) (ho : os2 = os1) (hb : AllBare g2)
    (ea : H2 a = some (exo a C none)) :
    ∃ (t0 : Addr) (G : Heap), Inv X pins σ (L2.del H2 a) ⟨G, g2, d2, t2, os2⟩ ∧ (∀ b o, G.get? b = some o → h2.get? b = some o) ∧ G.get? a = none ∧
      h2.get? a = some ({ cls := .ref C, dict := none, data := .fields #[.ref t0, .none, .none, .none, .bool false, .none] } : Obj) ∧ (L2.del H2 a) a = none := by
  obtain ⟨t0, hoe⟩ := exo_at hok ea
  have hn : H1 a = none := I1.hok.fresh ha
  obtain ⟨G, g1', g2'⟩ := restrict h2 fun b => decide (b ≠ a)
  have gk : ∀ b, b ≠ a → G.get? b = h2.get? b := fun b hb => g1' b (decide_eq_true hb)
  have ge : G.get? a = none := g2' a (by simp)
  have nha : ∀ {b : Addr} {o : Obj}, hp.get? b = some o → b ≠ a := fun {b o} z => Nat.ne_of_lt (Nat.lt_of_lt_of_le (Heap.lt_size z) ha)
  have up : ∀ {b : Addr}, b ≠ a → H1 b = none → upd H1 a (exo a C none) b = none := fun {b} hb n => by rw [upd_ne hb]; exact n
  have U : Un (frs X.stack) [] H1 (L2.del H2 a) hp G := {
    keep := fun b o z n hf hx => by
      rw [gk b (nha z)]
      exact un.keep b o (k b o z) (up (nha z) n) hf hx
    slot := fun b o z n hf hx => by
      rw [gk b (nha z)]
      exact un.slot b o (k b o z) (up (nha z) n) hf hx
    free := fun b o z n hx => by
      rw [del_ne (nha z)]
      exact un.free b o (k b o z) (up (nha z) n) hx
    there := fun b o z hx => by
      rw [gk b (nha z)]
      exact un.there b o (k b o z) hx
    tups := fun b xs z => by
      rw [del_ne (ne_of_none z hn)]
      exact un.tups b xs (by rw [upd_ne (ne_of_none z hn)]; exact z)
    frzs := fun b o v z => by
      rw [del_ne (ne_of_none z hn)]
      exact un.frzs b o v (by rw [upd_ne (ne_of_none z hn)]; exact z)
    tbls := fun b ps z => by
      rw [del_ne (ne_of_none z hn)]
      exact un.tbls b ps (by rw [upd_ne (ne_of_none z hn)]; exact z) }
  have hok3 : HOk X.prog X.w (L2.del H2 a) G := fun b o z => by
    have hba : b ≠ a := fun e => by
      rw [e, del_same] at z
      cases z
    rw [del_ne hba] at z
    have noa : ∀ {c : Addr}, H2 c = some (.own b) → c ≠ a := fun {c} hc => at_ne ea hc exo_own
    exact (hok b o z).stay (fun c v hc y => by
        have hca : c ≠ a := by
          rcases hc with hc | hc
          · rw [hc]
            exact hba
          · exact noa hc
        rw [gk c hca]
        exact y)
      (fun c hc => by rw [del_ne (noa hc)]; exact hc) (fun c xs hc => by rw [del_ne (at_ne ea hc exo_tup)]; exact hc)
  have J : Inv X pins σ (L2.del H2 a) ⟨G, g2, d2, t2, os2⟩ := I1.call' (ch := []) ho U hok3 hb (fun b z => absurd z (by simp))
  refine ⟨t0, G, J, fun b o z => ?_, ge, hoe, del_same⟩
  by_cases hba : b = a
  · rw [hba, ge] at z
    cases z
  · exact (gk b hba).symm.trans z
/-- what __init__ does: nothing -/
def spInit : Sp := fun vs H Q _ => vs.length = 1 ∧ Q .non H
theorem pmk_bare {x : Str} {C fI : Addr} {k : Nat} {fd : FuncData} {p pos : Pos} (T : OexC X.K C) (iC : PySem.W.findIn X.K (.ref C) "__init__" = some (some (.ref fI))) (tI : PySem.W.typeIn X.K (.ref fI) = some (.type "function"))
    (F1 : FnOk X.prog X.w X.K X.mg X.base CX0 k fI fd ["self"] spInit) (hr : Room (k + 1) X.A) (hb : Binds X.K fd ["self"] []) (hg : Gl X x) (hm : X.mg x = some (.ref C)) (hdb : (x == ("__debug__" : Str)) = false := by decide) :
    PMk X (.Call (.Name x p) [] [] pos) (fun _ H Q => Q (.ref C) none H) := by
  intro pins s σ H Q I h
  obtain ⟨nm, q, N, bs, bm, sn, sub, ab, col, dd, k0, k1, k2, k3, k5, hC, hbm⟩ := T.cls
  refine wpAny_Call_Name_kw (ld_glob I hg hm ?_ hdb)
  refine PySem.W.callWith_K0 I.kIn T.kC ?_
  show wpAny _ _ (call (.ref C) []) _ _ _
  obtain ⟨hp, g, dr, tk, os⟩ := s
  have hsz : hp.objs.size ≤ hp.objs.size + 1 := Nat.le_succ _
  have hn : H (hp.objs.size + 1) = none := I.hok.fresh hsz
  have kk : ∀ b o, hp.get? b = some o → ((hp.push (PySem.W.kdv_tup [])).push (PySem.HandSPX.excO C hp.objs.size)).get? b = some o := fun b o e => Heap.get?_push_of_some _ (Heap.get?_push_of_some _ e)
  have hget : ((hp.push (PySem.W.kdv_tup [])).push (PySem.HandSPX.excO C hp.objs.size)).get? (hp.objs.size + 1) = some (PySem.HandSPX.excO C hp.objs.size) := by heap_get
  have I2 : Inv X pins σ (upd H (hp.objs.size + 1) (exo (hp.objs.size + 1) C none)) ⟨(hp.push (PySem.W.kdv_tup [])).push (PySem.HandSPX.excO C hp.objs.size), g, dr, tk, os⟩ :=
    I.laid (t' := tk) (a := hp.objs.size + 1) (o := exo (hp.objs.size + 1) C none) (h' := (hp.push (PySem.W.kdv_tup [])).push (PySem.HandSPX.excO C hp.objs.size)) kk hsz (exo_ok hget)
  have r2 : Vals [V.ref (hp.objs.size + 1)] [Value.ref (hp.objs.size + 1)] := .cons rfl .nil
  have hl : ([] : List Value).length ≤ sizeLine := Nat.zero_le _
  refine wpAny_call (PySem.HandSPX.call_own PySem.F.excBase_ValueError (fun Y => PySem.HandSPX.refsVE_contains Y bm hbm) (I.kIn _ _ hC) (PySem.W.looks_findIn I.kIn iC) (fun self => PySem.W.bind_fn I.kIn self tI) hl
    (codeAny_mono (F1.run _ X.stack _ _ ⟨Value.ref (hp.objs.size + 1) :: [], []⟩ [Value.ref (hp.objs.size + 1)] _ (fun v H' => v = .non ∧ H' = upd H (hp.objs.size + 1) (exo (hp.objs.size + 1) C none)) (fun _ _ _ => False) (hr.make C [] []) (I2.env0.make C [] []) (hb _ [Value.ref (hp.objs.size + 1)] I2.kIn rfl) r2 ⟨rfl, rfl, rfl⟩) fun r s' hq' => ?_))
  cases r with
  | error er => exact hq'.elim
  | ok fl =>
    cases fl with
    | ret u =>
      obtain ⟨v, H2, os2, bare2, un2, hok2, rv, ev, eH⟩ := hq'
      subst ev eH
      obtain ⟨h2, g2, d2, t2, os'⟩ := s'
      obtain ⟨t0, G, J, kG, ge, hoe, na⟩ := mk_end_bare (d2 := d2) (t2 := t2) I hsz kk un2 hok2 os2 bare2 upd_same
      have eH : L2.del (upd H (hp.objs.size + 1) (exo (hp.objs.size + 1) C none)) (hp.objs.size + 1) = H := by
        funext b
        by_cases hb : b = hp.objs.size + 1
        · rw [hb, del_same, hn]
        · rw [del_ne hb, upd_ne hb]
      rw [eH] at J na
      cases rv
      exact ⟨rfl, _, _, _, ⟨G, g2, d2, t2, os'⟩, _, .ref C, none, rfl, J, kG, ge, hoe, ⟨rfl, rfl⟩, rfl, rfl, na, rfl, bare2, raises_own T.exC T.tyC, h⟩
    | next => exact False.elim hq'
    | brk => exact False.elim hq'
    | cont => exact False.elim hq'
end
end Vi

namespace Vi
open PySem PySem.Spec PyProof.Rows L2
/-! ### statements that may raise: what is raised (its class' name), the names behind it -/
abbrev MX := Fm → Option (Nat × Fm)
section
variable {K : PySem.W.Frag} {cv : Nat → Value}
def tX (K : PySem.W.Frag) (x : MX) (cv : Nat → Value) (W : WX) : L2.St → Hp → Prop := fun σ H => ∃ ρ M O π c ρ', SR K H M O π ρ σ ∧ x ρ = some (c, ρ') ∧ ∀ σ' H' M', Ext O H M H' M' → SR K H' M' O π ρ' σ' → W (cv c) none σ' H'
def tSX (K : PySem.W.Frag) (m : MS) (x : MX) (cv : Nat → Value) (W : WX) : TS := fun D σ H => tS K m D σ H ∨ tX K x cv W σ H
theorem SPost.mono {H : Hp} {M O : Mset} {π : Nat → Option Addr} {D D' : Ends} {ρ' : Fm} {fl : Fl} (q : SPost K H M O π D ρ' fl) (h1 : ∀ σ H, D.nx σ H → D'.nx σ H) (h2 : ∀ v H, D.rt v H → D'.rt v H) (h3 : ∀ σ H, D.bk σ H → D'.bk σ H) (h4 : ∀ σ H, D.ct σ H → D'.ct σ H) : SPost K H M O π D' ρ' fl := by
  cases fl with
  | next => exact fun σ' H' M' x s => h1 _ _ (q σ' H' M' x s)
  | brk => exact fun σ' H' M' x s => h3 _ _ (q σ' H' M' x s)
  | cont => exact fun σ' H' M' x s => h4 _ _ (q σ' H' M' x s)
  | ret r => exact fun v σ' H' M' x s r1 => h2 _ _ (q v σ' H' M' x s r1)
end
section
variable {X : Cx} {st : Stmt} {rest sa sb : List Stmt} {e : Expr} {me : ME} {m n : MS} {x y : MX} {mt : MT} {pos : Pos} {cv : Nat → Value} {W : WX}
def DSX (X : Cx) (s : Stmt) (m : MS) (x : MX) (cv : Nat → Value) (W : WX) : Prop := PS X s (tSX X.K m x cv W)
def DSXs (X : Cx) (s : List Stmt) (m : MS) (x : MX) (cv : Nat → Value) (W : WX) : Prop := PSs X s (tSX X.K m x cv W)
def xNo : MX := fun _ => none
theorem dsx_of (h : DS X st m) : DSX X st m xNo cv W := PS.imp h fun D σ H q => by
  rcases q with q | ⟨_, _, _, _, _, _, _, e, _⟩
  · exact q
  · cases e
def xRaise (c : Nat) : MX := fun ρ => some (c, ρ)
theorem dsx_raise {c : Nat} (hc : X.calm = true) (tk : Takes X W) (mk : PMk X e fun _ H Q => Q (cv c) none H) : DSX X (.Raise (some e) none pos) mNever (xRaise c) cv W := PS.imp (ps_raise hc tk mk) fun D σ H q => by
  rcases q with ⟨_, _, _, _, _, _, _, e, _⟩ | ⟨ρ, M, O, π, c', ρ', h, e, q⟩
  · cases e
  · cases e
    exact q σ H M (.refl h) h
theorem dsxs_one (h : DSX X st m x cv W) : DSXs X [st] m x cv W := pss_one h
theorem dsxs_nil : DSXs X [] mNext xNo cv W := PSs.imp (dss_nil) fun D σ H q => by
  rcases q with q | ⟨_, _, _, _, _, _, _, e, _⟩
  · exact q
  · cases e
def xSeq (m : MS) (x y : MX) : MX := fun ρ => match m ρ with
  | some (.next, ρ1) => y ρ1
  | some _ => none
  | none => x ρ
theorem dsxs_cons (h1 : DSX X st m x cv W) (h2 : DSXs X rest n y cv W) : DSXs X (st :: rest) (mSeq m n) (xSeq m x y) cv W := PSs.imp (pss_cons h1 h2) fun D σ H q => by
  rcases q with ⟨ρ, M, O, π, fl, ρ', h, e, q⟩ | ⟨ρ, M, O, π, c, ρ', h, e, q⟩
  · refine .inl ?_
    unfold mSeq at e
    split at e
    · rename_i ρ1 e1
      exact ⟨ρ, M, O, π, .next, ρ1, h, e1, fun σ1 H1 M1 x1 s1 => .inl ⟨ρ1, M1, O, π, fl, ρ', s1, e, q.later (O1 := O) x1⟩⟩
    · rename_i ρ1 e1
      cases e
      exact ⟨ρ, M, O, π, .brk, _, h, e1, q⟩
    · rename_i ρ1 e1
      cases e
      exact ⟨ρ, M, O, π, .cont, _, h, e1, q⟩
    · rename_i r ρ1 e1
      cases e
      exact ⟨ρ, M, O, π, .ret r, _, h, e1, q⟩
    · cases e
  · unfold xSeq at e
    split at e
    · rename_i ρ1 e1
      exact .inl ⟨ρ, M, O, π, .next, ρ1, h, e1, fun σ1 H1 M1 x1 s1 => .inr ⟨ρ1, M1, O, π, c, ρ', s1, e, fun σ2 H2 M2 x2 s2 => q σ2 H2 M2 (x1.trans x2) s2⟩⟩
    · cases e
    · exact .inr ⟨ρ, M, O, π, c, ρ', h, e, q⟩
def xIf (mt : MT) (x y : MX) : MX := fun ρ => match mt ρ with
  | some (true, ρ1) => x ρ1
  | some (false, ρ1) => y ρ1
  | none => none
theorem dsx_if {c : Expr} (hc : DT X c mt) (ha : DSXs X sa m x cv W) (hb : DSXs X sb n y cv W) : DSX X (.If c sa sb pos) (mIfS mt m n) (xIf mt x y) cv W := PS.imp (ps_if hc ha hb) fun D σ H q => by
  rcases q with ⟨ρ, M, O, π, fl, ρ', h, e, q⟩ | ⟨ρ, M, O, π, c, ρ', h, e, q⟩
  · unfold mIfS at e
    split at e
    · rename_i ρ1 e1
      exact ⟨ρ, M, O, π, true, ρ1, h, e1, fun H1 M1 x1 s1 => iteT (.inl ⟨ρ1, M1, O, π, fl, ρ', s1, e, q.later (O1 := O) x1⟩)⟩
    · rename_i ρ1 e1
      exact ⟨ρ, M, O, π, false, ρ1, h, e1, fun H1 M1 x1 s1 => iteF (.inl ⟨ρ1, M1, O, π, fl, ρ', s1, e, q.later (O1 := O) x1⟩)⟩
    · cases e
  · unfold xIf at e
    split at e
    · rename_i ρ1 e1
      exact ⟨ρ, M, O, π, true, ρ1, h, e1, fun H1 M1 x1 s1 => iteT (.inr ⟨ρ1, M1, O, π, c, ρ', s1, e, fun σ2 H2 M2 x2 s2 => q σ2 H2 M2 (x1.trans x2) s2⟩)⟩
    · rename_i ρ1 e1
      exact ⟨ρ, M, O, π, false, ρ1, h, e1, fun H1 M1 x1 s1 => iteF (.inr ⟨ρ1, M1, O, π, c, ρ', s1, e, fun σ2 H2 M2 x2 s2 => q σ2 H2 M2 (x1.trans x2) s2⟩)⟩
    · cases e
end
/-! ### a def that may raise -/
abbrev FnX := List Sv → Option Nat
def spX (K : PySem.W.Frag) (n : Nat) (f : Fn) (g : FnX) (cv : Nat → Value) : Sp := fun vs H Q E => spD K n f vs H Q E ∨ ∃ M O π args c, vs.length = n ∧ SR K H M O π (args.map some) (vs.map some) ∧ g args = some c ∧
  ∀ H' M', (∀ a, M' a → H' a ≠ none) → Ext O H M H' M' → E (cv c) none H'
def xFn (nN np : Nat) (x : MX) : FnX := fun us => if us.length = np then (x (us.map some ++ List.replicate (nN - np) none)).map Prod.fst else none
section
variable {P : Program} {w : World} {K : PySem.W.Frag} {mg : Str → Option Value} {base : Heap} {cv : Nat → Value}
theorem fnx_ok {x qual : Str} {st : Stmt} {f : Addr} {fd : FuncData} {N ps : List Str} {k : Nat} {body : MS} {bx : MX} (F : Fun K x qual st f fd) (S : FnScope N ps (defScope st))
    (hb : ∀ (cdv : Value) (A : Around) (outer : List Env) (s : Shared) (H : Hp) (E : XK) (W : WX), Room k (A.deeper (envOfC qual (defScope st) s.heap.objs.size f cdv)) → Takes (cxOf (L2.CX P w) P w K mg base N qual (defScope st) f cdv A outer s H E) W → DSXs (cxOf (L2.CX P w) P w K mg base N qual (defScope st) f cdv A outer s H E) (defBody st) body bx cv W) :
    FnOk P w K mg base (L2.CX P w) (k + 1) f fd ps (spX K ps.length (mFn N.length ps.length body) (xFn N.length ps.length bx) cv) := by
  refine F.okX S (fun vs H Q E h => ?_) (fun cdv A outer s H vs Q E hr h => ?_)
  · rcases h with ⟨M, O, π, args, r, os, hl, _⟩ | ⟨M, O, π, args, c, hl, _⟩
    · exact hl
    · exact hl
  · refine ⟨_, hb cdv A outer s H E (fun cls d _ H => E cls d H) hr (takes_of rfl rfl rfl rfl), ?_⟩
    rcases h with ⟨M, O, π, args, r, os, hl, hs, e, q⟩ | ⟨M, O, π, args, c, hl, hs, e, q⟩
    · refine .inl ?_
      have hal : args.length = vs.length := by have := hs.len; simpa using this
      unfold mFn at e
      have start_eq : L2.start N vs = vs.map some ++ List.replicate (N.length - ps.length) none := by unfold L2.start; rw [hl]
      have fin : ∀ {σ' : L2.St} {ρ' : Fm} {H' : Hp} {M' : Mset} {rr : Sv} {v : V}, Ext O H M H' M' → SR K H' M' O π ρ' σ' → RV K H' M' O ρ' σ' rr v → outsOf args ρ' = some os → rr = r → Q v H' := fun {σ' ρ' H' M' rr v} x s r1 eo er => by
        subst er
        refine q v H' M' s.live x (fun i ds ei => ?_) ?_
        · obtain ⟨e1, _⟩ := outs_get eo ei
          obtain ⟨a, ws, f1, f2, f3, f4, f5, f6⟩ := s.own i .par ds e1
          exact ⟨a, ws, f6 rfl, f2, f3, f5⟩
        · cases rr with
          | imm d => exact r1
          | own b ds =>
            obtain ⟨p, ws, g1, g2, g3, g4, g5, g6⟩ := r1
            refine ⟨p, ws, g1, g2, g3, g4, g5, fun i es ei hp => ?_⟩
            obtain ⟨e1, _⟩ := outs_get eo ei
            obtain ⟨a, us, f1, f2, f3, f4, f5, f6⟩ := s.own i .par es e1
            rw [f6 rfl] at hp; cases hp
            exact g6 i es e1 f1
      split at e
      · rename_i hn
        split at e
        · rename_i r' ρ' e1
          split at e
          · rename_i os' e2
            cases e
            refine ⟨_, M, O, π, .ret r, ρ', by rw [start_eq]; exact hs.pad _, e1, fun v σ' H' M' x s r1 => fin x s r1 e2 rfl⟩
          · cases e
        · rename_i ρ' e1
          split at e
          · rename_i os' e2
            cases e
            refine ⟨_, M, O, π, .next, ρ', by rw [start_eq]; exact hs.pad _, e1, fun σ' H' M' x s => fin (rr := .imm .none) x s .non e2 rfl⟩
          · cases e
        · cases e
      · cases e
    · refine .inr ?_
      have start_eq : L2.start N vs = vs.map some ++ List.replicate (N.length - ps.length) none := by unfold L2.start; rw [hl]
      unfold xFn at e
      split at e
      · obtain ⟨⟨c', ρ'⟩, e1, e2⟩ := Option.map_eq_some_iff.mp e
        cases e2
        exact ⟨_, M, O, π, _, ρ', by rw [start_eq]; exact hs.pad _, e1, fun σ' H' M' x s => q H' M' s.live x⟩
      · cases e
end
/-! ### expressions that may raise -/
section
variable {X : Cx} {k : Nat} {f : Addr} {fd : FuncData} {ps : List Str} {g : Fn} {gx : FnX} {cv : Nat → Value} {W : WX} {x : Str} {p pos rpos : Pos} {e : Expr} {es : List Expr} {mr : MR} {me : ME} {xe : MX}
def DEX (X : Cx) (e : Expr) (m : ME) (x : MX) (cv : Nat → Value) (W : WX) : Prop := PE X e fun σ H Q => tE X.K m σ H Q ∨ tX X.K x cv W σ H
theorem dex_of (h : DE X e me) : DEX X e me xNo cv W := PE.imp h fun σ H Q q => by
  rcases q with q | ⟨_, _, _, _, _, _, _, e, _⟩
  · exact q
  · cases e
def allV (as : List AR) : Bool := as.all fun a => match a with
  | .v _ => true
  | .s _ => false
def xCall (gx : FnX) (mr : MR) : MX := fun ρ => match mr ρ with
  | some (as, ρ1) => if allV as = true then match argsOf ρ1 as with
    | some args => (gx args).map fun c => (c, ρ1)
    | none => none
    else none
  | none => none
theorem allV_slots : ∀ {as : List AR}, allV as = true → slotsOf as = []
  | [], _ => rfl
  | .v _ :: as, h => by
    have : allV as = true := h
    show slotsOf as = []
    exact allV_slots this
  | .s _ :: as, h => by cases h
theorem allV_back (ρ : Fm) : ∀ {as : List AR}, allV as = true → backTo ρ as (as.map fun _ => none) = some ρ
  | [], _ => rfl
  | .v _ :: as, h => allV_back ρ (as := as) h
  | .s _ :: as, h => by cases h
theorem dex_call (F : FnOk X.prog X.w X.K X.mg X.base (L2.CX X.prog X.w) k f fd ps (spX X.K ps.length g gx cv)) (hr : Room k X.A) (hg : Gl X x) (hm : X.mg x = some (.ref f)) (hk : PySem.W.keepIn X.K (.ref f) = true) (hb : Binds X.K fd ps []) (tk : Takes X W)
    (ha : DR X (e :: es) mr) (hn : ∀ ρ as ρ', mr ρ = some (as, ρ') → as.length = ps.length) (hdb : (x == ("__debug__" : Str)) = false := by decide) (he : starEach (e :: es) X.env = (false, eval e X.env) :: starEach es X.env := by rfl) (hpl : (PySem.backTo pos (starEach es X.env)).any (·.1) = false := by rfl) :
    DEX X (.Call (.Name x p) (e :: es) [] pos) (mCall g mr) (xCall gx mr) cv W :=
  PE.imp (pe_callS (E := WE W) F hr hg hm hk hb (fun σ => passAt tk σ) ha hdb he hpl) fun σ H Q h => by
    rcases h with h | ⟨ρ, M, O, π, c, ρ', h, e, q⟩
    · obtain ⟨ρ, M, O, π, as, ρ', h, e, q⟩ := tR_call (X := X) hn h
      exact ⟨ρ, M, O, π, as, ρ', h, e, fun vs H' M' x s r => .inl (q vs H' M' x s r)⟩
    · unfold xCall at e
      split at e
      · rename_i as ρ1 e1
        split at e
        · rename_i ha'
          split at e
          · rename_i args e2
            obtain ⟨c', e3, e4⟩ := Option.map_eq_some_iff.mp e
            cases e4
            refine ⟨ρ, M, O, π, as, ρ', h, e1, fun vs H1 M1 x1 s1 r1 => .inr ?_⟩
            have n : nodupB (slotsOf as) = true := by rw [allV_slots ha']; rfl
            refine ⟨M1, _, _, args, c, by rw [Paired.length r1]; exact hn _ _ _ e1, call_start s1 r1 n e2, e3, fun H2 M2 lv x2 => ?_⟩
            obtain ⟨x3, s3⟩ := call_end s1 r1 n (allV_back ρ' ha') lv x2 (fun i ds ei => by
              rw [List.getElem?_map] at ei
              obtain ⟨_, _, z⟩ := Option.map_eq_some_iff.mp ei
              cases z)
            exact q σ H2 M2 (x1.trans x3) s3
          · cases e
        · cases e
      · cases e
def xIfE (mt : MT) (x y : MX) : MX := fun ρ => match mt ρ with
  | some (true, ρ1) => x ρ1
  | some (false, ρ1) => y ρ1
  | none => none
theorem dsx_ret (he : DEX X e me xe cv W) : DSX X (.Return (some e) rpos) (mRet me) xe cv W := PS.imp (ps_ret he) fun D σ H q => by
  rcases q with ⟨ρ, M, O, π, fl, ρ', h, e, q⟩ | q
  · refine .inl ?_
    unfold mRet at e
    split at e
    · rename_i pr ρ1 e1
      split at e
      · rename_i r e2
        cases e
        exact ⟨ρ, M, O, π, pr, _, h, e1, fun v H1 M1 x1 s1 r1 => q v σ H1 M1 x1 s1 (give_ok s1 r1 e2)⟩
      · cases e
    · cases e
  · exact .inr q
end
/-! ### try: .. except X: .. -/
section
variable {X : Cx} {y : Str} {body suite : List Stmt} {b₀ : Stmt} {np pos pos' : Pos} {m n : MS} {x : MX} {cv : Nat → Value}
def mTry (y : Nat) (m : MS) (x : MX) (n : MS) : MS := fun ρ => match m ρ with
  | some r => some r
  | none => match x ρ with
    | some (c, ρ1) => if c = y then n ρ1 else none
    | none => none
theorem ds_try {j : Nat} (hs : X.stack = X.env :: X.outer) (hf : X.env.frame = some X.env.locals) (hc : Names X y (cv j)) (hex : PySem.W.exmOne X.K (cv j) (cv j) = some true)
    (hb : ∀ (W : WX) (pn : List (Addr × Obj)) (xe : Value → Shared → Prop), Takes (X.tr pn xe) W → PassesOwn (model X.prog X.w) X.A X.env xe → DSXs (X.tr pn xe) body m x cv W)
    (hsu : ∀ (a : Addr) (pn : List (Addr × Obj)), DSs (X.suite a pn) (b₀ :: suite) n) :
    DS X (.Try body [.ExceptHandler (some (.Name y np)) none (b₀ :: suite) pos'] [] [] pos) (mTry j m x n) :=
  PS.imp (ps_try_only (Wout := fun _ _ _ _ => False) (tb := fun W => tSX X.K m x cv W) (ts := fun _ _ _ => tS X.K n) hs hf hc takes_none5 hb (fun a oe cls d pn _ _ => hsu a ((a, oe) :: pn))) fun D σ H ⟨ρ, M, O, π, fl, ρ', h, e, q⟩ => by
    unfold mTry at e
    split at e
    · rename_i r e1
      cases e
      exact .inl ⟨ρ, M, O, π, fl, ρ', h, e1, q⟩
    · split at e
      · rename_i c ρ1 e1
        split at e
        · rename_i hy
          subst hy
          exact .inr ⟨ρ, M, O, π, _, ρ1, h, e1, fun σ1 H1 M1 x1 s1 => ⟨true, hex, fun _ _ _ => ⟨ρ1, M1, O, π, fl, ρ', s1, e, q.later (O1 := O) x1⟩, fun z => by cases z⟩⟩
        · cases e
      · cases e
end
theorem fnx_zero {P : Program} {w : World} {K : PySem.W.Frag} {mg : Str → Option Value} {base : Heap} {f : Addr} {fd : FuncData} {ps : List Str} {k : Nat} {cv : Nat → Value} : FnOk P w K mg base (L2.CX P w) k f fd ps (spX K ps.length (fun _ => none) (fun _ => none) cv) :=
  ⟨fun vs H Q E h => by
    rcases h with ⟨M, O, π, args, r, os, hl, _⟩ | ⟨M, O, π, args, c, hl, _⟩
    · exact hl
    · exact hl, fun A outer s H args us vs Q E _ _ _ _ h => by
    rcases h with ⟨M, O, π, as, r, os, _, _, e, _⟩ | ⟨M, O, π, as, c, _, _, e, _⟩
    · cases e
    · cases e⟩
/-- the class itself is what «except» names, if it is raised -/
theorem exm_self {K : PySem.W.Frag} {S : Addr} (h1 : PySem.W.subIn K (.ref S) (.type "BaseException") = some true) (h2 : PySem.W.isClsIn K S = true) (h3 : PySem.W.typeIn K (.ref S) = some (.type "type")) (h4 : PySem.W.subIn K (.ref S) (.ref S) = some true) :
    PySem.W.exmOne K (.ref S) (.ref S) = some true := by
  have h2' : (PySem.W.clsIn K S).isSome = true := h2
  unfold PySem.W.exmOne
  simp [PySem.W.kitCls, h1, h2', h3, h4]
/-! ### the class' __init__ -/
theorem init_ok {P : Program} {w : World} {K : PySem.W.Frag} {mg : Str → Option Value} {base : Heap} {qual : Str} {st : Stmt} {f : Addr} {fd : FuncData} {k : Nat} {pos : Pos} (F : Fun K "__init__" qual st f fd) (S : FnScope ["self"] ["self"] (defScope st)) (hb : defBody st = [.Pass pos]) :
    FnOk P w K mg base CX0 (k + 1) f fd ["self"] spInit :=
  F.ok S (fun vs H Q E h => h.1) fun cdv A outer s H vs Q E hr h => ⟨_, by rw [hb]; exact pss_one ps_pass, h.2⟩
end Vi

namespace Vi
open PySem PySem.Spec PyProof.Rows L2
/-! >> and & 1 -/
def dShr : D → D → Option Sv
  | .int i, .int j => if decide (0 ≤ j) = true then some (.imm (.int (i / 2 ^ j.toNat))) else none
  | _, _ => none
theorem os_shr {X : Cx} : OpS X (rI (fun _ j => 0 ≤ j) fun i j => .int (i / 2 ^ j.toNat)) dShr := by
  intro H M O π ρ σ v1 v2 d1 d2 res Q h r1 r2 e q
  unfold dShr at e
  split at e
  · split at e
    · rename_i hz
      cases e
      cases r1.inI; cases r2.inI
      exact ⟨_, _, rfl, rfl, of_decide_eq_true hz, Post.now q h (.int _)⟩
    · cases e
  · cases e
def dAnd1 : D → D → Option Sv
  | .int i, .int j => if j = 1 then some (.imm (.int (i % 2))) else none
  | _, _ => none
theorem os_and1 {X : Cx} : OpS X (fun x y H Q => ∃ (i : Int) (k : Nat), x = .int i ∧ y = .int (2 ^ k - 1) ∧ Q (.int (i % 2 ^ k)) H) dAnd1 := by
  intro H M O π ρ σ v1 v2 d1 d2 res Q h r1 r2 e q
  unfold dAnd1 at e
  split at e
  · split at e
    · rename_i hz
      subst hz
      cases e
      cases r1.inI; cases r2.inI
      exact ⟨_, 1, rfl, rfl, Post.now q h (.int _)⟩
    · cases e
  · cases e
/-! ### a module's tuple, of tuples too -/
mutual
inductive CD (K : PySem.W.Frag) : V → D → Prop
  | int (i : Int) : CD K (.int i) (.int i)
  | tup {z : Addr} {o : Obj} {its : Array Value} {n : Nat} {xs : List V} {ds : List D} : K.lookup z = some o → o.cls = .type "tuple" → o.data = .seq its n → its.size ≤ sizeLine → Vals xs its.toList → CDs K xs ds → CD K (.ref z) (.tuple ds)
inductive CDs (K : PySem.W.Frag) : List V → List D → Prop
  | nil : CDs K [] []
  | cons {v : V} {vs : List V} {d : D} {ds : List D} : CD K v d → CDs K vs ds → CDs K (v :: vs) (d :: ds)
end
mutual
theorem CD.rep {K : PySem.W.Frag} {H : Hp} {M : Mset} : ∀ {v : V} {d : D}, CD K v d → Rep K H M v d
  | _, _, .int i => .int i
  | _, _, .tup h1 h2 h3 h4 h5 h6 => .tup (.inr ⟨_, _, _, h1, h2, h3, h4, h5⟩) (CDs.rep h6)
theorem CDs.rep {K : PySem.W.Frag} {H : Hp} {M : Mset} : ∀ {vs : List V} {ds : List D}, CDs K vs ds → Reps K H M vs ds
  | _, _, .nil => .nil
  | _, _, .cons h r => .cons (CD.rep h) (CDs.rep r)
end
def ConstD (K : PySem.W.Frag) (mg : Str → Option Value) (x : Str) (d : D) : Prop := ∃ z : Addr, mg x = some (.ref z) ∧ CD K (.ref z) d
theorem de_constD {X : Cx} {x : Str} {d : D} {pos : Pos} (hg : Gl X x) (hc : ConstD X.K X.mg x d) (hd : (x == ("__debug__" : Str)) = false := by decide) : DE X (.Name x pos) (mC d) := by
  obtain ⟨z, h1, h2⟩ := hc
  exact de_c (v := .ref z) (pe_glob hg h1 rfl hd) fun H M => h2.rep
end Vi

/-! list(reversed(x)), x a list -/
namespace RTV
open PySem PySem.Spec PyProof.Rows RT
section
variable {prog : Program} {w : World} {A : Around} {E : Value → Shared → Prop} {s : Shared}
theorem wpAny_extend_rev {R : Result → Shared → Prop} {it l : Addr} {items : Array Value} (hh : A.handled = none) (hit : s.heap.IsRevIter it l ((items.size : Int) - 1)) (hl : s.heap.IsList l items) (hne : l ≠ it) (hn : items.size ≤ sizeLine)
    (S : Addr) (hSi : S ≠ it) (hSl : S ≠ l) (res : Value) (c₀ : Nat) (hS : s.heap.get? S = some { cls := .type "list", data := .seq #[] c₀ })
    (hR : ∀ h' tk acc' c', (∀ b o, b ≠ S → b ≠ it → s.heap.get? b = some o → h'.get? b = some o) → h'.get? S = some { cls := .type "list", dict := none, data := .seq acc' c', slots := #[] } →
      ItemsOf (fun i v => items[items.size - 1 - i]? = some v) acc' items.size → R (.ok (.ret res)) { s with heap := h', toks := tk }) :
    wpAny (model prog w) A.in1 (Builtin.List.listExtendWith (.ref S) (.ref it) res)
      (fun fin s' => match fin with | .done f => R (.ok f) s' | .again c' => c'.quiet = true ∧ codeAny (model prog w) A c' R s') (fun e s' => R (.error e) s') s := by
  have W := (Walks.listRev (prog := prog) (w := w) (A := A.in1) hh it l hne items).toS
  have hSf : S ∉ [it, l] := by simp only [List.mem_cons, List.not_mem_nil, or_false, not_or]; exact ⟨hSi, hSl⟩
  have hT : s.TypeIs (.ref it) "list_reverseiterator" := Heap.IsRevIter.typeIs hit
  have h1 : Builtin.List.listSameRef (.ref S) (.ref it) = false := by simp [Builtin.List.listSameRef, hSi]
  unfold Builtin.List.listExtendWith
  refine wpAny_bind (wpAny_typeOf hT ?_)
  rw [if_neg (by rw [h1]; decide)]
  refine wpAny_bind (wpAny_pyIter_revIter hit ?_)
  refine wpAny_bind (wpAny_holding ?_)
  unfold Builtin.List.listLengthHint
  refine wpAny_bind (wpAny_specialOf hT nolen_lri ?_)
  show wpAny _ A.in1 (specialOf (Value.ref it) (Str.ofString "__length_hint__") >>= _) _ _ _
  refine wpAny_bind (wpAny_specialOf hT hint_lri ?_)
  generalize hid : ("list_reverseiterator.__length_hint__" : String) = id0
  wp_delta
  rw [show splitId id0 = some ("list_reverseiterator", "__length_hint__") from by subst hid; decide +kernel]
  subst hid
  refine wpAny_bind (wpAny_isInstance (b := true) hT (by rw [isSubtype_type]; kernel_rfl) ?_)
  refine wpAny_pure ?_
  rw [if_neg (by decide)]
  have e0 : ((items.size : Nat) : Int) - 1 - ((0 : Nat) : Int) = (items.size : Int) - 1 := by omega
  refine wpAny_pure ⟨plainId_quiet F.plain_extend_loop _, codeAny_extend_loopS W hn S hSf res items.size 0 _ _ _ rfl (Nat.zero_le _) ⟨Nat.zero_le _, by rw [e0]; exact hit, hl⟩ hS (ItemsOf.nil _) fun s' acc' c' hm hS' hacc => ?_⟩
  rw [Moved.eq_with hm]
  exact hR s'.heap s'.toks acc' c' (fun b o hb hbi e => hm.heap b o (fun hmem => by
    rcases List.mem_cons.mp hmem with e' | hmem
    · exact hb e'
    · exact hbi (List.mem_singleton.mp hmem)) e) hS' hacc
theorem call_list_rev {it l : Addr} {items : Array Value} {Q : Value → Shared → Prop} (hh : A.handled = none) (hit : s.heap.IsRevIter it l ((items.size : Int) - 1)) (hl : s.heap.IsList l items) (hne : l ≠ it) (hn : items.size ≤ sizeLine)
    (hQ : ∀ (h' : Heap) (tk : Nat) (acc' : Array Value) (c' : Nat), (∀ b o, b ≠ it → s.heap.get? b = some o → h'.get? b = some o) → h'.get? s.heap.objs.size = some { cls := .type "list", dict := none, data := .seq acc' c', slots := #[] } →
      ItemsOf (fun i v => items[items.size - 1 - i]? = some v) acc' items.size → Q (.ref s.heap.objs.size) { s with heap := h', toks := tk }) :
    wpAny (model prog w) A (call (.type "list") [.ref it]) Q E s := by
  obtain ⟨oi, hoi, _⟩ := id hit
  obtain ⟨ol, hol, _⟩ := id hl
  have hSi : s.heap.objs.size ≠ it := Nat.ne_of_gt (Heap.lt_size hoi)
  have hSl : s.heap.objs.size ≠ l := Nat.ne_of_gt (Heap.lt_size hol)
  refine callType_codes (Q₁ := fun obj s₁ => obj = .ref s.heap.objs.size ∧ s₁ = { s with heap := s.heap.push { cls := .type "list", data := .seq #[] } }) F.called_list (F.typeCall_list_1 _) F.entry_list_init
    (code_list_new _ ⟨rfl, rfl⟩) fun obj s₁ h₁ => ?_
  obtain ⟨rfl, rfl⟩ := h₁
  have hS : (s.heap.push { cls := .type "list", data := .seq #[] }).get? s.heap.objs.size = some { cls := .type "list", data := .seq #[] } := Heap.get?_push_size _ rfl
  have hit1 : (s.heap.push { cls := .type "list", data := .seq #[] }).IsRevIter it l ((items.size : Int) - 1) := hit.at fun o e => Heap.get?_push_of_some _ e
  have hl1 : (s.heap.push { cls := .type "list", data := .seq #[] }).IsList l items := hl.push _
  refine ⟨⟨_, hS, rfl⟩, F.args_list_init_2 _ _, ?_⟩
  show wpAny _ _ (do let old ← Builtin.List.listItems (.ref s.heap.objs.size); Builtin.List.listUpdate (.ref s.heap.objs.size) (fun _ => #[]); letGo old.toList.reverse; Builtin.List.listExtendWith (.ref s.heap.objs.size) (.ref it) .none) _ _ _
  refine wpAny_bind ?_
  unfold Builtin.List.listItems
  refine wpAny_bind (wpAny_seqItems hS rfl (wpAny_pure ?_))
  show wpAny _ _ (updateSeq s.heap.objs.size (fun _ => #[]) >>= fun _ => letGo (#[] : Array Value).toList.reverse >>= fun _ => Builtin.List.listExtendWith (.ref s.heap.objs.size) (.ref it) .none) _ _ _
  refine wpAny_bind (wpAny_updateSeq hS rfl ?_)
  have hS₂ := Heap.get?_update_self (Obj.mapSeq (fun _ => (#[] : Array Value))) hS rfl
  have oth : ∀ b o, b ≠ s.heap.objs.size → (s.heap.push { cls := .type "list", data := .seq #[] }).get? b = some o → ((s.heap.push { cls := .type "list", data := .seq #[] }).update s.heap.objs.size (Obj.mapSeq (fun _ => (#[] : Array Value)))).get? b = some o :=
    fun b o hb e => (Heap.get?_update_other _ _ (Ne.symm hb)).trans e
  refine wpAny_bind (wpAny_letGo ?_)
  have hl2 : ((s.heap.push { cls := .type "list", data := .seq #[] }).update s.heap.objs.size (Obj.mapSeq (fun _ => (#[] : Array Value)))).IsList l items := by
    obtain ⟨o, e1, e2⟩ := id hl1
    exact ⟨o, oth l o (Ne.symm hSl) e1, e2⟩
  refine wpAny_extend_rev (A := A.in1) hh (hit1.at fun o e => oth it o (Ne.symm hSi) e) hl2 hne hn _ hSi hSl .none _ hS₂ fun h' tk acc' c' hk hS' hacc => ?_
  exact ⟨rfl, hQ h' tk acc' c' (fun b o hb e => hk b o (Nat.ne_of_lt (Heap.lt_size e)) hb (oth b o (Nat.ne_of_lt (Heap.lt_size e)) (Heap.get?_push_of_some _ e))) hS' hacc⟩
end
end RTV
namespace L2
open PySem PySem.Spec PyProof.Rows
def tLstRev (K : PySem.W.Frag) (te : TE) : TE := fun σ H Q => te σ H fun v H1 => ∃ (a : Addr) (xs : List V), v = .ref a ∧ SqL K H1 a xs ∧ ∀ q, H1 q = none → Q (.ref q) (upd H1 q (.lst xs.reverse))
theorem pe_lstRev {X : Cx} {e : Expr} {te : TE} {p p2 pos pos2 : Pos} (hc : X.calm = true) (hg : Gl X "list") (hm : X.mg "list" = none) (hg2 : Gl X "reversed") (hm2 : X.mg "reversed" = none) (he : PE X e te)
    (hs : starEach [e] X.env = (false, eval e X.env) :: starEach [] X.env := by rfl)
    (hs2 : starEach [.Call (.Name "reversed" p2) [e] [] pos2] X.env = (false, eval (.Call (.Name "reversed" p2) [e] [] pos2) X.env) :: starEach [] X.env := by rfl) :
    PE X (.Call (.Name "list" p) [.Call (.Name "reversed" p2) [e] [] pos2] [] pos) (tLstRev X.K te) := by
  refine ⟨fun pins s σ H Q I h => ?_⟩
  refine Call_ (ld_blt I hg hm PyProof.Rows.boot_list (PyProof.Rows.callWith_type1 (args_cons (Call_ (ld_blt I hg2 hm2 PyProof.Rows.boot_reversed (PyProof.Rows.callWith_type1 (args_cons (thn (he.run pins s σ H _ I h) fun u s1 ⟨v, H1, I1, r1, q1⟩ => args_nil ?_) hs) hs rfl))) hs2) hs2 rfl))
  obtain ⟨a, xs, ev, hq, q⟩ := q1
  subst ev
  obtain rfl : u = Value.ref a := r1
  obtain ⟨its, rv, p', hz⟩ := I1.list hq
  refine call_reversed_list p'.isList (args_nil ?_)
  have k0 : ∀ b o, s1.heap.get? b = some o → (s1.heap.push (revObj a ((its.toArray.size : Int) - 1))).get? b = some o := fun b o e => Heap.get?_push_of_some _ e
  have I2 : Inv X pins σ H1 { s1 with heap := s1.heap.push (revObj a ((its.toArray.size : Int) - 1)) } := I1.kept (t' := s1.toks) k0
  have hl := p'.isList
  obtain ⟨ol, hol, _⟩ := id hl
  have hne : a ≠ s1.heap.objs.size := Nat.ne_of_lt (Heap.lt_size hol)
  have hn : its.toArray.size ≤ sizeLine := by rw [List.size_toArray, ← rv.length]; exact hz
  refine RTV.call_list_rev (s := { s1 with heap := s1.heap.push (revObj a ((its.toArray.size : Int) - 1)) }) (I1.ok.hd hc) ⟨_, Heap.get?_push_size _ rfl, rfl, rfl⟩ (hl.push _) hne hn fun h' tk acc c' hk hS hi => ?_
  have hN : (s1.heap.push (revObj a ((its.toArray.size : Int) - 1))).objs.size = s1.heap.objs.size + 1 := by simp [Heap.push]
  have hfr : H1 (s1.heap.push (revObj a ((its.toArray.size : Int) - 1))).objs.size = none := I2.hok.fresh (Nat.le_refl _)
  have I3 : Inv X pins σ (upd H1 (s1.heap.push (revObj a ((its.toArray.size : Int) - 1))).objs.size (.lst xs.reverse)) { s1 with heap := (s1.heap.push (revObj a ((its.toArray.size : Int) - 1))).push { cls := .type "list", dict := none, data := .seq acc c', slots := #[] }, toks := tk } :=
    I2.laid (t' := tk) (fun c o e => Heap.get?_push_of_some _ e) (Nat.le_refl _) (show ObjOk X.prog X.w _ _ _ (.lst xs.reverse) from ⟨by rw [List.length_reverse]; exact hz, acc.toList, c', RT.vals_rev rv hi, by rw [Array.toArray_toList]; exact Heap.get?_push_size _ rfl⟩)
  obtain ⟨f0, f1, f2, f3, f4, f5⟩ := I1.fpOk (H' := upd H1 (s1.heap.push (revObj a ((its.toArray.size : Int) - 1))).objs.size (.lst xs.reverse)) (b := s1.heap.objs.size) (Nat.le_refl _) (by rw [upd_ne (by rw [hN]; exact Nat.ne_of_lt (Nat.lt_succ_self _))]; exact I1.hok.fresh (Nat.le_refl _))
  have I4 := I3.turned (t' := tk) (h' := h') (fun b o hb e => by
    rcases Heap.get?_push_cases e with ⟨rfl, rfl⟩ | e2
    · exact hS
    · exact hk b o hb e2) f0 f1 f3 f4 f5
  exact ⟨.ref _, _, I4, rfl, q _ hfr⟩
end L2
namespace Vi
open PySem PySem.Spec PyProof.Rows L2
def clsB : Stmt → List Stmt
  | .ClassDef (body := b) .. => b
  | _ => []
def mLRev (me : ME) : ME := fun ρ => match me ρ with
  | some (pr, ρ1) => match peek ρ1 pr with
    | some (.list ds) => some (.val (.own .loc ds.reverse), ρ1)
    | _ => none
  | none => none
theorem de_lrev {X : Cx} {e : Expr} {me : ME} {p p2 pos pos2 : Pos} (hc : X.calm = true) (hg : Gl X "list") (hm : X.mg "list" = none) (hg2 : Gl X "reversed") (hm2 : X.mg "reversed" = none) (he : DE X e me)
    (hs : starEach [e] X.env = (false, eval e X.env) :: starEach [] X.env := by rfl)
    (hs2 : starEach [.Call (.Name "reversed" p2) [e] [] pos2] X.env = (false, eval (.Call (.Name "reversed" p2) [e] [] pos2) X.env) :: starEach [] X.env := by rfl) :
    DE X (.Call (.Name "list" p) [.Call (.Name "reversed" p2) [e] [] pos2] [] pos) (mLRev me) :=
  PE.imp (pe_lstRev hc hg hm hg2 hm2 he hs hs2) fun σ H Q ⟨ρ, M, O, π, pr, ρ', h, e, q⟩ => by
    unfold mLRev at e
    split at e
    · rename_i pr1 ρ1 e1
      split at e
      · rename_i ds e2
        cases e
        refine ⟨ρ, M, O, π, pr1, _, h, e1, fun v H1 M1 x1 s1 r1 => ?_⟩
        obtain ⟨a, vs, rfl, rd, rs⟩ := (peek_vw s1 r1 e2).inL
        exact ⟨a, vs, rfl, .inl rd, fun p hp => Post.lst (Q := Q) (fun v H' M' x3 s3 r3 => q v H' M' (x1.trans x3) s3 r3) s1 rs.reverse hp⟩
      · cases e
    · cases e
end Vi

namespace Vi
open PySem PySem.Spec PyProof.Rows L2
/-! a bool less a bool -/
def b2n (b : Bool) : Int := if b = true then 1 else 0
theorem op_subB {X : Cx} : OpR X (binaryOp .Sub) (fun x y H Q => (∃ p q : Bool, x = .bl p ∧ y = .bl q ∧ Q (.int (b2n p - b2n q)) H) ∨ rI0 (fun i j => .int (i - j)) x y H Q) := by
  intro pins s σ H x y v u Q I rx ry h
  rcases h with ⟨p, q, rfl, rfl, hq⟩ | h
  · cases (show v = Value.bool p from rx)
    cases (show u = Value.bool q from ry)
    refine sub_bool ?_
    refine ⟨.int (b2n p - b2n q), H, I.tok _, ⟨s.toks, ?_⟩, hq⟩
    cases p <;> cases q <;> rfl
  · exact op_sub pins s σ H x y v u Q I rx ry h
def dSubB : D → D → Option Sv
  | .bool p, .bool q => some (.imm (.int (b2n p - b2n q)))
  | a, b => dSub a b
theorem os_subB {X : Cx} : OpS X (fun x y H Q => (∃ p q : Bool, x = .bl p ∧ y = .bl q ∧ Q (.int (b2n p - b2n q)) H) ∨ rI0 (fun i j => .int (i - j)) x y H Q) dSubB := by
  intro H M O π ρ σ v1 v2 d1 d2 res Q h r1 r2 e q
  unfold dSubB at e
  split at e
  · cases e
    cases r1 with
    | bl p => cases r2 with
      | bl q' => exact .inl ⟨_, _, rfl, rfl, Post.now q h (.int _)⟩
  · exact .inr (os_sub h r1 r2 e q)
/-! three names at once, the third a fresh list -/
section
variable {X : Cx} {D : Ends}
def mPar3O (i j k : Nat) (ma mb mc : ME) : MS := fun ρ => match ma ρ with
  | some (p1, ρ1) => match frz ρ1 p1 with
    | some (d1, ρ2) => match mb ρ2 with
      | some (p2, ρ3) => match frz ρ3 p2 with
        | some (d2, ρ4) => match mc ρ4 with
          | some (p3, ρ5) => match take ρ5 p3 with
            | some (s3, ρ6) => if fine s3 = true then some (.next, ((ρ6.set i (some (.imm d1))).set j (some (.imm d2))).set k (some s3)) else none
            | none => none
          | none => none
        | none => none
      | none => none
    | none => none
  | none => none
theorem ds_par3O {st : Stmt} {a b c : Expr} {ma mb mc : ME} {i j k : Nat} (h : ∀ ta, PA X [a, b, c] ta → PS X st (tPar3 i j k ta)) (ha : DE X a ma) (hb : DE X b mb) (hcc : DE X c mc) (hs : starEach [a, b, c] X.env = (false, eval a X.env) :: starEach [b, c] X.env := by rfl) (hs2 : starEach [b, c] X.env = (false, eval b X.env) :: starEach [c] X.env := by rfl) (hs3 : starEach [c] X.env = (false, eval c X.env) :: starEach [] X.env := by rfl) : DS X st (mPar3O i j k ma mb mc) :=
  PS.imp (h _ (pa_cons ha (pa_cons hb (pa_cons hcc pa_nil hs3) hs2) hs)) fun D σ H ⟨ρ, M, O, π, fl, ρ', h, e, q⟩ => by
    unfold mPar3O at e
    split at e
    · rename_i p1 ρ1 e1
      split at e
      · rename_i d1 ρ2 e2
        split at e
        · rename_i p2 ρ3 e3
          split at e
          · rename_i d2 ρ4 e4
            split at e
            · rename_i p3 ρ5 e5
              split at e
              · rename_i s3 ρ6 e6
                split at e
                · rename_i hz
                  cases e
                  refine ⟨ρ, M, O, π, p1, ρ1, h, e1, fun v1 H1 M1 x1 t1 r1 => ?_⟩
                  obtain ⟨M2, x2, t2, r2⟩ := frz_ok t1 r1 e2
                  refine ⟨ρ2, M2, O, π, p2, ρ3, t2, e3, fun v2 H3 M3 x3 t3 r3 => ?_⟩
                  obtain ⟨M4, x4, t4, r4⟩ := frz_ok t3 r3 e4
                  refine ⟨ρ4, M4, O, π, p3, ρ5, t4, e5, fun v3 H5 M5 x5 t5 r5 => ⟨v1, v2, v3, rfl, ?_⟩⟩
                  obtain ⟨M6, x6, t6, r6⟩ := take_ok t5 r5 e6
                  have y1 := r2.tr (((x3.trans x4).trans x5).trans x6).tr
                  have y2 := r4.tr (x5.trans x6).tr
                  have z1 := RP.set (s1 := .imm d1) (i := i) y1 r6 t6.len
                  have t7 := t6.setImm y1 (i := i)
                  have z2 := RP.set (s1 := .imm d2) (i := j) y2 z1 t7.len
                  have t8 := t7.setImm y2 (i := j)
                  exact q _ H5 M6 ((((((x1.trans x2).trans x3).trans x4).trans x5).trans x6)) (t8.setVal z2 (fine_ne hz) k)
                · cases e
              · cases e
            · cases e
          · cases e
        · cases e
      · cases e
    · cases e
end
end Vi

/-! zip of a tuple and a list -/
namespace RZ
open PySem PySem.Spec PyProof.Rows L2
abbrev zmH1 (h : Heap) (l1 : Addr) : Heap := h.push { cls := .type "tuple_iterator", data := .fields #[.ref l1, .int 0 0] }
abbrev zmH2 (h : Heap) (l1 l2 : Addr) : Heap := (zmH1 h l1).push { cls := .type "list_iterator", data := .fields #[.ref l2, .int 0 0] }
abbrev zmH3 (h : Heap) (l1 l2 : Addr) : Heap := (zmH2 h l1 l2).push { cls := .type "tuple", data := .seq #[.ref h.objs.size, .ref (zmH1 h l1).objs.size] }
abbrev zmH4 (h : Heap) (l1 l2 : Addr) : Heap := (zmH3 h l1 l2).push { cls := .type "tuple", data := .seq #[.none, .none] }
abbrev zmH5 (h : Heap) (l1 l2 : Addr) : Heap := (zmH4 h l1 l2).push { cls := .type "zip", data := .fields #[.none, .bool false, .bool false, .ref (zmH2 h l1 l2).objs.size, .ref (zmH3 h l1 l2).objs.size] }
theorem meets_zipM_new (l1 l2 : Addr) (xs ys : Array Value) :
    Meets (Builtin.«zip.__new__» ⟨[.type "zip", .ref l1, .ref l2], []⟩) (fun _ R s => s.heap.IsTuple l1 xs ∧ s.heap.IsList l2 ys ∧
      R (.ok (.ret (.ref (zmH4 s.heap l1 l2).objs.size))) { s with heap := zmH5 s.heap l1 l2 }) :=
  .of_wp fun prog w A R s h => by
    obtain ⟨hp, g, d, tk, os⟩ := s; obtain ⟨hl1, hl2, h⟩ := h
    have hsub := sub_zip
    have hL1 : Heap.IsTuple (Shared.heap ⟨hp, g, d, tk, os⟩) l1 xs := hl1
    have hL2 : Heap.IsList (Shared.heap ⟨hp.push { cls := .type "tuple_iterator", data := .fields #[.ref l1, .int 0 0] }, g, d, tk, os⟩) l2 ys := Heap.IsList.push hl2 _
    wp_walk using wpAny_pyIter_tuple hL1, wpAny_pyIter_list hL2
    exact ⟨_, rfl, h⟩
section
variable {prog : Program} {w : World} {A : Around} {E : Value → Shared → Prop} {s : Shared}
theorem call_zipM {l1 l2 : Addr} {xs ys : Array Value} {Q : Value → Shared → Prop} (hl1 : s.heap.IsTuple l1 xs) (hl2 : s.heap.IsList l2 ys)
    (h : ∀ h', IsZip h' (s.heap.objs.size + 4) (s.heap.objs.size + 2) (s.heap.objs.size + 3) .none → IsPair h' (s.heap.objs.size + 2) (.ref s.heap.objs.size) (.ref (s.heap.objs.size + 1)) →
      IsPair h' (s.heap.objs.size + 3) .none .none → h'.IsTupleIter s.heap.objs.size l1 0 → h'.IsListIter (s.heap.objs.size + 1) l2 0 →
      (∀ c o, s.heap.get? c = some o → h'.get? c = some o) → Q (.ref (s.heap.objs.size + 4)) { s with heap := h' }) :
    wpAny (model prog w) A (call (.type "zip") [.ref l1, .ref l2]) Q E s := by
  refine callType_new F.called_zip (by decide) (F.typeCall_zip_2 _ _) (F.newCall_zip_2 _ _) (fun obj => F.args_object_init_3 obj _ _) F.entry_zip_new
    (meets_zipM_new l1 l2 xs ys) ⟨hl1, hl2, ?_⟩
  have z1 : (zmH1 s.heap l1).objs.size = s.heap.objs.size + 1 := Heap.size_push ..
  have z2 : (zmH2 s.heap l1 l2).objs.size = s.heap.objs.size + 2 := by rw [Heap.size_push, z1]
  have z3 : (zmH3 s.heap l1 l2).objs.size = s.heap.objs.size + 3 := by rw [Heap.size_push, z2]
  have z4 : (zmH4 s.heap l1 l2).objs.size = s.heap.objs.size + 4 := by rw [Heap.size_push, z3]
  have g5 : (zmH5 s.heap l1 l2).get? (zmH4 s.heap l1 l2).objs.size = some _ := Heap.get?_push_size _ rfl
  have g4 : (zmH5 s.heap l1 l2).get? (zmH3 s.heap l1 l2).objs.size = some _ := Heap.get?_push_of_some _ (Heap.get?_push_size _ rfl)
  have g3 : (zmH5 s.heap l1 l2).get? (zmH2 s.heap l1 l2).objs.size = some _ := Heap.get?_push_of_some _ (Heap.get?_push_of_some _ (Heap.get?_push_size _ rfl))
  have g2 : (zmH5 s.heap l1 l2).get? (zmH1 s.heap l1).objs.size = some _ := Heap.get?_push_of_some _ (Heap.get?_push_of_some _ (Heap.get?_push_of_some _ (Heap.get?_push_size _ rfl)))
  have g1 : (zmH5 s.heap l1 l2).get? s.heap.objs.size = some _ := Heap.get?_push_of_some _ (Heap.get?_push_of_some _ (Heap.get?_push_of_some _ (Heap.get?_push_of_some _ (Heap.get?_push_size _ rfl))))
  show _ ∧ _
  rw [z2, z3, z4] at g5
  rw [z1, z2] at g3
  rw [z3] at g4
  rw [z1] at g2
  rw [z4]
  exact ⟨⟨_, g5, rfl⟩, h _ g5 g3 g4 ⟨_, g1, rfl, rfl⟩ ⟨_, g2, rfl, rfl⟩ fun c o x =>
    Heap.get?_push_of_some _ (Heap.get?_push_of_some _ (Heap.get?_push_of_some _ (Heap.get?_push_of_some _ (Heap.get?_push_of_some _ x))))⟩
end
/-- the tuple at a and the list at b as they stand at each turn, the items in new pairs -/
def ItzM (K : PySem.W.Frag) (a b : Addr) : It :=
  ⟨fun i H => ∃ (xs ys : List V) (x y : V), SqT K H a xs ∧ SqL K H b ys ∧ xs[i]? = some x ∧ ys[i]? = some y,
    fun i H v H' => ∃ T x y, v = .ref T ∧ H T = none ∧ H' = upd H T (.tup [x, y]) ∧ (∀ xs, SqT K H a xs → xs[i]? = some x) ∧ ∀ ys, SqL K H b ys → ys[i]? = some y,
    fun i H => ∃ xs ys : List V, SqT K H a xs ∧ SqL K H b ys ∧ (i = xs.length ∨ i = ys.length) ∧ i ≤ xs.length ∧ i ≤ ys.length⟩
theorem turn_zipM {P : Program} {w : World} {K : PySem.W.Frag} {elts : List Expr} {kk : Nat} {tpos : Pos} {a b z TI TO i1 i2 : Addr} (S : ZipSep2 z TI TO i1 i2 [i1, a] [i2, b]) (ha : a ≠ i1) (hb : b ≠ i2) :
    Turn P w K (.Tuple elts kk tpos) (ItzM K a b) [z, TI, TO, i1, i2] z (fun i h => IsZip h z TI TO .none ∧ IsPair h TI (.ref i1) (.ref i2) ∧ (∃ x y, IsPair h TO x y) ∧ h.IsTupleIter i1 a i ∧ h.IsListIter i2 b i) where
  mem := by simp
  obj := fun i h st c hc => by
    obtain ⟨hz, hTI, ⟨x, y, hTO⟩, ⟨o1, e1, _, d1⟩, ⟨o2, e2, _, d2⟩⟩ := st
    have e' : c = z ∨ c = TI ∨ c = TO ∨ c = i1 ∨ c = i2 := by simpa using hc
    rcases e' with q | q | q | q | q
    · rw [q]; exact ⟨_, hz, fun v q => nomatch q⟩
    · rw [q]; exact ⟨_, hTI, fun v q => nomatch q⟩
    · rw [q]; exact ⟨_, hTO, fun v q => nomatch q⟩
    · rw [q]; exact ⟨o1, e1, fun v q => by rw [d1] at q; cases q⟩
    · rw [q]; exact ⟨o2, e2, fun v q => by rw [d2] at q; cases q⟩
  keep := fun i h h' st k => by
    obtain ⟨hz, hTI, ⟨x, y, hTO⟩, ⟨o1, e1, c1, d1⟩, ⟨o2, e2, c2, d2⟩⟩ := st
    exact ⟨k z (by simp) _ hz, k TI (by simp) _ hTI, ⟨x, y, k TO (by simp) _ hTO⟩, ⟨o1, k i1 (by simp) _ e1, c1, d1⟩, ⟨o2, k i2 (by simp) _ e2, c2, d2⟩⟩
  item := by
    intro X hP hw hK hc i pins s σ H E I hf st hg
    subst hP hw hK
    obtain ⟨hz, hTI, ⟨x0, y0, hTO⟩, h1, h2⟩ := st
    obtain ⟨xs, ys, x, y, hqx, hqy, hx, hy⟩ := hg
    obtain ⟨its, rv, p, _⟩ := I.tuple hqx
    obtain ⟨its2, rv2, p2, _⟩ := I.list hqy
    have hzl : z < s.heap.objs.size := Heap.lt_size hz
    have l1 : i < its.toArray.size := by have := rv.length; have := (List.getElem?_eq_some_iff.mp hx).1; simp; omega
    have l2 : i < its2.toArray.size := by have := rv2.length; have := (List.getElem?_eq_some_iff.mp hy).1; simp; omega
    have hh : X.A.in1.handled = none := I.ok.hd hc
    refine wpAny_pyNext_zipD2_item S (Draws.tuple (A := X.A.in1) hh i1 a ha its.toArray) (Draws.list (A := X.A.in1) hh i2 b hb its2.toArray) hz hTI hTO ⟨h1, p⟩ ⟨h2, p2.isList⟩ l1 l2 fun u u2 h' tk y1 y2 z' TO' st1 st2 hT hsz hk => ?_
    obtain ⟨v1, hu, ru⟩ := rv.get hx
    obtain ⟨v2, hu2, ru2⟩ := rv2.get hy
    have e1 : v1 = u := by
      have : its.toArray[i]? = some v1 := by simpa using hu
      rw [this] at y1; injection y1
    have e2 : v2 = u2 := by
      have : its2.toArray[i]? = some v2 := by simpa using hu2
      rw [this] at y2; injection y2
    subst e1 e2
    refine ⟨_, rfl, wpAny_letOwnedTupleGo_zip (s := { s with heap := h', toks := tk }) z' fun h'' z'' sb => ?_⟩
    have hT2 : h''.get? s.heap.objs.size = some { cls := .type "tuple", data := .seq #[v1, v2] } := (sb.2 _ (Nat.ne_of_gt hzl)).trans hT
    have new : ObjOk X.prog X.w (upd H s.heap.objs.size (.tup [x, y])) h'' s.heap.objs.size (.tup [x, y]) :=
      ⟨by show 2 ≤ sizeLine; decide, [v1, v2], .cons ru (.cons ru2 .nil), ⟨_, hT2, rfl, _, rfl⟩⟩
    have I1 : Inv X pins σ (upd H s.heap.objs.size (.tup [x, y])) { s with heap := h'', toks := tk } :=
      I.turnedNew (t' := tk) (ch := [z, TI, TO, i1, i2]) (fun c o hb q => (sb.2 c (fun q' => hb (by simp [q']))).trans (hk c o (fun q' => hb (by simp [q'])) (fun q' => hb (by simp [q'])) (fun q' => hb (by simp [q'])) (fun q' => hb (by simp [q'])) q)) hf (Nat.le_refl _) new
    obtain ⟨o1, a1, c1, d1⟩ := st1.1
    obtain ⟨o2, a2, c2, d2⟩ := st2.1
    refine ⟨.ref s.heap.objs.size, _, I1, rfl, ⟨_, x, y, rfl, I.hok.fresh (Nat.le_refl _), rfl, fun l hl => by rw [I.tuple_inj hl hqx]; exact hx, fun l hl => by rw [I.list_inj hl hqy]; exact hy⟩, ⟨z'', ?_, ⟨v1, v2, ?_⟩, ⟨o1, ?_, c1, d1⟩, ⟨o2, ?_, c2, d2⟩⟩, fun c hcm => ?_⟩
    · exact (sb.2 _ S.TIz).trans (hk _ _ S.TIz S.TITO S.TIi1 S.TIi2 hTI)
    · exact (sb.2 _ S.TOz).trans TO'
    · exact (sb.2 _ (Ne.symm S.zi1)).trans a1
    · exact (sb.2 _ (Ne.symm S.zi2)).trans a2
    · have hlt : c < s.heap.objs.size := by
        have e' : c = z ∨ c = TI ∨ c = TO ∨ c = i1 ∨ c = i2 := by simpa using hcm
        rcases e' with q | q | q | q | q
        · rw [q]; exact hzl
        · rw [q]; exact Heap.lt_size hTI
        · rw [q]; exact Heap.lt_size hTO
        · rw [q]; obtain ⟨_, e1, _⟩ := h1; exact Heap.lt_size e1
        · rw [q]; obtain ⟨_, e2, _⟩ := h2; exact Heap.lt_size e2
      rw [upd_ne (Nat.ne_of_lt hlt)]
      exact (hf c hcm).1
  done := by
    intro X hP hw hK hc i pins s σ H E I hf st hg
    subst hP hw hK
    obtain ⟨hz, hTI, ⟨x0, y0, hTO⟩, h1, h2⟩ := st
    obtain ⟨xs, ys, hqx, hqy, hend, hle1, hle2⟩ := hg
    obtain ⟨its, rv, p, _⟩ := I.tuple hqx
    obtain ⟨its2, rv2, p2, _⟩ := I.list hqy
    have l1 := rv.length
    have l2 := rv2.length
    have hh : X.A.in1.handled = none := I.ok.hd hc
    refine wpAny_pyNext_zipD2_end S (Draws.tuple (A := X.A.in1) hh i1 a ha its.toArray) (Draws.list (A := X.A.in1) hh i2 b hb its2.toArray) hz hTI hTO ⟨h1, p⟩ ⟨h2, p2.isList⟩ (by simp; omega) (by simp; omega) (by simp; omega) fun h' tk hk => ?_
    exact ⟨rfl, I.turnedL (t' := tk) (ch := [z, TI, TO, i1, i2]) (fun c o hb q => hk c o (fun q' => hb (by simp [q'])) (fun q' => hb (by simp [q'])) (fun q' => hb (by simp [q'])) (fun q' => hb (by simp [q'])) q) hf⟩
  self := fun A i s Q E st h => wpAny_pyIter_zip st.1 h
end RZ
namespace RZ
open PySem PySem.Spec PyProof.Rows L2
theorem zip_sep {n a b : Nat} (la : a < n) (lb : b < n) : ZipSep2 (n + 4) (n + 2) (n + 3) n (n + 1) [n, a] [n + 1, b] where
  TIz := fun h => by have h' : (n + 2 : Nat) = n + 4 := h; omega
  TOz := fun h => by have h' : (n + 3 : Nat) = n + 4 := h; omega
  TITO := fun h => by have h' : (n + 2 : Nat) = n + 3 := h; omega
  TIi1 := fun h => by have h' : (n + 2 : Nat) = n := h; omega
  mem1 := List.mem_cons_self ..
  zf1 := fun h => by
    rcases List.mem_cons.mp h with h | h
    · have h' : (n + 4 : Nat) = n := h; omega
    · have h' : (n + 4 : Nat) = a := List.mem_singleton.mp h; omega
  Tf1 := fun h => by
    rcases List.mem_cons.mp h with h | h
    · have h' : (n + 3 : Nat) = n := h; omega
    · have h' : (n + 3 : Nat) = a := List.mem_singleton.mp h; omega
  TIi2 := fun h => by have h' : (n + 2 : Nat) = n + 1 := h; omega
  mem2 := List.mem_cons_self ..
  zf2 := fun h => by
    rcases List.mem_cons.mp h with h | h
    · have h' : (n + 4 : Nat) = n + 1 := h; omega
    · have h' : (n + 4 : Nat) = b := List.mem_singleton.mp h; omega
  Tf2 := fun h => by
    rcases List.mem_cons.mp h with h | h
    · have h' : (n + 3 : Nat) = n + 1 := h; omega
    · have h' : (n + 3 : Nat) = b := List.mem_singleton.mp h; omega
  sep1_2 := fun h => by
    rcases List.mem_cons.mp h with h | h
    · have h' : (n : Nat) = n + 1 := h; omega
    · have h' : (n : Nat) = b := List.mem_singleton.mp h; omega
  sep2_1 := fun h => by
    rcases List.mem_cons.mp h with h | h
    · have h' : (n + 1 : Nat) = n := h; omega
    · have h' : (n + 1 : Nat) = a := List.mem_singleton.mp h; omega
def iZipM (K : PySem.W.Frag) (ta : TA) : TI := fun σ H R => ta σ H fun vs H1 => ∃ a b xs ys, vs = [.ref a, .ref b] ∧ SqT K H1 a xs ∧ SqL K H1 b ys ∧ R (ItzM K a b) H1
theorem pi_zipM {X : Cx} {e e2 : Expr} {ta : TA} {p pos tpos : Pos} {elts : List Expr} {kk : Nat} (hg : Gl X "zip") (hm : X.mg "zip" = none) (ha : PA X [e, e2] ta)
    (hs : starEach [e, e2] X.env = (false, eval e X.env) :: starEach [e2] X.env := by rfl) (hpl : (backTo pos (starEach [e2] X.env)).any (·.1) = false := by rfl) :
    PI X (.Tuple elts kk tpos) (.Call (.Name "zip" p) [e, e2] [] pos) (iZipM X.K ta) := by
  refine ⟨fun pins s σ H R I h => ?_⟩
  refine Call_ (ld_blt I hg hm PyProof.Rows.boot_zip (PyProof.Rows.callWith_type1 (thn (ha.run pos pins s σ H _ I h) fun us s1 ⟨vs, H1, I1, r1, q1⟩ => ?_) hs hpl))
  obtain ⟨a, b, xs, ys, ex, hqx, hqy, q⟩ := q1
  subst ex
  cases r1 with
  | cons r rr =>
    cases rr with
    | cons r' rr =>
      cases rr
      cases r
      cases r'
      obtain ⟨its, rv, p1, _⟩ := I1.tuple hqx
      obtain ⟨its2, rv2, p2, _⟩ := I1.list hqy
      obtain ⟨o1, ho1, _⟩ := id p1
      have la : a < s1.heap.objs.size := Heap.lt_size ho1
      have lb : b < s1.heap.objs.size := p2.lt
      have S := zip_sep (n := s1.heap.objs.size) la lb
      refine call_zipM (show s1.heap.IsTuple a its.toArray from p1) p2.isList fun h' hz hTI hTO h1 h2 hk => wpAny_pyIter_zip hz ?_
      have I2 : Inv X pins σ H1 { s1 with heap := h' } := I1.kept (t' := s1.toks) hk
      refine ⟨s1.heap.objs.size + 4, [s1.heap.objs.size + 4, s1.heap.objs.size + 2, s1.heap.objs.size + 3, s1.heap.objs.size, s1.heap.objs.size + 1], _, _, H1, rfl, I2, turn_zipM S (Nat.ne_of_lt la) (Nat.ne_of_lt (Nat.lt_succ_of_lt lb)), ⟨hz, hTI, ⟨_, _, hTO⟩, h1, h2⟩, fun c hcm => ?_, q⟩
      have hle : s1.heap.objs.size ≤ c := by
        simp only [List.mem_cons, List.not_mem_nil, or_false] at hcm
        rcases hcm with z | z | z | z | z
        · rw [z]; exact Nat.le_add_right _ _
        · rw [z]; exact Nat.le_add_right _ _
        · rw [z]; exact Nat.le_add_right _ _
        · rw [z]; exact Nat.le_refl _
        · rw [z]; exact Nat.le_add_right _ _
      exact I1.fpOk hle (I1.hok.fresh hle)
end RZ
namespace Vi
open PySem PySem.Spec PyProof.Rows L2
theorem src_zipM {K : PySem.W.Frag} {H0 : Hp} {M0 : Mset} {a b : Addr} {vs ws : List V} {xs ys : List D} (h : TupAt K H0 M0 a vs) (r : Reps K H0 M0 vs xs) (h2 : Rd H0 b (.lst ws)) (n2 : ¬ M0 b) (r2 : Reps K H0 M0 ws ys) : Src K (RZ.ItzM K a b) (zipD xs ys) H0 M0 := by
  refine ⟨fun H M l i hi => ?_, fun H M l => ⟨vs, ws, tupAt_lat h l, .inl (l b _ h2 n2).1, ?_⟩, fun H M l i d x H' ed y => ?_⟩
  · rw [zipD_len, ← r.length, ← r2.length] at hi
    have h1 : i < vs.length := by omega
    have h3 : i < ws.length := by omega
    exact ⟨vs, ws, vs[i], ws[i], tupAt_lat h l, .inl (l b _ h2 n2).1, by simp [h1], by simp [h3]⟩
  · rw [zipD_len, ← r.length, ← r2.length]; omega
  · obtain ⟨p, q, e1, e2, rfl⟩ := zipD_get ed
    obtain ⟨v, hv, rv⟩ := r.get e1
    obtain ⟨w, hw, rw'⟩ := r2.get e2
    obtain ⟨T, vx, vy, rfl, hT, rfl, f1, f2⟩ := y
    have g1 := f1 vs (tupAt_lat h l)
    have g2 := f2 ws (.inl (l b _ h2 n2).1)
    rw [hv] at g1; cases g1
    rw [hw] at g2; cases g2
    exact .inr ⟨T, _, _, rfl, hT, rfl, rfl, .cons (rv.tr l) (.cons (rw'.tr l) .nil)⟩
def mIZipM (ma : MA) : MI := fun ρ => match ma ρ with
  | some ([.tuple xs, .list ys], ρ1) => some (zipD xs ys, ρ1)
  | _ => none
theorem di_zipM {X : Cx} {a b : Expr} {ma : MA} {p pos tpos : Pos} {elts : List Expr} {kk : Nat} (hg : Gl X "zip") (hm : X.mg "zip" = none) (ha : DA X [a, b] ma)
    (hs : starEach [a, b] X.env = (false, eval a X.env) :: starEach [b] X.env := by rfl) (hpl : (PySem.backTo pos (starEach [b] X.env)).any (·.1) = false := by rfl) : DI X (.Tuple elts kk tpos) (.Call (.Name "zip" p) [a, b] [] pos) (mIZipM ma) :=
  PI.imp (RZ.pi_zipM hg hm ha hs hpl) fun σ H R ⟨ρ, M, O, π, ds, ρ', h, e, q⟩ => by
    unfold mIZipM at e
    split at e
    · rename_i xs ys ρ1 e1
      cases e
      refine ⟨ρ, M, O, π, _, _, h, e1, fun vs H1 M1 x1 s1 r1 => ?_⟩
      cases r1 with
      | cons rv rr =>
        cases rr with
        | cons rw' rr =>
          cases rr
          cases rv with
          | tup hr rr => cases rw' with
            | lst hr2 n2 rr2 => exact ⟨_, _, _, _, rfl, hr.sq, .inl hr2, q _ H1 M1 x1 s1 (src_zipM hr rr hr2 n2 rr2)⟩
    · cases e
end Vi

namespace K41
open PySem PySem.Spec PyProof.Rows L2 RT Vi

def topS (i : Nat) : Stmt := PySem.Challenge.pw_everychange_k41_signs_shares_and_least_r.main.body.getD i (.Pass ⟨0, 0, 0, 0⟩)
theorem sc6 : FnScope ["top", "bottom", "common"] ["top", "bottom"] (defScope (topS 6)) := ⟨rfl, rfl, rfl, by decide +kernel, rfl, by decide +kernel, by decide +kernel⟩
theorem sc7 : FnScope ["number"] ["number"] (defScope (topS 7)) := ⟨rfl, rfl, rfl, by decide +kernel, rfl, by decide +kernel, by decide +kernel⟩
theorem sc8 : FnScope ["x", "y"] ["x", "y"] (defScope (topS 8)) := ⟨rfl, rfl, rfl, by decide +kernel, rfl, by decide +kernel, by decide +kernel⟩
theorem sc9 : FnScope ["x", "y"] ["x", "y"] (defScope (topS 9)) := ⟨rfl, rfl, rfl, by decide +kernel, rfl, by decide +kernel, by decide +kernel⟩
theorem sc10 : FnScope ["x", "y"] ["x", "y"] (defScope (topS 10)) := ⟨rfl, rfl, rfl, by decide +kernel, rfl, by decide +kernel, by decide +kernel⟩
theorem sc11 : FnScope ["x", "y"] ["x", "y"] (defScope (topS 11)) := ⟨rfl, rfl, rfl, by decide +kernel, rfl, by decide +kernel, by decide +kernel⟩
theorem sc12 : FnScope ["x", "many"] ["x", "many"] (defScope (topS 12)) := ⟨rfl, rfl, rfl, by decide +kernel, rfl, by decide +kernel, by decide +kernel⟩
theorem sc13 : FnScope ["base", "many", "worth"] ["base", "many"] (defScope (topS 13)) := ⟨rfl, rfl, rfl, by decide +kernel, rfl, by decide +kernel, by decide +kernel⟩
theorem sc14 : FnScope ["x"] ["x"] (defScope (topS 14)) := ⟨rfl, rfl, rfl, by decide +kernel, rfl, by decide +kernel, by decide +kernel⟩
theorem sc15 : FnScope ["row", "other", "top", "bottom", "a", "b", "c", "d", "low"] ["row", "other"] (defScope (topS 15)) := ⟨rfl, rfl, rfl, by decide +kernel, rfl, by decide +kernel, by decide +kernel⟩
theorem sc17 : FnScope ["part", "other", "meets"] ["part", "other", "meets"] (defScope (topS 17)) := ⟨rfl, rfl, rfl, by decide +kernel, rfl, by decide +kernel, by decide +kernel⟩
theorem sc18 : FnScope ["row", "part", "meets", "at"] ["row", "part", "meets"] (defScope (topS 18)) := ⟨rfl, rfl, rfl, by decide +kernel, rfl, by decide +kernel, by decide +kernel⟩
theorem sc19 : FnScope ["row", "meets", "found", "part", "x", "at", "before", "total"] ["row", "meets"] (defScope (topS 19)) := ⟨rfl, rfl, rfl, by decide +kernel, rfl, by decide +kernel, by decide +kernel⟩
theorem sc20 : FnScope ["row"] ["row"] (defScope (topS 20)) := ⟨rfl, rfl, rfl, by decide +kernel, rfl, by decide +kernel, by decide +kernel⟩
theorem sc22 : FnScope ["row", "word", "worths", "part", "x", "letters"] ["row", "word"] (defScope (topS 22)) := ⟨rfl, rfl, rfl, by decide +kernel, rfl, by decide +kernel, by decide +kernel⟩
theorem sc23 : FnScope ["worths", "word", "part", "x", "letters", "share", "total", "piece"] ["worths", "word", "part", "x"] (defScope (topS 23)) := ⟨rfl, rfl, rfl, by decide +kernel, rfl, by decide +kernel, by decide +kernel⟩
theorem sc27 : FnScope ["many", "power", "there", "part"] ["many", "power"] (defScope (topS 27)) := ⟨rfl, rfl, rfl, by decide +kernel, rfl, by decide +kernel, by decide +kernel⟩
theorem sc28 : FnScope ["row", "a", "b", "words", "two", "less", "word"] ["row", "a", "b"] (defScope (topS 28)) := ⟨rfl, rfl, rfl, by decide +kernel, rfl, by decide +kernel, by decide +kernel⟩
theorem sc29 : FnScope ["row", "a", "b", "own", "others", "found", "part", "x", "before", "cubes"] ["row", "a", "b"] (defScope (topS 29)) := ⟨rfl, rfl, rfl, by decide +kernel, rfl, by decide +kernel, by decide +kernel⟩
theorem sc30 : FnScope ["row", "part", "x"] ["row"] (defScope (topS 30)) := ⟨rfl, rfl, rfl, by decide +kernel, rfl, by decide +kernel, by decide +kernel⟩
theorem sc32 : FnScope ["_law_script", "_law_k", "_law_bit_so"] ["_law_script", "_law_k"] (defScope (topS 32)) := ⟨rfl, rfl, rfl, by decide +kernel, rfl, by decide +kernel, by decide +kernel⟩
theorem sc33 : FnScope ["_law_urn", "_law_low_so", "_law_drawn", "_law_once", "_law_far", "_law_twice"] ["_law_urn", "_law_low_so"] (defScope (topS 33)) := ⟨rfl, rfl, rfl, by decide +kernel, rfl, by decide +kernel, by decide +kernel⟩
theorem sc34 : FnScope ["_law_script", "_law_roof_so", "_law_bits_so", "_law_k", "_law_bit_so", "_law_at_so"] ["_law_script", "_law_roof_so"] (defScope (topS 34)) := ⟨rfl, rfl, rfl, by decide +kernel, rfl, by decide +kernel, by decide +kernel⟩
theorem sc35 : FnScope ["_law_urn", "_law_some_so"] ["_law_urn", "_law_some_so"] (defScope (topS 35)) := ⟨rfl, rfl, rfl, by decide +kernel, rfl, by decide +kernel, by decide +kernel⟩
theorem sc36 : FnScope ["_law_matter", "_law_bit"] ["_law_matter"] (defScope (topS 36)) := ⟨rfl, rfl, rfl, by decide +kernel, rfl, by decide +kernel, by decide +kernel⟩
theorem sc37 : FnScope ["_law_mine", "_law_due", "_law_near", "_law_far"] ["_law_mine", "_law_due"] (defScope (topS 37)) := ⟨rfl, rfl, rfl, by decide +kernel, rfl, by decide +kernel, by decide +kernel⟩
theorem sc38 : FnScope ["_law_top_so", "_law_down_so", "_law_near", "_law_far"] ["_law_top_so", "_law_down_so"] (defScope (topS 38)) := ⟨rfl, rfl, rfl, by decide +kernel, rfl, by decide +kernel, by decide +kernel⟩
theorem sc39 : FnScope ["_law_urn", "_law_some_so", "_law_many", "_law_left_so", "_law_found", "_law_lap"] ["_law_urn", "_law_some_so", "_law_many"] (defScope (topS 39)) := ⟨rfl, rfl, rfl, by decide +kernel, rfl, by decide +kernel, by decide +kernel⟩
theorem sc40 : FnScope ["_law_own", "_law_far"] ["_law_own", "_law_far"] (defScope (topS 40)) := ⟨rfl, rfl, rfl, by decide +kernel, rfl, by decide +kernel, by decide +kernel⟩
theorem sc41 : FnScope ["_law_own", "_law_far"] ["_law_own", "_law_far"] (defScope (topS 41)) := ⟨rfl, rfl, rfl, by decide +kernel, rfl, by decide +kernel, by decide +kernel⟩
theorem sc42 : FnScope ["_law_one", "_law_two"] ["_law_one", "_law_two"] (defScope (topS 42)) := ⟨rfl, rfl, rfl, by decide +kernel, rfl, by decide +kernel, by decide +kernel⟩
theorem sc43 : FnScope ["_law_row_so", "_law_found", "_law_part", "_law_much_here"] ["_law_row_so"] (defScope (topS 43)) := ⟨rfl, rfl, rfl, by decide +kernel, rfl, by decide +kernel, by decide +kernel⟩
theorem sc44 : FnScope ["_law_row_so", "_law_word_so", "_law_part", "_law_much_here", "_law_found", "_law_share", "_law_rest", "_law_many"] ["_law_row_so", "_law_word_so"] (defScope (topS 44)) := ⟨rfl, rfl, rfl, by decide +kernel, rfl, by decide +kernel, by decide +kernel⟩
theorem sc45 : FnScope ["_law_parts_so", "_law_long_so", "_law_found", "_law_lap", "_law_longer_so", "_law_own", "_law_part"] ["_law_parts_so", "_law_long_so"] (defScope (topS 45)) := ⟨rfl, rfl, rfl, by decide +kernel, rfl, by decide +kernel, by decide +kernel⟩
theorem sc46 : FnScope ["_law_urn"] ["_law_urn"] (defScope (topS 46)) := ⟨rfl, rfl, rfl, by decide +kernel, rfl, by decide +kernel, by decide +kernel⟩
theorem sc47 : FnScope ["_law_urn", "_law_many", "_law_long_so", "_law_lap"] ["_law_urn", "_law_many", "_law_long_so"] (defScope (topS 47)) := ⟨rfl, rfl, rfl, by decide +kernel, rfl, by decide +kernel, by decide +kernel⟩
theorem sc48 : FnScope ["_law_one"] ["_law_one"] (defScope (topS 48)) := ⟨rfl, rfl, rfl, by decide +kernel, rfl, by decide +kernel, by decide +kernel⟩
theorem sc49 : FnScope ["_law_row_so", "_law_one", "_law_two", "_law_at", "_law_high", "_law_found", "_law_part", "_law_much_here", "_law_there", "_law_share"] ["_law_row_so", "_law_one", "_law_two"] (defScope (topS 49)) := ⟨rfl, rfl, rfl, by decide +kernel, rfl, by decide +kernel, by decide +kernel⟩
theorem sc50 : FnScope ["_law_row_so", "_law_one", "_law_two", "_law_found"] ["_law_row_so", "_law_one", "_law_two"] (defScope (topS 50)) := ⟨rfl, rfl, rfl, by decide +kernel, rfl, by decide +kernel, by decide +kernel⟩
theorem sc51 : FnScope ["_law_row_so", "_law_many", "_law_power", "_law_share", "_law_long_so", "_law_word_so"] ["_law_row_so", "_law_many", "_law_power"] (defScope (topS 51)) := ⟨rfl, rfl, rfl, by decide +kernel, rfl, by decide +kernel, by decide +kernel⟩
theorem sc52 : FnScope ["_law_many", "_law_power"] ["_law_many", "_law_power"] (defScope (topS 52)) := ⟨rfl, rfl, rfl, by decide +kernel, rfl, by decide +kernel, by decide +kernel⟩
theorem sc53 : FnScope ["_law_many", "_law_power", "_law_size", "_law_told", "_law_own"] [] (defScope (topS 53)) := ⟨rfl, rfl, rfl, by decide +kernel, rfl, by decide +kernel, by decide +kernel⟩
theorem sc54 : FnScope ["_law_i", "_law_o", "_law_half", "_law_less", "_law_six", "_law_halves", "_law_mine", "_law_due"] [] (defScope (topS 54)) := ⟨rfl, rfl, rfl, by decide +kernel, rfl, by decide +kernel, by decide +kernel⟩
theorem sc55 : FnScope ["_law_urn", "_law_many", "_law_row_so", "_law_one", "_law_two", "_law_steps_so", "_law_total_here", "_law_own", "_law_mine", "_law_below_so", "_law_part", "_law_much_here"] ["_law_urn"] (defScope (topS 55)) := ⟨rfl, rfl, rfl, by decide +kernel, rfl, by decide +kernel, by decide +kernel⟩
theorem sc56 : FnScope ["_law_script"] ["_law_script"] (defScope (topS 56)) := ⟨rfl, rfl, rfl, by decide +kernel, rfl, by decide +kernel, by decide +kernel⟩
def topI2 : Stmt := (clsB (topS 2)).getD 0 (.Pass ⟨0, 0, 0, 0⟩)
theorem scI2 : FnScope ["self"] ["self"] (defScope topI2) := ⟨rfl, rfl, rfl, by decide +kernel, rfl, by decide +kernel, by decide +kernel⟩
/-- fraction -/
def fn6 (cl : Nat → Fn) : Fn := mFn 3 2 ((mSeq (mIfS (mB (bin dEq (mVar 1) (mC (.int 0)))) mNever mNext) (mSeq (mSet 2 (mA dGcd (mCons (mVar 0) (mCons (mVar 1) mNil)))) (mSeq (mIfS (mB (bin dLt (mVar 1) (mC (.int 0)))) (mSet 2 (un dNeg (mVar 2))) mNext) (mRet (mTup (mCons (bin dDiv (mVar 0) (mVar 2)) (mCons (bin dDiv (mVar 1) (mVar 2)) mNil))))))))
/-- whole -/
def fn7 (cl : Nat → Fn) : Fn := mFn 1 1 ((mRet (mTup (mCons (mVar 0) (mCons (mC (.int 1)) mNil)))))
/-- plus -/
def fn8 (cl : Nat → Fn) : Fn := mFn 2 2 ((mSeq (mIfS (mB (bin dEq (bin dIx (mVar 0) (mC (.int 1))) (bin dIx (mVar 1) (mC (.int 1))))) (mRet (mCall (cl 6) (rVal (bin dAdd (bin dIx (mVar 0) (mC (.int 0))) (bin dIx (mVar 1) (mC (.int 0)))) (rVal (bin dIx (mVar 0) (mC (.int 1))) rNil)))) mNext) (mRet (mCall (cl 6) (rVal (bin dAdd (bin dMul (bin dIx (mVar 0) (mC (.int 0))) (bin dIx (mVar 1) (mC (.int 1)))) (bin dMul (bin dIx (mVar 1) (mC (.int 0))) (bin dIx (mVar 0) (mC (.int 1))))) (rVal (bin dMul (bin dIx (mVar 0) (mC (.int 1))) (bin dIx (mVar 1) (mC (.int 1)))) rNil))))))
/-- minus -/
def fn9 (cl : Nat → Fn) : Fn := mFn 2 2 ((mRet (mCall (cl 8) (rVal (mVar 0) (rVal (mTup (mCons (un dNeg (bin dIx (mVar 1) (mC (.int 0)))) (mCons (bin dIx (mVar 1) (mC (.int 1))) mNil))) rNil)))))
/-- times -/
def fn10 (cl : Nat → Fn) : Fn := mFn 2 2 ((mRet (mCall (cl 6) (rVal (bin dMul (bin dIx (mVar 0) (mC (.int 0))) (bin dIx (mVar 1) (mC (.int 0)))) (rVal (bin dMul (bin dIx (mVar 0) (mC (.int 1))) (bin dIx (mVar 1) (mC (.int 1)))) rNil)))))
/-- over -/
def fn11 (cl : Nat → Fn) : Fn := mFn 2 2 ((mRet (mCall (cl 6) (rVal (bin dMul (bin dIx (mVar 0) (mC (.int 0))) (bin dIx (mVar 1) (mC (.int 1)))) (rVal (bin dMul (bin dIx (mVar 0) (mC (.int 1))) (bin dIx (mVar 1) (mC (.int 0)))) rNil)))))
/-- power_of -/
def fn12 (cl : Nat → Fn) : Fn := mFn 2 2 ((mSeq (mIfS (mB (bin dLt (mVar 1) (mC (.int 0)))) (mRet (mCall (cl 12) (rVal (mCall (cl 11) (rVal (mC (.tuple ([1, 1].map .int))) (rVal (mVar 0) rNil))) (rVal (un dNeg (mVar 1)) rNil)))) mNext) (mRet (mTup (mCons (mCall (cl 13) (rVal (bin dIx (mVar 0) (mC (.int 0))) (rVal (mVar 1) rNil))) (mCons (mCall (cl 13) (rVal (bin dIx (mVar 0) (mC (.int 1))) (rVal (mVar 1) rNil))) mNil))))))
/-- _raised -/
def fn13 (cl : Nat → Fn) : Fn := mFn 3 2 ((mSeq (mSet 2 (mC (.int 1))) (mSeq (whl (mTru (mVar 1)) (mSeq (mIfS (mTru (bin dAnd1 (mVar 1) (mC (.int 1)))) (mSet 2 (bin dMul (mVar 2) (mVar 0))) mNext) (mSeq (mSet 0 (bin dMul (mVar 0) (mVar 0))) (mSet 1 (bin dShr (mVar 1) (mC (.int 1)))))) 400) (mRet (mVar 2)))))
/-- sign_of -/
def fn14 (cl : Nat → Fn) : Fn := mFn 1 1 ((mRet (bin dSubB (bin dGt (bin dIx (mVar 0) (mC (.int 0))) (mC (.int 0))) (bin dLt (bin dIx (mVar 0) (mC (.int 0))) (mC (.int 0))))))
/-- dot -/
def fn15 (cl : Nat → Fn) : Fn := mFn 9 2 ((mSeq (mPar 2 3 (mC (.int 0)) (mC (.int 1))) (mSeq (mFor (mIZipM (mCons (mVar 0) (mCons (mVar 1) mNil))) (mGtup 2 (mGcons (mGtup 2 (mGcons (mN 4) (mGcons (mN 5) mGnil))) (mGcons (mGtup 2 (mGcons (mN 6) (mGcons (mN 7) mGnil))) mGnil))) (mSeq (mIfS (mOrT (mB (bin dEq (mVar 4) (mC (.int 0)))) (mB (bin dEq (mVar 6) (mC (.int 0))))) mCont mNext) (mSeq (mSet 8 (bin dMul (mVar 5) (mVar 7))) (mIfS (mB (bin dEq (mVar 8) (mVar 3))) (mSet 2 (bin dAdd (mVar 2) (bin dMul (mVar 4) (mVar 6)))) (mAsgG (mCall (cl 6) (rVal (bin dAdd (bin dMul (mVar 2) (mVar 8)) (bin dMul (bin dMul (mVar 4) (mVar 6)) (mVar 3))) (rVal (bin dMul (mVar 3) (mVar 8)) rNil))) (mGtup 2 (mGcons (mN 2) (mGcons (mN 3) mGnil)))))))) (mRet (mCall (cl 6) (rVal (mVar 2) (rVal (mVar 3) rNil)))))))
/-- _go_together -/
def fn17 (cl : Nat → Fn) : Fn := mFn 3 3 ((mRet (bin (dInT false) (mTup (mCons (mA dMin2 (mCons (mVar 0) (mCons (mVar 1) mNil))) (mCons (mA dMax2 (mCons (mVar 0) (mCons (mVar 1) mNil))) mNil))) (mVar 2))))
/-- _place_to_join -/
def fn18 (cl : Nat → Fn) : Fn := mFn 4 3 ((mSeq (mFor (mIDown (mCons (bin dSub (un dLen (mVar 0)) (mC (.int 1))) (mCons (un dNeg (mC (.int 1))) (mCons (un dNeg (mC (.int 1))) mNil)))) (mN 3) (mSeq (mIfS (mB (bin dEq (bin dIx (bin dIx (mVar 0) (mVar 3)) (mC (.int 0))) (mVar 1))) (mRet (mVar 3)) mNext) (mIfS (mNotT (mTru (mCall (cl 17) (rVal (bin dIx (bin dIx (mVar 0) (mVar 3)) (mC (.int 0))) (rVal (mVar 1) (rVal (mVar 2) rNil)))))) (mRet (mC .none)) mNext))) (mRet (mC .none))))
/-- _shortest -/
def fn19 (cl : Nat → Fn) : Fn := mFn 8 2 ((mSeq (mSet 2 (mLst mNil)) (mSeq (mFor (mISeq (mVar 0)) (mGseq 2 (mGcons (mN 3) (mGcons (mN 4) mGnil))) (mSeq (mSet 5 (mCall (cl 18) (rSlot 2 (rVal (mVar 3) (rVal (mVar 1) rNil))))) (mSeq (mIfS (mB (bin dIs (mVar 5) (mC .none))) (mPar 5 6 (un dLen (mVar 2)) (mC (.tuple ([0, 1].map .int)))) (mSet 6 (bin dIx (bin dIx (mVar 2) (mVar 5)) (mC (.int 1))))) (mSeq (mSet 7 (mCall (cl 8) (rVal (mVar 6) (rVal (mVar 4) rNil)))) (mSlx 2 (mPart (mVar 5)) (mPart (bin dAdd (mVar 5) (mC (.int 1)))) (mIf (mTru (bin dIx (mVar 7) (mC (.int 0)))) (mLst (mCons (mTup (mCons (mVar 3) (mCons (mVar 7) mNil))) mNil)) (mLst mNil))))))) (mRet (mVar 2)))))
/-- normal_row -/
def fn20 (cl : Nat → Fn) : Fn := mFn 1 1 ((mRet (un dTuple (mCall (cl 19) (rVal (mVar 0) (rVal (mTup mNil) rNil))))))
/-- word_worth -/
def fn22 (cl : Nat → Fn) : Fn := mFn 6 2 ((mSeq (mSet 2 (bin dAdd (mLst (mCons (mC (.tuple ([1, 1].map .int))) mNil)) (mRep (mLst (mCons (mC (.tuple ([0, 1].map .int))) mNil)) (un dLen (mVar 1))))) (mSeq (mFor (mISeq (mVar 0)) (mGseq 2 (mGcons (mN 3) (mGcons (mN 4) mGnil))) (mSet 2 (mComp (mIRng1 (mCons (bin dAdd (un dLen (mVar 1)) (mC (.int 1))) mNil)) (mN 5) mYes (mCall (cl 23) (rVal (mVar 2) (rVal (mSl (mVar 1) mNoPart (mPart (mVar 5))) (rVal (mVar 3) (rVal (mVar 4) rNil))))) [5]))) (mRet (bin dIx (mVar 2) (un dNeg (mC (.int 1))))))))
/-- _worth_behind -/
def fn23 (cl : Nat → Fn) : Fn := mFn 8 4 ((mSeq (mPar 4 5 (un dLen (mVar 1)) (mC (.tuple ([1, 1].map .int)))) (mSeq (mSet 6 (bin dIx (mVar 0) (mVar 4))) (mSeq (mFor (mIRng2 (mCons (mC (.int 1)) (mCons (bin dAdd (mVar 4) (mC (.int 1))) mNil))) (mN 7) (mSeq (mIfS (mB (bin dNe (bin dIx (mVar 1) (bin dSub (mVar 4) (mVar 7))) (mVar 2))) mBrk mNext) (mSeq (mSet 5 (mCall (cl 10) (rVal (mVar 5) (rVal (mCall (cl 11) (rVal (mVar 3) (rVal (mCall (cl 7) (rVal (mVar 7) rNil)) rNil))) rNil)))) (mSet 6 (mCall (cl 8) (rVal (mVar 6) (rVal (mCall (cl 10) (rVal (mVar 5) (rVal (bin dIx (mVar 0) (bin dSub (mVar 4) (mVar 7))) rNil))) rNil))))))) (mRet (mVar 6))))))
/-- least_row -/
def fn27 (cl : Nat → Fn) : Fn := mFn 4 2 ((mSeq (mIfS (mOrT (mB (bin dEq (mVar 0) (mC (.int 1)))) (mB (bin dEq (mVar 1) (mC (.int 1))))) (mRet (un dTuple (mComp (mIRng1 (mCons (mVar 0) mNil)) (mN 3) mYes (mTup (mCons (mVar 3) (mCons (mC (.tuple ([1, 1].map .int))) mNil))) [3]))) mNext) (mSeq (mIfS (mB (bin dEq (mVar 1) (mC (.int 2)))) (mSeq (mSet 2 (mComp (mIRng1 (mCons (bin dSub (mVar 0) (mC (.int 1))) mNil)) (mN 3) mYes (mTup (mCons (mVar 3) (mCons (mC (.tuple ([1, 2].map .int))) mNil))) [3])) (mRet (un dTuple (bin dAdd (bin dAdd (mVar 2) (mLst (mCons (mTup (mCons (bin dSub (mVar 0) (mC (.int 1))) (mCons (mC (.tuple ([1, 1].map .int))) mNil))) mNil))) (mLRev (mVar 2)))))) mNext) (mSeq (mIfS (mAndT (mB (bin dEq (mVar 0) (mC (.int 2)))) (mB (bin dEq (mVar 1) (mC (.int 3))))) (mRet (mC (.tuple [.tuple [.int (0), .tuple [.int (7), .int (24)]], .tuple [.int (1), .tuple [.int (2), .int (3)]], .tuple [.int (0), .tuple [.int (3), .int (4)]], .tuple [.int (1), .tuple [.int (-2), .int (3)]], .tuple [.int (0), .tuple [.int (-1), .int (24)]], .tuple [.int (1), .tuple [.int (1), .int (1)]]]))) mNext) mNever))))
/-- sign_sum -/
def fn28 (cl : Nat → Fn) : Fn := mFn 7 3 ((mSeq (mSet 3 (mTup (mCons (mTup (mCons (mVar 2) (mCons (mVar 2) (mCons (mVar 1) mNil)))) (mCons (mTup (mCons (mVar 1) (mCons (mVar 2) (mCons (mVar 1) mNil)))) (mCons (mTup (mCons (mVar 2) (mCons (mVar 1) (mCons (mVar 1) mNil)))) (mCons (mTup (mCons (mVar 1) (mCons (mVar 1) (mCons (mVar 1) mNil)))) mNil)))))) (mSeq (mPar 4 5 (mCall (cl 7) (rVal (mC (.int 2)) rNil)) (mCall (cl 7) (rVal (un dNeg (mC (.int 2))) rNil))) (mRet (mCall (cl 15) (rVal (mTup (mCons (mVar 4) (mCons (mVar 5) (mCons (mVar 5) (mCons (mVar 4) mNil))))) (rVal (mComp (mISeq (mVar 3)) (mN 6) mYes (mCall (cl 22) (rVal (mVar 0) (rVal (mVar 6) rNil))) [6]) rNil)))))))
/-- sign_steps -/
def fn29 (cl : Nat → Fn) : Fn := mFn 10 3 ((mSeq (mPar3O 3 4 5 (mC (.tuple ([0, 1].map .int))) (mC (.tuple ([0, 1].map .int))) (mLst mNil)) (mSeq (mFor (mISeq (mVar 0)) (mGseq 2 (mGcons (mN 6) (mGcons (mN 7) mGnil))) (mSeq (mIfS (mB (bin dEq (mVar 6) (mVar 2))) (mSet 4 (mCall (cl 8) (rVal (mVar 4) (rVal (mVar 7) rNil)))) mNext) (mIfS (mB (bin dEq (mVar 6) (mVar 1))) (mSeq (mPar 8 3 (mVar 3) (mCall (cl 8) (rVal (mVar 3) (rVal (mVar 7) rNil)))) (mSeq (mSet 9 (mCall (cl 9) (rVal (mCall (cl 12) (rVal (mCall (cl 9) (rVal (mVar 3) (rVal (mVar 4) rNil))) (rVal (mC (.int 3)) rNil))) (rVal (mCall (cl 12) (rVal (mCall (cl 9) (rVal (mVar 8) (rVal (mVar 4) rNil))) (rVal (mC (.int 3)) rNil))) rNil)))) (mDrop (mApp 5 (mTup (mCons (mVar 8) (mCons (mVar 3) (mCons (mVar 4) (mCons (mCall (cl 11) (rVal (mVar 9) (rVal (mCall (cl 7) (rVal (mC (.int 3)) rNil)) rNil))) mNil))))))))) mNext))) (mRet (un dTuple (mVar 5))))))
/-- below_parts -/
def fn30 (cl : Nat → Fn) : Fn := mFn 3 1 ((mRet (un dTuple (un dSortSetI (mComp (mISeq (mCall (cl 20) (rVal (mVar 0) rNil))) (mGseq 2 (mGcons (mN 1) (mGcons (mN 2) mGnil))) (mB (bin dLt (mCall (cl 14) (rVal (mVar 2) rNil)) (mC (.int 0)))) (mVar 1) [1, 2])))))
/-- _law_box -/
def fn32 (cl : Nat → Fn) : Fn := mFn 3 2 ((mSeq (mSet 2 (mIf (mB (bin dLt (mVar 1) (un dLen (mVar 0)))) (bin dIx (mVar 0) (mVar 1)) (mC (.int 0)))) (mRet (mLst (mCons (bin dMul (un dAbs (mVar 2)) (un dInt (bin dGe (un dAbs (mVar 2)) (bin dPow (mC (.int 10)) (mC (.int 18)))))) (mCons (bin dAdd (bin dAdd (bin dMod (un dInt (mVar 2)) (mC (.int 2305843009213693951))) (bin dMul (mC (.int 39373)) (mVar 1))) (mC (.int 88541))) (mCons (mC (.int 0)) mNil)))))))
/-- _law_take -/
def fn33 (cl : Nat → Fn) : Fn := mFn 6 2 ((mSeq (mIfS (mB (bin dGt (bin dIx (mVar 0) (mC (.int 0))) (mC (.int 0)))) (mSeq (mSet 2 (bin dMod (un dInt (bin dIx (mVar 0) (mC (.int 0)))) (mVar 1))) (mSeq (mStore 0 (mC (.int 0)) (bin dDiv (bin dIx (mVar 0) (mC (.int 0))) (mVar 1))) (mRet (mVar 2)))) mNext) (mSeq (mStore 0 (mC (.int 2)) (bin dAdd (bin dIx (mVar 0) (mC (.int 2))) (mC (.int 1)))) (mSeq (mSet 3 (bin dMod (un dInt (bin dMul (bin dAdd (bin dIx (mVar 0) (mC (.int 1))) (bin dMul (mC (.int 48271)) (bin dIx (mVar 0) (mC (.int 2))))) (bin dAdd (mC (.int 39373)) (bin dIx (mVar 0) (mC (.int 2)))))) (mC (.int 2147483647)))) (mSeq (mSet 4 (bin dAdd (bin dMod (un dInt (mVar 3)) (mC (.int 40009))) (mC (.int 7)))) (mSeq (mSet 5 (bin dMod (un dInt (bin dMul (bin dAdd (bin dAdd (mVar 3) (bin dIx (mVar 0) (mC (.int 2)))) (bin dDiv (bin dIx (mVar 0) (mC (.int 1))) (mC (.int 1000003)))) (mVar 4))) (mC (.int 2147483629)))) (mRet (bin dMod (un dInt (bin dDiv (bin dMod (un dInt (bin dAdd (bin dMul (mVar 5) (mC (.int 48271))) (mVar 3))) (mC (.int 2147483587))) (mC (.int 64)))) (mVar 1)))))))))
/-- _law_cells -/
def fn34 (cl : Nat → Fn) : Fn := mFn 6 2 ((mSeq (mSet 2 (mOr (un dList (mSl (mVar 0) mNoPart (mPart (mVar 1)))) (mLst (mCons (mC (.int 0)) mNil)))) (mSeq (mFor (mIEnum (mCons (mSl (mVar 0) (mPart (mVar 1)) (mPart (mC (.int 63)))) mNil)) (mGtup 2 (mGcons (mN 3) (mGcons (mN 4) mGnil))) (mSeq (mSet 5 (bin dMod (un dInt (mVar 3)) (mVar 1))) (mStore 2 (mVar 5) (bin dAdd (bin dIx (mVar 2) (mVar 5)) (bin dMul (mVar 4) (bin dAdd (mVar 3) (mC (.int 2)))))))) (mRet (mVar 2)))))
/-- _law_of -/
def fn35 (cl : Nat → Fn) : Fn := mFn 2 2 ((mRet (bin dIx (mVar 1) (mCall (cl 33) (rSlot 0 (rVal (un dLen (mVar 1)) rNil))))))
/-- _law_lists -/
def fn36 (cl : Nat → Fn) : Fn := mFn 2 1 ((mRet (mIf (mTru (un (dIsi2 Ty.list Ty.tuple) (mVar 0))) (mComp (mISeq (mVar 0)) (mN 1) mYes (mCall (cl 36) (rVal (mVar 1) rNil)) [1]) (mVar 0))))
/-- _law_same -/
def fn37 (cl : Nat → Fn) : Fn := mFn 4 2 ((mSeq (mIfS (mTru (un (dIsi2 Ty.list Ty.tuple) (mVar 1))) (mSeq (mIfS (mOrT (mB (bin dNe (un (dIsi Ty.list) (mVar 0)) (un (dIsi Ty.list) (mVar 1)))) (mB (bin dNe (un (dIsi Ty.tuple) (mVar 0)) (un (dIsi Ty.tuple) (mVar 1))))) (mRet (mC (.bool false))) mNext) (mRet (mAnd (bin dEq (un dLen (mVar 0)) (un dLen (mVar 1))) (un dAll (mComp (mIZip (mCons (mVar 0) (mCons (mVar 1) mNil))) (mGtup 2 (mGcons (mN 2) (mGcons (mN 3) mGnil))) mYes (mCall (cl 37) (rVal (mVar 2) (rVal (mVar 3) rNil))) [2, 3]))))) mNext) (mSeq (mIfS (mOrT (mB (bin dIs (mVar 1) (mC .none))) (mTru (un (dIsi2 Ty.bool Ty.str) (mVar 1)))) (mRet (mAnd (bin dEq (mVar 0) (mVar 1)) (mAnd (bin dEq (un (dIsi Ty.bool) (mVar 0)) (un (dIsi Ty.bool) (mVar 1))) (bin dEq (bin dIs (mVar 0) (mC .none)) (bin dIs (mVar 1) (mC .none)))))) mNext) (mRet (mAnd (un (dIsi Ty.int) (mVar 0)) (mAnd (un dNot (un (dIsi Ty.bool) (mVar 0))) (bin dEq (mVar 0) (mVar 1))))))))
/-- _law_low -/
def fn38 (cl : Nat → Fn) : Fn := mFn 4 2 ((mSeq (mPar 2 3 (un dAbs (mVar 0)) (un dAbs (mVar 1))) (mSeq (whl (mB (bin dGt (mVar 3) (mC (.int 0)))) (mPar 2 3 (mVar 3) (bin dMod (un dInt (mVar 2)) (mVar 3))) 400) (mSeq (mIfS (mB (bin dLt (mVar 1) (mC (.int 0)))) (mSet 2 (bin dSub (mC (.int 0)) (mVar 2))) mNext) (mRet (mTup (mCons (bin dDiv (mVar 0) (mVar 2)) (mCons (bin dDiv (mVar 1) (mVar 2)) mNil))))))))
/-- _law_pick -/
def fn39 (cl : Nat → Fn) : Fn := mFn 6 3 ((mSeq (mPar 3 4 (un dList (mVar 1)) (mLst mNil)) (mSeq (mFor (mIRng1 (mCons (mA dMin2 (mCons (mVar 2) (mCons (un dLen (mVar 3)) mNil))) mNil)) (mN 5) (mDrop (mApp 4 (mPopAt 3 (mCall (cl 33) (rSlot 0 (rVal (un dLen (mVar 3)) rNil))))))) (mRet (mVar 4)))))
/-- _law_add -/
def fn40 (cl : Nat → Fn) : Fn := mFn 2 2 ((mRet (mCall (cl 38) (rVal (bin dAdd (bin dMul (bin dIx (mVar 0) (mC (.int 0))) (bin dIx (mVar 1) (mC (.int 1)))) (bin dMul (bin dIx (mVar 1) (mC (.int 0))) (bin dIx (mVar 0) (mC (.int 1))))) (rVal (bin dMul (bin dIx (mVar 0) (mC (.int 1))) (bin dIx (mVar 1) (mC (.int 1)))) rNil)))))
/-- _law_mul -/
def fn41 (cl : Nat → Fn) : Fn := mFn 2 2 ((mRet (mCall (cl 38) (rVal (bin dMul (bin dIx (mVar 0) (mC (.int 0))) (bin dIx (mVar 1) (mC (.int 0)))) (rVal (bin dMul (bin dIx (mVar 0) (mC (.int 1))) (bin dIx (mVar 1) (mC (.int 1)))) rNil)))))
/-- _law_sub -/
def fn42 (cl : Nat → Fn) : Fn := mFn 2 2 ((mRet (mCall (cl 38) (rVal (bin dSub (bin dMul (bin dIx (mVar 0) (mC (.int 0))) (bin dIx (mVar 1) (mC (.int 1)))) (bin dMul (bin dIx (mVar 1) (mC (.int 0))) (bin dIx (mVar 0) (mC (.int 1))))) (rVal (bin dMul (bin dIx (mVar 0) (mC (.int 1))) (bin dIx (mVar 1) (mC (.int 1)))) rNil)))))
/-- _law_normal -/
def fn43 (cl : Nat → Fn) : Fn := mFn 4 1 ((mSeq (mSet 1 (mLst mNil)) (mSeq (mFor (mISeq (mVar 0)) (mGseq 2 (mGcons (mN 2) (mGcons (mN 3) mGnil))) (mSeq (mIfS (mAndT (mB (bin dNe (mVar 1) (mLst mNil))) (mB (bin dEq (bin dIx (bin dIx (mVar 1) (un dNeg (mC (.int 1)))) (mC (.int 0))) (mVar 2)))) (mSet 3 (mCall (cl 40) (rVal (bin dIx (mPop 1) (mC (.int 1))) (rVal (mVar 3) rNil)))) mNext) (mIfS (mB (bin dNe (bin dIx (mVar 3) (mC (.int 0))) (mC (.int 0)))) (mDrop (mApp 1 (mTup (mCons (mVar 2) (mCons (mVar 3) mNil))))) mNext))) (mRet (un dTuple (mVar 1))))))
/-- _law_worth -/
def fn44 (cl : Nat → Fn) : Fn := mFn 8 2 ((mSeq (mIfS (mB (bin dEq (mVar 0) (mTup mNil))) (mRet (mTup (mCons (un dInt (bin dEq (mVar 1) (mTup mNil))) (mCons (mC (.int 1)) mNil)))) mNext) (mSeq (mAsgG (bin dIx (mVar 0) (un dNeg (mC (.int 1)))) (mGtup 2 (mGcons (mN 2) (mGcons (mN 3) mGnil)))) (mSeq (mPar3O 4 5 6 (mCall (cl 44) (rVal (mSl (mVar 0) mNoPart (mPart (un dNeg (mC (.int 1))))) (rVal (mVar 1) rNil))) (mTup (mCons (mC (.int 1)) (mCons (mC (.int 1)) mNil))) (mVar 1)) (mSeq (mFor (mIRng2 (mCons (mC (.int 1)) (mCons (bin dAdd (un dLen (mVar 1)) (mC (.int 1))) mNil))) (mN 7) (mSeq (mIfS (mOrT (mB (bin dEq (mVar 6) (mTup mNil))) (mB (bin dNe (bin dIx (mVar 6) (un dNeg (mC (.int 1)))) (mVar 2)))) (mRet (mVar 4)) mNext) (mSeq (mSet 6 (mSl (mVar 6) mNoPart (mPart (un dNeg (mC (.int 1)))))) (mSeq (mSet 5 (mCall (cl 38) (rVal (bin dMul (bin dIx (mVar 5) (mC (.int 0))) (bin dIx (mVar 3) (mC (.int 0)))) (rVal (bin dMul (bin dMul (bin dIx (mVar 5) (mC (.int 1))) (bin dIx (mVar 3) (mC (.int 1)))) (mVar 7)) rNil)))) (mSet 4 (mCall (cl 40) (rVal (mVar 4) (rVal (mCall (cl 41) (rVal (mVar 5) (rVal (mCall (cl 44) (rVal (mSl (mVar 0) mNoPart (mPart (un dNeg (mC (.int 1))))) (rVal (mVar 6) rNil))) rNil))) rNil)))))))) (mRet (mVar 4)))))))
/-- _law_words -/
def fn45 (cl : Nat → Fn) : Fn := mFn 7 2 ((mSeq (mSet 2 (mLst (mCons (mTup mNil) mNil))) (mSeq (mFor (mIRng1 (mCons (mVar 1) mNil)) (mN 3) (mSeq (mSet 4 (mLst mNil)) (mSeq (mFor (mISeq (mVar 2)) (mN 5) (mSet 4 (bin dAdd (mVar 4) (mComp (mISeq (mVar 0)) (mN 6) mYes (bin dAdd (mVar 5) (mTup (mCons (mVar 6) mNil))) [6])))) (mSet 2 (mVar 4))))) (mRet (mVar 2)))))
/-- _law_much -/
def fn46 (cl : Nat → Fn) : Fn := mFn 1 1 ((mRet (mCall (cl 35) (rSlot 0 (rVal (mLst (mCons (mTup (mCons (mC (.int 1)) (mCons (mC (.int 1)) mNil))) (mCons (mTup (mCons (un dNeg (mC (.int 1))) (mCons (mC (.int 1)) mNil))) (mCons (mTup (mCons (mC (.int 1)) (mCons (mC (.int 2)) mNil))) (mCons (mTup (mCons (un dNeg (mC (.int 1))) (mCons (mC (.int 2)) mNil))) (mCons (mTup (mCons (mC (.int 2)) (mCons (mC (.int 1)) mNil))) (mCons (mTup (mCons (un dNeg (mC (.int 2))) (mCons (mC (.int 1)) mNil))) (mCons (mTup (mCons (mC (.int 1)) (mCons (mC (.int 3)) mNil))) (mCons (mTup (mCons (un dNeg (mC (.int 3))) (mCons (mC (.int 2)) mNil))) (mCons (mTup (mCons (mC (.int 3)) (mCons (mC (.int 1)) mNil))) (mCons (mTup (mCons (mC (.int 0)) (mCons (mC (.int 1)) mNil))) mNil))))))))))) rNil)))))
/-- _law_row -/
def fn47 (cl : Nat → Fn) : Fn := mFn 4 3 ((mRet (un dTuple (mComp (mIRng1 (mCons (mVar 2) mNil)) (mN 3) mYes (mTup (mCons (mCall (cl 33) (rSlot 0 (rVal (mVar 1) rNil))) (mCons (mCall (cl 46) (rSlot 0 rNil)) mNil))) [3]))))
/-- _law_cube -/
def fn48 (cl : Nat → Fn) : Fn := mFn 1 1 ((mRet (mCall (cl 41) (rVal (mCall (cl 41) (rVal (mVar 0) (rVal (mVar 0) rNil))) (rVal (mVar 0) rNil)))))
/-- _law_steps -/
def fn49 (cl : Nat → Fn) : Fn := mFn 10 3 ((mSeq (mPar3O 3 4 5 (mTup (mCons (mC (.int 0)) (mCons (mC (.int 1)) mNil))) (mTup (mCons (mC (.int 0)) (mCons (mC (.int 1)) mNil))) (mLst mNil)) (mSeq (mFor (mISeq (mVar 0)) (mGseq 2 (mGcons (mN 6) (mGcons (mN 7) mGnil))) (mSeq (mIfS (mB (bin dEq (mVar 6) (mVar 1))) (mSeq (mSet 8 (mCall (cl 40) (rVal (mVar 3) (rVal (mVar 7) rNil)))) (mSeq (mSet 9 (mCall (cl 42) (rVal (mCall (cl 48) (rVal (mCall (cl 42) (rVal (mVar 4) (rVal (mVar 3) rNil))) rNil)) (rVal (mCall (cl 48) (rVal (mCall (cl 42) (rVal (mVar 4) (rVal (mVar 8) rNil))) rNil)) rNil)))) (mSeq (mDrop (mApp 5 (mTup (mCons (mVar 3) (mCons (mVar 8) (mCons (mVar 4) (mCons (mCall (cl 38) (rVal (bin dIx (mVar 9) (mC (.int 0))) (rVal (bin dMul (bin dIx (mVar 9) (mC (.int 1))) (mC (.int 3))) rNil))) mNil))))))) (mSet 3 (mVar 8))))) mNext) (mIfS (mB (bin dEq (mVar 6) (mVar 2))) (mSet 4 (mCall (cl 40) (rVal (mVar 4) (rVal (mVar 7) rNil)))) mNext))) (mRet (un dTuple (mVar 5))))))
/-- _law_total -/
def fn50 (cl : Nat → Fn) : Fn := mFn 4 3 ((mSeq (mSet 3 (mCall (cl 40) (rVal (mCall (cl 44) (rVal (mVar 0) (rVal (mTup (mCons (mVar 2) (mCons (mVar 2) (mCons (mVar 1) mNil)))) rNil))) (rVal (mCall (cl 44) (rVal (mVar 0) (rVal (mTup (mCons (mVar 1) (mCons (mVar 1) (mCons (mVar 1) mNil)))) rNil))) rNil)))) (mSeq (mSet 3 (mCall (cl 42) (rVal (mVar 3) (rVal (mCall (cl 40) (rVal (mCall (cl 44) (rVal (mVar 0) (rVal (mTup (mCons (mVar 1) (mCons (mVar 2) (mCons (mVar 1) mNil)))) rNil))) (rVal (mCall (cl 44) (rVal (mVar 0) (rVal (mTup (mCons (mVar 2) (mCons (mVar 1) (mCons (mVar 1) mNil)))) rNil))) rNil))) rNil)))) (mRet (mCall (cl 41) (rVal (mVar 3) (rVal (mTup (mCons (mC (.int 2)) (mCons (mC (.int 1)) mNil))) rNil)))))))
/-- _law_has_order -/
def fn51 (cl : Nat → Fn) : Fn := mFn 6 3 ((mSeq (mSet 3 (mC (.int 1))) (mSeq (mFor (mIRng2 (mCons (mC (.int 1)) (mCons (bin dAdd (mVar 2) (mC (.int 1))) mNil))) (mN 4) (mSeq (mSet 3 (bin dMul (mVar 3) (mVar 4))) (mFor (mISeq (mCall (cl 45) (rVal (mLRng (mVar 1)) (rVal (mVar 4) rNil)))) (mN 5) (mIfS (mB (bin dNe (mCall (cl 44) (rVal (mVar 0) (rVal (mVar 5) rNil))) (mTup (mCons (mC (.int 1)) (mCons (mVar 3) mNil))))) (mRet (mC (.bool false))) mNext)))) (mRet (mC (.bool true))))))
/-- _law_least -/
def fn52 (cl : Nat → Fn) (cx : Nat → Fn × FnX) : Fn := mFn 2 2 ((mTry 2 (mRet (mCall (cx 27).1 (rVal (mVar 0) (rVal (mVar 1) rNil)))) (xCall (cx 27).2 (rVal (mVar 0) (rVal (mVar 1) rNil))) (mRet (mC (.str "unfit")))))
/-- _law_least_right -/
def fn53 (cl : Nat → Fn) : Fn := mFn 5 0 ((mSeq (mFor (mISeq (mTup (mCons (mTup (mCons (mC (.int 1)) (mCons (mC (.int 1)) (mCons (mC (.int 1)) mNil)))) (mCons (mTup (mCons (mC (.int 1)) (mCons (mC (.int 6)) (mCons (mC (.int 1)) mNil)))) (mCons (mTup (mCons (mC (.int 3)) (mCons (mC (.int 1)) (mCons (mC (.int 3)) mNil)))) (mCons (mTup (mCons (mC (.int 2)) (mCons (mC (.int 2)) (mCons (mC (.int 3)) mNil)))) (mCons (mTup (mCons (mC (.int 3)) (mCons (mC (.int 2)) (mCons (mC (.int 5)) mNil)))) (mCons (mTup (mCons (mC (.int 4)) (mCons (mC (.int 2)) (mCons (mC (.int 7)) mNil)))) (mCons (mTup (mCons (mC (.int 2)) (mCons (mC (.int 3)) (mCons (mC (.int 6)) mNil)))) mNil))))))))) (mGseq 3 (mGcons (mN 0) (mGcons (mN 1) (mGcons (mN 2) mGnil)))) (mSeq (mSet 3 (mCall (cl 52) (rVal (mVar 0) (rVal (mVar 1) rNil)))) (mSeq (mIfS (mOrT (mNotT (mTru (un (dIsi Ty.tuple) (mVar 3)))) (mOrT (mB (bin dNe (un dLen (mVar 3)) (mVar 2))) (mNotT (mTru (un dAll (mComp (mISeq (mVar 3)) (mN 4) mYes (mAnd (un (dIsi Ty.tuple) (mVar 4)) (bin dEq (un dLen (mVar 4)) (mC (.int 2)))) [4])))))) (mRet (mC (.bool false))) mNext) (mSeq (mIfS (mNotT (mTru (un dAll (mComp (mISeq (mVar 3)) (mN 4) mYes (mAnd (un (dIsi Ty.int) (bin dIx (mVar 4) (mC (.int 0)))) (mAnd (un (dIsi Ty.tuple) (bin dIx (mVar 4) (mC (.int 1)))) (bin dEq (un dLen (bin dIx (mVar 4) (mC (.int 1)))) (mC (.int 2))))) [4])))) (mRet (mC (.bool false))) mNext) (mIfS (mNotT (mTru (mCall (cl 51) (rVal (mVar 3) (rVal (mVar 0) (rVal (mA dMin2 (mCons (mVar 1) (mCons (mC (.int 4)) mNil))) rNil)))))) (mRet (mC (.bool false))) mNext))))) (mRet (bin dEq (mComp (mISeq (mTup (mCons (mTup (mCons (mC (.int 2)) (mCons (mC (.int 4)) mNil))) (mCons (mTup (mCons (mC (.int 3)) (mCons (mC (.int 3)) mNil))) (mCons (mTup (mCons (mC (.int 4)) (mCons (mC (.int 5)) mNil))) mNil))))) (mN 4) mYes (mCall (cl 52) (rVal (bin dIx (mVar 4) (mC (.int 0))) (rVal (bin dIx (mVar 4) (mC (.int 1))) rNil))) [4]) (mRep (mLst (mCons (mC (.str "unfit")) mNil)) (mC (.int 3)))))))
/-- _law_by_hand_right -/
def fn54 (cl : Nat → Fn) : Fn := mFn 8 0 ((mSeq (mAsgG (mTup (mCons (mTup (mCons (mC (.int 1)) (mCons (mC (.int 1)) mNil))) (mCons (mTup (mCons (mC (.int 0)) (mCons (mC (.int 1)) mNil))) (mCons (mTup (mCons (mC (.int 1)) (mCons (mC (.int 2)) mNil))) (mCons (mTup (mCons (un dNeg (mC (.int 1))) (mCons (mC (.int 1)) mNil))) mNil))))) (mGtup 4 (mGcons (mN 0) (mGcons (mN 1) (mGcons (mN 2) (mGcons (mN 3) mGnil)))))) (mSeq (mSet 4 (mTup (mCons (mTup (mCons (mC (.int 0)) (mCons (mTup (mCons (mC (.int 7)) (mCons (mC (.int 24)) mNil))) mNil))) (mCons (mTup (mCons (mC (.int 1)) (mCons (mTup (mCons (mC (.int 2)) (mCons (mC (.int 3)) mNil))) mNil))) (mCons (mTup (mCons (mC (.int 0)) (mCons (mTup (mCons (mC (.int 3)) (mCons (mC (.int 4)) mNil))) mNil))) (mCons (mTup (mCons (mC (.int 1)) (mCons (mTup (mCons (un dNeg (mC (.int 2))) (mCons (mC (.int 3)) mNil))) mNil))) (mCons (mTup (mCons (mC (.int 0)) (mCons (mTup (mCons (un dNeg (mC (.int 1))) (mCons (mC (.int 24)) mNil))) mNil))) (mCons (mTup (mCons (mC (.int 1)) (mCons (mVar 0) mNil))) mNil)))))))) (mSeq (mSet 5 (mTup (mCons (mTup (mCons (mC (.int 0)) (mCons (mVar 2) mNil))) (mCons (mTup (mCons (mC (.int 1)) (mCons (mVar 0) mNil))) (mCons (mTup (mCons (mC (.int 0)) (mCons (mVar 2) mNil))) mNil))))) (mSeq (mSet 6 (mLst (mCons (mCall (cl 29) (rVal (mVar 4) (rVal (mC (.int 0)) (rVal (mC (.int 1)) rNil)))) (mCons (mCall (cl 28) (rVal (mVar 4) (rVal (mC (.int 0)) (rVal (mC (.int 1)) rNil)))) (mCons (mCall (cl 28) (rVal (mVar 4) (rVal (mC (.int 1)) (rVal (mC (.int 0)) rNil)))) mNil))))) (mSeq (mSet 7 (mLst (mCons (mTup (mCons (mTup (mCons (mVar 1) (mCons (mTup (mCons (mC (.int 7)) (mCons (mC (.int 24)) mNil))) (mCons (mVar 1) (mCons (mTup (mCons (mC (.int 343)) (mCons (mC (.int 41472)) mNil))) mNil))))) (mCons (mTup (mCons (mTup (mCons (mC (.int 7)) (mCons (mC (.int 24)) mNil))) (mCons (mTup (mCons (mC (.int 25)) (mCons (mC (.int 24)) mNil))) (mCons (mTup (mCons (mC (.int 2)) (mCons (mC (.int 3)) mNil))) (mCons (mTup (mCons (mC (.int 9)) (mCons (mC (.int 256)) mNil))) mNil))))) (mCons (mTup (mCons (mTup (mCons (mC (.int 25)) (mCons (mC (.int 24)) mNil))) (mCons (mVar 0) (mCons (mVar 1) (mCons (mTup (mCons (un dNeg (mC (.int 1801))) (mCons (mC (.int 41472)) mNil))) mNil))))) mNil)))) (mCons (mVar 1) (mCons (mVar 1) mNil))))) (mSeq (mSet 6 (bin dAdd (mVar 6) (mLst (mCons (mCall (cl 29) (rVal (mVar 5) (rVal (mC (.int 0)) (rVal (mC (.int 1)) rNil)))) (mCons (mCall (cl 28) (rVal (mVar 5) (rVal (mC (.int 0)) (rVal (mC (.int 1)) rNil)))) (mCons (mCall (cl 29) (rVal (mVar 5) (rVal (mC (.int 1)) (rVal (mC (.int 0)) rNil)))) (mCons (mCall (cl 28) (rVal (mVar 5) (rVal (mC (.int 1)) (rVal (mC (.int 0)) rNil)))) mNil))))))) (mSeq (mSet 7 (bin dAdd (mVar 7) (mLst (mCons (mTup (mCons (mTup (mCons (mVar 1) (mCons (mVar 2) (mCons (mVar 1) (mCons (mTup (mCons (mC (.int 1)) (mCons (mC (.int 24)) mNil))) mNil))))) (mCons (mTup (mCons (mVar 2) (mCons (mVar 0) (mCons (mVar 0) (mCons (mTup (mCons (mC (.int 1)) (mCons (mC (.int 24)) mNil))) mNil))))) mNil))) (mCons (mTup (mCons (mC (.int 1)) (mCons (mC (.int 12)) mNil))) (mCons (mTup (mCons (mTup (mCons (mVar 1) (mCons (mVar 0) (mCons (mVar 2) (mCons (mTup (mCons (mC (.int 1)) (mCons (mC (.int 12)) mNil))) mNil))))) mNil)) (mCons (mTup (mCons (mC (.int 1)) (mCons (mC (.int 12)) mNil))) mNil))))))) (mSeq (mSet 6 (bin dAdd (mVar 6) (mLst (mCons (mCall (cl 29) (rVal (mTup mNil) (rVal (mC (.int 0)) (rVal (mC (.int 1)) rNil)))) (mCons (mCall (cl 28) (rVal (mTup mNil) (rVal (mC (.int 0)) (rVal (mC (.int 1)) rNil)))) (mCons (mCall (cl 28) (rVal (mTup (mCons (mTup (mCons (mC (.int 0)) (mCons (mTup (mCons (mC (.int 3)) (mCons (mC (.int 1)) mNil))) mNil))) mNil)) (rVal (mC (.int 0)) (rVal (mC (.int 1)) rNil)))) (mCons (mCall (cl 28) (rVal (mTup (mCons (mTup (mCons (mC (.int 0)) (mCons (mTup (mCons (un dNeg (mC (.int 3))) (mCons (mC (.int 1)) mNil))) mNil))) mNil)) (rVal (mC (.int 0)) (rVal (mC (.int 1)) rNil)))) mNil))))))) (mSeq (mSet 7 (bin dAdd (mVar 7) (mLst (mCons (mTup mNil) (mCons (mVar 1) (mCons (mTup (mCons (mC (.int 9)) (mCons (mC (.int 1)) mNil))) (mCons (mTup (mCons (un dNeg (mC (.int 9))) (mCons (mC (.int 1)) mNil))) mNil))))))) (mSeq (mSet 6 (bin dAdd (mVar 6) (mLst (mCons (mCall (cl 29) (rVal (mTup (mCons (mTup (mCons (mC (.int 2)) (mCons (mVar 0) mNil))) (mCons (mTup (mCons (mC (.int 3)) (mCons (mVar 0) mNil))) (mCons (mTup (mCons (mC (.int 0)) (mCons (mVar 1) mNil))) (mCons (mTup (mCons (mC (.int 2)) (mCons (mTup (mCons (un dNeg (mC (.int 2))) (mCons (mC (.int 1)) mNil))) mNil))) mNil))))) (rVal (mC (.int 2)) (rVal (mC (.int 0)) rNil)))) (mCons (mCall (cl 28) (rVal (mTup (mCons (mTup (mCons (mC (.int 0)) (mCons (mVar 0) mNil))) (mCons (mTup (mCons (mC (.int 1)) (mCons (mVar 0) mNil))) (mCons (mTup (mCons (mC (.int 0)) (mCons (mVar 3) mNil))) mNil)))) (rVal (mC (.int 0)) (rVal (mC (.int 1)) rNil)))) mNil))))) (mSeq (mSet 7 (bin dAdd (mVar 7) (mLst (mCons (mTup (mCons (mTup (mCons (mVar 1) (mCons (mVar 0) (mCons (mVar 1) (mCons (mTup (mCons (mC (.int 1)) (mCons (mC (.int 3)) mNil))) mNil))))) (mCons (mTup (mCons (mVar 0) (mCons (mVar 3) (mCons (mVar 1) (mCons (mTup (mCons (un dNeg (mC (.int 2))) (mCons (mC (.int 3)) mNil))) mNil))))) mNil))) (mCons (mVar 1) mNil))))) (mSeq (mSet 6 (bin dAdd (mVar 6) (mLst (mCons (mCall (cl 29) (rVal (mTup (mCons (mTup (mCons (mC (.int 0)) (mCons (mVar 1) mNil))) mNil)) (rVal (mC (.int 0)) (rVal (mC (.int 1)) rNil)))) (mCons (mCall (cl 28) (rVal (mTup (mCons (mTup (mCons (mC (.int 0)) (mCons (mTup (mCons (bin dPow (mC (.int 10)) (mC (.int 29))) (mCons (mC (.int 7)) mNil))) mNil))) mNil)) (rVal (mC (.int 0)) (rVal (mC (.int 1)) rNil)))) mNil))))) (mSeq (mSet 7 (bin dAdd (mVar 7) (mLst (mCons (mTup (mCons (mTup (mCons (mVar 1) (mCons (mVar 1) (mCons (mVar 1) (mCons (mVar 1) mNil))))) mNil)) (mCons (mTup (mCons (bin dMul (bin dPow (mC (.int 10)) (mC (.int 43))) (bin dPow (mC (.int 10)) (mC (.int 44)))) (mCons (mC (.int 1029)) mNil))) mNil))))) (mSeq (mSet 6 (bin dAdd (mVar 6) (mLst (mCons (mCall (cl 30) (rVal (mVar 4) rNil)) (mCons (mCall (cl 30) (rVal (mVar 5) rNil)) (mCons (mCall (cl 30) (rVal (mTup (mCons (mTup (mCons (mC (.int 2)) (mCons (mVar 3) mNil))) (mCons (mTup (mCons (mC (.int 2)) (mCons (mVar 0) mNil))) (mCons (mTup (mCons (mC (.int 1)) (mCons (mVar 3) mNil))) (mCons (mTup (mCons (mC (.int 0)) (mCons (mVar 3) mNil))) (mCons (mTup (mCons (mC (.int 0)) (mCons (mTup (mCons (mC (.int 2)) (mCons (mC (.int 1)) mNil))) mNil))) mNil)))))) rNil)) (mCons (mCall (cl 30) (rVal (mTup mNil) rNil)) mNil))))))) (mSeq (mSet 7 (bin dAdd (mVar 7) (mLst (mCons (mTup (mCons (mC (.int 0)) (mCons (mC (.int 1)) mNil))) (mCons (mTup mNil) (mCons (mTup (mCons (mC (.int 1)) mNil)) (mCons (mTup mNil) mNil))))))) (mSeq (mSet 6 (bin dAdd (mVar 6) (mLst (mCons (mCall (cl 28) (rPerm 0 3 [2, 1, 0] rNil (rVal (mC (.int 1)) (rVal (mC (.int 0)) (rVal (mCall (cl 36) (rVal (mVar 5) rNil)) rNil))))) (mCons (mCall (cl 29) (rPerm 0 3 [2, 1, 0] rNil (rVal (mC (.int 0)) (rVal (mC (.int 1)) (rVal (mCall (cl 36) (rVal (mVar 5) rNil)) rNil))))) (mCons (mCall (cl 30) (rPerm 0 1 [0] rNil (rVal (mCall (cl 36) (rVal (mVar 4) rNil)) rNil))) mNil)))))) (mSeq (mSet 7 (bin dAdd (mVar 7) (mLst (mCons (mTup (mCons (mC (.int 1)) (mCons (mC (.int 12)) mNil))) (mCons (mTup (mCons (mTup (mCons (mVar 1) (mCons (mVar 0) (mCons (mVar 2) (mCons (mTup (mCons (mC (.int 1)) (mCons (mC (.int 12)) mNil))) mNil))))) mNil)) (mCons (mTup (mCons (mC (.int 0)) (mCons (mC (.int 1)) mNil))) mNil)))))) (mSeq (mDrop (mApp 6 (mCall (cl 27) (rPerm 0 2 [1, 0] rNil (rVal (mC (.int 1)) (rVal (mC (.int 1)) rNil)))))) (mRet (mAnd (mCall (cl 37) (rVal (mVar 6) (rVal (bin dAdd (mVar 7) (mLst (mCons (mTup (mCons (mTup (mCons (mC (.int 0)) (mCons (mVar 0) mNil))) mNil)) mNil))) rNil))) (mCall (cl 53) rNil))))))))))))))))))))))
/-- _law_right -/
def fn55 (cl : Nat → Fn) : Fn := mFn 12 1 ((mSeq (mSet 1 (bin dAdd (mC (.int 2)) (mCall (cl 33) (rSlot 0 (rVal (mC (.int 2)) rNil))))) (mSeq (mSet 2 (mCall (cl 47) (rSlot 0 (rVal (mVar 1) (rVal (bin dAdd (mC (.int 1)) (mCall (cl 33) (rSlot 0 (rVal (mC (.int 8)) rNil)))) rNil))))) (mSeq (mAsgG (mCall (cl 39) (rSlot 0 (rVal (mLRng (mVar 1)) (rVal (mC (.int 2)) rNil)))) (mGseq 2 (mGcons (mN 3) (mGcons (mN 4) mGnil)))) (mSeq (mPar 5 6 (mCall (cl 49) (rVal (mVar 2) (rVal (mVar 3) (rVal (mVar 4) rNil)))) (mTup (mCons (mC (.int 0)) (mCons (mC (.int 1)) mNil)))) (mSeq (mFor (mISeq (mVar 5)) (mN 7) (mSet 6 (mCall (cl 40) (rVal (mVar 6) (rVal (bin dIx (mVar 7) (mC (.int 3))) rNil))))) (mSeq (mSet 8 (mLst (mCons (mCall (cl 29) (rVal (mVar 2) (rVal (mVar 3) (rVal (mVar 4) rNil)))) (mCons (mCall (cl 28) (rVal (mVar 2) (rVal (mVar 3) (rVal (mVar 4) rNil)))) (mCons (mCall (cl 30) (rVal (mVar 2) rNil)) mNil))))) (mSeq (mSet 9 (un dSortSetI (mComp (mISeq (mCall (cl 43) (rVal (mVar 2) rNil))) (mGseq 2 (mGcons (mN 10) (mGcons (mN 11) mGnil))) (mB (bin dLt (bin dIx (mVar 11) (mC (.int 0))) (mC (.int 0)))) (mVar 10) [10, 11]))) (mRet (mAnd (mCall (cl 37) (rVal (mVar 8) (rVal (mLst (mCons (mVar 5) (mCons (mVar 6) (mCons (un dTuple (mVar 9)) mNil)))) rNil))) (bin dEq (mVar 6) (mCall (cl 50) (rVal (mVar 2) (rVal (mVar 3) (rVal (mVar 4) rNil)))))))))))))))
/-- law -/
def fn56 (cl : Nat → Fn) : Fn := mFn 1 1 ((mRet (mAnd (mCall (cl 54) rNil) (mCallO (cl 55) (mCall (cl 32) (rVal (mCall (cl 34) (rVal (mVar 0) (rVal (mC (.int 1)) rNil))) (rVal (mC (.int 0)) rNil)))))))
def fx27 (cl : Nat → Fn) (cx : Nat → Fn × FnX) : Fn × FnX := (mFn 4 2 ((mSeq (mIfS (mOrT (mB (bin dEq (mVar 0) (mC (.int 1)))) (mB (bin dEq (mVar 1) (mC (.int 1))))) (mRet (un dTuple (mComp (mIRng1 (mCons (mVar 0) mNil)) (mN 3) mYes (mTup (mCons (mVar 3) (mCons (mC (.tuple ([1, 1].map .int))) mNil))) [3]))) mNext) (mSeq (mIfS (mB (bin dEq (mVar 1) (mC (.int 2)))) (mSeq (mSet 2 (mComp (mIRng1 (mCons (bin dSub (mVar 0) (mC (.int 1))) mNil)) (mN 3) mYes (mTup (mCons (mVar 3) (mCons (mC (.tuple ([1, 2].map .int))) mNil))) [3])) (mRet (un dTuple (bin dAdd (bin dAdd (mVar 2) (mLst (mCons (mTup (mCons (bin dSub (mVar 0) (mC (.int 1))) (mCons (mC (.tuple ([1, 1].map .int))) mNil))) mNil))) (mLRev (mVar 2)))))) mNext) (mSeq (mIfS (mAndT (mB (bin dEq (mVar 0) (mC (.int 2)))) (mB (bin dEq (mVar 1) (mC (.int 3))))) (mRet (mC (.tuple [.tuple [.int (0), .tuple [.int (7), .int (24)]], .tuple [.int (1), .tuple [.int (2), .int (3)]], .tuple [.int (0), .tuple [.int (3), .int (4)]], .tuple [.int (1), .tuple [.int (-2), .int (3)]], .tuple [.int (0), .tuple [.int (-1), .int (24)]], .tuple [.int (1), .tuple [.int (1), .int (1)]]]))) mNext) mNever)))), xFn 4 2 ((xSeq (mIfS (mOrT (mB (bin dEq (mVar 0) (mC (.int 1)))) (mB (bin dEq (mVar 1) (mC (.int 1))))) (mRet (un dTuple (mComp (mIRng1 (mCons (mVar 0) mNil)) (mN 3) mYes (mTup (mCons (mVar 3) (mCons (mC (.tuple ([1, 1].map .int))) mNil))) [3]))) mNext) (xIf (mOrT (mB (bin dEq (mVar 0) (mC (.int 1)))) (mB (bin dEq (mVar 1) (mC (.int 1))))) xNo xNo) (xSeq (mIfS (mB (bin dEq (mVar 1) (mC (.int 2)))) (mSeq (mSet 2 (mComp (mIRng1 (mCons (bin dSub (mVar 0) (mC (.int 1))) mNil)) (mN 3) mYes (mTup (mCons (mVar 3) (mCons (mC (.tuple ([1, 2].map .int))) mNil))) [3])) (mRet (un dTuple (bin dAdd (bin dAdd (mVar 2) (mLst (mCons (mTup (mCons (bin dSub (mVar 0) (mC (.int 1))) (mCons (mC (.tuple ([1, 1].map .int))) mNil))) mNil))) (mLRev (mVar 2)))))) mNext) (xIf (mB (bin dEq (mVar 1) (mC (.int 2)))) (xSeq (mSet 2 (mComp (mIRng1 (mCons (bin dSub (mVar 0) (mC (.int 1))) mNil)) (mN 3) mYes (mTup (mCons (mVar 3) (mCons (mC (.tuple ([1, 2].map .int))) mNil))) [3])) xNo xNo) xNo) (xSeq (mIfS (mAndT (mB (bin dEq (mVar 0) (mC (.int 2)))) (mB (bin dEq (mVar 1) (mC (.int 3))))) (mRet (mC (.tuple [.tuple [.int (0), .tuple [.int (7), .int (24)]], .tuple [.int (1), .tuple [.int (2), .int (3)]], .tuple [.int (0), .tuple [.int (3), .int (4)]], .tuple [.int (1), .tuple [.int (-2), .int (3)]], .tuple [.int (0), .tuple [.int (-1), .int (24)]], .tuple [.int (1), .tuple [.int (1), .int (1)]]]))) mNext) (xIf (mAndT (mB (bin dEq (mVar 0) (mC (.int 2)))) (mB (bin dEq (mVar 1) (mC (.int 3))))) xNo xNo) (xRaise 2))))))
def runN (cl : Nat → Fn) (cx : Nat → Fn × FnX) (i : Nat) : Fn := match i with
    | 6 => fn6 cl
    | 7 => fn7 cl
    | 8 => fn8 cl
    | 9 => fn9 cl
    | 10 => fn10 cl
    | 11 => fn11 cl
    | 12 => fn12 cl
    | 13 => fn13 cl
    | 14 => fn14 cl
    | 15 => fn15 cl
    | 17 => fn17 cl
    | 18 => fn18 cl
    | 19 => fn19 cl
    | 20 => fn20 cl
    | 22 => fn22 cl
    | 23 => fn23 cl
    | 27 => fn27 cl
    | 28 => fn28 cl
    | 29 => fn29 cl
    | 30 => fn30 cl
    | 32 => fn32 cl
    | 33 => fn33 cl
    | 34 => fn34 cl
    | 35 => fn35 cl
    | 36 => fn36 cl
    | 37 => fn37 cl
    | 38 => fn38 cl
    | 39 => fn39 cl
    | 40 => fn40 cl
    | 41 => fn41 cl
    | 42 => fn42 cl
    | 43 => fn43 cl
    | 44 => fn44 cl
    | 45 => fn45 cl
    | 46 => fn46 cl
    | 47 => fn47 cl
    | 48 => fn48 cl
    | 49 => fn49 cl
    | 50 => fn50 cl
    | 51 => fn51 cl
    | 52 => fn52 cl cx
    | 53 => fn53 cl
    | 54 => fn54 cl
    | 55 => fn55 cl
    | 56 => fn56 cl
    | _ => fun _ => none
def xZ : Fn × FnX := (fun _ => none, fun _ => none)
def runY (cl : Nat → Fn) (cx : Nat → Fn × FnX) (i : Nat) : Fn × FnX := match i with
    | 27 => fx27 cl cx
    | _ => xZ
def runP : Nat → (Nat → Fn) × (Nat → Fn × FnX)
  | 0 => (fun _ _ => none, fun _ => xZ)
  | k + 1 => (runN (runP k).1 (runP k).2, match k with
    | 0 => fun _ => xZ
    | 1 => fun _ => xZ
    | _ + 2 => runY (runP k).1 (runP k).2)
def run (k : Nat) : Nat → Fn := (runP k).1
def runX (k : Nat) : Nat → Fn × FnX := (runP k).2
theorem rs6 (k : Nat) : run (k + 1) 6 = fn6 (run k) := rfl
theorem rs7 (k : Nat) : run (k + 1) 7 = fn7 (run k) := rfl
theorem rs8 (k : Nat) : run (k + 1) 8 = fn8 (run k) := rfl
theorem rs9 (k : Nat) : run (k + 1) 9 = fn9 (run k) := rfl
theorem rs10 (k : Nat) : run (k + 1) 10 = fn10 (run k) := rfl
theorem rs11 (k : Nat) : run (k + 1) 11 = fn11 (run k) := rfl
theorem rs12 (k : Nat) : run (k + 1) 12 = fn12 (run k) := rfl
theorem rs13 (k : Nat) : run (k + 1) 13 = fn13 (run k) := rfl
theorem rs14 (k : Nat) : run (k + 1) 14 = fn14 (run k) := rfl
theorem rs15 (k : Nat) : run (k + 1) 15 = fn15 (run k) := rfl
theorem rs17 (k : Nat) : run (k + 1) 17 = fn17 (run k) := rfl
theorem rs18 (k : Nat) : run (k + 1) 18 = fn18 (run k) := rfl
theorem rs19 (k : Nat) : run (k + 1) 19 = fn19 (run k) := rfl
theorem rs20 (k : Nat) : run (k + 1) 20 = fn20 (run k) := rfl
theorem rs22 (k : Nat) : run (k + 1) 22 = fn22 (run k) := rfl
theorem rs23 (k : Nat) : run (k + 1) 23 = fn23 (run k) := rfl
theorem rs27 (k : Nat) : run (k + 1) 27 = fn27 (run k) := rfl
theorem rs28 (k : Nat) : run (k + 1) 28 = fn28 (run k) := rfl
theorem rs29 (k : Nat) : run (k + 1) 29 = fn29 (run k) := rfl
theorem rs30 (k : Nat) : run (k + 1) 30 = fn30 (run k) := rfl
theorem rs32 (k : Nat) : run (k + 1) 32 = fn32 (run k) := rfl
theorem rs33 (k : Nat) : run (k + 1) 33 = fn33 (run k) := rfl
theorem rs34 (k : Nat) : run (k + 1) 34 = fn34 (run k) := rfl
theorem rs35 (k : Nat) : run (k + 1) 35 = fn35 (run k) := rfl
theorem rs36 (k : Nat) : run (k + 1) 36 = fn36 (run k) := rfl
theorem rs37 (k : Nat) : run (k + 1) 37 = fn37 (run k) := rfl
theorem rs38 (k : Nat) : run (k + 1) 38 = fn38 (run k) := rfl
theorem rs39 (k : Nat) : run (k + 1) 39 = fn39 (run k) := rfl
theorem rs40 (k : Nat) : run (k + 1) 40 = fn40 (run k) := rfl
theorem rs41 (k : Nat) : run (k + 1) 41 = fn41 (run k) := rfl
theorem rs42 (k : Nat) : run (k + 1) 42 = fn42 (run k) := rfl
theorem rs43 (k : Nat) : run (k + 1) 43 = fn43 (run k) := rfl
theorem rs44 (k : Nat) : run (k + 1) 44 = fn44 (run k) := rfl
theorem rs45 (k : Nat) : run (k + 1) 45 = fn45 (run k) := rfl
theorem rs46 (k : Nat) : run (k + 1) 46 = fn46 (run k) := rfl
theorem rs47 (k : Nat) : run (k + 1) 47 = fn47 (run k) := rfl
theorem rs48 (k : Nat) : run (k + 1) 48 = fn48 (run k) := rfl
theorem rs49 (k : Nat) : run (k + 1) 49 = fn49 (run k) := rfl
theorem rs50 (k : Nat) : run (k + 1) 50 = fn50 (run k) := rfl
theorem rs51 (k : Nat) : run (k + 1) 51 = fn51 (run k) := rfl
theorem rs52 (k : Nat) : run (k + 1) 52 = fn52 (run k) (runX k) := rfl
theorem rs53 (k : Nat) : run (k + 1) 53 = fn53 (run k) := rfl
theorem rs54 (k : Nat) : run (k + 1) 54 = fn54 (run k) := rfl
theorem rs55 (k : Nat) : run (k + 1) 55 = fn55 (run k) := rfl
theorem rs56 (k : Nat) : run (k + 1) 56 = fn56 (run k) := rfl
abbrev cvs (fa : Nat → Addr) : Nat → Value := fun j => .ref (fa (1000 + j))
/-- what the top has written -/
structure Top (K : PySem.W.Frag) (mg : Str → Option Value) (fa : Nat → Addr) (fd : Nat → FuncData) : Prop where
  F6 : Fun K "fraction" "fraction" (topS 6) (fa 6) (fd 6)
  g6 : mg "fraction" = some (.ref (fa 6))
  b6 : Binds K (fd 6) ["top", "bottom"] []
  F7 : Fun K "whole" "whole" (topS 7) (fa 7) (fd 7)
  g7 : mg "whole" = some (.ref (fa 7))
  b7 : Binds K (fd 7) ["number"] []
  F8 : Fun K "plus" "plus" (topS 8) (fa 8) (fd 8)
  g8 : mg "plus" = some (.ref (fa 8))
  b8 : Binds K (fd 8) ["x", "y"] []
  F9 : Fun K "minus" "minus" (topS 9) (fa 9) (fd 9)
  g9 : mg "minus" = some (.ref (fa 9))
  b9 : Binds K (fd 9) ["x", "y"] []
  F10 : Fun K "times" "times" (topS 10) (fa 10) (fd 10)
  g10 : mg "times" = some (.ref (fa 10))
  b10 : Binds K (fd 10) ["x", "y"] []
  F11 : Fun K "over" "over" (topS 11) (fa 11) (fd 11)
  g11 : mg "over" = some (.ref (fa 11))
  b11 : Binds K (fd 11) ["x", "y"] []
  F12 : Fun K "power_of" "power_of" (topS 12) (fa 12) (fd 12)
  g12 : mg "power_of" = some (.ref (fa 12))
  b12 : Binds K (fd 12) ["x", "many"] []
  F13 : Fun K "_raised" "_raised" (topS 13) (fa 13) (fd 13)
  g13 : mg "_raised" = some (.ref (fa 13))
  b13 : Binds K (fd 13) ["base", "many"] []
  F14 : Fun K "sign_of" "sign_of" (topS 14) (fa 14) (fd 14)
  g14 : mg "sign_of" = some (.ref (fa 14))
  b14 : Binds K (fd 14) ["x"] []
  F15 : Fun K "dot" "dot" (topS 15) (fa 15) (fd 15)
  g15 : mg "dot" = some (.ref (fa 15))
  b15 : Binds K (fd 15) ["row", "other"] []
  F17 : Fun K "_go_together" "_go_together" (topS 17) (fa 17) (fd 17)
  g17 : mg "_go_together" = some (.ref (fa 17))
  b17 : Binds K (fd 17) ["part", "other", "meets"] []
  F18 : Fun K "_place_to_join" "_place_to_join" (topS 18) (fa 18) (fd 18)
  g18 : mg "_place_to_join" = some (.ref (fa 18))
  b18 : Binds K (fd 18) ["row", "part", "meets"] []
  F19 : Fun K "_shortest" "_shortest" (topS 19) (fa 19) (fd 19)
  g19 : mg "_shortest" = some (.ref (fa 19))
  b19 : Binds K (fd 19) ["row", "meets"] []
  F20 : Fun K "normal_row" "normal_row" (topS 20) (fa 20) (fd 20)
  g20 : mg "normal_row" = some (.ref (fa 20))
  b20 : Binds K (fd 20) ["row"] []
  F22 : Fun K "word_worth" "word_worth" (topS 22) (fa 22) (fd 22)
  g22 : mg "word_worth" = some (.ref (fa 22))
  b22 : Binds K (fd 22) ["row", "word"] []
  F23 : Fun K "_worth_behind" "_worth_behind" (topS 23) (fa 23) (fd 23)
  g23 : mg "_worth_behind" = some (.ref (fa 23))
  b23 : Binds K (fd 23) ["worths", "word", "part", "x"] []
  F27 : Fun K "least_row" "least_row" (topS 27) (fa 27) (fd 27)
  g27 : mg "least_row" = some (.ref (fa 27))
  b27 : Binds K (fd 27) ["many", "power"] []
  F28 : Fun K "sign_sum" "sign_sum" (topS 28) (fa 28) (fd 28)
  g28 : mg "sign_sum" = some (.ref (fa 28))
  b28 : Binds K (fd 28) ["row", "a", "b"] []
  F29 : Fun K "sign_steps" "sign_steps" (topS 29) (fa 29) (fd 29)
  g29 : mg "sign_steps" = some (.ref (fa 29))
  b29 : Binds K (fd 29) ["row", "a", "b"] []
  F30 : Fun K "below_parts" "below_parts" (topS 30) (fa 30) (fd 30)
  g30 : mg "below_parts" = some (.ref (fa 30))
  b30 : Binds K (fd 30) ["row"] []
  F32 : Fun K "_law_box" "_law_box" (topS 32) (fa 32) (fd 32)
  g32 : mg "_law_box" = some (.ref (fa 32))
  b32 : Binds K (fd 32) ["_law_script", "_law_k"] []
  F33 : Fun K "_law_take" "_law_take" (topS 33) (fa 33) (fd 33)
  g33 : mg "_law_take" = some (.ref (fa 33))
  b33 : Binds K (fd 33) ["_law_urn", "_law_low_so"] []
  F34 : Fun K "_law_cells" "_law_cells" (topS 34) (fa 34) (fd 34)
  g34 : mg "_law_cells" = some (.ref (fa 34))
  b34 : Binds K (fd 34) ["_law_script", "_law_roof_so"] []
  F35 : Fun K "_law_of" "_law_of" (topS 35) (fa 35) (fd 35)
  g35 : mg "_law_of" = some (.ref (fa 35))
  b35 : Binds K (fd 35) ["_law_urn", "_law_some_so"] []
  F36 : Fun K "_law_lists" "_law_lists" (topS 36) (fa 36) (fd 36)
  g36 : mg "_law_lists" = some (.ref (fa 36))
  b36 : Binds K (fd 36) ["_law_matter"] []
  F37 : Fun K "_law_same" "_law_same" (topS 37) (fa 37) (fd 37)
  g37 : mg "_law_same" = some (.ref (fa 37))
  b37 : Binds K (fd 37) ["_law_mine", "_law_due"] []
  F38 : Fun K "_law_low" "_law_low" (topS 38) (fa 38) (fd 38)
  g38 : mg "_law_low" = some (.ref (fa 38))
  b38 : Binds K (fd 38) ["_law_top_so", "_law_down_so"] []
  F39 : Fun K "_law_pick" "_law_pick" (topS 39) (fa 39) (fd 39)
  g39 : mg "_law_pick" = some (.ref (fa 39))
  b39 : Binds K (fd 39) ["_law_urn", "_law_some_so", "_law_many"] []
  F40 : Fun K "_law_add" "_law_add" (topS 40) (fa 40) (fd 40)
  g40 : mg "_law_add" = some (.ref (fa 40))
  b40 : Binds K (fd 40) ["_law_own", "_law_far"] []
  F41 : Fun K "_law_mul" "_law_mul" (topS 41) (fa 41) (fd 41)
  g41 : mg "_law_mul" = some (.ref (fa 41))
  b41 : Binds K (fd 41) ["_law_own", "_law_far"] []
  F42 : Fun K "_law_sub" "_law_sub" (topS 42) (fa 42) (fd 42)
  g42 : mg "_law_sub" = some (.ref (fa 42))
  b42 : Binds K (fd 42) ["_law_one", "_law_two"] []
  F43 : Fun K "_law_normal" "_law_normal" (topS 43) (fa 43) (fd 43)
  g43 : mg "_law_normal" = some (.ref (fa 43))
  b43 : Binds K (fd 43) ["_law_row_so"] []
  F44 : Fun K "_law_worth" "_law_worth" (topS 44) (fa 44) (fd 44)
  g44 : mg "_law_worth" = some (.ref (fa 44))
  b44 : Binds K (fd 44) ["_law_row_so", "_law_word_so"] []
  F45 : Fun K "_law_words" "_law_words" (topS 45) (fa 45) (fd 45)
  g45 : mg "_law_words" = some (.ref (fa 45))
  b45 : Binds K (fd 45) ["_law_parts_so", "_law_long_so"] []
  F46 : Fun K "_law_much" "_law_much" (topS 46) (fa 46) (fd 46)
  g46 : mg "_law_much" = some (.ref (fa 46))
  b46 : Binds K (fd 46) ["_law_urn"] []
  F47 : Fun K "_law_row" "_law_row" (topS 47) (fa 47) (fd 47)
  g47 : mg "_law_row" = some (.ref (fa 47))
  b47 : Binds K (fd 47) ["_law_urn", "_law_many", "_law_long_so"] []
  F48 : Fun K "_law_cube" "_law_cube" (topS 48) (fa 48) (fd 48)
  g48 : mg "_law_cube" = some (.ref (fa 48))
  b48 : Binds K (fd 48) ["_law_one"] []
  F49 : Fun K "_law_steps" "_law_steps" (topS 49) (fa 49) (fd 49)
  g49 : mg "_law_steps" = some (.ref (fa 49))
  b49 : Binds K (fd 49) ["_law_row_so", "_law_one", "_law_two"] []
  F50 : Fun K "_law_total" "_law_total" (topS 50) (fa 50) (fd 50)
  g50 : mg "_law_total" = some (.ref (fa 50))
  b50 : Binds K (fd 50) ["_law_row_so", "_law_one", "_law_two"] []
  F51 : Fun K "_law_has_order" "_law_has_order" (topS 51) (fa 51) (fd 51)
  g51 : mg "_law_has_order" = some (.ref (fa 51))
  b51 : Binds K (fd 51) ["_law_row_so", "_law_many", "_law_power"] []
  F52 : Fun K "_law_least" "_law_least" (topS 52) (fa 52) (fd 52)
  g52 : mg "_law_least" = some (.ref (fa 52))
  b52 : Binds K (fd 52) ["_law_many", "_law_power"] []
  F53 : Fun K "_law_least_right" "_law_least_right" (topS 53) (fa 53) (fd 53)
  g53 : mg "_law_least_right" = some (.ref (fa 53))
  b53 : Binds K (fd 53) [] []
  F54 : Fun K "_law_by_hand_right" "_law_by_hand_right" (topS 54) (fa 54) (fd 54)
  g54 : mg "_law_by_hand_right" = some (.ref (fa 54))
  b54 : Binds K (fd 54) [] []
  F55 : Fun K "_law_right" "_law_right" (topS 55) (fa 55) (fd 55)
  g55 : mg "_law_right" = some (.ref (fa 55))
  b55 : Binds K (fd 55) ["_law_urn"] []
  F56 : Fun K "law" "law" (topS 56) (fa 56) (fd 56)
  g56 : mg "law" = some (.ref (fa 56))
  b56 : Binds K (fd 56) ["_law_script"] []
  k27_0_power_many : KBinds K (fd 27) ["many", "power"] ["power", "many"] (perm 0 2 [1, 0]) (perm 0 2 [1, 0])
  k30_0_row : KBinds K (fd 30) ["row"] ["row"] (perm 0 1 [0]) (perm 0 1 [0])
  k29_0_b_a_row : KBinds K (fd 29) ["row", "a", "b"] ["b", "a", "row"] (perm 0 3 [2, 1, 0]) (perm 0 3 [2, 1, 0])
  k28_0_b_a_row : KBinds K (fd 28) ["row", "a", "b"] ["b", "a", "row"] (perm 0 3 [2, 1, 0]) (perm 0 3 [2, 1, 0])
  O2 : OexC K (fa (1000 + 2))
  g2 : mg "Unfit" = some (.ref (fa (1000 + 2)))
  i2 : PySem.W.findIn K (.ref (fa (1000 + 2))) "__init__" = some (some (.ref (fa (2000 + 2))))
  t2 : PySem.W.typeIn K (.ref (fa (2000 + 2))) = some (.type "function")
  e2 : PySem.W.exmOne K (.ref (fa (1000 + 2))) (.ref (fa (1000 + 2))) = some true
  I2 : Fun K "__init__" "Unfit.__init__" topI2 (fa (2000 + 2)) (fd (2000 + 2))
  n2 : Binds K (fd (2000 + 2)) ["self"] []
  m_SIX : ConstD K mg "SIX" (.tuple [.tuple [.int (0), .tuple [.int (7), .int (24)]], .tuple [.int (1), .tuple [.int (2), .int (3)]], .tuple [.int (0), .tuple [.int (3), .int (4)]], .tuple [.int (1), .tuple [.int (-2), .int (3)]], .tuple [.int (0), .tuple [.int (-1), .int (24)]], .tuple [.int (1), .tuple [.int (1), .int (1)]]])
  m_HALF : ConstT K mg "HALF" [1, 2]
  m_ONE : ConstT K mg "ONE" [1, 1]
  m_ZERO : ConstT K mg "ZERO" [0, 1]
  f_gcd : mg "gcd" = some (.builtin "math.gcd")
  z_abs : mg "abs" = none
  z_all : mg "all" = none
  z_bool : mg "bool" = none
  z_enumerate : mg "enumerate" = none
  z_int : mg "int" = none
  z_isinstance : mg "isinstance" = none
  z_len : mg "len" = none
  z_list : mg "list" = none
  z_max : mg "max" = none
  z_min : mg "min" = none
  z_range : mg "range" = none
  z_reversed : mg "reversed" = none
  z_set : mg "set" = none
  z_sorted : mg "sorted" = none
  z_str : mg "str" = none
  z_tuple : mg "tuple" = none
  z_zip : mg "zip" = none
structure Gs (P : Program) (w : World) (K : PySem.W.Frag) (mg : Str → Option Value) (base : Heap) (fa : Nat → Addr) (fd : Nat → FuncData) (k : Nat) (cl : Nat → Fn) (cx : Nat → Fn × FnX) : Prop where
  c6 : FnOk P w K mg base CX0 k (fa 6) (fd 6) ["top", "bottom"] (spD K 2 (cl 6))
  c7 : FnOk P w K mg base CX0 k (fa 7) (fd 7) ["number"] (spD K 1 (cl 7))
  c8 : FnOk P w K mg base CX0 k (fa 8) (fd 8) ["x", "y"] (spD K 2 (cl 8))
  c9 : FnOk P w K mg base CX0 k (fa 9) (fd 9) ["x", "y"] (spD K 2 (cl 9))
  c10 : FnOk P w K mg base CX0 k (fa 10) (fd 10) ["x", "y"] (spD K 2 (cl 10))
  c11 : FnOk P w K mg base CX0 k (fa 11) (fd 11) ["x", "y"] (spD K 2 (cl 11))
  c12 : FnOk P w K mg base CX0 k (fa 12) (fd 12) ["x", "many"] (spD K 2 (cl 12))
  c13 : FnOk P w K mg base CX0 k (fa 13) (fd 13) ["base", "many"] (spD K 2 (cl 13))
  c14 : FnOk P w K mg base CX0 k (fa 14) (fd 14) ["x"] (spD K 1 (cl 14))
  c15 : FnOk P w K mg base CX0 k (fa 15) (fd 15) ["row", "other"] (spD K 2 (cl 15))
  c17 : FnOk P w K mg base CX0 k (fa 17) (fd 17) ["part", "other", "meets"] (spD K 3 (cl 17))
  c18 : FnOk P w K mg base CX0 k (fa 18) (fd 18) ["row", "part", "meets"] (spD K 3 (cl 18))
  c19 : FnOk P w K mg base CX0 k (fa 19) (fd 19) ["row", "meets"] (spD K 2 (cl 19))
  c20 : FnOk P w K mg base CX0 k (fa 20) (fd 20) ["row"] (spD K 1 (cl 20))
  c22 : FnOk P w K mg base CX0 k (fa 22) (fd 22) ["row", "word"] (spD K 2 (cl 22))
  c23 : FnOk P w K mg base CX0 k (fa 23) (fd 23) ["worths", "word", "part", "x"] (spD K 4 (cl 23))
  c27 : FnOk P w K mg base CX0 k (fa 27) (fd 27) ["many", "power"] (spD K 2 (cl 27))
  c28 : FnOk P w K mg base CX0 k (fa 28) (fd 28) ["row", "a", "b"] (spD K 3 (cl 28))
  c29 : FnOk P w K mg base CX0 k (fa 29) (fd 29) ["row", "a", "b"] (spD K 3 (cl 29))
  c30 : FnOk P w K mg base CX0 k (fa 30) (fd 30) ["row"] (spD K 1 (cl 30))
  c32 : FnOk P w K mg base CX0 k (fa 32) (fd 32) ["_law_script", "_law_k"] (spD K 2 (cl 32))
  c33 : FnOk P w K mg base CX0 k (fa 33) (fd 33) ["_law_urn", "_law_low_so"] (spD K 2 (cl 33))
  c34 : FnOk P w K mg base CX0 k (fa 34) (fd 34) ["_law_script", "_law_roof_so"] (spD K 2 (cl 34))
  c35 : FnOk P w K mg base CX0 k (fa 35) (fd 35) ["_law_urn", "_law_some_so"] (spD K 2 (cl 35))
  c36 : FnOk P w K mg base CX0 k (fa 36) (fd 36) ["_law_matter"] (spD K 1 (cl 36))
  c37 : FnOk P w K mg base CX0 k (fa 37) (fd 37) ["_law_mine", "_law_due"] (spD K 2 (cl 37))
  c38 : FnOk P w K mg base CX0 k (fa 38) (fd 38) ["_law_top_so", "_law_down_so"] (spD K 2 (cl 38))
  c39 : FnOk P w K mg base CX0 k (fa 39) (fd 39) ["_law_urn", "_law_some_so", "_law_many"] (spD K 3 (cl 39))
  c40 : FnOk P w K mg base CX0 k (fa 40) (fd 40) ["_law_own", "_law_far"] (spD K 2 (cl 40))
  c41 : FnOk P w K mg base CX0 k (fa 41) (fd 41) ["_law_own", "_law_far"] (spD K 2 (cl 41))
  c42 : FnOk P w K mg base CX0 k (fa 42) (fd 42) ["_law_one", "_law_two"] (spD K 2 (cl 42))
  c43 : FnOk P w K mg base CX0 k (fa 43) (fd 43) ["_law_row_so"] (spD K 1 (cl 43))
  c44 : FnOk P w K mg base CX0 k (fa 44) (fd 44) ["_law_row_so", "_law_word_so"] (spD K 2 (cl 44))
  c45 : FnOk P w K mg base CX0 k (fa 45) (fd 45) ["_law_parts_so", "_law_long_so"] (spD K 2 (cl 45))
  c46 : FnOk P w K mg base CX0 k (fa 46) (fd 46) ["_law_urn"] (spD K 1 (cl 46))
  c47 : FnOk P w K mg base CX0 k (fa 47) (fd 47) ["_law_urn", "_law_many", "_law_long_so"] (spD K 3 (cl 47))
  c48 : FnOk P w K mg base CX0 k (fa 48) (fd 48) ["_law_one"] (spD K 1 (cl 48))
  c49 : FnOk P w K mg base CX0 k (fa 49) (fd 49) ["_law_row_so", "_law_one", "_law_two"] (spD K 3 (cl 49))
  c50 : FnOk P w K mg base CX0 k (fa 50) (fd 50) ["_law_row_so", "_law_one", "_law_two"] (spD K 3 (cl 50))
  c51 : FnOk P w K mg base CX0 k (fa 51) (fd 51) ["_law_row_so", "_law_many", "_law_power"] (spD K 3 (cl 51))
  c52 : FnOk P w K mg base CX0 k (fa 52) (fd 52) ["_law_many", "_law_power"] (spD K 2 (cl 52))
  c53 : FnOk P w K mg base CX0 k (fa 53) (fd 53) [] (spD K 0 (cl 53))
  c54 : FnOk P w K mg base CX0 k (fa 54) (fd 54) [] (spD K 0 (cl 54))
  c55 : FnOk P w K mg base CX0 k (fa 55) (fd 55) ["_law_urn"] (spD K 1 (cl 55))
  c56 : FnOk P w K mg base CX0 k (fa 56) (fd 56) ["_law_script"] (spD K 1 (cl 56))
  x27 : FnOk P w K mg base (L2.CX P w) k (fa 27) (fd 27) ["many", "power"] (spX K 2 (cx 27).1 (cx 27).2 (cvs fa))
section
variable {P : Program} {w : World} {K : PySem.W.Frag} {mg : Str → Option Value} {base : Heap} {fa : Nat → Addr} {fd : Nat → FuncData} {k : Nat} {cl : Nat → Fn} {cx : Nat → Fn × FnX}
theorem ok6 (T : Top K mg fa fd) (G : Gs P w K mg base fa fd k cl cx) : FnOk P w K mg base CX0 (k + 1) (fa 6) (fd 6) ["top", "bottom"] (spD K 2 (fn6 cl)) :=
  fn_ok T.F6 sc6 fun cdv A outer s H E hr => (dss_cons (ds_if (dt_cmp (op_eqD (room64 hr)) os_eq (de_var (pv 1)) de_int (nomark _)) (dss_one ds_never) dss_nil)
    (dss_cons (ds_set (fun te h => ps_set sc6.nd rfl (by first | exact Or.inl rfl | exact Or.inr rfl) h) (de_callF cr_gcd as_gcd (by rfl) T.f_gcd (da_cons (de_var (pv 0)) (da_cons (de_var (pv 1)) da_nil))))
    (dss_cons (ds_if (dt_cmp op_lt os_cmpI (de_var (pv 1)) de_int (nomark _)) (dss_one (ds_set (fun te h => ps_set sc6.nd rfl (by first | exact Or.inl rfl | exact Or.inr rfl) h) (de_un un_neg us_neg (de_var (pv 2))))) dss_nil)
    (dss_one (ds_ret (de_tup (da_cons (de_op op_fdivW os_div (de_var (pv 0)) (de_var (pv 2))) (da_cons (de_op op_fdivW os_div (de_var (pv 1)) (de_var (pv 2))) da_nil))))))))
theorem ok7 (T : Top K mg fa fd) (G : Gs P w K mg base fa fd k cl cx) : FnOk P w K mg base CX0 (k + 1) (fa 7) (fd 7) ["number"] (spD K 1 (fn7 cl)) :=
  fn_ok T.F7 sc7 fun cdv A outer s H E hr => (dss_one (ds_ret (de_tup (da_cons (de_var (pv 0)) (da_cons de_int da_nil)))))
theorem ok8 (T : Top K mg fa fd) (G : Gs P w K mg base fa fd k cl cx) : FnOk P w K mg base CX0 (k + 1) (fa 8) (fd 8) ["x", "y"] (spD K 2 (fn8 cl)) :=
  fn_ok T.F8 sc8 fun cdv A outer s H E hr => (dss_cons (ds_if (dt_cmp (op_eqD (room64 hr)) os_eq (de_ix ix_A os_ix (de_var (pv 0)) de_int (fun _ _ => rfl)) (de_ix ix_A os_ix (de_var (pv 1)) de_int (fun _ _ => rfl)) (nomark _)) (dss_one (ds_ret (de_call G.c6 hr (by rfl) T.g6 T.F6.kp T.b6 (dr_val (de_op op_addA os_add (de_ix ix_A os_ix (de_var (pv 0)) de_int (fun _ _ => rfl)) (de_ix ix_A os_ix (de_var (pv 1)) de_int (fun _ _ => rfl))) (dr_val (de_ix ix_A os_ix (de_var (pv 0)) de_int (fun _ _ => rfl)) dr_nil)) (rl_val (rl_val (rl_nil rfl)))))) dss_nil)
    (dss_one (ds_ret (de_call G.c6 hr (by rfl) T.g6 T.F6.kp T.b6 (dr_val (de_op op_addA os_add (de_op op_mulA os_mul (de_ix ix_A os_ix (de_var (pv 0)) de_int (fun _ _ => rfl)) (de_ix ix_A os_ix (de_var (pv 1)) de_int (fun _ _ => rfl))) (de_op op_mulA os_mul (de_ix ix_A os_ix (de_var (pv 1)) de_int (fun _ _ => rfl)) (de_ix ix_A os_ix (de_var (pv 0)) de_int (fun _ _ => rfl)))) (dr_val (de_op op_mulA os_mul (de_ix ix_A os_ix (de_var (pv 0)) de_int (fun _ _ => rfl)) (de_ix ix_A os_ix (de_var (pv 1)) de_int (fun _ _ => rfl))) dr_nil)) (rl_val (rl_val (rl_nil rfl)))))))
theorem ok9 (T : Top K mg fa fd) (G : Gs P w K mg base fa fd k cl cx) : FnOk P w K mg base CX0 (k + 1) (fa 9) (fd 9) ["x", "y"] (spD K 2 (fn9 cl)) :=
  fn_ok T.F9 sc9 fun cdv A outer s H E hr => (dss_one (ds_ret (de_call G.c8 hr (by rfl) T.g8 T.F8.kp T.b8 (dr_val (de_var (pv 0)) (dr_val (de_tup (da_cons (de_un un_neg us_neg (de_ix ix_A os_ix (de_var (pv 1)) de_int (fun _ _ => rfl))) (da_cons (de_ix ix_A os_ix (de_var (pv 1)) de_int (fun _ _ => rfl)) da_nil))) dr_nil)) (rl_val (rl_val (rl_nil rfl))))))
theorem ok10 (T : Top K mg fa fd) (G : Gs P w K mg base fa fd k cl cx) : FnOk P w K mg base CX0 (k + 1) (fa 10) (fd 10) ["x", "y"] (spD K 2 (fn10 cl)) :=
  fn_ok T.F10 sc10 fun cdv A outer s H E hr => (dss_one (ds_ret (de_call G.c6 hr (by rfl) T.g6 T.F6.kp T.b6 (dr_val (de_op op_mulA os_mul (de_ix ix_A os_ix (de_var (pv 0)) de_int (fun _ _ => rfl)) (de_ix ix_A os_ix (de_var (pv 1)) de_int (fun _ _ => rfl))) (dr_val (de_op op_mulA os_mul (de_ix ix_A os_ix (de_var (pv 0)) de_int (fun _ _ => rfl)) (de_ix ix_A os_ix (de_var (pv 1)) de_int (fun _ _ => rfl))) dr_nil)) (rl_val (rl_val (rl_nil rfl))))))
theorem ok11 (T : Top K mg fa fd) (G : Gs P w K mg base fa fd k cl cx) : FnOk P w K mg base CX0 (k + 1) (fa 11) (fd 11) ["x", "y"] (spD K 2 (fn11 cl)) :=
  fn_ok T.F11 sc11 fun cdv A outer s H E hr => (dss_one (ds_ret (de_call G.c6 hr (by rfl) T.g6 T.F6.kp T.b6 (dr_val (de_op op_mulA os_mul (de_ix ix_A os_ix (de_var (pv 0)) de_int (fun _ _ => rfl)) (de_ix ix_A os_ix (de_var (pv 1)) de_int (fun _ _ => rfl))) (dr_val (de_op op_mulA os_mul (de_ix ix_A os_ix (de_var (pv 0)) de_int (fun _ _ => rfl)) (de_ix ix_A os_ix (de_var (pv 1)) de_int (fun _ _ => rfl))) dr_nil)) (rl_val (rl_val (rl_nil rfl))))))
theorem ok12 (T : Top K mg fa fd) (G : Gs P w K mg base fa fd k cl cx) : FnOk P w K mg base CX0 (k + 1) (fa 12) (fd 12) ["x", "many"] (spD K 2 (fn12 cl)) :=
  fn_ok T.F12 sc12 fun cdv A outer s H E hr => (dss_cons (ds_if (dt_cmp op_lt os_cmpI (de_var (pv 1)) de_int (nomark _)) (dss_one (ds_ret (de_call G.c12 hr (by rfl) T.g12 T.F12.kp T.b12 (dr_val (de_call G.c11 hr (by rfl) T.g11 T.F11.kp T.b11 (dr_val (de_const (by rfl) T.m_ONE) (dr_val (de_var (pv 0)) dr_nil)) (rl_val (rl_val (rl_nil rfl)))) (dr_val (de_un un_neg us_neg (de_var (pv 1))) dr_nil)) (rl_val (rl_val (rl_nil rfl)))))) dss_nil)
    (dss_one (ds_ret (de_tup (da_cons (de_call G.c13 hr (by rfl) T.g13 T.F13.kp T.b13 (dr_val (de_ix ix_A os_ix (de_var (pv 0)) de_int (fun _ _ => rfl)) (dr_val (de_var (pv 1)) dr_nil)) (rl_val (rl_val (rl_nil rfl)))) (da_cons (de_call G.c13 hr (by rfl) T.g13 T.F13.kp T.b13 (dr_val (de_ix ix_A os_ix (de_var (pv 0)) de_int (fun _ _ => rfl)) (dr_val (de_var (pv 1)) dr_nil)) (rl_val (rl_val (rl_nil rfl)))) da_nil))))))
theorem ok13 (T : Top K mg fa fd) (G : Gs P w K mg base fa fd k cl cx) : FnOk P w K mg base CX0 (k + 1) (fa 13) (fd 13) ["base", "many"] (spD K 2 (fn13 cl)) :=
  fn_ok T.F13 sc13 fun cdv A outer s H E hr => (dss_cons (ds_set (fun te h => ps_set sc13.nd rfl (by first | exact Or.inl rfl | exact Or.inr rfl) h) de_int)
    (dss_cons (ds_while (n := 400) PassesOwn.never (dt_tru (de_var (pv 1))) (dss_cons (ds_if (dt_tru (de_op op_andM os_and1 (de_var (pv 1)) de_int)) (dss_one (ds_set (fun te h => ps_set sc13.nd rfl (by first | exact Or.inl rfl | exact Or.inr rfl) h) (de_op op_mulA os_mul (de_var (pv 2)) (de_var (pv 0))))) dss_nil)
    (dss_cons (ds_set (fun te h => ps_set sc13.nd rfl (by first | exact Or.inl rfl | exact Or.inr rfl) h) (de_op op_mulA os_mul (de_var (pv 0)) (de_var (pv 0))))
    (dss_one (ds_set (fun te h => ps_set sc13.nd rfl (by first | exact Or.inl rfl | exact Or.inr rfl) h) (de_op op_shr os_shr (de_var (pv 1)) de_int))))))
    (dss_one (ds_ret (de_var (pv 2))))))
theorem ok14 (T : Top K mg fa fd) (G : Gs P w K mg base fa fd k cl cx) : FnOk P w K mg base CX0 (k + 1) (fa 14) (fd 14) ["x"] (spD K 1 (fn14 cl)) :=
  fn_ok T.F14 sc14 fun cdv A outer s H E hr => (dss_one (ds_ret (de_op op_subB os_subB (de_cmp op_gt os_cmpI (de_ix ix_A os_ix (de_var (pv 0)) de_int (fun _ _ => rfl)) de_int (nomark _)) (de_cmp op_lt os_cmpI (de_ix ix_A os_ix (de_var (pv 0)) de_int (fun _ _ => rfl)) de_int (nomark _)))))
theorem ok15 (T : Top K mg fa fd) (G : Gs P w K mg base fa fd k cl cx) : FnOk P w K mg base CX0 (k + 1) (fa 15) (fd 15) ["row", "other"] (spD K 2 (fn15 cl)) :=
  fn_ok T.F15 sc15 fun cdv A outer s H E hr => (dss_cons (ds_parC (fun ta h => ps_asg (pe_tup h) (pg_tup rfl (pgs_cons (pg_name sc15.nd rfl (by first | exact Or.inl rfl | exact Or.inr rfl)) (pgs_cons (pg_name sc15.nd rfl (by first | exact Or.inl rfl | exact Or.inr rfl)) pgs_nil)))) de_int de_int)
    (dss_cons (ds_for PassesOwn.never rfl (di_zipM (by rfl) T.z_zip (da_cons (de_var (pv 0)) (da_cons (de_var (pv 1)) da_nil))) (dg_tup rfl (dgs_cons (dg_tup rfl (dgs_cons (dg_name (pg_name sc15.nd rfl (by first | exact Or.inl rfl | exact Or.inr rfl))) (dgs_cons (dg_name (pg_name sc15.nd rfl (by first | exact Or.inl rfl | exact Or.inr rfl))) dgs_nil))) (dgs_cons (dg_tup rfl (dgs_cons (dg_name (pg_name sc15.nd rfl (by first | exact Or.inl rfl | exact Or.inr rfl))) (dgs_cons (dg_name (pg_name sc15.nd rfl (by first | exact Or.inl rfl | exact Or.inr rfl))) dgs_nil))) dgs_nil))) (dss_cons (ds_if (dt_w (dw_or (dt_cmp (op_eqD (room64 hr)) os_eq (de_var (pv 4)) de_int (nomark _)) (dw_or1 (dt_cmp (op_eqD (room64 hr)) os_eq (de_var (pv 6)) de_int (nomark _))))) (dss_one ds_cont) dss_nil)
    (dss_cons (ds_set (fun te h => ps_set sc15.nd rfl (by first | exact Or.inl rfl | exact Or.inr rfl) h) (de_op op_mulA os_mul (de_var (pv 5)) (de_var (pv 7))))
    (dss_one (ds_if (dt_cmp (op_eqD (room64 hr)) os_eq (de_var (pv 8)) (de_var (pv 3)) (nomark _)) (dss_one (ds_set (fun te h => ps_set sc15.nd rfl (by first | exact Or.inl rfl | exact Or.inr rfl) h) (de_op op_addA os_add (de_var (pv 2)) (de_op op_mulA os_mul (de_var (pv 4)) (de_var (pv 6)))))) (dss_one (ds_asgG (fun te g h1 h2 => ps_asg h1 h2) (de_call G.c6 hr (by rfl) T.g6 T.F6.kp T.b6 (dr_val (de_op op_addA os_add (de_op op_mulA os_mul (de_var (pv 2)) (de_var (pv 8))) (de_op op_mulA os_mul (de_op op_mulA os_mul (de_var (pv 4)) (de_var (pv 6))) (de_var (pv 3)))) (dr_val (de_op op_mulA os_mul (de_var (pv 3)) (de_var (pv 8))) dr_nil)) (rl_val (rl_val (rl_nil rfl)))) (dg_tup rfl (dgs_cons (dg_name (pg_name sc15.nd rfl (by first | exact Or.inl rfl | exact Or.inr rfl))) (dgs_cons (dg_name (pg_name sc15.nd rfl (by first | exact Or.inl rfl | exact Or.inr rfl))) dgs_nil))))))))))
    (dss_one (ds_ret (de_call G.c6 hr (by rfl) T.g6 T.F6.kp T.b6 (dr_val (de_var (pv 2)) (dr_val (de_var (pv 3)) dr_nil)) (rl_val (rl_val (rl_nil rfl))))))))
theorem ok17 (T : Top K mg fa fd) (G : Gs P w K mg base fa fd k cl cx) : FnOk P w K mg base CX0 (k + 1) (fa 17) (fd 17) ["part", "other", "meets"] (spD K 3 (fn17 cl)) :=
  fn_ok T.F17 sc17 fun cdv A outer s H E hr => (dss_one (ds_ret (de_cmp (op_inB (room65 hr)) (os_inB false) (de_tup (da_cons (de_callA (call_min2 rfl) as_min2 (by rfl) T.z_min boot_min (da_cons (de_var (pv 0)) (da_cons (de_var (pv 1)) da_nil))) (da_cons (de_callA (call_max2 rfl) as_max2 (by rfl) T.z_max boot_max (da_cons (de_var (pv 0)) (da_cons (de_var (pv 1)) da_nil))) da_nil))) (de_var (pv 2)) (by with_unfolding_all rfl))))
theorem ok18 (T : Top K mg fa fd) (G : Gs P w K mg base fa fd k cl cx) : FnOk P w K mg base CX0 (k + 1) (fa 18) (fd 18) ["row", "part", "meets"] (spD K 3 (fn18 cl)) :=
  fn_ok T.F18 sc18 fun cdv A outer s H E hr => (dss_cons (ds_for PassesOwn.never rfl (di_down (by rfl) T.z_range (da_cons (de_op op_sub os_sub (de_call1 call_len_seq us_len (by rfl) T.z_len boot_len (de_var (pv 0))) de_int) (da_cons (de_un un_neg us_neg de_int) (da_cons (de_un un_neg us_neg de_int) da_nil)))) (dg_name (pg_name sc18.nd rfl (by first | exact Or.inl rfl | exact Or.inr rfl))) (dss_cons (ds_if (dt_cmp (op_eqD (room64 hr)) os_eq (de_ix ix_A os_ix (de_ix ix_A os_ix (de_var (pv 0)) (de_var (pv 3)) (fun _ _ => rfl)) de_int (fun _ _ => rfl)) (de_var (pv 1)) (nomark _)) (dss_one (ds_ret (de_var (pv 3)))) dss_nil)
    (dss_one (ds_if (dt_not (dt_tru (de_call G.c17 hr (by rfl) T.g17 T.F17.kp T.b17 (dr_val (de_ix ix_A os_ix (de_ix ix_A os_ix (de_var (pv 0)) (de_var (pv 3)) (fun _ _ => rfl)) de_int (fun _ _ => rfl)) (dr_val (de_var (pv 1)) (dr_val (de_var (pv 2)) dr_nil))) (rl_val (rl_val (rl_val (rl_nil rfl))))))) (dss_one (ds_ret de_non)) dss_nil))))
    (dss_one (ds_ret de_non)))
theorem ok19 (T : Top K mg fa fd) (G : Gs P w K mg base fa fd k cl cx) : FnOk P w K mg base CX0 (k + 1) (fa 19) (fd 19) ["row", "meets"] (spD K 2 (fn19 cl)) :=
  fn_ok T.F19 sc19 fun cdv A outer s H E hr => (dss_cons (ds_set (fun te h => ps_set sc19.nd rfl (by first | exact Or.inl rfl | exact Or.inr rfl) h) (de_lst da_nil))
    (dss_cons (ds_for PassesOwn.never rfl (di_seq (de_var (pv 0))) (dg_seq rfl (dgs_cons (dg_name (pg_name sc19.nd rfl (by first | exact Or.inl rfl | exact Or.inr rfl))) (dgs_cons (dg_name (pg_name sc19.nd rfl (by first | exact Or.inl rfl | exact Or.inr rfl))) dgs_nil))) (dss_cons (ds_set (fun te h => ps_set sc19.nd rfl (by first | exact Or.inl rfl | exact Or.inr rfl) h) (de_call G.c18 hr (by rfl) T.g18 T.F18.kp T.b18 (dr_slot (pv 2) (dr_val (de_var (pv 3)) (dr_val (de_var (pv 1)) dr_nil))) (rl_slot (rl_val (rl_val (rl_nil rfl))))))
    (dss_cons (ds_if (dt_cmp op_isN os_is (de_var (pv 5)) de_non (nomark _)) (dss_one (ds_par (fun ta h => ps_par rfl sc19.nd rfl rfl (by decide) rfl rfl h (by rfl)) (de_call1 call_len_seq us_len (by rfl) T.z_len boot_len (de_var (pv 2))) (de_const (by rfl) T.m_ZERO))) (dss_one (ds_set (fun te h => ps_set sc19.nd rfl (by first | exact Or.inl rfl | exact Or.inr rfl) h) (de_ix ix_A os_ix (de_ix ix_A os_ix (de_var (pv 2)) (de_var (pv 5)) (fun _ _ => rfl)) de_int (fun _ _ => rfl)))))
    (dss_cons (ds_set (fun te h => ps_set sc19.nd rfl (by first | exact Or.inl rfl | exact Or.inr rfl) h) (de_call G.c8 hr (by rfl) T.g8 T.F8.kp T.b8 (dr_val (de_var (pv 6)) (dr_val (de_var (pv 4)) dr_nil)) (rl_val (rl_val (rl_nil rfl)))))
    (dss_one (ds_slx (fun te ta tc h h1 h2 => ps_asg h (pg_slx (pv 2) h1 h2)) (de_if (dt_tru (de_ix ix_A os_ix (de_var (pv 7)) de_int (fun _ _ => rfl))) (de_lst (da_cons (de_tup (da_cons (de_var (pv 3)) (da_cons (de_var (pv 7)) da_nil))) da_nil)) (de_lst da_nil)) (do_some (de_var (pv 5))) (do_some (de_op op_addA os_add (de_var (pv 5)) de_int))))))))
    (dss_one (ds_ret (de_var (pv 2))))))
theorem ok20 (T : Top K mg fa fd) (G : Gs P w K mg base fa fd k cl cx) : FnOk P w K mg base CX0 (k + 1) (fa 20) (fd 20) ["row"] (spD K 1 (fn20 cl)) :=
  fn_ok T.F20 sc20 fun cdv A outer s H E hr => (dss_one (ds_ret (de_callT1 call_tuple_of us_tuple (by rfl) T.z_tuple boot_tuple (de_call G.c19 hr (by rfl) T.g19 T.F19.kp T.b19 (dr_val (de_var (pv 0)) (dr_val (de_tup da_nil) dr_nil)) (rl_val (rl_val (rl_nil rfl)))))))
theorem ok22 (T : Top K mg fa fd) (G : Gs P w K mg base fa fd k cl cx) : FnOk P w K mg base CX0 (k + 1) (fa 22) (fd 22) ["row", "word"] (spD K 2 (fn22 cl)) :=
  fn_ok T.F22 sc22 fun cdv A outer s H E hr => (dss_cons (ds_set (fun te h => ps_set sc22.nd rfl (by first | exact Or.inl rfl | exact Or.inr rfl) h) (de_op op_addA os_add (de_lst (da_cons (de_const (by rfl) T.m_ONE) da_nil)) (de_rep (de_lst (da_cons (de_const (by rfl) T.m_ZERO) da_nil)) (de_call1 call_len_seq us_len (by rfl) T.z_len boot_len (de_var (pv 1))))))
    (dss_cons (ds_for PassesOwn.never rfl (di_seq (de_var (pv 0))) (dg_seq rfl (dgs_cons (dg_name (pg_name sc22.nd rfl (by first | exact Or.inl rfl | exact Or.inr rfl))) (dgs_cons (dg_name (pg_name sc22.nd rfl (by first | exact Or.inl rfl | exact Or.inr rfl))) dgs_nil))) (dss_one (ds_set (fun te h => ps_set sc22.nd rfl (by first | exact Or.inl rfl | exact Or.inr rfl) h) (de_lc rfl sc22.nd (di_rng1 (by rfl) T.z_range (da_cons (de_op op_addA os_add (de_call1 call_len_seq us_len (by rfl) T.z_len boot_len (de_var (pv 1))) de_int) da_nil)) (own := [("letters", 5)]) (blkOk_by (by kernel_rfl)) (fun _ _ _ _ _ => (dg_name (pg_name sc22.nd rfl (by first | exact Or.inl rfl | exact Or.inr rfl)))) (fun _ _ _ _ _ => dts_nil) (fun _ _ _ _ _ => (de_call G.c23 hr (by rfl) T.g23 T.F23.kp T.b23 (dr_val (de_var (pv 2)) (dr_val (de_sl (de_var (pv 1)) do_none (do_some (de_var (pv 5)))) (dr_val (de_var (pv 3)) (dr_val (de_var (pv 4)) dr_nil)))) (rl_val (rl_val (rl_val (rl_val (rl_nil rfl))))))) (by decide)))))
    (dss_one (ds_ret (de_ix ix_A os_ix (de_var (pv 2)) (de_un un_neg us_neg de_int) (fun _ _ => rfl))))))
theorem ok23 (T : Top K mg fa fd) (G : Gs P w K mg base fa fd k cl cx) : FnOk P w K mg base CX0 (k + 1) (fa 23) (fd 23) ["worths", "word", "part", "x"] (spD K 4 (fn23 cl)) :=
  fn_ok T.F23 sc23 fun cdv A outer s H E hr => (dss_cons (ds_par (fun ta h => ps_par rfl sc23.nd rfl rfl (by decide) rfl rfl h (by rfl)) (de_call1 call_len_seq us_len (by rfl) T.z_len boot_len (de_var (pv 1))) (de_const (by rfl) T.m_ONE))
    (dss_cons (ds_set (fun te h => ps_set sc23.nd rfl (by first | exact Or.inl rfl | exact Or.inr rfl) h) (de_ix ix_A os_ix (de_var (pv 0)) (de_var (pv 4)) (fun _ _ => rfl)))
    (dss_cons (ds_for PassesOwn.never rfl (di_rng2 (by rfl) T.z_range (da_cons de_int (da_cons (de_op op_addA os_add (de_var (pv 4)) de_int) da_nil))) (dg_name (pg_name sc23.nd rfl (by first | exact Or.inl rfl | exact Or.inr rfl))) (dss_cons (ds_if (dt_cmp (op_neD (room64 hr)) os_ne (de_ix ix_A os_ix (de_var (pv 1)) (de_op op_sub os_sub (de_var (pv 4)) (de_var (pv 7))) (fun _ _ => rfl)) (de_var (pv 2)) (nomark _)) (dss_one ds_brk) dss_nil)
    (dss_cons (ds_set (fun te h => ps_set sc23.nd rfl (by first | exact Or.inl rfl | exact Or.inr rfl) h) (de_call G.c10 hr (by rfl) T.g10 T.F10.kp T.b10 (dr_val (de_var (pv 5)) (dr_val (de_call G.c11 hr (by rfl) T.g11 T.F11.kp T.b11 (dr_val (de_var (pv 3)) (dr_val (de_call G.c7 hr (by rfl) T.g7 T.F7.kp T.b7 (dr_val (de_var (pv 7)) dr_nil) (rl_val (rl_nil rfl))) dr_nil)) (rl_val (rl_val (rl_nil rfl)))) dr_nil)) (rl_val (rl_val (rl_nil rfl)))))
    (dss_one (ds_set (fun te h => ps_set sc23.nd rfl (by first | exact Or.inl rfl | exact Or.inr rfl) h) (de_call G.c8 hr (by rfl) T.g8 T.F8.kp T.b8 (dr_val (de_var (pv 6)) (dr_val (de_call G.c10 hr (by rfl) T.g10 T.F10.kp T.b10 (dr_val (de_var (pv 5)) (dr_val (de_ix ix_A os_ix (de_var (pv 0)) (de_op op_sub os_sub (de_var (pv 4)) (de_var (pv 7))) (fun _ _ => rfl)) dr_nil)) (rl_val (rl_val (rl_nil rfl)))) dr_nil)) (rl_val (rl_val (rl_nil rfl)))))))))
    (dss_one (ds_ret (de_var (pv 6)))))))
theorem ok27 (T : Top K mg fa fd) (G : Gs P w K mg base fa fd k cl cx) : FnOk P w K mg base CX0 (k + 1) (fa 27) (fd 27) ["many", "power"] (spD K 2 (fn27 cl)) :=
  fn_ok T.F27 sc27 fun cdv A outer s H E hr => (dss_cons (ds_if (dt_w (dw_or (dt_cmp (op_eqD (room64 hr)) os_eq (de_var (pv 0)) de_int (nomark _)) (dw_or1 (dt_cmp (op_eqD (room64 hr)) os_eq (de_var (pv 1)) de_int (nomark _))))) (dss_one (ds_ret (de_callT1 call_tuple_of us_tuple (by rfl) T.z_tuple boot_tuple (de_lc rfl sc27.nd (di_rng1 (by rfl) T.z_range (da_cons (de_var (pv 0)) da_nil)) (own := [("part", 3)]) (blkOk_by (by kernel_rfl)) (fun _ _ _ _ _ => (dg_name (pg_name sc27.nd rfl (by first | exact Or.inl rfl | exact Or.inr rfl)))) (fun _ _ _ _ _ => dts_nil) (fun _ _ _ _ _ => (de_tup (da_cons (de_var (pv 3)) (da_cons (de_const (by rfl) T.m_ONE) da_nil)))) (by decide))))) dss_nil)
    (dss_cons (ds_if (dt_cmp (op_eqD (room64 hr)) os_eq (de_var (pv 1)) de_int (nomark _)) (dss_cons (ds_setLc rfl sc27.nd rfl rfl (sw_true rfl rfl rfl (by decide +kernel)) (di_rng1 (by rfl) T.z_range (da_cons (de_op op_sub os_sub (de_var (pv 0)) de_int) da_nil)) (own := [("part", 3)]) (blkOk_by (by kernel_rfl)) (fun _ _ _ _ _ => (dg_name (pg_name sc27.nd rfl (by first | exact Or.inl rfl | exact Or.inr rfl)))) (fun _ _ _ _ _ => dts_nil) (fun _ _ _ _ _ => (de_tup (da_cons (de_var (pv 3)) (da_cons (de_const (by rfl) T.m_HALF) da_nil)))) (by decide))
    (dss_one (ds_ret (de_callT1 call_tuple_of us_tuple (by rfl) T.z_tuple boot_tuple (de_op op_addA os_add (de_op op_addA os_add (de_var (pv 2)) (de_lst (da_cons (de_tup (da_cons (de_op op_sub os_sub (de_var (pv 0)) de_int) (da_cons (de_const (by rfl) T.m_ONE) da_nil))) da_nil))) (de_lrev rfl (by rfl) T.z_list (by rfl) T.z_reversed (de_var (pv 2)))))))) dss_nil)
    (dss_cons (ds_if (dt_w (dw_and (dt_cmp (op_eqD (room64 hr)) os_eq (de_var (pv 0)) de_int (nomark _)) (dw_and1 (dt_cmp (op_eqD (room64 hr)) os_eq (de_var (pv 1)) de_int (nomark _))))) (dss_one (ds_ret (de_constD (by rfl) T.m_SIX))) dss_nil)
    (dss_one ds_never))))
theorem ok28 (T : Top K mg fa fd) (G : Gs P w K mg base fa fd k cl cx) : FnOk P w K mg base CX0 (k + 1) (fa 28) (fd 28) ["row", "a", "b"] (spD K 3 (fn28 cl)) :=
  fn_ok T.F28 sc28 fun cdv A outer s H E hr => (dss_cons (ds_set (fun te h => ps_set sc28.nd rfl (by first | exact Or.inl rfl | exact Or.inr rfl) h) (de_tup (da_cons (de_tup (da_cons (de_var (pv 2)) (da_cons (de_var (pv 2)) (da_cons (de_var (pv 1)) da_nil)))) (da_cons (de_tup (da_cons (de_var (pv 1)) (da_cons (de_var (pv 2)) (da_cons (de_var (pv 1)) da_nil)))) (da_cons (de_tup (da_cons (de_var (pv 2)) (da_cons (de_var (pv 1)) (da_cons (de_var (pv 1)) da_nil)))) (da_cons (de_tup (da_cons (de_var (pv 1)) (da_cons (de_var (pv 1)) (da_cons (de_var (pv 1)) da_nil)))) da_nil))))))
    (dss_cons (ds_par (fun ta h => ps_par rfl sc28.nd rfl rfl (by decide) rfl rfl h (by rfl)) (de_call G.c7 hr (by rfl) T.g7 T.F7.kp T.b7 (dr_val de_int dr_nil) (rl_val (rl_nil rfl))) (de_call G.c7 hr (by rfl) T.g7 T.F7.kp T.b7 (dr_val (de_un un_neg us_neg de_int) dr_nil) (rl_val (rl_nil rfl))))
    (dss_one (ds_ret (de_call G.c15 hr (by rfl) T.g15 T.F15.kp T.b15 (dr_val (de_tup (da_cons (de_var (pv 4)) (da_cons (de_var (pv 5)) (da_cons (de_var (pv 5)) (da_cons (de_var (pv 4)) da_nil))))) (dr_val (de_lc rfl sc28.nd (di_seq (de_var (pv 3))) (own := [("word", 6)]) (blkOk_by (by kernel_rfl)) (fun _ _ _ _ _ => (dg_name (pg_name sc28.nd rfl (by first | exact Or.inl rfl | exact Or.inr rfl)))) (fun _ _ _ _ _ => dts_nil) (fun _ _ _ _ _ => (de_call G.c22 hr (by rfl) T.g22 T.F22.kp T.b22 (dr_val (de_var (pv 0)) (dr_val (de_var (pv 6)) dr_nil)) (rl_val (rl_val (rl_nil rfl))))) (by decide)) dr_nil)) (rl_val (rl_val (rl_nil rfl))))))))
theorem ok29 (T : Top K mg fa fd) (G : Gs P w K mg base fa fd k cl cx) : FnOk P w K mg base CX0 (k + 1) (fa 29) (fd 29) ["row", "a", "b"] (spD K 3 (fn29 cl)) :=
  fn_ok T.F29 sc29 fun cdv A outer s H E hr => (dss_cons (ds_par3O (fun ta h => Vi.ps_par3 rfl sc29.nd rfl rfl rfl (by decide) (by decide) (by decide) rfl rfl rfl h (by rfl)) (de_const (by rfl) T.m_ZERO) (de_const (by rfl) T.m_ZERO) (de_lst da_nil))
    (dss_cons (ds_for PassesOwn.never rfl (di_seq (de_var (pv 0))) (dg_seq rfl (dgs_cons (dg_name (pg_name sc29.nd rfl (by first | exact Or.inl rfl | exact Or.inr rfl))) (dgs_cons (dg_name (pg_name sc29.nd rfl (by first | exact Or.inl rfl | exact Or.inr rfl))) dgs_nil))) (dss_cons (ds_if (dt_cmp (op_eqD (room64 hr)) os_eq (de_var (pv 6)) (de_var (pv 2)) (nomark _)) (dss_one (ds_set (fun te h => ps_set sc29.nd rfl (by first | exact Or.inl rfl | exact Or.inr rfl) h) (de_call G.c8 hr (by rfl) T.g8 T.F8.kp T.b8 (dr_val (de_var (pv 4)) (dr_val (de_var (pv 7)) dr_nil)) (rl_val (rl_val (rl_nil rfl)))))) dss_nil)
    (dss_one (ds_if (dt_cmp (op_eqD (room64 hr)) os_eq (de_var (pv 6)) (de_var (pv 1)) (nomark _)) (dss_cons (ds_par (fun ta h => ps_par rfl sc29.nd rfl rfl (by decide) rfl rfl h (by rfl)) (de_var (pv 3)) (de_call G.c8 hr (by rfl) T.g8 T.F8.kp T.b8 (dr_val (de_var (pv 3)) (dr_val (de_var (pv 7)) dr_nil)) (rl_val (rl_val (rl_nil rfl)))))
    (dss_cons (ds_set (fun te h => ps_set sc29.nd rfl (by first | exact Or.inl rfl | exact Or.inr rfl) h) (de_call G.c9 hr (by rfl) T.g9 T.F9.kp T.b9 (dr_val (de_call G.c12 hr (by rfl) T.g12 T.F12.kp T.b12 (dr_val (de_call G.c9 hr (by rfl) T.g9 T.F9.kp T.b9 (dr_val (de_var (pv 3)) (dr_val (de_var (pv 4)) dr_nil)) (rl_val (rl_val (rl_nil rfl)))) (dr_val de_int dr_nil)) (rl_val (rl_val (rl_nil rfl)))) (dr_val (de_call G.c12 hr (by rfl) T.g12 T.F12.kp T.b12 (dr_val (de_call G.c9 hr (by rfl) T.g9 T.F9.kp T.b9 (dr_val (de_var (pv 8)) (dr_val (de_var (pv 4)) dr_nil)) (rl_val (rl_val (rl_nil rfl)))) (dr_val de_int dr_nil)) (rl_val (rl_val (rl_nil rfl)))) dr_nil)) (rl_val (rl_val (rl_nil rfl)))))
    (dss_one (ds_expr (de_app (fun t h => pe_bm PySem.F.plainAttrs_list PySem.F.slot_list_append PySem.F.type_list_append mt_append (pv 5) h) (de_tup (da_cons (de_var (pv 8)) (da_cons (de_var (pv 3)) (da_cons (de_var (pv 4)) (da_cons (de_call G.c11 hr (by rfl) T.g11 T.F11.kp T.b11 (dr_val (de_var (pv 9)) (dr_val (de_call G.c7 hr (by rfl) T.g7 T.F7.kp T.b7 (dr_val de_int dr_nil) (rl_val (rl_nil rfl))) dr_nil)) (rl_val (rl_val (rl_nil rfl)))) da_nil)))))))))) dss_nil))))
    (dss_one (ds_ret (de_callT1 call_tuple_of us_tuple (by rfl) T.z_tuple boot_tuple (de_var (pv 5)))))))
theorem ok30 (T : Top K mg fa fd) (G : Gs P w K mg base fa fd k cl cx) : FnOk P w K mg base CX0 (k + 1) (fa 30) (fd 30) ["row"] (spD K 1 (fn30 cl)) :=
  fn_ok T.F30 sc30 fun cdv A outer s H E hr => (dss_one (ds_ret (de_callT1 call_tuple_of us_tuple (by rfl) T.z_tuple boot_tuple (de_sortsetI (cr_setI rfl) (cr_sortedSet rfl) us_sortsetI (by rfl) T.z_sorted boot_sorted (by rfl) T.z_set boot_set (de_lc rfl sc30.nd (di_seq (de_call G.c20 hr (by rfl) T.g20 T.F20.kp T.b20 (dr_val (de_var (pv 0)) dr_nil) (rl_val (rl_nil rfl)))) (own := [("part", 1), ("x", 2)]) (blkOk_by (by kernel_rfl)) (fun _ _ _ _ _ => (dg_seq rfl (dgs_cons (dg_name (pg_name sc30.nd rfl (by first | exact Or.inl rfl | exact Or.inr rfl))) (dgs_cons (dg_name (pg_name sc30.nd rfl (by first | exact Or.inl rfl | exact Or.inr rfl))) dgs_nil)))) (fun _ _ _ _ _ => (dts_one (dt_cmp op_lt os_cmpI (de_call G.c14 hr (by rfl) T.g14 T.F14.kp T.b14 (dr_val (de_var (pv 2)) dr_nil) (rl_val (rl_nil rfl))) de_int (nomark _)))) (fun _ _ _ _ _ => (de_var (pv 1))) (by decide))))))
theorem ok32 (T : Top K mg fa fd) (G : Gs P w K mg base fa fd k cl cx) : FnOk P w K mg base CX0 (k + 1) (fa 32) (fd 32) ["_law_script", "_law_k"] (spD K 2 (fn32 cl)) :=
  fn_ok T.F32 sc32 fun cdv A outer s H E hr => (dss_cons (ds_set (fun te h => ps_set sc32.nd rfl (by first | exact Or.inl rfl | exact Or.inr rfl) h) (de_if (dt_cmp op_lt os_cmpI (de_var (pv 1)) (de_call1 call_len_seq us_len (by rfl) T.z_len boot_len (de_var (pv 0))) (nomark _)) (de_ix ix_A os_ix (de_var (pv 0)) (de_var (pv 1)) (fun _ _ => rfl)) de_int))
    (dss_one (ds_ret (de_lst (da_cons (de_op op_mulA os_mul (de_call1 call_abs us_abs (by rfl) T.z_abs boot_abs (de_var (pv 2))) (de_callT1 call_int1 us_int (by rfl) T.z_int boot_int (de_cmp op_ge os_cmpI (de_call1 call_abs us_abs (by rfl) T.z_abs boot_abs (de_var (pv 2))) (de_op op_pow os_pow de_int de_int) (nomark _)))) (da_cons (de_op op_addA os_add (de_op op_addA os_add (de_op op_mod os_mod (de_callT1 call_int1 us_int (by rfl) T.z_int boot_int (de_var (pv 2))) de_int) (de_op op_mulA os_mul de_int (de_var (pv 1)))) de_int) (da_cons de_int da_nil)))))))
theorem ok33 (T : Top K mg fa fd) (G : Gs P w K mg base fa fd k cl cx) : FnOk P w K mg base CX0 (k + 1) (fa 33) (fd 33) ["_law_urn", "_law_low_so"] (spD K 2 (fn33 cl)) :=
  fn_ok T.F33 sc33 fun cdv A outer s H E hr => (dss_cons (ds_if (dt_cmp op_gt os_cmpI (de_ix ix_A os_ix (de_var (pv 0)) de_int (fun _ _ => rfl)) de_int (nomark _)) (dss_cons (ds_set (fun te h => ps_set sc33.nd rfl (by first | exact Or.inl rfl | exact Or.inr rfl) h) (de_op op_mod os_mod (de_callT1 call_int1 us_int (by rfl) T.z_int boot_int (de_ix ix_A os_ix (de_var (pv 0)) de_int (fun _ _ => rfl))) (de_var (pv 1))))
    (dss_cons (ds_store (fun te tk h1 h2 => ps_asg h1 (pg_sub (pv 0) h2 set_list)) (de_op op_fdivW os_div (de_ix ix_A os_ix (de_var (pv 0)) de_int (fun _ _ => rfl)) (de_var (pv 1))) de_int)
    (dss_one (ds_ret (de_var (pv 2)))))) dss_nil)
    (dss_cons (ds_store (fun te tk h1 h2 => ps_asg h1 (pg_sub (pv 0) h2 set_list)) (de_op op_addA os_add (de_ix ix_A os_ix (de_var (pv 0)) de_int (fun _ _ => rfl)) de_int) de_int)
    (dss_cons (ds_set (fun te h => ps_set sc33.nd rfl (by first | exact Or.inl rfl | exact Or.inr rfl) h) (de_op op_mod os_mod (de_callT1 call_int1 us_int (by rfl) T.z_int boot_int (de_op op_mulA os_mul (de_op op_addA os_add (de_ix ix_A os_ix (de_var (pv 0)) de_int (fun _ _ => rfl)) (de_op op_mulA os_mul de_int (de_ix ix_A os_ix (de_var (pv 0)) de_int (fun _ _ => rfl)))) (de_op op_addA os_add de_int (de_ix ix_A os_ix (de_var (pv 0)) de_int (fun _ _ => rfl))))) de_int))
    (dss_cons (ds_set (fun te h => ps_set sc33.nd rfl (by first | exact Or.inl rfl | exact Or.inr rfl) h) (de_op op_addA os_add (de_op op_mod os_mod (de_callT1 call_int1 us_int (by rfl) T.z_int boot_int (de_var (pv 3))) de_int) de_int))
    (dss_cons (ds_set (fun te h => ps_set sc33.nd rfl (by first | exact Or.inl rfl | exact Or.inr rfl) h) (de_op op_mod os_mod (de_callT1 call_int1 us_int (by rfl) T.z_int boot_int (de_op op_mulA os_mul (de_op op_addA os_add (de_op op_addA os_add (de_var (pv 3)) (de_ix ix_A os_ix (de_var (pv 0)) de_int (fun _ _ => rfl))) (de_op op_fdivW os_div (de_ix ix_A os_ix (de_var (pv 0)) de_int (fun _ _ => rfl)) de_int)) (de_var (pv 4)))) de_int))
    (dss_one (ds_ret (de_op op_mod os_mod (de_callT1 call_int1 us_int (by rfl) T.z_int boot_int (de_op op_fdivW os_div (de_op op_mod os_mod (de_callT1 call_int1 us_int (by rfl) T.z_int boot_int (de_op op_addA os_add (de_op op_mulA os_mul (de_var (pv 5)) de_int) (de_var (pv 3)))) de_int) de_int)) (de_var (pv 1))))))))))
theorem ok34 (T : Top K mg fa fd) (G : Gs P w K mg base fa fd k cl cx) : FnOk P w K mg base CX0 (k + 1) (fa 34) (fd 34) ["_law_script", "_law_roof_so"] (spD K 2 (fn34 cl)) :=
  fn_ok T.F34 sc34 fun cdv A outer s H E hr => (dss_cons (ds_set (fun te h => ps_set sc34.nd rfl (by first | exact Or.inl rfl | exact Or.inr rfl) h) (de_or (de_callT1 call_list_of us_list (by rfl) T.z_list boot_list (de_sl (de_var (pv 0)) do_none (do_some (de_var (pv 1))))) (de_one (de_lst (da_cons de_int da_nil)))))
    (dss_cons (ds_for PassesOwn.never rfl (di_enum (by rfl) T.z_enumerate (da_cons (de_sl (de_var (pv 0)) (do_some (de_var (pv 1))) (do_some de_int)) da_nil)) (dg_tup rfl (dgs_cons (dg_name (pg_name sc34.nd rfl (by first | exact Or.inl rfl | exact Or.inr rfl))) (dgs_cons (dg_name (pg_name sc34.nd rfl (by first | exact Or.inl rfl | exact Or.inr rfl))) dgs_nil))) (dss_cons (ds_set (fun te h => ps_set sc34.nd rfl (by first | exact Or.inl rfl | exact Or.inr rfl) h) (de_op op_mod os_mod (de_callT1 call_int1 us_int (by rfl) T.z_int boot_int (de_var (pv 3))) (de_var (pv 1))))
    (dss_one (ds_store (fun te tk h1 h2 => ps_asg h1 (pg_sub (pv 2) h2 set_list)) (de_op op_addA os_add (de_ix ix_A os_ix (de_var (pv 2)) (de_var (pv 5)) (fun _ _ => rfl)) (de_op op_mulA os_mul (de_var (pv 4)) (de_op op_addA os_add (de_var (pv 3)) de_int))) (de_var (pv 5))))))
    (dss_one (ds_ret (de_var (pv 2))))))
theorem ok35 (T : Top K mg fa fd) (G : Gs P w K mg base fa fd k cl cx) : FnOk P w K mg base CX0 (k + 1) (fa 35) (fd 35) ["_law_urn", "_law_some_so"] (spD K 2 (fn35 cl)) :=
  fn_ok T.F35 sc35 fun cdv A outer s H E hr => (dss_one (ds_ret (de_ix ix_A os_ix (de_var (pv 1)) (de_call G.c33 hr (by rfl) T.g33 T.F33.kp T.b33 (dr_slot (pv 0) (dr_val (de_call1 call_len_seq us_len (by rfl) T.z_len boot_len (de_var (pv 1))) dr_nil)) (rl_slot (rl_val (rl_nil rfl)))) (fun _ _ => rfl))))
theorem ok36 (T : Top K mg fa fd) (G : Gs P w K mg base fa fd k cl cx) : FnOk P w K mg base CX0 (k + 1) (fa 36) (fd 36) ["_law_matter"] (spD K 1 (fn36 cl)) :=
  fn_ok T.F36 sc36 fun cdv A outer s H E hr => (dss_one (ds_ret (de_if (dt_tru (de_isi2 (t := Ty.list) (u := Ty.tuple) (by rfl) T.z_isinstance boot_isinstance (de_var (pv 0)) (pe_bltn (by rfl) T.z_list boot_list rfl) (pe_bltn (by rfl) T.z_tuple boot_tuple rfl))) (de_lc rfl sc36.nd (di_seq (de_var (pv 0))) (own := [("_law_bit", 1)]) (blkOk_by (by kernel_rfl)) (fun _ _ _ _ _ => (dg_name (pg_name sc36.nd rfl (by first | exact Or.inl rfl | exact Or.inr rfl)))) (fun _ _ _ _ _ => dts_nil) (fun _ _ _ _ _ => (de_call G.c36 hr (by rfl) T.g36 T.F36.kp T.b36 (dr_val (de_var (pv 1)) dr_nil) (rl_val (rl_nil rfl)))) (by decide)) (de_var (pv 0)))))
theorem ok37 (T : Top K mg fa fd) (G : Gs P w K mg base fa fd k cl cx) : FnOk P w K mg base CX0 (k + 1) (fa 37) (fd 37) ["_law_mine", "_law_due"] (spD K 2 (fn37 cl)) :=
  fn_ok T.F37 sc37 fun cdv A outer s H E hr => (dss_cons (ds_if (dt_tru (de_isi2 (t := Ty.list) (u := Ty.tuple) (by rfl) T.z_isinstance boot_isinstance (de_var (pv 1)) (pe_bltn (by rfl) T.z_list boot_list rfl) (pe_bltn (by rfl) T.z_tuple boot_tuple rfl))) (dss_cons (ds_if (dt_w (dw_or (dt_cmp (op_neD (room64 hr)) os_ne (de_isi (t := Ty.list) (by rfl) T.z_isinstance boot_isinstance (de_var (pv 0)) (pe_bltn (by rfl) T.z_list boot_list rfl)) (de_isi (t := Ty.list) (by rfl) T.z_isinstance boot_isinstance (de_var (pv 1)) (pe_bltn (by rfl) T.z_list boot_list rfl)) (nomark _)) (dw_or1 (dt_cmp (op_neD (room64 hr)) os_ne (de_isi (t := Ty.tuple) (by rfl) T.z_isinstance boot_isinstance (de_var (pv 0)) (pe_bltn (by rfl) T.z_tuple boot_tuple rfl)) (de_isi (t := Ty.tuple) (by rfl) T.z_isinstance boot_isinstance (de_var (pv 1)) (pe_bltn (by rfl) T.z_tuple boot_tuple rfl)) (nomark _))))) (dss_one (ds_ret de_bl)) dss_nil)
    (dss_one (ds_ret (de_and (de_cmp (op_eqD (room64 hr)) os_eq (de_call1 call_len_seq us_len (by rfl) T.z_len boot_len (de_var (pv 0))) (de_call1 call_len_seq us_len (by rfl) T.z_len boot_len (de_var (pv 1))) (nomark _)) (de_one (de_call1 (cr_all rfl) us_all (by rfl) T.z_all boot_all (de_lc rfl sc37.nd (di_zip (by rfl) T.z_zip (da_cons (de_var (pv 0)) (da_cons (de_var (pv 1)) da_nil))) (own := [("_law_near", 2), ("_law_far", 3)]) (blkOk_by (by kernel_rfl)) (fun _ _ _ _ _ => (dg_tup rfl (dgs_cons (dg_name (pg_name sc37.nd rfl (by first | exact Or.inl rfl | exact Or.inr rfl))) (dgs_cons (dg_name (pg_name sc37.nd rfl (by first | exact Or.inl rfl | exact Or.inr rfl))) dgs_nil)))) (fun _ _ _ _ _ => dts_nil) (fun _ _ _ _ _ => (de_call G.c37 hr (by rfl) T.g37 T.F37.kp T.b37 (dr_val (de_var (pv 2)) (dr_val (de_var (pv 3)) dr_nil)) (rl_val (rl_val (rl_nil rfl))))) (by decide)))))))) dss_nil)
    (dss_cons (ds_if (dt_w (dw_or (dt_cmp op_isN os_is (de_var (pv 1)) de_non (nomark _)) (dw_or1 (dt_tru (de_isi2 (t := Ty.bool) (u := Ty.str) (by rfl) T.z_isinstance boot_isinstance (de_var (pv 1)) (pe_bltn (by rfl) T.z_bool boot_bool rfl) (pe_bltn (by rfl) T.z_str boot_str rfl)))))) (dss_one (ds_ret (de_and (de_cmp (op_eqD (room64 hr)) os_eq (de_var (pv 0)) (de_var (pv 1)) (nomark _)) (de_and (de_cmp (op_eqD (room64 hr)) os_eq (de_isi (t := Ty.bool) (by rfl) T.z_isinstance boot_isinstance (de_var (pv 0)) (pe_bltn (by rfl) T.z_bool boot_bool rfl)) (de_isi (t := Ty.bool) (by rfl) T.z_isinstance boot_isinstance (de_var (pv 1)) (pe_bltn (by rfl) T.z_bool boot_bool rfl)) (nomark _)) (de_one (de_cmp (op_eqD (room64 hr)) os_eq (de_cmp op_isN os_is (de_var (pv 0)) de_non (nomark _)) (de_cmp op_isN os_is (de_var (pv 1)) de_non (nomark _)) (nomark _))))))) dss_nil)
    (dss_one (ds_ret (de_and (de_isi (t := Ty.int) (by rfl) T.z_isinstance boot_isinstance (de_var (pv 0)) (pe_bltn (by rfl) T.z_int boot_int rfl)) (de_and (de_not (de_isi (t := Ty.bool) (by rfl) T.z_isinstance boot_isinstance (de_var (pv 0)) (pe_bltn (by rfl) T.z_bool boot_bool rfl))) (de_one (de_cmp (op_eqD (room64 hr)) os_eq (de_var (pv 0)) (de_var (pv 1)) (nomark _)))))))))
theorem ok38 (T : Top K mg fa fd) (G : Gs P w K mg base fa fd k cl cx) : FnOk P w K mg base CX0 (k + 1) (fa 38) (fd 38) ["_law_top_so", "_law_down_so"] (spD K 2 (fn38 cl)) :=
  fn_ok T.F38 sc38 fun cdv A outer s H E hr => (dss_cons (ds_par (fun ta h => ps_par rfl sc38.nd rfl rfl (by decide) rfl rfl h (by rfl)) (de_call1 call_abs us_abs (by rfl) T.z_abs boot_abs (de_var (pv 0))) (de_call1 call_abs us_abs (by rfl) T.z_abs boot_abs (de_var (pv 1))))
    (dss_cons (ds_while (n := 400) PassesOwn.never (dt_cmp op_gt os_cmpI (de_var (pv 3)) de_int (nomark _)) (dss_one (ds_par (fun ta h => ps_par rfl sc38.nd rfl rfl (by decide) rfl rfl h (by rfl)) (de_var (pv 3)) (de_op op_mod os_mod (de_callT1 call_int1 us_int (by rfl) T.z_int boot_int (de_var (pv 2))) (de_var (pv 3))))))
    (dss_cons (ds_if (dt_cmp op_lt os_cmpI (de_var (pv 1)) de_int (nomark _)) (dss_one (ds_set (fun te h => ps_set sc38.nd rfl (by first | exact Or.inl rfl | exact Or.inr rfl) h) (de_op op_sub os_sub de_int (de_var (pv 2))))) dss_nil)
    (dss_one (ds_ret (de_tup (da_cons (de_op op_fdivW os_div (de_var (pv 0)) (de_var (pv 2))) (da_cons (de_op op_fdivW os_div (de_var (pv 1)) (de_var (pv 2))) da_nil))))))))
theorem ok39 (T : Top K mg fa fd) (G : Gs P w K mg base fa fd k cl cx) : FnOk P w K mg base CX0 (k + 1) (fa 39) (fd 39) ["_law_urn", "_law_some_so", "_law_many"] (spD K 3 (fn39 cl)) :=
  fn_ok T.F39 sc39 fun cdv A outer s H E hr => (dss_cons (ds_par (fun ta h => ps_par rfl sc39.nd rfl rfl (by decide) rfl rfl h (by rfl)) (de_callT1 call_list_of us_list (by rfl) T.z_list boot_list (de_var (pv 1))) (de_lst da_nil))
    (dss_cons (ds_for PassesOwn.never rfl (di_rng1 (by rfl) T.z_range (da_cons (de_callA (call_min2 rfl) as_min2 (by rfl) T.z_min boot_min (da_cons (de_var (pv 2)) (da_cons (de_call1 call_len_seq us_len (by rfl) T.z_len boot_len (de_var (pv 3))) da_nil))) da_nil)) (dg_name (pg_name sc39.nd rfl (by first | exact Or.inl rfl | exact Or.inr rfl))) (dss_one (ds_expr (de_app (fun t h => pe_bm PySem.F.plainAttrs_list PySem.F.slot_list_append PySem.F.type_list_append mt_append (pv 4) h) (de_popAt (fun t h => pe_bm PySem.F.plainAttrs_list PySem.F.slot_list_pop PySem.F.type_list_pop mt_popAt (pv 3) h) (de_call G.c33 hr (by rfl) T.g33 T.F33.kp T.b33 (dr_slot (pv 0) (dr_val (de_call1 call_len_seq us_len (by rfl) T.z_len boot_len (de_var (pv 3))) dr_nil)) (rl_slot (rl_val (rl_nil rfl)))))))))
    (dss_one (ds_ret (de_var (pv 4))))))
theorem ok40 (T : Top K mg fa fd) (G : Gs P w K mg base fa fd k cl cx) : FnOk P w K mg base CX0 (k + 1) (fa 40) (fd 40) ["_law_own", "_law_far"] (spD K 2 (fn40 cl)) :=
  fn_ok T.F40 sc40 fun cdv A outer s H E hr => (dss_one (ds_ret (de_call G.c38 hr (by rfl) T.g38 T.F38.kp T.b38 (dr_val (de_op op_addA os_add (de_op op_mulA os_mul (de_ix ix_A os_ix (de_var (pv 0)) de_int (fun _ _ => rfl)) (de_ix ix_A os_ix (de_var (pv 1)) de_int (fun _ _ => rfl))) (de_op op_mulA os_mul (de_ix ix_A os_ix (de_var (pv 1)) de_int (fun _ _ => rfl)) (de_ix ix_A os_ix (de_var (pv 0)) de_int (fun _ _ => rfl)))) (dr_val (de_op op_mulA os_mul (de_ix ix_A os_ix (de_var (pv 0)) de_int (fun _ _ => rfl)) (de_ix ix_A os_ix (de_var (pv 1)) de_int (fun _ _ => rfl))) dr_nil)) (rl_val (rl_val (rl_nil rfl))))))
theorem ok41 (T : Top K mg fa fd) (G : Gs P w K mg base fa fd k cl cx) : FnOk P w K mg base CX0 (k + 1) (fa 41) (fd 41) ["_law_own", "_law_far"] (spD K 2 (fn41 cl)) :=
  fn_ok T.F41 sc41 fun cdv A outer s H E hr => (dss_one (ds_ret (de_call G.c38 hr (by rfl) T.g38 T.F38.kp T.b38 (dr_val (de_op op_mulA os_mul (de_ix ix_A os_ix (de_var (pv 0)) de_int (fun _ _ => rfl)) (de_ix ix_A os_ix (de_var (pv 1)) de_int (fun _ _ => rfl))) (dr_val (de_op op_mulA os_mul (de_ix ix_A os_ix (de_var (pv 0)) de_int (fun _ _ => rfl)) (de_ix ix_A os_ix (de_var (pv 1)) de_int (fun _ _ => rfl))) dr_nil)) (rl_val (rl_val (rl_nil rfl))))))
theorem ok42 (T : Top K mg fa fd) (G : Gs P w K mg base fa fd k cl cx) : FnOk P w K mg base CX0 (k + 1) (fa 42) (fd 42) ["_law_one", "_law_two"] (spD K 2 (fn42 cl)) :=
  fn_ok T.F42 sc42 fun cdv A outer s H E hr => (dss_one (ds_ret (de_call G.c38 hr (by rfl) T.g38 T.F38.kp T.b38 (dr_val (de_op op_sub os_sub (de_op op_mulA os_mul (de_ix ix_A os_ix (de_var (pv 0)) de_int (fun _ _ => rfl)) (de_ix ix_A os_ix (de_var (pv 1)) de_int (fun _ _ => rfl))) (de_op op_mulA os_mul (de_ix ix_A os_ix (de_var (pv 1)) de_int (fun _ _ => rfl)) (de_ix ix_A os_ix (de_var (pv 0)) de_int (fun _ _ => rfl)))) (dr_val (de_op op_mulA os_mul (de_ix ix_A os_ix (de_var (pv 0)) de_int (fun _ _ => rfl)) (de_ix ix_A os_ix (de_var (pv 1)) de_int (fun _ _ => rfl))) dr_nil)) (rl_val (rl_val (rl_nil rfl))))))
theorem ok43 (T : Top K mg fa fd) (G : Gs P w K mg base fa fd k cl cx) : FnOk P w K mg base CX0 (k + 1) (fa 43) (fd 43) ["_law_row_so"] (spD K 1 (fn43 cl)) :=
  fn_ok T.F43 sc43 fun cdv A outer s H E hr => (dss_cons (ds_set (fun te h => ps_set sc43.nd rfl (by first | exact Or.inl rfl | exact Or.inr rfl) h) (de_lst da_nil))
    (dss_cons (ds_for PassesOwn.never rfl (di_seq (de_var (pv 0))) (dg_seq rfl (dgs_cons (dg_name (pg_name sc43.nd rfl (by first | exact Or.inl rfl | exact Or.inr rfl))) (dgs_cons (dg_name (pg_name sc43.nd rfl (by first | exact Or.inl rfl | exact Or.inr rfl))) dgs_nil))) (dss_cons (ds_if (dt_w (dw_and (dt_cmp (op_neD (room64 hr)) os_ne (de_var (pv 1)) (de_lst da_nil) (nomark _)) (dw_and1 (dt_cmp (op_eqD (room64 hr)) os_eq (de_ix ix_A os_ix (de_ix ix_A os_ix (de_var (pv 1)) (de_un un_neg us_neg de_int) (fun _ _ => rfl)) de_int (fun _ _ => rfl)) (de_var (pv 2)) (nomark _))))) (dss_one (ds_set (fun te h => ps_set sc43.nd rfl (by first | exact Or.inl rfl | exact Or.inr rfl) h) (de_call G.c40 hr (by rfl) T.g40 T.F40.kp T.b40 (dr_val (de_ix ix_A os_ix (de_pop (pe_bm0 PySem.F.plainAttrs_list PySem.F.slot_list_pop PySem.F.type_list_pop mt_pop (pv 1))) de_int (fun _ _ => rfl)) (dr_val (de_var (pv 3)) dr_nil)) (rl_val (rl_val (rl_nil rfl)))))) dss_nil)
    (dss_one (ds_if (dt_cmp (op_neD (room64 hr)) os_ne (de_ix ix_A os_ix (de_var (pv 3)) de_int (fun _ _ => rfl)) de_int (nomark _)) (dss_one (ds_expr (de_app (fun t h => pe_bm PySem.F.plainAttrs_list PySem.F.slot_list_append PySem.F.type_list_append mt_append (pv 1) h) (de_tup (da_cons (de_var (pv 2)) (da_cons (de_var (pv 3)) da_nil)))))) dss_nil))))
    (dss_one (ds_ret (de_callT1 call_tuple_of us_tuple (by rfl) T.z_tuple boot_tuple (de_var (pv 1)))))))
theorem ok44 (T : Top K mg fa fd) (G : Gs P w K mg base fa fd k cl cx) : FnOk P w K mg base CX0 (k + 1) (fa 44) (fd 44) ["_law_row_so", "_law_word_so"] (spD K 2 (fn44 cl)) :=
  fn_ok T.F44 sc44 fun cdv A outer s H E hr => (dss_cons (ds_if (dt_cmp (op_eqD (room64 hr)) os_eq (de_var (pv 0)) (de_tup da_nil) (nomark _)) (dss_one (ds_ret (de_tup (da_cons (de_callT1 call_int1 us_int (by rfl) T.z_int boot_int (de_cmp (op_eqD (room64 hr)) os_eq (de_var (pv 1)) (de_tup da_nil) (nomark _))) (da_cons de_int da_nil))))) dss_nil)
    (dss_cons (ds_asgG (fun te g h1 h2 => ps_asg h1 h2) (de_ix ix_A os_ix (de_var (pv 0)) (de_un un_neg us_neg de_int) (fun _ _ => rfl)) (dg_tup rfl (dgs_cons (dg_name (pg_name sc44.nd rfl (by first | exact Or.inl rfl | exact Or.inr rfl))) (dgs_cons (dg_name (pg_name sc44.nd rfl (by first | exact Or.inl rfl | exact Or.inr rfl))) dgs_nil))))
    (dss_cons (ds_par3O (fun ta h => Vi.ps_par3 rfl sc44.nd rfl rfl rfl (by decide) (by decide) (by decide) rfl rfl rfl h (by rfl)) (de_call G.c44 hr (by rfl) T.g44 T.F44.kp T.b44 (dr_val (de_sl (de_var (pv 0)) do_none (do_some (de_un un_neg us_neg de_int))) (dr_val (de_var (pv 1)) dr_nil)) (rl_val (rl_val (rl_nil rfl)))) (de_tup (da_cons de_int (da_cons de_int da_nil))) (de_var (pv 1)))
    (dss_cons (ds_for PassesOwn.never rfl (di_rng2 (by rfl) T.z_range (da_cons de_int (da_cons (de_op op_addA os_add (de_call1 call_len_seq us_len (by rfl) T.z_len boot_len (de_var (pv 1))) de_int) da_nil))) (dg_name (pg_name sc44.nd rfl (by first | exact Or.inl rfl | exact Or.inr rfl))) (dss_cons (ds_if (dt_w (dw_or (dt_cmp (op_eqD (room64 hr)) os_eq (de_var (pv 6)) (de_tup da_nil) (nomark _)) (dw_or1 (dt_cmp (op_neD (room64 hr)) os_ne (de_ix ix_A os_ix (de_var (pv 6)) (de_un un_neg us_neg de_int) (fun _ _ => rfl)) (de_var (pv 2)) (nomark _))))) (dss_one (ds_ret (de_var (pv 4)))) dss_nil)
    (dss_cons (ds_set (fun te h => ps_set sc44.nd rfl (by first | exact Or.inl rfl | exact Or.inr rfl) h) (de_sl (de_var (pv 6)) do_none (do_some (de_un un_neg us_neg de_int))))
    (dss_cons (ds_set (fun te h => ps_set sc44.nd rfl (by first | exact Or.inl rfl | exact Or.inr rfl) h) (de_call G.c38 hr (by rfl) T.g38 T.F38.kp T.b38 (dr_val (de_op op_mulA os_mul (de_ix ix_A os_ix (de_var (pv 5)) de_int (fun _ _ => rfl)) (de_ix ix_A os_ix (de_var (pv 3)) de_int (fun _ _ => rfl))) (dr_val (de_op op_mulA os_mul (de_op op_mulA os_mul (de_ix ix_A os_ix (de_var (pv 5)) de_int (fun _ _ => rfl)) (de_ix ix_A os_ix (de_var (pv 3)) de_int (fun _ _ => rfl))) (de_var (pv 7))) dr_nil)) (rl_val (rl_val (rl_nil rfl)))))
    (dss_one (ds_set (fun te h => ps_set sc44.nd rfl (by first | exact Or.inl rfl | exact Or.inr rfl) h) (de_call G.c40 hr (by rfl) T.g40 T.F40.kp T.b40 (dr_val (de_var (pv 4)) (dr_val (de_call G.c41 hr (by rfl) T.g41 T.F41.kp T.b41 (dr_val (de_var (pv 5)) (dr_val (de_call G.c44 hr (by rfl) T.g44 T.F44.kp T.b44 (dr_val (de_sl (de_var (pv 0)) do_none (do_some (de_un un_neg us_neg de_int))) (dr_val (de_var (pv 6)) dr_nil)) (rl_val (rl_val (rl_nil rfl)))) dr_nil)) (rl_val (rl_val (rl_nil rfl)))) dr_nil)) (rl_val (rl_val (rl_nil rfl))))))))))
    (dss_one (ds_ret (de_var (pv 4))))))))
theorem ok45 (T : Top K mg fa fd) (G : Gs P w K mg base fa fd k cl cx) : FnOk P w K mg base CX0 (k + 1) (fa 45) (fd 45) ["_law_parts_so", "_law_long_so"] (spD K 2 (fn45 cl)) :=
  fn_ok T.F45 sc45 fun cdv A outer s H E hr => (dss_cons (ds_set (fun te h => ps_set sc45.nd rfl (by first | exact Or.inl rfl | exact Or.inr rfl) h) (de_lst (da_cons (de_tup da_nil) da_nil)))
    (dss_cons (ds_for PassesOwn.never rfl (di_rng1 (by rfl) T.z_range (da_cons (de_var (pv 1)) da_nil)) (dg_name (pg_name sc45.nd rfl (by first | exact Or.inl rfl | exact Or.inr rfl))) (dss_cons (ds_set (fun te h => ps_set sc45.nd rfl (by first | exact Or.inl rfl | exact Or.inr rfl) h) (de_lst da_nil))
    (dss_cons (ds_for PassesOwn.never rfl (di_seq (de_var (pv 2))) (dg_name (pg_name sc45.nd rfl (by first | exact Or.inl rfl | exact Or.inr rfl))) (dss_one (ds_set (fun te h => ps_set sc45.nd rfl (by first | exact Or.inl rfl | exact Or.inr rfl) h) (de_op op_addA os_add (de_var (pv 4)) (de_lc rfl sc45.nd (di_seq (de_var (pv 0))) (own := [("_law_part", 6)]) (blkOk_by (by kernel_rfl)) (fun _ _ _ _ _ => (dg_name (pg_name sc45.nd rfl (by first | exact Or.inl rfl | exact Or.inr rfl)))) (fun _ _ _ _ _ => dts_nil) (fun _ _ _ _ _ => (de_op op_addA os_add (de_var (pv 5)) (de_tup (da_cons (de_var (pv 6)) da_nil)))) (by decide))))))
    (dss_one (ds_set (fun te h => ps_set sc45.nd rfl (by first | exact Or.inl rfl | exact Or.inr rfl) h) (de_var (pv 4)))))))
    (dss_one (ds_ret (de_var (pv 2))))))
theorem ok46 (T : Top K mg fa fd) (G : Gs P w K mg base fa fd k cl cx) : FnOk P w K mg base CX0 (k + 1) (fa 46) (fd 46) ["_law_urn"] (spD K 1 (fn46 cl)) :=
  fn_ok T.F46 sc46 fun cdv A outer s H E hr => (dss_one (ds_ret (de_call G.c35 hr (by rfl) T.g35 T.F35.kp T.b35 (dr_slot (pv 0) (dr_val (de_lst (da_cons (de_tup (da_cons de_int (da_cons de_int da_nil))) (da_cons (de_tup (da_cons (de_un un_neg us_neg de_int) (da_cons de_int da_nil))) (da_cons (de_tup (da_cons de_int (da_cons de_int da_nil))) (da_cons (de_tup (da_cons (de_un un_neg us_neg de_int) (da_cons de_int da_nil))) (da_cons (de_tup (da_cons de_int (da_cons de_int da_nil))) (da_cons (de_tup (da_cons (de_un un_neg us_neg de_int) (da_cons de_int da_nil))) (da_cons (de_tup (da_cons de_int (da_cons de_int da_nil))) (da_cons (de_tup (da_cons (de_un un_neg us_neg de_int) (da_cons de_int da_nil))) (da_cons (de_tup (da_cons de_int (da_cons de_int da_nil))) (da_cons (de_tup (da_cons de_int (da_cons de_int da_nil))) da_nil))))))))))) dr_nil)) (rl_slot (rl_val (rl_nil rfl))))))
theorem ok47 (T : Top K mg fa fd) (G : Gs P w K mg base fa fd k cl cx) : FnOk P w K mg base CX0 (k + 1) (fa 47) (fd 47) ["_law_urn", "_law_many", "_law_long_so"] (spD K 3 (fn47 cl)) :=
  fn_ok T.F47 sc47 fun cdv A outer s H E hr => (dss_one (ds_ret (de_callT1 call_tuple_of us_tuple (by rfl) T.z_tuple boot_tuple (de_lc rfl sc47.nd (di_rng1 (by rfl) T.z_range (da_cons (de_var (pv 2)) da_nil)) (own := [("_law_lap", 3)]) (blkOk_by (by kernel_rfl)) (fun _ _ _ _ _ => (dg_name (pg_name sc47.nd rfl (by first | exact Or.inl rfl | exact Or.inr rfl)))) (fun _ _ _ _ _ => dts_nil) (fun _ _ _ _ _ => (de_tup (da_cons (de_call G.c33 hr (by rfl) T.g33 T.F33.kp T.b33 (dr_slot (pv 0) (dr_val (de_var (pv 1)) dr_nil)) (rl_slot (rl_val (rl_nil rfl)))) (da_cons (de_call G.c46 hr (by rfl) T.g46 T.F46.kp T.b46 (dr_slot (pv 0) dr_nil) (rl_slot (rl_nil rfl))) da_nil)))) (by decide)))))
theorem ok48 (T : Top K mg fa fd) (G : Gs P w K mg base fa fd k cl cx) : FnOk P w K mg base CX0 (k + 1) (fa 48) (fd 48) ["_law_one"] (spD K 1 (fn48 cl)) :=
  fn_ok T.F48 sc48 fun cdv A outer s H E hr => (dss_one (ds_ret (de_call G.c41 hr (by rfl) T.g41 T.F41.kp T.b41 (dr_val (de_call G.c41 hr (by rfl) T.g41 T.F41.kp T.b41 (dr_val (de_var (pv 0)) (dr_val (de_var (pv 0)) dr_nil)) (rl_val (rl_val (rl_nil rfl)))) (dr_val (de_var (pv 0)) dr_nil)) (rl_val (rl_val (rl_nil rfl))))))
theorem ok49 (T : Top K mg fa fd) (G : Gs P w K mg base fa fd k cl cx) : FnOk P w K mg base CX0 (k + 1) (fa 49) (fd 49) ["_law_row_so", "_law_one", "_law_two"] (spD K 3 (fn49 cl)) :=
  fn_ok T.F49 sc49 fun cdv A outer s H E hr => (dss_cons (ds_par3O (fun ta h => Vi.ps_par3 rfl sc49.nd rfl rfl rfl (by decide) (by decide) (by decide) rfl rfl rfl h (by rfl)) (de_tup (da_cons de_int (da_cons de_int da_nil))) (de_tup (da_cons de_int (da_cons de_int da_nil))) (de_lst da_nil))
    (dss_cons (ds_for PassesOwn.never rfl (di_seq (de_var (pv 0))) (dg_seq rfl (dgs_cons (dg_name (pg_name sc49.nd rfl (by first | exact Or.inl rfl | exact Or.inr rfl))) (dgs_cons (dg_name (pg_name sc49.nd rfl (by first | exact Or.inl rfl | exact Or.inr rfl))) dgs_nil))) (dss_cons (ds_if (dt_cmp (op_eqD (room64 hr)) os_eq (de_var (pv 6)) (de_var (pv 1)) (nomark _)) (dss_cons (ds_set (fun te h => ps_set sc49.nd rfl (by first | exact Or.inl rfl | exact Or.inr rfl) h) (de_call G.c40 hr (by rfl) T.g40 T.F40.kp T.b40 (dr_val (de_var (pv 3)) (dr_val (de_var (pv 7)) dr_nil)) (rl_val (rl_val (rl_nil rfl)))))
    (dss_cons (ds_set (fun te h => ps_set sc49.nd rfl (by first | exact Or.inl rfl | exact Or.inr rfl) h) (de_call G.c42 hr (by rfl) T.g42 T.F42.kp T.b42 (dr_val (de_call G.c48 hr (by rfl) T.g48 T.F48.kp T.b48 (dr_val (de_call G.c42 hr (by rfl) T.g42 T.F42.kp T.b42 (dr_val (de_var (pv 4)) (dr_val (de_var (pv 3)) dr_nil)) (rl_val (rl_val (rl_nil rfl)))) dr_nil) (rl_val (rl_nil rfl))) (dr_val (de_call G.c48 hr (by rfl) T.g48 T.F48.kp T.b48 (dr_val (de_call G.c42 hr (by rfl) T.g42 T.F42.kp T.b42 (dr_val (de_var (pv 4)) (dr_val (de_var (pv 8)) dr_nil)) (rl_val (rl_val (rl_nil rfl)))) dr_nil) (rl_val (rl_nil rfl))) dr_nil)) (rl_val (rl_val (rl_nil rfl)))))
    (dss_cons (ds_expr (de_app (fun t h => pe_bm PySem.F.plainAttrs_list PySem.F.slot_list_append PySem.F.type_list_append mt_append (pv 5) h) (de_tup (da_cons (de_var (pv 3)) (da_cons (de_var (pv 8)) (da_cons (de_var (pv 4)) (da_cons (de_call G.c38 hr (by rfl) T.g38 T.F38.kp T.b38 (dr_val (de_ix ix_A os_ix (de_var (pv 9)) de_int (fun _ _ => rfl)) (dr_val (de_op op_mulA os_mul (de_ix ix_A os_ix (de_var (pv 9)) de_int (fun _ _ => rfl)) de_int) dr_nil)) (rl_val (rl_val (rl_nil rfl)))) da_nil)))))))
    (dss_one (ds_set (fun te h => ps_set sc49.nd rfl (by first | exact Or.inl rfl | exact Or.inr rfl) h) (de_var (pv 8))))))) dss_nil)
    (dss_one (ds_if (dt_cmp (op_eqD (room64 hr)) os_eq (de_var (pv 6)) (de_var (pv 2)) (nomark _)) (dss_one (ds_set (fun te h => ps_set sc49.nd rfl (by first | exact Or.inl rfl | exact Or.inr rfl) h) (de_call G.c40 hr (by rfl) T.g40 T.F40.kp T.b40 (dr_val (de_var (pv 4)) (dr_val (de_var (pv 7)) dr_nil)) (rl_val (rl_val (rl_nil rfl)))))) dss_nil))))
    (dss_one (ds_ret (de_callT1 call_tuple_of us_tuple (by rfl) T.z_tuple boot_tuple (de_var (pv 5)))))))
theorem ok50 (T : Top K mg fa fd) (G : Gs P w K mg base fa fd k cl cx) : FnOk P w K mg base CX0 (k + 1) (fa 50) (fd 50) ["_law_row_so", "_law_one", "_law_two"] (spD K 3 (fn50 cl)) :=
  fn_ok T.F50 sc50 fun cdv A outer s H E hr => (dss_cons (ds_set (fun te h => ps_set sc50.nd rfl (by first | exact Or.inl rfl | exact Or.inr rfl) h) (de_call G.c40 hr (by rfl) T.g40 T.F40.kp T.b40 (dr_val (de_call G.c44 hr (by rfl) T.g44 T.F44.kp T.b44 (dr_val (de_var (pv 0)) (dr_val (de_tup (da_cons (de_var (pv 2)) (da_cons (de_var (pv 2)) (da_cons (de_var (pv 1)) da_nil)))) dr_nil)) (rl_val (rl_val (rl_nil rfl)))) (dr_val (de_call G.c44 hr (by rfl) T.g44 T.F44.kp T.b44 (dr_val (de_var (pv 0)) (dr_val (de_tup (da_cons (de_var (pv 1)) (da_cons (de_var (pv 1)) (da_cons (de_var (pv 1)) da_nil)))) dr_nil)) (rl_val (rl_val (rl_nil rfl)))) dr_nil)) (rl_val (rl_val (rl_nil rfl)))))
    (dss_cons (ds_set (fun te h => ps_set sc50.nd rfl (by first | exact Or.inl rfl | exact Or.inr rfl) h) (de_call G.c42 hr (by rfl) T.g42 T.F42.kp T.b42 (dr_val (de_var (pv 3)) (dr_val (de_call G.c40 hr (by rfl) T.g40 T.F40.kp T.b40 (dr_val (de_call G.c44 hr (by rfl) T.g44 T.F44.kp T.b44 (dr_val (de_var (pv 0)) (dr_val (de_tup (da_cons (de_var (pv 1)) (da_cons (de_var (pv 2)) (da_cons (de_var (pv 1)) da_nil)))) dr_nil)) (rl_val (rl_val (rl_nil rfl)))) (dr_val (de_call G.c44 hr (by rfl) T.g44 T.F44.kp T.b44 (dr_val (de_var (pv 0)) (dr_val (de_tup (da_cons (de_var (pv 2)) (da_cons (de_var (pv 1)) (da_cons (de_var (pv 1)) da_nil)))) dr_nil)) (rl_val (rl_val (rl_nil rfl)))) dr_nil)) (rl_val (rl_val (rl_nil rfl)))) dr_nil)) (rl_val (rl_val (rl_nil rfl)))))
    (dss_one (ds_ret (de_call G.c41 hr (by rfl) T.g41 T.F41.kp T.b41 (dr_val (de_var (pv 3)) (dr_val (de_tup (da_cons de_int (da_cons de_int da_nil))) dr_nil)) (rl_val (rl_val (rl_nil rfl))))))))
theorem ok51 (T : Top K mg fa fd) (G : Gs P w K mg base fa fd k cl cx) : FnOk P w K mg base CX0 (k + 1) (fa 51) (fd 51) ["_law_row_so", "_law_many", "_law_power"] (spD K 3 (fn51 cl)) :=
  fn_ok T.F51 sc51 fun cdv A outer s H E hr => (dss_cons (ds_set (fun te h => ps_set sc51.nd rfl (by first | exact Or.inl rfl | exact Or.inr rfl) h) de_int)
    (dss_cons (ds_for PassesOwn.never rfl (di_rng2 (by rfl) T.z_range (da_cons de_int (da_cons (de_op op_addA os_add (de_var (pv 2)) de_int) da_nil))) (dg_name (pg_name sc51.nd rfl (by first | exact Or.inl rfl | exact Or.inr rfl))) (dss_cons (ds_set (fun te h => ps_set sc51.nd rfl (by first | exact Or.inl rfl | exact Or.inr rfl) h) (de_op op_mulA os_mul (de_var (pv 3)) (de_var (pv 4))))
    (dss_one (ds_for PassesOwn.never rfl (di_seq (de_call G.c45 hr (by rfl) T.g45 T.F45.kp T.b45 (dr_val (de_lrng rfl (by rfl) T.z_list (by rfl) T.z_range (de_var (pv 1))) (dr_val (de_var (pv 4)) dr_nil)) (rl_val (rl_val (rl_nil rfl))))) (dg_name (pg_name sc51.nd rfl (by first | exact Or.inl rfl | exact Or.inr rfl))) (dss_one (ds_if (dt_cmp (op_neD (room64 hr)) os_ne (de_call G.c44 hr (by rfl) T.g44 T.F44.kp T.b44 (dr_val (de_var (pv 0)) (dr_val (de_var (pv 5)) dr_nil)) (rl_val (rl_val (rl_nil rfl)))) (de_tup (da_cons de_int (da_cons (de_var (pv 3)) da_nil))) (nomark _)) (dss_one (ds_ret de_bl)) dss_nil))))))
    (dss_one (ds_ret de_bl))))
theorem ok52 (T : Top K mg fa fd) (G : Gs P w K mg base fa fd k cl cx) : FnOk P w K mg base CX0 (k + 1) (fa 52) (fd 52) ["_law_many", "_law_power"] (spD K 2 (fn52 cl cx)) :=
  fn_ok T.F52 sc52 fun cdv A outer s H E hr => (dss_one (ds_try (cv := cvs fa) (j := 2) rfl rfl ⟨by rfl, by decide, .inl T.g2⟩ T.e2 (fun W pn xe tk _ => (dsxs_one (dsx_ret (dex_call G.x27 hr (by rfl) T.g27 T.F27.kp T.b27 tk (dr_val (de_var (pv 0)) (dr_val (de_var (pv 1)) dr_nil)) (rl_val (rl_val (rl_nil rfl))))))) (fun a pn => (dss_one (ds_ret de_str)))))
theorem ok53 (T : Top K mg fa fd) (G : Gs P w K mg base fa fd k cl cx) : FnOk P w K mg base CX0 (k + 1) (fa 53) (fd 53) [] (spD K 0 (fn53 cl)) :=
  fn_ok T.F53 sc53 fun cdv A outer s H E hr => (dss_cons (ds_for PassesOwn.never rfl (di_seq (de_tup (da_cons (de_tup (da_cons de_int (da_cons de_int (da_cons de_int da_nil)))) (da_cons (de_tup (da_cons de_int (da_cons de_int (da_cons de_int da_nil)))) (da_cons (de_tup (da_cons de_int (da_cons de_int (da_cons de_int da_nil)))) (da_cons (de_tup (da_cons de_int (da_cons de_int (da_cons de_int da_nil)))) (da_cons (de_tup (da_cons de_int (da_cons de_int (da_cons de_int da_nil)))) (da_cons (de_tup (da_cons de_int (da_cons de_int (da_cons de_int da_nil)))) (da_cons (de_tup (da_cons de_int (da_cons de_int (da_cons de_int da_nil)))) da_nil))))))))) (dg_seq rfl (dgs_cons (dg_name (pg_name sc53.nd rfl (by first | exact Or.inl rfl | exact Or.inr rfl))) (dgs_cons (dg_name (pg_name sc53.nd rfl (by first | exact Or.inl rfl | exact Or.inr rfl))) (dgs_cons (dg_name (pg_name sc53.nd rfl (by first | exact Or.inl rfl | exact Or.inr rfl))) dgs_nil)))) (dss_cons (ds_set (fun te h => ps_set sc53.nd rfl (by first | exact Or.inl rfl | exact Or.inr rfl) h) (de_call G.c52 hr (by rfl) T.g52 T.F52.kp T.b52 (dr_val (de_var (pv 0)) (dr_val (de_var (pv 1)) dr_nil)) (rl_val (rl_val (rl_nil rfl)))))
    (dss_cons (ds_if (dt_w (dw_or (dt_not (dt_tru (de_isi (t := Ty.tuple) (by rfl) T.z_isinstance boot_isinstance (de_var (pv 3)) (pe_bltn (by rfl) T.z_tuple boot_tuple rfl)))) (dw_or (dt_cmp (op_neD (room64 hr)) os_ne (de_call1 call_len_seq us_len (by rfl) T.z_len boot_len (de_var (pv 3))) (de_var (pv 2)) (nomark _)) (dw_or1 (dt_not (dt_tru (de_call1 (cr_all rfl) us_all (by rfl) T.z_all boot_all (de_lc rfl sc53.nd (di_seq (de_var (pv 3))) (own := [("_law_own", 4)]) (blkOk_by (by kernel_rfl)) (fun _ _ _ _ _ => (dg_name (pg_name sc53.nd rfl (by first | exact Or.inl rfl | exact Or.inr rfl)))) (fun _ _ _ _ _ => dts_nil) (fun _ _ _ _ _ => (de_and (de_isi (t := Ty.tuple) (by rfl) T.z_isinstance boot_isinstance (de_var (pv 4)) (pe_bltn (by rfl) T.z_tuple boot_tuple rfl)) (de_one (de_cmp (op_eqD (room64 hr)) os_eq (de_call1 call_len_seq us_len (by rfl) T.z_len boot_len (de_var (pv 4))) de_int (nomark _))))) (by decide))))))))) (dss_one (ds_ret de_bl)) dss_nil)
    (dss_cons (ds_if (dt_not (dt_tru (de_call1 (cr_all rfl) us_all (by rfl) T.z_all boot_all (de_lc rfl sc53.nd (di_seq (de_var (pv 3))) (own := [("_law_own", 4)]) (blkOk_by (by kernel_rfl)) (fun _ _ _ _ _ => (dg_name (pg_name sc53.nd rfl (by first | exact Or.inl rfl | exact Or.inr rfl)))) (fun _ _ _ _ _ => dts_nil) (fun _ _ _ _ _ => (de_and (de_isi (t := Ty.int) (by rfl) T.z_isinstance boot_isinstance (de_ix ix_A os_ix (de_var (pv 4)) de_int (fun _ _ => rfl)) (pe_bltn (by rfl) T.z_int boot_int rfl)) (de_and (de_isi (t := Ty.tuple) (by rfl) T.z_isinstance boot_isinstance (de_ix ix_A os_ix (de_var (pv 4)) de_int (fun _ _ => rfl)) (pe_bltn (by rfl) T.z_tuple boot_tuple rfl)) (de_one (de_cmp (op_eqD (room64 hr)) os_eq (de_call1 call_len_seq us_len (by rfl) T.z_len boot_len (de_ix ix_A os_ix (de_var (pv 4)) de_int (fun _ _ => rfl))) de_int (nomark _)))))) (by decide))))) (dss_one (ds_ret de_bl)) dss_nil)
    (dss_one (ds_if (dt_not (dt_tru (de_call G.c51 hr (by rfl) T.g51 T.F51.kp T.b51 (dr_val (de_var (pv 3)) (dr_val (de_var (pv 0)) (dr_val (de_callA (call_min2 rfl) as_min2 (by rfl) T.z_min boot_min (da_cons (de_var (pv 1)) (da_cons de_int da_nil))) dr_nil))) (rl_val (rl_val (rl_val (rl_nil rfl))))))) (dss_one (ds_ret de_bl)) dss_nil))))))
    (dss_one (ds_ret (de_cmp (op_eqD (room64 hr)) os_eq (de_lc rfl sc53.nd (di_seq (de_tup (da_cons (de_tup (da_cons de_int (da_cons de_int da_nil))) (da_cons (de_tup (da_cons de_int (da_cons de_int da_nil))) (da_cons (de_tup (da_cons de_int (da_cons de_int da_nil))) da_nil))))) (own := [("_law_own", 4)]) (blkOk_by (by kernel_rfl)) (fun _ _ _ _ _ => (dg_name (pg_name sc53.nd rfl (by first | exact Or.inl rfl | exact Or.inr rfl)))) (fun _ _ _ _ _ => dts_nil) (fun _ _ _ _ _ => (de_call G.c52 hr (by rfl) T.g52 T.F52.kp T.b52 (dr_val (de_ix ix_A os_ix (de_var (pv 4)) de_int (fun _ _ => rfl)) (dr_val (de_ix ix_A os_ix (de_var (pv 4)) de_int (fun _ _ => rfl)) dr_nil)) (rl_val (rl_val (rl_nil rfl))))) (by decide)) (de_rep (de_lst (da_cons de_str da_nil)) de_int) (nomark _)))))
theorem ok54 (T : Top K mg fa fd) (G : Gs P w K mg base fa fd k cl cx) : FnOk P w K mg base CX0 (k + 1) (fa 54) (fd 54) [] (spD K 0 (fn54 cl)) :=
  fn_ok T.F54 sc54 fun cdv A outer s H E hr => (dss_cons (ds_asgG (fun te g h1 h2 => ps_asg h1 h2) (de_tup (da_cons (de_tup (da_cons de_int (da_cons de_int da_nil))) (da_cons (de_tup (da_cons de_int (da_cons de_int da_nil))) (da_cons (de_tup (da_cons de_int (da_cons de_int da_nil))) (da_cons (de_tup (da_cons (de_un un_neg us_neg de_int) (da_cons de_int da_nil))) da_nil))))) (dg_tup rfl (dgs_cons (dg_name (pg_name sc54.nd rfl (by first | exact Or.inl rfl | exact Or.inr rfl))) (dgs_cons (dg_name (pg_name sc54.nd rfl (by first | exact Or.inl rfl | exact Or.inr rfl))) (dgs_cons (dg_name (pg_name sc54.nd rfl (by first | exact Or.inl rfl | exact Or.inr rfl))) (dgs_cons (dg_name (pg_name sc54.nd rfl (by first | exact Or.inl rfl | exact Or.inr rfl))) dgs_nil))))))
    (dss_cons (ds_set (fun te h => ps_set sc54.nd rfl (by first | exact Or.inl rfl | exact Or.inr rfl) h) (de_tup (da_cons (de_tup (da_cons de_int (da_cons (de_tup (da_cons de_int (da_cons de_int da_nil))) da_nil))) (da_cons (de_tup (da_cons de_int (da_cons (de_tup (da_cons de_int (da_cons de_int da_nil))) da_nil))) (da_cons (de_tup (da_cons de_int (da_cons (de_tup (da_cons de_int (da_cons de_int da_nil))) da_nil))) (da_cons (de_tup (da_cons de_int (da_cons (de_tup (da_cons (de_un un_neg us_neg de_int) (da_cons de_int da_nil))) da_nil))) (da_cons (de_tup (da_cons de_int (da_cons (de_tup (da_cons (de_un un_neg us_neg de_int) (da_cons de_int da_nil))) da_nil))) (da_cons (de_tup (da_cons de_int (da_cons (de_var (pv 0)) da_nil))) da_nil))))))))
    (dss_cons (ds_set (fun te h => ps_set sc54.nd rfl (by first | exact Or.inl rfl | exact Or.inr rfl) h) (de_tup (da_cons (de_tup (da_cons de_int (da_cons (de_var (pv 2)) da_nil))) (da_cons (de_tup (da_cons de_int (da_cons (de_var (pv 0)) da_nil))) (da_cons (de_tup (da_cons de_int (da_cons (de_var (pv 2)) da_nil))) da_nil)))))
    (dss_cons (ds_set (fun te h => ps_set sc54.nd rfl (by first | exact Or.inl rfl | exact Or.inr rfl) h) (de_lst (da_cons (de_call G.c29 hr (by rfl) T.g29 T.F29.kp T.b29 (dr_val (de_var (pv 4)) (dr_val de_int (dr_val de_int dr_nil))) (rl_val (rl_val (rl_val (rl_nil rfl))))) (da_cons (de_call G.c28 hr (by rfl) T.g28 T.F28.kp T.b28 (dr_val (de_var (pv 4)) (dr_val de_int (dr_val de_int dr_nil))) (rl_val (rl_val (rl_val (rl_nil rfl))))) (da_cons (de_call G.c28 hr (by rfl) T.g28 T.F28.kp T.b28 (dr_val (de_var (pv 4)) (dr_val de_int (dr_val de_int dr_nil))) (rl_val (rl_val (rl_val (rl_nil rfl))))) da_nil)))))
    (dss_cons (ds_set (fun te h => ps_set sc54.nd rfl (by first | exact Or.inl rfl | exact Or.inr rfl) h) (de_lst (da_cons (de_tup (da_cons (de_tup (da_cons (de_var (pv 1)) (da_cons (de_tup (da_cons de_int (da_cons de_int da_nil))) (da_cons (de_var (pv 1)) (da_cons (de_tup (da_cons de_int (da_cons de_int da_nil))) da_nil))))) (da_cons (de_tup (da_cons (de_tup (da_cons de_int (da_cons de_int da_nil))) (da_cons (de_tup (da_cons de_int (da_cons de_int da_nil))) (da_cons (de_tup (da_cons de_int (da_cons de_int da_nil))) (da_cons (de_tup (da_cons de_int (da_cons de_int da_nil))) da_nil))))) (da_cons (de_tup (da_cons (de_tup (da_cons de_int (da_cons de_int da_nil))) (da_cons (de_var (pv 0)) (da_cons (de_var (pv 1)) (da_cons (de_tup (da_cons (de_un un_neg us_neg de_int) (da_cons de_int da_nil))) da_nil))))) da_nil)))) (da_cons (de_var (pv 1)) (da_cons (de_var (pv 1)) da_nil)))))
    (dss_cons (ds_set (fun te h => ps_set sc54.nd rfl (by first | exact Or.inl rfl | exact Or.inr rfl) h) (de_op op_addA os_add (de_var (pv 6)) (de_lst (da_cons (de_call G.c29 hr (by rfl) T.g29 T.F29.kp T.b29 (dr_val (de_var (pv 5)) (dr_val de_int (dr_val de_int dr_nil))) (rl_val (rl_val (rl_val (rl_nil rfl))))) (da_cons (de_call G.c28 hr (by rfl) T.g28 T.F28.kp T.b28 (dr_val (de_var (pv 5)) (dr_val de_int (dr_val de_int dr_nil))) (rl_val (rl_val (rl_val (rl_nil rfl))))) (da_cons (de_call G.c29 hr (by rfl) T.g29 T.F29.kp T.b29 (dr_val (de_var (pv 5)) (dr_val de_int (dr_val de_int dr_nil))) (rl_val (rl_val (rl_val (rl_nil rfl))))) (da_cons (de_call G.c28 hr (by rfl) T.g28 T.F28.kp T.b28 (dr_val (de_var (pv 5)) (dr_val de_int (dr_val de_int dr_nil))) (rl_val (rl_val (rl_val (rl_nil rfl))))) da_nil)))))))
    (dss_cons (ds_set (fun te h => ps_set sc54.nd rfl (by first | exact Or.inl rfl | exact Or.inr rfl) h) (de_op op_addA os_add (de_var (pv 7)) (de_lst (da_cons (de_tup (da_cons (de_tup (da_cons (de_var (pv 1)) (da_cons (de_var (pv 2)) (da_cons (de_var (pv 1)) (da_cons (de_tup (da_cons de_int (da_cons de_int da_nil))) da_nil))))) (da_cons (de_tup (da_cons (de_var (pv 2)) (da_cons (de_var (pv 0)) (da_cons (de_var (pv 0)) (da_cons (de_tup (da_cons de_int (da_cons de_int da_nil))) da_nil))))) da_nil))) (da_cons (de_tup (da_cons de_int (da_cons de_int da_nil))) (da_cons (de_tup (da_cons (de_tup (da_cons (de_var (pv 1)) (da_cons (de_var (pv 0)) (da_cons (de_var (pv 2)) (da_cons (de_tup (da_cons de_int (da_cons de_int da_nil))) da_nil))))) da_nil)) (da_cons (de_tup (da_cons de_int (da_cons de_int da_nil))) da_nil)))))))
    (dss_cons (ds_set (fun te h => ps_set sc54.nd rfl (by first | exact Or.inl rfl | exact Or.inr rfl) h) (de_op op_addA os_add (de_var (pv 6)) (de_lst (da_cons (de_call G.c29 hr (by rfl) T.g29 T.F29.kp T.b29 (dr_val (de_tup da_nil) (dr_val de_int (dr_val de_int dr_nil))) (rl_val (rl_val (rl_val (rl_nil rfl))))) (da_cons (de_call G.c28 hr (by rfl) T.g28 T.F28.kp T.b28 (dr_val (de_tup da_nil) (dr_val de_int (dr_val de_int dr_nil))) (rl_val (rl_val (rl_val (rl_nil rfl))))) (da_cons (de_call G.c28 hr (by rfl) T.g28 T.F28.kp T.b28 (dr_val (de_tup (da_cons (de_tup (da_cons de_int (da_cons (de_tup (da_cons de_int (da_cons de_int da_nil))) da_nil))) da_nil)) (dr_val de_int (dr_val de_int dr_nil))) (rl_val (rl_val (rl_val (rl_nil rfl))))) (da_cons (de_call G.c28 hr (by rfl) T.g28 T.F28.kp T.b28 (dr_val (de_tup (da_cons (de_tup (da_cons de_int (da_cons (de_tup (da_cons (de_un un_neg us_neg de_int) (da_cons de_int da_nil))) da_nil))) da_nil)) (dr_val de_int (dr_val de_int dr_nil))) (rl_val (rl_val (rl_val (rl_nil rfl))))) da_nil)))))))
    (dss_cons (ds_set (fun te h => ps_set sc54.nd rfl (by first | exact Or.inl rfl | exact Or.inr rfl) h) (de_op op_addA os_add (de_var (pv 7)) (de_lst (da_cons (de_tup da_nil) (da_cons (de_var (pv 1)) (da_cons (de_tup (da_cons de_int (da_cons de_int da_nil))) (da_cons (de_tup (da_cons (de_un un_neg us_neg de_int) (da_cons de_int da_nil))) da_nil)))))))
    (dss_cons (ds_set (fun te h => ps_set sc54.nd rfl (by first | exact Or.inl rfl | exact Or.inr rfl) h) (de_op op_addA os_add (de_var (pv 6)) (de_lst (da_cons (de_call G.c29 hr (by rfl) T.g29 T.F29.kp T.b29 (dr_val (de_tup (da_cons (de_tup (da_cons de_int (da_cons (de_var (pv 0)) da_nil))) (da_cons (de_tup (da_cons de_int (da_cons (de_var (pv 0)) da_nil))) (da_cons (de_tup (da_cons de_int (da_cons (de_var (pv 1)) da_nil))) (da_cons (de_tup (da_cons de_int (da_cons (de_tup (da_cons (de_un un_neg us_neg de_int) (da_cons de_int da_nil))) da_nil))) da_nil))))) (dr_val de_int (dr_val de_int dr_nil))) (rl_val (rl_val (rl_val (rl_nil rfl))))) (da_cons (de_call G.c28 hr (by rfl) T.g28 T.F28.kp T.b28 (dr_val (de_tup (da_cons (de_tup (da_cons de_int (da_cons (de_var (pv 0)) da_nil))) (da_cons (de_tup (da_cons de_int (da_cons (de_var (pv 0)) da_nil))) (da_cons (de_tup (da_cons de_int (da_cons (de_var (pv 3)) da_nil))) da_nil)))) (dr_val de_int (dr_val de_int dr_nil))) (rl_val (rl_val (rl_val (rl_nil rfl))))) da_nil)))))
    (dss_cons (ds_set (fun te h => ps_set sc54.nd rfl (by first | exact Or.inl rfl | exact Or.inr rfl) h) (de_op op_addA os_add (de_var (pv 7)) (de_lst (da_cons (de_tup (da_cons (de_tup (da_cons (de_var (pv 1)) (da_cons (de_var (pv 0)) (da_cons (de_var (pv 1)) (da_cons (de_tup (da_cons de_int (da_cons de_int da_nil))) da_nil))))) (da_cons (de_tup (da_cons (de_var (pv 0)) (da_cons (de_var (pv 3)) (da_cons (de_var (pv 1)) (da_cons (de_tup (da_cons (de_un un_neg us_neg de_int) (da_cons de_int da_nil))) da_nil))))) da_nil))) (da_cons (de_var (pv 1)) da_nil)))))
    (dss_cons (ds_set (fun te h => ps_set sc54.nd rfl (by first | exact Or.inl rfl | exact Or.inr rfl) h) (de_op op_addA os_add (de_var (pv 6)) (de_lst (da_cons (de_call G.c29 hr (by rfl) T.g29 T.F29.kp T.b29 (dr_val (de_tup (da_cons (de_tup (da_cons de_int (da_cons (de_var (pv 1)) da_nil))) da_nil)) (dr_val de_int (dr_val de_int dr_nil))) (rl_val (rl_val (rl_val (rl_nil rfl))))) (da_cons (de_call G.c28 hr (by rfl) T.g28 T.F28.kp T.b28 (dr_val (de_tup (da_cons (de_tup (da_cons de_int (da_cons (de_tup (da_cons (de_op op_pow os_pow de_int de_int) (da_cons de_int da_nil))) da_nil))) da_nil)) (dr_val de_int (dr_val de_int dr_nil))) (rl_val (rl_val (rl_val (rl_nil rfl))))) da_nil)))))
    (dss_cons (ds_set (fun te h => ps_set sc54.nd rfl (by first | exact Or.inl rfl | exact Or.inr rfl) h) (de_op op_addA os_add (de_var (pv 7)) (de_lst (da_cons (de_tup (da_cons (de_tup (da_cons (de_var (pv 1)) (da_cons (de_var (pv 1)) (da_cons (de_var (pv 1)) (da_cons (de_var (pv 1)) da_nil))))) da_nil)) (da_cons (de_tup (da_cons (de_op op_mulA os_mul (de_op op_pow os_pow de_int de_int) (de_op op_pow os_pow de_int de_int)) (da_cons de_int da_nil))) da_nil)))))
    (dss_cons (ds_set (fun te h => ps_set sc54.nd rfl (by first | exact Or.inl rfl | exact Or.inr rfl) h) (de_op op_addA os_add (de_var (pv 6)) (de_lst (da_cons (de_call G.c30 hr (by rfl) T.g30 T.F30.kp T.b30 (dr_val (de_var (pv 4)) dr_nil) (rl_val (rl_nil rfl))) (da_cons (de_call G.c30 hr (by rfl) T.g30 T.F30.kp T.b30 (dr_val (de_var (pv 5)) dr_nil) (rl_val (rl_nil rfl))) (da_cons (de_call G.c30 hr (by rfl) T.g30 T.F30.kp T.b30 (dr_val (de_tup (da_cons (de_tup (da_cons de_int (da_cons (de_var (pv 3)) da_nil))) (da_cons (de_tup (da_cons de_int (da_cons (de_var (pv 0)) da_nil))) (da_cons (de_tup (da_cons de_int (da_cons (de_var (pv 3)) da_nil))) (da_cons (de_tup (da_cons de_int (da_cons (de_var (pv 3)) da_nil))) (da_cons (de_tup (da_cons de_int (da_cons (de_tup (da_cons de_int (da_cons de_int da_nil))) da_nil))) da_nil)))))) dr_nil) (rl_val (rl_nil rfl))) (da_cons (de_call G.c30 hr (by rfl) T.g30 T.F30.kp T.b30 (dr_val (de_tup da_nil) dr_nil) (rl_val (rl_nil rfl))) da_nil)))))))
    (dss_cons (ds_set (fun te h => ps_set sc54.nd rfl (by first | exact Or.inl rfl | exact Or.inr rfl) h) (de_op op_addA os_add (de_var (pv 7)) (de_lst (da_cons (de_tup (da_cons de_int (da_cons de_int da_nil))) (da_cons (de_tup da_nil) (da_cons (de_tup (da_cons de_int da_nil)) (da_cons (de_tup da_nil) da_nil)))))))
    (dss_cons (ds_set (fun te h => ps_set sc54.nd rfl (by first | exact Or.inl rfl | exact Or.inr rfl) h) (de_op op_addA os_add (de_var (pv 6)) (de_lst (da_cons (de_callK0 G.c28 hr (by rfl) T.g28 T.F28.kp T.k28_0_b_a_row (dk_val de_int (dk_val de_int (dk_val (de_call G.c36 hr (by rfl) T.g36 T.F36.kp T.b36 (dr_val (de_var (pv 5)) dr_nil) (rl_val (rl_nil rfl))) dk_nil))) (rl_perm (rl_nil rfl) (rl_val (rl_val (rl_val (rl_nil rfl)))) rfl)) (da_cons (de_callK0 G.c29 hr (by rfl) T.g29 T.F29.kp T.k29_0_b_a_row (dk_val de_int (dk_val de_int (dk_val (de_call G.c36 hr (by rfl) T.g36 T.F36.kp T.b36 (dr_val (de_var (pv 5)) dr_nil) (rl_val (rl_nil rfl))) dk_nil))) (rl_perm (rl_nil rfl) (rl_val (rl_val (rl_val (rl_nil rfl)))) rfl)) (da_cons (de_callK0 G.c30 hr (by rfl) T.g30 T.F30.kp T.k30_0_row (dk_val (de_call G.c36 hr (by rfl) T.g36 T.F36.kp T.b36 (dr_val (de_var (pv 4)) dr_nil) (rl_val (rl_nil rfl))) dk_nil) (rl_perm (rl_nil rfl) (rl_val (rl_nil rfl)) rfl)) da_nil))))))
    (dss_cons (ds_set (fun te h => ps_set sc54.nd rfl (by first | exact Or.inl rfl | exact Or.inr rfl) h) (de_op op_addA os_add (de_var (pv 7)) (de_lst (da_cons (de_tup (da_cons de_int (da_cons de_int da_nil))) (da_cons (de_tup (da_cons (de_tup (da_cons (de_var (pv 1)) (da_cons (de_var (pv 0)) (da_cons (de_var (pv 2)) (da_cons (de_tup (da_cons de_int (da_cons de_int da_nil))) da_nil))))) da_nil)) (da_cons (de_tup (da_cons de_int (da_cons de_int da_nil))) da_nil))))))
    (dss_cons (ds_expr (de_app (fun t h => pe_bm PySem.F.plainAttrs_list PySem.F.slot_list_append PySem.F.type_list_append mt_append (pv 6) h) (de_callK0 G.c27 hr (by rfl) T.g27 T.F27.kp T.k27_0_power_many (dk_val de_int (dk_val de_int dk_nil)) (rl_perm (rl_nil rfl) (rl_val (rl_val (rl_nil rfl))) rfl))))
    (dss_one (ds_ret (de_and (de_call G.c37 hr (by rfl) T.g37 T.F37.kp T.b37 (dr_val (de_var (pv 6)) (dr_val (de_op op_addA os_add (de_var (pv 7)) (de_lst (da_cons (de_tup (da_cons (de_tup (da_cons de_int (da_cons (de_var (pv 0)) da_nil))) da_nil)) da_nil))) dr_nil)) (rl_val (rl_val (rl_nil rfl)))) (de_one (de_call0 G.c53 hr (by rfl) T.g53 T.F53.kp T.b53)))))))))))))))))))))))
theorem ok55 (T : Top K mg fa fd) (G : Gs P w K mg base fa fd k cl cx) : FnOk P w K mg base CX0 (k + 1) (fa 55) (fd 55) ["_law_urn"] (spD K 1 (fn55 cl)) :=
  fn_ok T.F55 sc55 fun cdv A outer s H E hr => (dss_cons (ds_set (fun te h => ps_set sc55.nd rfl (by first | exact Or.inl rfl | exact Or.inr rfl) h) (de_op op_addA os_add de_int (de_call G.c33 hr (by rfl) T.g33 T.F33.kp T.b33 (dr_slot (pv 0) (dr_val de_int dr_nil)) (rl_slot (rl_val (rl_nil rfl))))))
    (dss_cons (ds_set (fun te h => ps_set sc55.nd rfl (by first | exact Or.inl rfl | exact Or.inr rfl) h) (de_call G.c47 hr (by rfl) T.g47 T.F47.kp T.b47 (dr_slot (pv 0) (dr_val (de_var (pv 1)) (dr_val (de_op op_addA os_add de_int (de_call G.c33 hr (by rfl) T.g33 T.F33.kp T.b33 (dr_slot (pv 0) (dr_val de_int dr_nil)) (rl_slot (rl_val (rl_nil rfl))))) dr_nil))) (rl_slot (rl_val (rl_val (rl_nil rfl))))))
    (dss_cons (ds_asgG (fun te g h1 h2 => ps_asg h1 h2) (de_call G.c39 hr (by rfl) T.g39 T.F39.kp T.b39 (dr_slot (pv 0) (dr_val (de_lrng rfl (by rfl) T.z_list (by rfl) T.z_range (de_var (pv 1))) (dr_val de_int dr_nil))) (rl_slot (rl_val (rl_val (rl_nil rfl))))) (dg_seq rfl (dgs_cons (dg_name (pg_name sc55.nd rfl (by first | exact Or.inl rfl | exact Or.inr rfl))) (dgs_cons (dg_name (pg_name sc55.nd rfl (by first | exact Or.inl rfl | exact Or.inr rfl))) dgs_nil))))
    (dss_cons (ds_par (fun ta h => ps_par rfl sc55.nd rfl rfl (by decide) rfl rfl h (by rfl)) (de_call G.c49 hr (by rfl) T.g49 T.F49.kp T.b49 (dr_val (de_var (pv 2)) (dr_val (de_var (pv 3)) (dr_val (de_var (pv 4)) dr_nil))) (rl_val (rl_val (rl_val (rl_nil rfl))))) (de_tup (da_cons de_int (da_cons de_int da_nil))))
    (dss_cons (ds_for PassesOwn.never rfl (di_seq (de_var (pv 5))) (dg_name (pg_name sc55.nd rfl (by first | exact Or.inl rfl | exact Or.inr rfl))) (dss_one (ds_set (fun te h => ps_set sc55.nd rfl (by first | exact Or.inl rfl | exact Or.inr rfl) h) (de_call G.c40 hr (by rfl) T.g40 T.F40.kp T.b40 (dr_val (de_var (pv 6)) (dr_val (de_ix ix_A os_ix (de_var (pv 7)) de_int (fun _ _ => rfl)) dr_nil)) (rl_val (rl_val (rl_nil rfl)))))))
    (dss_cons (ds_set (fun te h => ps_set sc55.nd rfl (by first | exact Or.inl rfl | exact Or.inr rfl) h) (de_lst (da_cons (de_call G.c29 hr (by rfl) T.g29 T.F29.kp T.b29 (dr_val (de_var (pv 2)) (dr_val (de_var (pv 3)) (dr_val (de_var (pv 4)) dr_nil))) (rl_val (rl_val (rl_val (rl_nil rfl))))) (da_cons (de_call G.c28 hr (by rfl) T.g28 T.F28.kp T.b28 (dr_val (de_var (pv 2)) (dr_val (de_var (pv 3)) (dr_val (de_var (pv 4)) dr_nil))) (rl_val (rl_val (rl_val (rl_nil rfl))))) (da_cons (de_call G.c30 hr (by rfl) T.g30 T.F30.kp T.b30 (dr_val (de_var (pv 2)) dr_nil) (rl_val (rl_nil rfl))) da_nil)))))
    (dss_cons (ds_set (fun te h => ps_set sc55.nd rfl (by first | exact Or.inl rfl | exact Or.inr rfl) h) (de_sortsetI (cr_setI rfl) (cr_sortedSet rfl) us_sortsetI (by rfl) T.z_sorted boot_sorted (by rfl) T.z_set boot_set (de_lc rfl sc55.nd (di_seq (de_call G.c43 hr (by rfl) T.g43 T.F43.kp T.b43 (dr_val (de_var (pv 2)) dr_nil) (rl_val (rl_nil rfl)))) (own := [("_law_part", 10), ("_law_much_here", 11)]) (blkOk_by (by kernel_rfl)) (fun _ _ _ _ _ => (dg_seq rfl (dgs_cons (dg_name (pg_name sc55.nd rfl (by first | exact Or.inl rfl | exact Or.inr rfl))) (dgs_cons (dg_name (pg_name sc55.nd rfl (by first | exact Or.inl rfl | exact Or.inr rfl))) dgs_nil)))) (fun _ _ _ _ _ => (dts_one (dt_cmp op_lt os_cmpI (de_ix ix_A os_ix (de_var (pv 11)) de_int (fun _ _ => rfl)) de_int (nomark _)))) (fun _ _ _ _ _ => (de_var (pv 10))) (by decide))))
    (dss_one (ds_ret (de_and (de_call G.c37 hr (by rfl) T.g37 T.F37.kp T.b37 (dr_val (de_var (pv 8)) (dr_val (de_lst (da_cons (de_var (pv 5)) (da_cons (de_var (pv 6)) (da_cons (de_callT1 call_tuple_of us_tuple (by rfl) T.z_tuple boot_tuple (de_var (pv 9))) da_nil)))) dr_nil)) (rl_val (rl_val (rl_nil rfl)))) (de_one (de_cmp (op_eqD (room64 hr)) os_eq (de_var (pv 6)) (de_call G.c50 hr (by rfl) T.g50 T.F50.kp T.b50 (dr_val (de_var (pv 2)) (dr_val (de_var (pv 3)) (dr_val (de_var (pv 4)) dr_nil))) (rl_val (rl_val (rl_val (rl_nil rfl))))) (nomark _)))))))))))))
theorem ok56 (T : Top K mg fa fd) (G : Gs P w K mg base fa fd k cl cx) : FnOk P w K mg base CX0 (k + 1) (fa 56) (fd 56) ["_law_script"] (spD K 1 (fn56 cl)) :=
  fn_ok T.F56 sc56 fun cdv A outer s H E hr => (dss_one (ds_ret (de_and (de_call0 G.c54 hr (by rfl) T.g54 T.F54.kp T.b54) (de_one (de_callO G.c55 hr (by rfl) T.g55 T.F55.kp T.b55 (de_call G.c32 hr (by rfl) T.g32 T.F32.kp T.b32 (dr_val (de_call G.c34 hr (by rfl) T.g34 T.F34.kp T.b34 (dr_val (de_var (pv 0)) (dr_val de_int dr_nil)) (rl_val (rl_val (rl_nil rfl)))) (dr_val de_int dr_nil)) (rl_val (rl_val (rl_nil rfl)))) rfl)))))
theorem okx27 (T : Top K mg fa fd) (G : Gs P w K mg base fa fd (k + 2) cl cx) : FnOk P w K mg base (L2.CX P w) (k + 3) (fa 27) (fd 27) ["many", "power"] (spX K 2 (fx27 cl cx).1 (fx27 cl cx).2 (cvs fa)) :=
  fnx_ok T.F27 sc27 fun cdv A outer s H E W hr tk => (dsxs_cons (dsx_if (dt_w (dw_or (dt_cmp (op_eqD (room64 hr)) os_eq (de_var (pv 0)) de_int (nomark _)) (dw_or1 (dt_cmp (op_eqD (room64 hr)) os_eq (de_var (pv 1)) de_int (nomark _))))) (dsxs_one (dsx_ret (dex_of (de_callT1 call_tuple_of us_tuple (by rfl) T.z_tuple boot_tuple (de_lc rfl sc27.nd (di_rng1 (by rfl) T.z_range (da_cons (de_var (pv 0)) da_nil)) (own := [("part", 3)]) (blkOk_by (by kernel_rfl)) (fun _ _ _ _ _ => (dg_name (pg_name sc27.nd rfl (by first | exact Or.inl rfl | exact Or.inr rfl)))) (fun _ _ _ _ _ => dts_nil) (fun _ _ _ _ _ => (de_tup (da_cons (de_var (pv 3)) (da_cons (de_const (by rfl) T.m_ONE) da_nil)))) (by decide)))))) dsxs_nil)
    (dsxs_cons (dsx_if (dt_cmp (op_eqD (room64 hr)) os_eq (de_var (pv 1)) de_int (nomark _)) (dsxs_cons (dsx_of (ds_setLc rfl sc27.nd rfl rfl (sw_true rfl rfl rfl (by decide +kernel)) (di_rng1 (by rfl) T.z_range (da_cons (de_op op_sub os_sub (de_var (pv 0)) de_int) da_nil)) (own := [("part", 3)]) (blkOk_by (by kernel_rfl)) (fun _ _ _ _ _ => (dg_name (pg_name sc27.nd rfl (by first | exact Or.inl rfl | exact Or.inr rfl)))) (fun _ _ _ _ _ => dts_nil) (fun _ _ _ _ _ => (de_tup (da_cons (de_var (pv 3)) (da_cons (de_const (by rfl) T.m_HALF) da_nil)))) (by decide)))
    (dsxs_one (dsx_ret (dex_of (de_callT1 call_tuple_of us_tuple (by rfl) T.z_tuple boot_tuple (de_op op_addA os_add (de_op op_addA os_add (de_var (pv 2)) (de_lst (da_cons (de_tup (da_cons (de_op op_sub os_sub (de_var (pv 0)) de_int) (da_cons (de_const (by rfl) T.m_ONE) da_nil))) da_nil))) (de_lrev rfl (by rfl) T.z_list (by rfl) T.z_reversed (de_var (pv 2))))))))) dsxs_nil)
    (dsxs_cons (dsx_if (dt_w (dw_and (dt_cmp (op_eqD (room64 hr)) os_eq (de_var (pv 0)) de_int (nomark _)) (dw_and1 (dt_cmp (op_eqD (room64 hr)) os_eq (de_var (pv 1)) de_int (nomark _))))) (dsxs_one (dsx_ret (dex_of (de_constD (by rfl) T.m_SIX)))) dsxs_nil)
    (dsxs_one (dsx_raise (cv := cvs fa) (c := 2) rfl tk (pmk_bare T.O2 T.i2 T.t2 (init_ok (k := k) T.I2 scI2 rfl) hr T.n2 (by rfl) T.g2))))))
theorem all_ok (T : Top K mg fa fd) : ∀ k : Nat, Gs P w K mg base fa fd k (run k) (runX k)
  | 0 => ⟨fn_zero, fn_zero, fn_zero, fn_zero, fn_zero, fn_zero, fn_zero, fn_zero, fn_zero, fn_zero, fn_zero, fn_zero, fn_zero, fn_zero, fn_zero, fn_zero, fn_zero, fn_zero, fn_zero, fn_zero, fn_zero, fn_zero, fn_zero, fn_zero, fn_zero, fn_zero, fn_zero, fn_zero, fn_zero, fn_zero, fn_zero, fn_zero, fn_zero, fn_zero, fn_zero, fn_zero, fn_zero, fn_zero, fn_zero, fn_zero, fn_zero, fn_zero, fn_zero, fn_zero, fn_zero, fnx_zero⟩
  | 1 => ⟨ok6 T (all_ok T 0), ok7 T (all_ok T 0), ok8 T (all_ok T 0), ok9 T (all_ok T 0), ok10 T (all_ok T 0), ok11 T (all_ok T 0), ok12 T (all_ok T 0), ok13 T (all_ok T 0), ok14 T (all_ok T 0), ok15 T (all_ok T 0), ok17 T (all_ok T 0), ok18 T (all_ok T 0), ok19 T (all_ok T 0), ok20 T (all_ok T 0), ok22 T (all_ok T 0), ok23 T (all_ok T 0), ok27 T (all_ok T 0), ok28 T (all_ok T 0), ok29 T (all_ok T 0), ok30 T (all_ok T 0), ok32 T (all_ok T 0), ok33 T (all_ok T 0), ok34 T (all_ok T 0), ok35 T (all_ok T 0), ok36 T (all_ok T 0), ok37 T (all_ok T 0), ok38 T (all_ok T 0), ok39 T (all_ok T 0), ok40 T (all_ok T 0), ok41 T (all_ok T 0), ok42 T (all_ok T 0), ok43 T (all_ok T 0), ok44 T (all_ok T 0), ok45 T (all_ok T 0), ok46 T (all_ok T 0), ok47 T (all_ok T 0), ok48 T (all_ok T 0), ok49 T (all_ok T 0), ok50 T (all_ok T 0), ok51 T (all_ok T 0), ok52 T (all_ok T 0), ok53 T (all_ok T 0), ok54 T (all_ok T 0), ok55 T (all_ok T 0), ok56 T (all_ok T 0), fnx_zero⟩
  | 2 => ⟨ok6 T (all_ok T 1), ok7 T (all_ok T 1), ok8 T (all_ok T 1), ok9 T (all_ok T 1), ok10 T (all_ok T 1), ok11 T (all_ok T 1), ok12 T (all_ok T 1), ok13 T (all_ok T 1), ok14 T (all_ok T 1), ok15 T (all_ok T 1), ok17 T (all_ok T 1), ok18 T (all_ok T 1), ok19 T (all_ok T 1), ok20 T (all_ok T 1), ok22 T (all_ok T 1), ok23 T (all_ok T 1), ok27 T (all_ok T 1), ok28 T (all_ok T 1), ok29 T (all_ok T 1), ok30 T (all_ok T 1), ok32 T (all_ok T 1), ok33 T (all_ok T 1), ok34 T (all_ok T 1), ok35 T (all_ok T 1), ok36 T (all_ok T 1), ok37 T (all_ok T 1), ok38 T (all_ok T 1), ok39 T (all_ok T 1), ok40 T (all_ok T 1), ok41 T (all_ok T 1), ok42 T (all_ok T 1), ok43 T (all_ok T 1), ok44 T (all_ok T 1), ok45 T (all_ok T 1), ok46 T (all_ok T 1), ok47 T (all_ok T 1), ok48 T (all_ok T 1), ok49 T (all_ok T 1), ok50 T (all_ok T 1), ok51 T (all_ok T 1), ok52 T (all_ok T 1), ok53 T (all_ok T 1), ok54 T (all_ok T 1), ok55 T (all_ok T 1), ok56 T (all_ok T 1), fnx_zero⟩
  | k + 3 => ⟨ok6 T (all_ok T (k + 2)), ok7 T (all_ok T (k + 2)), ok8 T (all_ok T (k + 2)), ok9 T (all_ok T (k + 2)), ok10 T (all_ok T (k + 2)), ok11 T (all_ok T (k + 2)), ok12 T (all_ok T (k + 2)), ok13 T (all_ok T (k + 2)), ok14 T (all_ok T (k + 2)), ok15 T (all_ok T (k + 2)), ok17 T (all_ok T (k + 2)), ok18 T (all_ok T (k + 2)), ok19 T (all_ok T (k + 2)), ok20 T (all_ok T (k + 2)), ok22 T (all_ok T (k + 2)), ok23 T (all_ok T (k + 2)), ok27 T (all_ok T (k + 2)), ok28 T (all_ok T (k + 2)), ok29 T (all_ok T (k + 2)), ok30 T (all_ok T (k + 2)), ok32 T (all_ok T (k + 2)), ok33 T (all_ok T (k + 2)), ok34 T (all_ok T (k + 2)), ok35 T (all_ok T (k + 2)), ok36 T (all_ok T (k + 2)), ok37 T (all_ok T (k + 2)), ok38 T (all_ok T (k + 2)), ok39 T (all_ok T (k + 2)), ok40 T (all_ok T (k + 2)), ok41 T (all_ok T (k + 2)), ok42 T (all_ok T (k + 2)), ok43 T (all_ok T (k + 2)), ok44 T (all_ok T (k + 2)), ok45 T (all_ok T (k + 2)), ok46 T (all_ok T (k + 2)), ok47 T (all_ok T (k + 2)), ok48 T (all_ok T (k + 2)), ok49 T (all_ok T (k + 2)), ok50 T (all_ok T (k + 2)), ok51 T (all_ok T (k + 2)), ok52 T (all_ok T (k + 2)), ok53 T (all_ok T (k + 2)), ok54 T (all_ok T (k + 2)), ok55 T (all_ok T (k + 2)), ok56 T (all_ok T (k + 2)), okx27 T (all_ok T (k + 2))⟩
end
/-! ### what the top has written -/
theorem all_mk {l : PySem.W.OpenLaw} {w : World} {K : PySem.W.Frag} {h : Heap} {mg : Str → Option Value} {fl f6 f7 f8 f9 f10 f11 f12 f13 f14 f15 f17 f18 f19 f20 f22 f23 f27 f28 f29 f30 f32 f33 f34 f35 f36 f37 f38 f39 f40 f41 f42 f43 f44 f45 f46 f47 f48 f49 f50 f51 f52 f53 f54 f55 f56 : Addr} (X : K.In h) (G : h.Ns mainGlobals mg) (hfa : mg "law" = some (.ref fl))
    {od6 an6 od7 an7 od8 an8 od9 an9 od10 an10 od11 an11 od12 an12 od13 an13 od14 an14 od15 an15 od17 an17 od18 an18 od19 an19 od20 an20 od22 an22 od23 an23 od27 an27 od28 an28 od29 an29 od30 an30 od32 an32 od33 an33 od34 an34 od35 an35 od36 an36 od37 an37 od38 an38 od39 an39 od40 an40 od41 an41 od42 an42 od43 an43 od44 an44 od45 an45 od46 an46 od47 an47 od48 an48 od49 an49 od50 an50 od51 an51 od52 an52 od53 an53 od54 an54 od55 an55 od56 an56 : Option Addr} {sl6 sl7 sl8 sl9 sl10 sl11 sl12 sl13 sl14 sl15 sl17 sl18 sl19 sl20 sl22 sl23 sl27 sl28 sl29 sl30 sl32 sl33 sl34 sl35 sl36 sl37 sl38 sl39 sl40 sl41 sl42 sl43 sl44 sl45 sl46 sl47 sl48 sl49 sl50 sl51 sl52 sl53 sl54 sl55 sl56 : Array (Option Value)} {oc6 kV6 dc6 pm6 cd6 ct6 oc7 kV7 dc7 pm7 cd7 ct7 oc8 kV8 dc8 pm8 cd8 ct8 oc9 kV9 dc9 pm9 cd9 ct9 oc10 kV10 dc10 pm10 cd10 ct10 oc11 kV11 dc11 pm11 cd11 ct11 oc12 kV12 dc12 pm12 cd12 ct12 oc13 kV13 dc13 pm13 cd13 ct13 oc14 kV14 dc14 pm14 cd14 ct14 oc15 kV15 dc15 pm15 cd15 ct15 oc17 kV17 dc17 pm17 cd17 ct17 oc18 kV18 dc18 pm18 cd18 ct18 oc19 kV19 dc19 pm19 cd19 ct19 oc20 kV20 dc20 pm20 cd20 ct20 oc22 kV22 dc22 pm22 cd22 ct22 oc23 kV23 dc23 pm23 cd23 ct23 oc27 kV27 dc27 pm27 cd27 ct27 oc28 kV28 dc28 pm28 cd28 ct28 oc29 kV29 dc29 pm29 cd29 ct29 oc30 kV30 dc30 pm30 cd30 ct30 oc32 kV32 dc32 pm32 cd32 ct32 oc33 kV33 dc33 pm33 cd33 ct33 oc34 kV34 dc34 pm34 cd34 ct34 oc35 kV35 dc35 pm35 cd35 ct35 oc36 kV36 dc36 pm36 cd36 ct36 oc37 kV37 dc37 pm37 cd37 ct37 oc38 kV38 dc38 pm38 cd38 ct38 oc39 kV39 dc39 pm39 cd39 ct39 oc40 kV40 dc40 pm40 cd40 ct40 oc41 kV41 dc41 pm41 cd41 ct41 oc42 kV42 dc42 pm42 cd42 ct42 oc43 kV43 dc43 pm43 cd43 ct43 oc44 kV44 dc44 pm44 cd44 ct44 oc45 kV45 dc45 pm45 cd45 ct45 oc46 kV46 dc46 pm46 cd46 ct46 oc47 kV47 dc47 pm47 cd47 ct47 oc48 kV48 dc48 pm48 cd48 ct48 oc49 kV49 dc49 pm49 cd49 ct49 oc50 kV50 dc50 pm50 cd50 ct50 oc51 kV51 dc51 pm51 cd51 ct51 oc52 kV52 dc52 pm52 cd52 ct52 oc53 kV53 dc53 pm53 cd53 ct53 oc54 kV54 dc54 pm54 cd54 ct54 oc55 kV55 dc55 pm55 cd55 ct55 oc56 kV56 dc56 pm56 cd56 ct56 : Value}
    (a6 : PySem.W.nsIn K mainGlobals "fraction" = some (some (.ref f6))) (l6 : K.lookup f6 = some ⟨oc6, od6, .func (PySem.W.fnOf "fraction" "fraction" (defArgs (topS 6)) (defBody (topS 6)) (defScope (topS 6)) .none kV6 dc6 pm6 an6 cd6 ct6), sl6⟩) (c6 : PySem.W.codeIn K cd6 "fraction" = true) (k6 : PySem.W.keepIn K (.ref f6) = true)
    (a7 : PySem.W.nsIn K mainGlobals "whole" = some (some (.ref f7))) (l7 : K.lookup f7 = some ⟨oc7, od7, .func (PySem.W.fnOf "whole" "whole" (defArgs (topS 7)) (defBody (topS 7)) (defScope (topS 7)) .none kV7 dc7 pm7 an7 cd7 ct7), sl7⟩) (c7 : PySem.W.codeIn K cd7 "whole" = true) (k7 : PySem.W.keepIn K (.ref f7) = true)
    (a8 : PySem.W.nsIn K mainGlobals "plus" = some (some (.ref f8))) (l8 : K.lookup f8 = some ⟨oc8, od8, .func (PySem.W.fnOf "plus" "plus" (defArgs (topS 8)) (defBody (topS 8)) (defScope (topS 8)) .none kV8 dc8 pm8 an8 cd8 ct8), sl8⟩) (c8 : PySem.W.codeIn K cd8 "plus" = true) (k8 : PySem.W.keepIn K (.ref f8) = true)
    (a9 : PySem.W.nsIn K mainGlobals "minus" = some (some (.ref f9))) (l9 : K.lookup f9 = some ⟨oc9, od9, .func (PySem.W.fnOf "minus" "minus" (defArgs (topS 9)) (defBody (topS 9)) (defScope (topS 9)) .none kV9 dc9 pm9 an9 cd9 ct9), sl9⟩) (c9 : PySem.W.codeIn K cd9 "minus" = true) (k9 : PySem.W.keepIn K (.ref f9) = true)
    (a10 : PySem.W.nsIn K mainGlobals "times" = some (some (.ref f10))) (l10 : K.lookup f10 = some ⟨oc10, od10, .func (PySem.W.fnOf "times" "times" (defArgs (topS 10)) (defBody (topS 10)) (defScope (topS 10)) .none kV10 dc10 pm10 an10 cd10 ct10), sl10⟩) (c10 : PySem.W.codeIn K cd10 "times" = true) (k10 : PySem.W.keepIn K (.ref f10) = true)
    (a11 : PySem.W.nsIn K mainGlobals "over" = some (some (.ref f11))) (l11 : K.lookup f11 = some ⟨oc11, od11, .func (PySem.W.fnOf "over" "over" (defArgs (topS 11)) (defBody (topS 11)) (defScope (topS 11)) .none kV11 dc11 pm11 an11 cd11 ct11), sl11⟩) (c11 : PySem.W.codeIn K cd11 "over" = true) (k11 : PySem.W.keepIn K (.ref f11) = true)
    (a12 : PySem.W.nsIn K mainGlobals "power_of" = some (some (.ref f12))) (l12 : K.lookup f12 = some ⟨oc12, od12, .func (PySem.W.fnOf "power_of" "power_of" (defArgs (topS 12)) (defBody (topS 12)) (defScope (topS 12)) .none kV12 dc12 pm12 an12 cd12 ct12), sl12⟩) (c12 : PySem.W.codeIn K cd12 "power_of" = true) (k12 : PySem.W.keepIn K (.ref f12) = true)
    (a13 : PySem.W.nsIn K mainGlobals "_raised" = some (some (.ref f13))) (l13 : K.lookup f13 = some ⟨oc13, od13, .func (PySem.W.fnOf "_raised" "_raised" (defArgs (topS 13)) (defBody (topS 13)) (defScope (topS 13)) .none kV13 dc13 pm13 an13 cd13 ct13), sl13⟩) (c13 : PySem.W.codeIn K cd13 "_raised" = true) (k13 : PySem.W.keepIn K (.ref f13) = true)
    (a14 : PySem.W.nsIn K mainGlobals "sign_of" = some (some (.ref f14))) (l14 : K.lookup f14 = some ⟨oc14, od14, .func (PySem.W.fnOf "sign_of" "sign_of" (defArgs (topS 14)) (defBody (topS 14)) (defScope (topS 14)) .none kV14 dc14 pm14 an14 cd14 ct14), sl14⟩) (c14 : PySem.W.codeIn K cd14 "sign_of" = true) (k14 : PySem.W.keepIn K (.ref f14) = true)
    (a15 : PySem.W.nsIn K mainGlobals "dot" = some (some (.ref f15))) (l15 : K.lookup f15 = some ⟨oc15, od15, .func (PySem.W.fnOf "dot" "dot" (defArgs (topS 15)) (defBody (topS 15)) (defScope (topS 15)) .none kV15 dc15 pm15 an15 cd15 ct15), sl15⟩) (c15 : PySem.W.codeIn K cd15 "dot" = true) (k15 : PySem.W.keepIn K (.ref f15) = true)
    (a17 : PySem.W.nsIn K mainGlobals "_go_together" = some (some (.ref f17))) (l17 : K.lookup f17 = some ⟨oc17, od17, .func (PySem.W.fnOf "_go_together" "_go_together" (defArgs (topS 17)) (defBody (topS 17)) (defScope (topS 17)) .none kV17 dc17 pm17 an17 cd17 ct17), sl17⟩) (c17 : PySem.W.codeIn K cd17 "_go_together" = true) (k17 : PySem.W.keepIn K (.ref f17) = true)
    (a18 : PySem.W.nsIn K mainGlobals "_place_to_join" = some (some (.ref f18))) (l18 : K.lookup f18 = some ⟨oc18, od18, .func (PySem.W.fnOf "_place_to_join" "_place_to_join" (defArgs (topS 18)) (defBody (topS 18)) (defScope (topS 18)) .none kV18 dc18 pm18 an18 cd18 ct18), sl18⟩) (c18 : PySem.W.codeIn K cd18 "_place_to_join" = true) (k18 : PySem.W.keepIn K (.ref f18) = true)
    (a19 : PySem.W.nsIn K mainGlobals "_shortest" = some (some (.ref f19))) (l19 : K.lookup f19 = some ⟨oc19, od19, .func (PySem.W.fnOf "_shortest" "_shortest" (defArgs (topS 19)) (defBody (topS 19)) (defScope (topS 19)) .none kV19 dc19 pm19 an19 cd19 ct19), sl19⟩) (c19 : PySem.W.codeIn K cd19 "_shortest" = true) (k19 : PySem.W.keepIn K (.ref f19) = true)
    (a20 : PySem.W.nsIn K mainGlobals "normal_row" = some (some (.ref f20))) (l20 : K.lookup f20 = some ⟨oc20, od20, .func (PySem.W.fnOf "normal_row" "normal_row" (defArgs (topS 20)) (defBody (topS 20)) (defScope (topS 20)) .none kV20 dc20 pm20 an20 cd20 ct20), sl20⟩) (c20 : PySem.W.codeIn K cd20 "normal_row" = true) (k20 : PySem.W.keepIn K (.ref f20) = true)
    (a22 : PySem.W.nsIn K mainGlobals "word_worth" = some (some (.ref f22))) (l22 : K.lookup f22 = some ⟨oc22, od22, .func (PySem.W.fnOf "word_worth" "word_worth" (defArgs (topS 22)) (defBody (topS 22)) (defScope (topS 22)) .none kV22 dc22 pm22 an22 cd22 ct22), sl22⟩) (c22 : PySem.W.codeIn K cd22 "word_worth" = true) (k22 : PySem.W.keepIn K (.ref f22) = true)
    (a23 : PySem.W.nsIn K mainGlobals "_worth_behind" = some (some (.ref f23))) (l23 : K.lookup f23 = some ⟨oc23, od23, .func (PySem.W.fnOf "_worth_behind" "_worth_behind" (defArgs (topS 23)) (defBody (topS 23)) (defScope (topS 23)) .none kV23 dc23 pm23 an23 cd23 ct23), sl23⟩) (c23 : PySem.W.codeIn K cd23 "_worth_behind" = true) (k23 : PySem.W.keepIn K (.ref f23) = true)
    (a27 : PySem.W.nsIn K mainGlobals "least_row" = some (some (.ref f27))) (l27 : K.lookup f27 = some ⟨oc27, od27, .func (PySem.W.fnOf "least_row" "least_row" (defArgs (topS 27)) (defBody (topS 27)) (defScope (topS 27)) .none kV27 dc27 pm27 an27 cd27 ct27), sl27⟩) (c27 : PySem.W.codeIn K cd27 "least_row" = true) (k27 : PySem.W.keepIn K (.ref f27) = true)
    (a28 : PySem.W.nsIn K mainGlobals "sign_sum" = some (some (.ref f28))) (l28 : K.lookup f28 = some ⟨oc28, od28, .func (PySem.W.fnOf "sign_sum" "sign_sum" (defArgs (topS 28)) (defBody (topS 28)) (defScope (topS 28)) .none kV28 dc28 pm28 an28 cd28 ct28), sl28⟩) (c28 : PySem.W.codeIn K cd28 "sign_sum" = true) (k28 : PySem.W.keepIn K (.ref f28) = true)
    (a29 : PySem.W.nsIn K mainGlobals "sign_steps" = some (some (.ref f29))) (l29 : K.lookup f29 = some ⟨oc29, od29, .func (PySem.W.fnOf "sign_steps" "sign_steps" (defArgs (topS 29)) (defBody (topS 29)) (defScope (topS 29)) .none kV29 dc29 pm29 an29 cd29 ct29), sl29⟩) (c29 : PySem.W.codeIn K cd29 "sign_steps" = true) (k29 : PySem.W.keepIn K (.ref f29) = true)
    (a30 : PySem.W.nsIn K mainGlobals "below_parts" = some (some (.ref f30))) (l30 : K.lookup f30 = some ⟨oc30, od30, .func (PySem.W.fnOf "below_parts" "below_parts" (defArgs (topS 30)) (defBody (topS 30)) (defScope (topS 30)) .none kV30 dc30 pm30 an30 cd30 ct30), sl30⟩) (c30 : PySem.W.codeIn K cd30 "below_parts" = true) (k30 : PySem.W.keepIn K (.ref f30) = true)
    (a32 : PySem.W.nsIn K mainGlobals "_law_box" = some (some (.ref f32))) (l32 : K.lookup f32 = some ⟨oc32, od32, .func (PySem.W.fnOf "_law_box" "_law_box" (defArgs (topS 32)) (defBody (topS 32)) (defScope (topS 32)) .none kV32 dc32 pm32 an32 cd32 ct32), sl32⟩) (c32 : PySem.W.codeIn K cd32 "_law_box" = true) (k32 : PySem.W.keepIn K (.ref f32) = true)
    (a33 : PySem.W.nsIn K mainGlobals "_law_take" = some (some (.ref f33))) (l33 : K.lookup f33 = some ⟨oc33, od33, .func (PySem.W.fnOf "_law_take" "_law_take" (defArgs (topS 33)) (defBody (topS 33)) (defScope (topS 33)) .none kV33 dc33 pm33 an33 cd33 ct33), sl33⟩) (c33 : PySem.W.codeIn K cd33 "_law_take" = true) (k33 : PySem.W.keepIn K (.ref f33) = true)
    (a34 : PySem.W.nsIn K mainGlobals "_law_cells" = some (some (.ref f34))) (l34 : K.lookup f34 = some ⟨oc34, od34, .func (PySem.W.fnOf "_law_cells" "_law_cells" (defArgs (topS 34)) (defBody (topS 34)) (defScope (topS 34)) .none kV34 dc34 pm34 an34 cd34 ct34), sl34⟩) (c34 : PySem.W.codeIn K cd34 "_law_cells" = true) (k34 : PySem.W.keepIn K (.ref f34) = true)
    (a35 : PySem.W.nsIn K mainGlobals "_law_of" = some (some (.ref f35))) (l35 : K.lookup f35 = some ⟨oc35, od35, .func (PySem.W.fnOf "_law_of" "_law_of" (defArgs (topS 35)) (defBody (topS 35)) (defScope (topS 35)) .none kV35 dc35 pm35 an35 cd35 ct35), sl35⟩) (c35 : PySem.W.codeIn K cd35 "_law_of" = true) (k35 : PySem.W.keepIn K (.ref f35) = true)
    (a36 : PySem.W.nsIn K mainGlobals "_law_lists" = some (some (.ref f36))) (l36 : K.lookup f36 = some ⟨oc36, od36, .func (PySem.W.fnOf "_law_lists" "_law_lists" (defArgs (topS 36)) (defBody (topS 36)) (defScope (topS 36)) .none kV36 dc36 pm36 an36 cd36 ct36), sl36⟩) (c36 : PySem.W.codeIn K cd36 "_law_lists" = true) (k36 : PySem.W.keepIn K (.ref f36) = true)
    (a37 : PySem.W.nsIn K mainGlobals "_law_same" = some (some (.ref f37))) (l37 : K.lookup f37 = some ⟨oc37, od37, .func (PySem.W.fnOf "_law_same" "_law_same" (defArgs (topS 37)) (defBody (topS 37)) (defScope (topS 37)) .none kV37 dc37 pm37 an37 cd37 ct37), sl37⟩) (c37 : PySem.W.codeIn K cd37 "_law_same" = true) (k37 : PySem.W.keepIn K (.ref f37) = true)
    (a38 : PySem.W.nsIn K mainGlobals "_law_low" = some (some (.ref f38))) (l38 : K.lookup f38 = some ⟨oc38, od38, .func (PySem.W.fnOf "_law_low" "_law_low" (defArgs (topS 38)) (defBody (topS 38)) (defScope (topS 38)) .none kV38 dc38 pm38 an38 cd38 ct38), sl38⟩) (c38 : PySem.W.codeIn K cd38 "_law_low" = true) (k38 : PySem.W.keepIn K (.ref f38) = true)
    (a39 : PySem.W.nsIn K mainGlobals "_law_pick" = some (some (.ref f39))) (l39 : K.lookup f39 = some ⟨oc39, od39, .func (PySem.W.fnOf "_law_pick" "_law_pick" (defArgs (topS 39)) (defBody (topS 39)) (defScope (topS 39)) .none kV39 dc39 pm39 an39 cd39 ct39), sl39⟩) (c39 : PySem.W.codeIn K cd39 "_law_pick" = true) (k39 : PySem.W.keepIn K (.ref f39) = true)
    (a40 : PySem.W.nsIn K mainGlobals "_law_add" = some (some (.ref f40))) (l40 : K.lookup f40 = some ⟨oc40, od40, .func (PySem.W.fnOf "_law_add" "_law_add" (defArgs (topS 40)) (defBody (topS 40)) (defScope (topS 40)) .none kV40 dc40 pm40 an40 cd40 ct40), sl40⟩) (c40 : PySem.W.codeIn K cd40 "_law_add" = true) (k40 : PySem.W.keepIn K (.ref f40) = true)
    (a41 : PySem.W.nsIn K mainGlobals "_law_mul" = some (some (.ref f41))) (l41 : K.lookup f41 = some ⟨oc41, od41, .func (PySem.W.fnOf "_law_mul" "_law_mul" (defArgs (topS 41)) (defBody (topS 41)) (defScope (topS 41)) .none kV41 dc41 pm41 an41 cd41 ct41), sl41⟩) (c41 : PySem.W.codeIn K cd41 "_law_mul" = true) (k41 : PySem.W.keepIn K (.ref f41) = true)
    (a42 : PySem.W.nsIn K mainGlobals "_law_sub" = some (some (.ref f42))) (l42 : K.lookup f42 = some ⟨oc42, od42, .func (PySem.W.fnOf "_law_sub" "_law_sub" (defArgs (topS 42)) (defBody (topS 42)) (defScope (topS 42)) .none kV42 dc42 pm42 an42 cd42 ct42), sl42⟩) (c42 : PySem.W.codeIn K cd42 "_law_sub" = true) (k42 : PySem.W.keepIn K (.ref f42) = true)
    (a43 : PySem.W.nsIn K mainGlobals "_law_normal" = some (some (.ref f43))) (l43 : K.lookup f43 = some ⟨oc43, od43, .func (PySem.W.fnOf "_law_normal" "_law_normal" (defArgs (topS 43)) (defBody (topS 43)) (defScope (topS 43)) .none kV43 dc43 pm43 an43 cd43 ct43), sl43⟩) (c43 : PySem.W.codeIn K cd43 "_law_normal" = true) (k43 : PySem.W.keepIn K (.ref f43) = true)
    (a44 : PySem.W.nsIn K mainGlobals "_law_worth" = some (some (.ref f44))) (l44 : K.lookup f44 = some ⟨oc44, od44, .func (PySem.W.fnOf "_law_worth" "_law_worth" (defArgs (topS 44)) (defBody (topS 44)) (defScope (topS 44)) .none kV44 dc44 pm44 an44 cd44 ct44), sl44⟩) (c44 : PySem.W.codeIn K cd44 "_law_worth" = true) (k44 : PySem.W.keepIn K (.ref f44) = true)
    (a45 : PySem.W.nsIn K mainGlobals "_law_words" = some (some (.ref f45))) (l45 : K.lookup f45 = some ⟨oc45, od45, .func (PySem.W.fnOf "_law_words" "_law_words" (defArgs (topS 45)) (defBody (topS 45)) (defScope (topS 45)) .none kV45 dc45 pm45 an45 cd45 ct45), sl45⟩) (c45 : PySem.W.codeIn K cd45 "_law_words" = true) (k45 : PySem.W.keepIn K (.ref f45) = true)
    (a46 : PySem.W.nsIn K mainGlobals "_law_much" = some (some (.ref f46))) (l46 : K.lookup f46 = some ⟨oc46, od46, .func (PySem.W.fnOf "_law_much" "_law_much" (defArgs (topS 46)) (defBody (topS 46)) (defScope (topS 46)) .none kV46 dc46 pm46 an46 cd46 ct46), sl46⟩) (c46 : PySem.W.codeIn K cd46 "_law_much" = true) (k46 : PySem.W.keepIn K (.ref f46) = true)
    (a47 : PySem.W.nsIn K mainGlobals "_law_row" = some (some (.ref f47))) (l47 : K.lookup f47 = some ⟨oc47, od47, .func (PySem.W.fnOf "_law_row" "_law_row" (defArgs (topS 47)) (defBody (topS 47)) (defScope (topS 47)) .none kV47 dc47 pm47 an47 cd47 ct47), sl47⟩) (c47 : PySem.W.codeIn K cd47 "_law_row" = true) (k47 : PySem.W.keepIn K (.ref f47) = true)
    (a48 : PySem.W.nsIn K mainGlobals "_law_cube" = some (some (.ref f48))) (l48 : K.lookup f48 = some ⟨oc48, od48, .func (PySem.W.fnOf "_law_cube" "_law_cube" (defArgs (topS 48)) (defBody (topS 48)) (defScope (topS 48)) .none kV48 dc48 pm48 an48 cd48 ct48), sl48⟩) (c48 : PySem.W.codeIn K cd48 "_law_cube" = true) (k48 : PySem.W.keepIn K (.ref f48) = true)
    (a49 : PySem.W.nsIn K mainGlobals "_law_steps" = some (some (.ref f49))) (l49 : K.lookup f49 = some ⟨oc49, od49, .func (PySem.W.fnOf "_law_steps" "_law_steps" (defArgs (topS 49)) (defBody (topS 49)) (defScope (topS 49)) .none kV49 dc49 pm49 an49 cd49 ct49), sl49⟩) (c49 : PySem.W.codeIn K cd49 "_law_steps" = true) (k49 : PySem.W.keepIn K (.ref f49) = true)
    (a50 : PySem.W.nsIn K mainGlobals "_law_total" = some (some (.ref f50))) (l50 : K.lookup f50 = some ⟨oc50, od50, .func (PySem.W.fnOf "_law_total" "_law_total" (defArgs (topS 50)) (defBody (topS 50)) (defScope (topS 50)) .none kV50 dc50 pm50 an50 cd50 ct50), sl50⟩) (c50 : PySem.W.codeIn K cd50 "_law_total" = true) (k50 : PySem.W.keepIn K (.ref f50) = true)
    (a51 : PySem.W.nsIn K mainGlobals "_law_has_order" = some (some (.ref f51))) (l51 : K.lookup f51 = some ⟨oc51, od51, .func (PySem.W.fnOf "_law_has_order" "_law_has_order" (defArgs (topS 51)) (defBody (topS 51)) (defScope (topS 51)) .none kV51 dc51 pm51 an51 cd51 ct51), sl51⟩) (c51 : PySem.W.codeIn K cd51 "_law_has_order" = true) (k51 : PySem.W.keepIn K (.ref f51) = true)
    (a52 : PySem.W.nsIn K mainGlobals "_law_least" = some (some (.ref f52))) (l52 : K.lookup f52 = some ⟨oc52, od52, .func (PySem.W.fnOf "_law_least" "_law_least" (defArgs (topS 52)) (defBody (topS 52)) (defScope (topS 52)) .none kV52 dc52 pm52 an52 cd52 ct52), sl52⟩) (c52 : PySem.W.codeIn K cd52 "_law_least" = true) (k52 : PySem.W.keepIn K (.ref f52) = true)
    (a53 : PySem.W.nsIn K mainGlobals "_law_least_right" = some (some (.ref f53))) (l53 : K.lookup f53 = some ⟨oc53, od53, .func (PySem.W.fnOf "_law_least_right" "_law_least_right" (defArgs (topS 53)) (defBody (topS 53)) (defScope (topS 53)) .none kV53 dc53 pm53 an53 cd53 ct53), sl53⟩) (c53 : PySem.W.codeIn K cd53 "_law_least_right" = true) (k53 : PySem.W.keepIn K (.ref f53) = true)
    (a54 : PySem.W.nsIn K mainGlobals "_law_by_hand_right" = some (some (.ref f54))) (l54 : K.lookup f54 = some ⟨oc54, od54, .func (PySem.W.fnOf "_law_by_hand_right" "_law_by_hand_right" (defArgs (topS 54)) (defBody (topS 54)) (defScope (topS 54)) .none kV54 dc54 pm54 an54 cd54 ct54), sl54⟩) (c54 : PySem.W.codeIn K cd54 "_law_by_hand_right" = true) (k54 : PySem.W.keepIn K (.ref f54) = true)
    (a55 : PySem.W.nsIn K mainGlobals "_law_right" = some (some (.ref f55))) (l55 : K.lookup f55 = some ⟨oc55, od55, .func (PySem.W.fnOf "_law_right" "_law_right" (defArgs (topS 55)) (defBody (topS 55)) (defScope (topS 55)) .none kV55 dc55 pm55 an55 cd55 ct55), sl55⟩) (c55 : PySem.W.codeIn K cd55 "_law_right" = true) (k55 : PySem.W.keepIn K (.ref f55) = true)
    (a56 : PySem.W.nsIn K mainGlobals "law" = some (some (.ref f56))) (l56 : K.lookup f56 = some ⟨oc56, od56, .func (PySem.W.fnOf "law" "law" (defArgs (topS 56)) (defBody (topS 56)) (defScope (topS 56)) .none kV56 dc56 pm56 an56 cd56 ct56), sl56⟩) (c56 : PySem.W.codeIn K cd56 "law" = true) (k56 : PySem.W.keepIn K (.ref f56) = true)
    {C2 E2 N2 : Addr} {nm2 q2 : Str} {bs2 : List Value} {sn2 : List Str} {sub2 : List Value} {ab2 : Bool} {col2 : Option Bool} {dd2 : Option Addr} {ma2 mb2 mc2 md2 me2 : Option Value} {oI2 dI2 pI2 uI2 tI2 : Value} {ad2 an2 : Option Addr} {sI2 : Array (Option Value)}
    (xa2 : PySem.W.nsIn K mainGlobals "Unfit" = some (some (.ref C2))) (xl2 : K.lookup C2 = some (excClassObj nm2 q2 C2 N2 bs2 [.type "ValueError", .type "Exception", .type "BaseException", .type "object"] true sn2 sub2 ab2 col2 dd2 ma2 mb2 mc2 md2 me2 "ValueError.__new__"))
    (xs2 : PySem.W.findIn K (.ref C2) "__setattr__" = some (some (.builtin "object.__setattr__"))) (xi2 : PySem.W.findIn K (.ref C2) "__init__" = some (some (.ref E2))) (xt2 : PySem.W.typeIn K (.ref E2) = some (.type "function"))
    (xf2 : K.lookup E2 = some ⟨oI2, ad2, .func (PySem.W.fnOf "__init__" "Unfit.__init__" (defArgs topI2) (defBody topI2) (defScope topI2) .none .none dI2 pI2 an2 uI2 tI2), sI2⟩) (xc2 : PySem.W.codeIn K uI2 "Unfit.__init__" = true) (xk2 : PySem.W.keepIn K (.ref E2) = true)
    (xK2 : PySem.W.keepIn K (.ref C2) = true) (xe2 : PySem.W.subIn K (.ref C2) (.type "BaseException") = some true) (xy2 : PySem.W.typeIn K (.ref C2) = some (.type "type")) (xz2 : PySem.W.isClsIn K C2 = true) (xw2 : PySem.W.subIn K (.ref C2) (.ref C2) = some true)
    {zSIX_0_0_1 : Addr} {odSIX_0_0_1 : Option Addr} {nnSIX_0_0_1 : Nat} {slSIX_0_0_1 : Array (Option Value)} {tSIX_0_0_1_0 tSIX_0_0_1_1 : Tok}
    {zSIX_0_0 : Addr} {odSIX_0_0 : Option Addr} {nnSIX_0_0 : Nat} {slSIX_0_0 : Array (Option Value)} {tSIX_0_0_0 : Tok}
    {zSIX_0_1_1 : Addr} {odSIX_0_1_1 : Option Addr} {nnSIX_0_1_1 : Nat} {slSIX_0_1_1 : Array (Option Value)} {tSIX_0_1_1_0 tSIX_0_1_1_1 : Tok}
    {zSIX_0_1 : Addr} {odSIX_0_1 : Option Addr} {nnSIX_0_1 : Nat} {slSIX_0_1 : Array (Option Value)} {tSIX_0_1_0 : Tok}
    {zSIX_0_2_1 : Addr} {odSIX_0_2_1 : Option Addr} {nnSIX_0_2_1 : Nat} {slSIX_0_2_1 : Array (Option Value)} {tSIX_0_2_1_0 tSIX_0_2_1_1 : Tok}
    {zSIX_0_2 : Addr} {odSIX_0_2 : Option Addr} {nnSIX_0_2 : Nat} {slSIX_0_2 : Array (Option Value)} {tSIX_0_2_0 : Tok}
    {zSIX_0_3_1 : Addr} {odSIX_0_3_1 : Option Addr} {nnSIX_0_3_1 : Nat} {slSIX_0_3_1 : Array (Option Value)} {tSIX_0_3_1_0 tSIX_0_3_1_1 : Tok}
    {zSIX_0_3 : Addr} {odSIX_0_3 : Option Addr} {nnSIX_0_3 : Nat} {slSIX_0_3 : Array (Option Value)} {tSIX_0_3_0 : Tok}
    {zSIX_0_4_1 : Addr} {odSIX_0_4_1 : Option Addr} {nnSIX_0_4_1 : Nat} {slSIX_0_4_1 : Array (Option Value)} {tSIX_0_4_1_0 tSIX_0_4_1_1 : Tok}
    {zSIX_0_4 : Addr} {odSIX_0_4 : Option Addr} {nnSIX_0_4 : Nat} {slSIX_0_4 : Array (Option Value)} {tSIX_0_4_0 : Tok}
    {zSIX_0_5_1 : Addr} {odSIX_0_5_1 : Option Addr} {nnSIX_0_5_1 : Nat} {slSIX_0_5_1 : Array (Option Value)} {tSIX_0_5_1_0 tSIX_0_5_1_1 : Tok}
    {zSIX_0_5 : Addr} {odSIX_0_5 : Option Addr} {nnSIX_0_5 : Nat} {slSIX_0_5 : Array (Option Value)} {tSIX_0_5_0 : Tok}
    {zSIX_0 : Addr} {odSIX_0 : Option Addr} {nnSIX_0 : Nat} {slSIX_0 : Array (Option Value)}
    (m_SIX : PySem.W.nsIn K mainGlobals "SIX" = some (some (.ref zSIX_0)))
    (kSIX_0 : K.lookup zSIX_0 = some ⟨.type "tuple", odSIX_0, .seq #[.ref zSIX_0_0, .ref zSIX_0_1, .ref zSIX_0_2, .ref zSIX_0_3, .ref zSIX_0_4, .ref zSIX_0_5] nnSIX_0, slSIX_0⟩)
    (kSIX_0_5 : K.lookup zSIX_0_5 = some ⟨.type "tuple", odSIX_0_5, .seq #[.int (1) tSIX_0_5_0, .ref zSIX_0_5_1] nnSIX_0_5, slSIX_0_5⟩)
    (kSIX_0_5_1 : K.lookup zSIX_0_5_1 = some ⟨.type "tuple", odSIX_0_5_1, .seq #[.int (1) tSIX_0_5_1_0, .int (1) tSIX_0_5_1_1] nnSIX_0_5_1, slSIX_0_5_1⟩)
    (kSIX_0_4 : K.lookup zSIX_0_4 = some ⟨.type "tuple", odSIX_0_4, .seq #[.int (0) tSIX_0_4_0, .ref zSIX_0_4_1] nnSIX_0_4, slSIX_0_4⟩)
    (kSIX_0_4_1 : K.lookup zSIX_0_4_1 = some ⟨.type "tuple", odSIX_0_4_1, .seq #[.int (-1) tSIX_0_4_1_0, .int (24) tSIX_0_4_1_1] nnSIX_0_4_1, slSIX_0_4_1⟩)
    (kSIX_0_3 : K.lookup zSIX_0_3 = some ⟨.type "tuple", odSIX_0_3, .seq #[.int (1) tSIX_0_3_0, .ref zSIX_0_3_1] nnSIX_0_3, slSIX_0_3⟩)
    (kSIX_0_3_1 : K.lookup zSIX_0_3_1 = some ⟨.type "tuple", odSIX_0_3_1, .seq #[.int (-2) tSIX_0_3_1_0, .int (3) tSIX_0_3_1_1] nnSIX_0_3_1, slSIX_0_3_1⟩)
    (kSIX_0_2 : K.lookup zSIX_0_2 = some ⟨.type "tuple", odSIX_0_2, .seq #[.int (0) tSIX_0_2_0, .ref zSIX_0_2_1] nnSIX_0_2, slSIX_0_2⟩)
    (kSIX_0_2_1 : K.lookup zSIX_0_2_1 = some ⟨.type "tuple", odSIX_0_2_1, .seq #[.int (3) tSIX_0_2_1_0, .int (4) tSIX_0_2_1_1] nnSIX_0_2_1, slSIX_0_2_1⟩)
    (kSIX_0_1 : K.lookup zSIX_0_1 = some ⟨.type "tuple", odSIX_0_1, .seq #[.int (1) tSIX_0_1_0, .ref zSIX_0_1_1] nnSIX_0_1, slSIX_0_1⟩)
    (kSIX_0_1_1 : K.lookup zSIX_0_1_1 = some ⟨.type "tuple", odSIX_0_1_1, .seq #[.int (2) tSIX_0_1_1_0, .int (3) tSIX_0_1_1_1] nnSIX_0_1_1, slSIX_0_1_1⟩)
    (kSIX_0_0 : K.lookup zSIX_0_0 = some ⟨.type "tuple", odSIX_0_0, .seq #[.int (0) tSIX_0_0_0, .ref zSIX_0_0_1] nnSIX_0_0, slSIX_0_0⟩)
    (kSIX_0_0_1 : K.lookup zSIX_0_0_1 = some ⟨.type "tuple", odSIX_0_0_1, .seq #[.int (7) tSIX_0_0_1_0, .int (24) tSIX_0_0_1_1] nnSIX_0_0_1, slSIX_0_0_1⟩)
    {moHALF : Addr} {odHALF : Option Addr} {nnHALF : Nat} {slHALF : Array (Option Value)} {tHALF0 tHALF1 : Tok}
    (m_HALF : PySem.W.nsIn K mainGlobals "HALF" = some (some (.ref moHALF))) (k_HALF : K.lookup moHALF = some ⟨.type "tuple", odHALF, .seq #[.int (1) tHALF0, .int (2) tHALF1] nnHALF, slHALF⟩)
    {moONE : Addr} {odONE : Option Addr} {nnONE : Nat} {slONE : Array (Option Value)} {tONE0 tONE1 : Tok}
    (m_ONE : PySem.W.nsIn K mainGlobals "ONE" = some (some (.ref moONE))) (k_ONE : K.lookup moONE = some ⟨.type "tuple", odONE, .seq #[.int (1) tONE0, .int (1) tONE1] nnONE, slONE⟩)
    {moZERO : Addr} {odZERO : Option Addr} {nnZERO : Nat} {slZERO : Array (Option Value)} {tZERO0 tZERO1 : Tok}
    (m_ZERO : PySem.W.nsIn K mainGlobals "ZERO" = some (some (.ref moZERO))) (k_ZERO : K.lookup moZERO = some ⟨.type "tuple", odZERO, .seq #[.int (0) tZERO0, .int (1) tZERO1] nnZERO, slZERO⟩)
    (f_gcd : PySem.W.nsIn K mainGlobals "gcd" = some (some (.builtin "math.gcd")))
    (z_abs : PySem.W.nsIn K mainGlobals "abs" = some none) (z_all : PySem.W.nsIn K mainGlobals "all" = some none) (z_bool : PySem.W.nsIn K mainGlobals "bool" = some none) (z_enumerate : PySem.W.nsIn K mainGlobals "enumerate" = some none) (z_int : PySem.W.nsIn K mainGlobals "int" = some none) (z_isinstance : PySem.W.nsIn K mainGlobals "isinstance" = some none) (z_len : PySem.W.nsIn K mainGlobals "len" = some none) (z_list : PySem.W.nsIn K mainGlobals "list" = some none) (z_max : PySem.W.nsIn K mainGlobals "max" = some none) (z_min : PySem.W.nsIn K mainGlobals "min" = some none) (z_range : PySem.W.nsIn K mainGlobals "range" = some none) (z_reversed : PySem.W.nsIn K mainGlobals "reversed" = some none) (z_set : PySem.W.nsIn K mainGlobals "set" = some none) (z_sorted : PySem.W.nsIn K mainGlobals "sorted" = some none) (z_str : PySem.W.nsIn K mainGlobals "str" = some none) (z_tuple : PySem.W.nsIn K mainGlobals "tuple" = some none) (z_zip : PySem.W.nsIn K mainGlobals "zip" = some none) :
    ∃ fd : FuncData, (∀ (s : Shared) (v : Value), BindsTo s fd ⟨[v], []⟩ [("_law_script", v)]) ∧ ∀ base : Heap, K.In base → base.Ns mainGlobals mg → FnOk l.prog w K mg base CX0 60 fl fd ["_law_script"] (spD K 1 (run 60 56)) := by
  have e : fl = f56 := by
    have e := hfa.symm.trans (PySem.W.mg_of X G a56)
    injection e with e
    injection e with e
  rw [e]
  let fa : Nat → Addr := fun i => match i with | 6 => f6 | 7 => f7 | 8 => f8 | 9 => f9 | 10 => f10 | 11 => f11 | 12 => f12 | 13 => f13 | 14 => f14 | 15 => f15 | 17 => f17 | 18 => f18 | 19 => f19 | 20 => f20 | 22 => f22 | 23 => f23 | 27 => f27 | 28 => f28 | 29 => f29 | 30 => f30 | 32 => f32 | 33 => f33 | 34 => f34 | 35 => f35 | 36 => f36 | 37 => f37 | 38 => f38 | 39 => f39 | 40 => f40 | 41 => f41 | 42 => f42 | 43 => f43 | 44 => f44 | 45 => f45 | 46 => f46 | 47 => f47 | 48 => f48 | 49 => f49 | 50 => f50 | 51 => f51 | 52 => f52 | 53 => f53 | 54 => f54 | 55 => f55 | 56 => f56 | 1002 => C2 | 2002 => E2 | _ => f56
  let fd : Nat → FuncData := fun i => match i with | 6 => PySem.W.fnOf "fraction" "fraction" (defArgs (topS 6)) (defBody (topS 6)) (defScope (topS 6)) .none kV6 dc6 pm6 an6 cd6 ct6 | 7 => PySem.W.fnOf "whole" "whole" (defArgs (topS 7)) (defBody (topS 7)) (defScope (topS 7)) .none kV7 dc7 pm7 an7 cd7 ct7 | 8 => PySem.W.fnOf "plus" "plus" (defArgs (topS 8)) (defBody (topS 8)) (defScope (topS 8)) .none kV8 dc8 pm8 an8 cd8 ct8 | 9 => PySem.W.fnOf "minus" "minus" (defArgs (topS 9)) (defBody (topS 9)) (defScope (topS 9)) .none kV9 dc9 pm9 an9 cd9 ct9 | 10 => PySem.W.fnOf "times" "times" (defArgs (topS 10)) (defBody (topS 10)) (defScope (topS 10)) .none kV10 dc10 pm10 an10 cd10 ct10 | 11 => PySem.W.fnOf "over" "over" (defArgs (topS 11)) (defBody (topS 11)) (defScope (topS 11)) .none kV11 dc11 pm11 an11 cd11 ct11 | 12 => PySem.W.fnOf "power_of" "power_of" (defArgs (topS 12)) (defBody (topS 12)) (defScope (topS 12)) .none kV12 dc12 pm12 an12 cd12 ct12 | 13 => PySem.W.fnOf "_raised" "_raised" (defArgs (topS 13)) (defBody (topS 13)) (defScope (topS 13)) .none kV13 dc13 pm13 an13 cd13 ct13 | 14 => PySem.W.fnOf "sign_of" "sign_of" (defArgs (topS 14)) (defBody (topS 14)) (defScope (topS 14)) .none kV14 dc14 pm14 an14 cd14 ct14 | 15 => PySem.W.fnOf "dot" "dot" (defArgs (topS 15)) (defBody (topS 15)) (defScope (topS 15)) .none kV15 dc15 pm15 an15 cd15 ct15 | 17 => PySem.W.fnOf "_go_together" "_go_together" (defArgs (topS 17)) (defBody (topS 17)) (defScope (topS 17)) .none kV17 dc17 pm17 an17 cd17 ct17 | 18 => PySem.W.fnOf "_place_to_join" "_place_to_join" (defArgs (topS 18)) (defBody (topS 18)) (defScope (topS 18)) .none kV18 dc18 pm18 an18 cd18 ct18 | 19 => PySem.W.fnOf "_shortest" "_shortest" (defArgs (topS 19)) (defBody (topS 19)) (defScope (topS 19)) .none kV19 dc19 pm19 an19 cd19 ct19 | 20 => PySem.W.fnOf "normal_row" "normal_row" (defArgs (topS 20)) (defBody (topS 20)) (defScope (topS 20)) .none kV20 dc20 pm20 an20 cd20 ct20 | 22 => PySem.W.fnOf "word_worth" "word_worth" (defArgs (topS 22)) (defBody (topS 22)) (defScope (topS 22)) .none kV22 dc22 pm22 an22 cd22 ct22 | 23 => PySem.W.fnOf "_worth_behind" "_worth_behind" (defArgs (topS 23)) (defBody (topS 23)) (defScope (topS 23)) .none kV23 dc23 pm23 an23 cd23 ct23 | 27 => PySem.W.fnOf "least_row" "least_row" (defArgs (topS 27)) (defBody (topS 27)) (defScope (topS 27)) .none kV27 dc27 pm27 an27 cd27 ct27 | 28 => PySem.W.fnOf "sign_sum" "sign_sum" (defArgs (topS 28)) (defBody (topS 28)) (defScope (topS 28)) .none kV28 dc28 pm28 an28 cd28 ct28 | 29 => PySem.W.fnOf "sign_steps" "sign_steps" (defArgs (topS 29)) (defBody (topS 29)) (defScope (topS 29)) .none kV29 dc29 pm29 an29 cd29 ct29 | 30 => PySem.W.fnOf "below_parts" "below_parts" (defArgs (topS 30)) (defBody (topS 30)) (defScope (topS 30)) .none kV30 dc30 pm30 an30 cd30 ct30 | 32 => PySem.W.fnOf "_law_box" "_law_box" (defArgs (topS 32)) (defBody (topS 32)) (defScope (topS 32)) .none kV32 dc32 pm32 an32 cd32 ct32 | 33 => PySem.W.fnOf "_law_take" "_law_take" (defArgs (topS 33)) (defBody (topS 33)) (defScope (topS 33)) .none kV33 dc33 pm33 an33 cd33 ct33 | 34 => PySem.W.fnOf "_law_cells" "_law_cells" (defArgs (topS 34)) (defBody (topS 34)) (defScope (topS 34)) .none kV34 dc34 pm34 an34 cd34 ct34 | 35 => PySem.W.fnOf "_law_of" "_law_of" (defArgs (topS 35)) (defBody (topS 35)) (defScope (topS 35)) .none kV35 dc35 pm35 an35 cd35 ct35 | 36 => PySem.W.fnOf "_law_lists" "_law_lists" (defArgs (topS 36)) (defBody (topS 36)) (defScope (topS 36)) .none kV36 dc36 pm36 an36 cd36 ct36 | 37 => PySem.W.fnOf "_law_same" "_law_same" (defArgs (topS 37)) (defBody (topS 37)) (defScope (topS 37)) .none kV37 dc37 pm37 an37 cd37 ct37 | 38 => PySem.W.fnOf "_law_low" "_law_low" (defArgs (topS 38)) (defBody (topS 38)) (defScope (topS 38)) .none kV38 dc38 pm38 an38 cd38 ct38 | 39 => PySem.W.fnOf "_law_pick" "_law_pick" (defArgs (topS 39)) (defBody (topS 39)) (defScope (topS 39)) .none kV39 dc39 pm39 an39 cd39 ct39 | 40 => PySem.W.fnOf "_law_add" "_law_add" (defArgs (topS 40)) (defBody (topS 40)) (defScope (topS 40)) .none kV40 dc40 pm40 an40 cd40 ct40 | 41 => PySem.W.fnOf "_law_mul" "_law_mul" (defArgs (topS 41)) (defBody (topS 41)) (defScope (topS 41)) .none kV41 dc41 pm41 an41 cd41 ct41 | 42 => PySem.W.fnOf "_law_sub" "_law_sub" (defArgs (topS 42)) (defBody (topS 42)) (defScope (topS 42)) .none kV42 dc42 pm42 an42 cd42 ct42 | 43 => PySem.W.fnOf "_law_normal" "_law_normal" (defArgs (topS 43)) (defBody (topS 43)) (defScope (topS 43)) .none kV43 dc43 pm43 an43 cd43 ct43 | 44 => PySem.W.fnOf "_law_worth" "_law_worth" (defArgs (topS 44)) (defBody (topS 44)) (defScope (topS 44)) .none kV44 dc44 pm44 an44 cd44 ct44 | 45 => PySem.W.fnOf "_law_words" "_law_words" (defArgs (topS 45)) (defBody (topS 45)) (defScope (topS 45)) .none kV45 dc45 pm45 an45 cd45 ct45 | 46 => PySem.W.fnOf "_law_much" "_law_much" (defArgs (topS 46)) (defBody (topS 46)) (defScope (topS 46)) .none kV46 dc46 pm46 an46 cd46 ct46 | 47 => PySem.W.fnOf "_law_row" "_law_row" (defArgs (topS 47)) (defBody (topS 47)) (defScope (topS 47)) .none kV47 dc47 pm47 an47 cd47 ct47 | 48 => PySem.W.fnOf "_law_cube" "_law_cube" (defArgs (topS 48)) (defBody (topS 48)) (defScope (topS 48)) .none kV48 dc48 pm48 an48 cd48 ct48 | 49 => PySem.W.fnOf "_law_steps" "_law_steps" (defArgs (topS 49)) (defBody (topS 49)) (defScope (topS 49)) .none kV49 dc49 pm49 an49 cd49 ct49 | 50 => PySem.W.fnOf "_law_total" "_law_total" (defArgs (topS 50)) (defBody (topS 50)) (defScope (topS 50)) .none kV50 dc50 pm50 an50 cd50 ct50 | 51 => PySem.W.fnOf "_law_has_order" "_law_has_order" (defArgs (topS 51)) (defBody (topS 51)) (defScope (topS 51)) .none kV51 dc51 pm51 an51 cd51 ct51 | 52 => PySem.W.fnOf "_law_least" "_law_least" (defArgs (topS 52)) (defBody (topS 52)) (defScope (topS 52)) .none kV52 dc52 pm52 an52 cd52 ct52 | 53 => PySem.W.fnOf "_law_least_right" "_law_least_right" (defArgs (topS 53)) (defBody (topS 53)) (defScope (topS 53)) .none kV53 dc53 pm53 an53 cd53 ct53 | 54 => PySem.W.fnOf "_law_by_hand_right" "_law_by_hand_right" (defArgs (topS 54)) (defBody (topS 54)) (defScope (topS 54)) .none kV54 dc54 pm54 an54 cd54 ct54 | 55 => PySem.W.fnOf "_law_right" "_law_right" (defArgs (topS 55)) (defBody (topS 55)) (defScope (topS 55)) .none kV55 dc55 pm55 an55 cd55 ct55 | 56 => PySem.W.fnOf "law" "law" (defArgs (topS 56)) (defBody (topS 56)) (defScope (topS 56)) .none kV56 dc56 pm56 an56 cd56 ct56 | 2002 => PySem.W.fnOf "__init__" "Unfit.__init__" (defArgs topI2) (defBody topI2) (defScope topI2) .none .none dI2 pI2 an2 uI2 tI2 | _ => PySem.W.fnOf "law" "law" (defArgs (topS 56)) (defBody (topS 56)) (defScope (topS 56)) .none kV56 dc56 pm56 an56 cd56 ct56
  have F6 : Fun K "fraction" "fraction" (topS 6) (fa 6) (fd 6) := fun_mk (st := topS 6) l6 c6 k6
  have F7 : Fun K "whole" "whole" (topS 7) (fa 7) (fd 7) := fun_mk (st := topS 7) l7 c7 k7
  have F8 : Fun K "plus" "plus" (topS 8) (fa 8) (fd 8) := fun_mk (st := topS 8) l8 c8 k8
  have F9 : Fun K "minus" "minus" (topS 9) (fa 9) (fd 9) := fun_mk (st := topS 9) l9 c9 k9
  have F10 : Fun K "times" "times" (topS 10) (fa 10) (fd 10) := fun_mk (st := topS 10) l10 c10 k10
  have F11 : Fun K "over" "over" (topS 11) (fa 11) (fd 11) := fun_mk (st := topS 11) l11 c11 k11
  have F12 : Fun K "power_of" "power_of" (topS 12) (fa 12) (fd 12) := fun_mk (st := topS 12) l12 c12 k12
  have F13 : Fun K "_raised" "_raised" (topS 13) (fa 13) (fd 13) := fun_mk (st := topS 13) l13 c13 k13
  have F14 : Fun K "sign_of" "sign_of" (topS 14) (fa 14) (fd 14) := fun_mk (st := topS 14) l14 c14 k14
  have F15 : Fun K "dot" "dot" (topS 15) (fa 15) (fd 15) := fun_mk (st := topS 15) l15 c15 k15
  have F17 : Fun K "_go_together" "_go_together" (topS 17) (fa 17) (fd 17) := fun_mk (st := topS 17) l17 c17 k17
  have F18 : Fun K "_place_to_join" "_place_to_join" (topS 18) (fa 18) (fd 18) := fun_mk (st := topS 18) l18 c18 k18
  have F19 : Fun K "_shortest" "_shortest" (topS 19) (fa 19) (fd 19) := fun_mk (st := topS 19) l19 c19 k19
  have F20 : Fun K "normal_row" "normal_row" (topS 20) (fa 20) (fd 20) := fun_mk (st := topS 20) l20 c20 k20
  have F22 : Fun K "word_worth" "word_worth" (topS 22) (fa 22) (fd 22) := fun_mk (st := topS 22) l22 c22 k22
  have F23 : Fun K "_worth_behind" "_worth_behind" (topS 23) (fa 23) (fd 23) := fun_mk (st := topS 23) l23 c23 k23
  have F27 : Fun K "least_row" "least_row" (topS 27) (fa 27) (fd 27) := fun_mk (st := topS 27) l27 c27 k27
  have F28 : Fun K "sign_sum" "sign_sum" (topS 28) (fa 28) (fd 28) := fun_mk (st := topS 28) l28 c28 k28
  have F29 : Fun K "sign_steps" "sign_steps" (topS 29) (fa 29) (fd 29) := fun_mk (st := topS 29) l29 c29 k29
  have F30 : Fun K "below_parts" "below_parts" (topS 30) (fa 30) (fd 30) := fun_mk (st := topS 30) l30 c30 k30
  have F32 : Fun K "_law_box" "_law_box" (topS 32) (fa 32) (fd 32) := fun_mk (st := topS 32) l32 c32 k32
  have F33 : Fun K "_law_take" "_law_take" (topS 33) (fa 33) (fd 33) := fun_mk (st := topS 33) l33 c33 k33
  have F34 : Fun K "_law_cells" "_law_cells" (topS 34) (fa 34) (fd 34) := fun_mk (st := topS 34) l34 c34 k34
  have F35 : Fun K "_law_of" "_law_of" (topS 35) (fa 35) (fd 35) := fun_mk (st := topS 35) l35 c35 k35
  have F36 : Fun K "_law_lists" "_law_lists" (topS 36) (fa 36) (fd 36) := fun_mk (st := topS 36) l36 c36 k36
  have F37 : Fun K "_law_same" "_law_same" (topS 37) (fa 37) (fd 37) := fun_mk (st := topS 37) l37 c37 k37
  have F38 : Fun K "_law_low" "_law_low" (topS 38) (fa 38) (fd 38) := fun_mk (st := topS 38) l38 c38 k38
  have F39 : Fun K "_law_pick" "_law_pick" (topS 39) (fa 39) (fd 39) := fun_mk (st := topS 39) l39 c39 k39
  have F40 : Fun K "_law_add" "_law_add" (topS 40) (fa 40) (fd 40) := fun_mk (st := topS 40) l40 c40 k40
  have F41 : Fun K "_law_mul" "_law_mul" (topS 41) (fa 41) (fd 41) := fun_mk (st := topS 41) l41 c41 k41
  have F42 : Fun K "_law_sub" "_law_sub" (topS 42) (fa 42) (fd 42) := fun_mk (st := topS 42) l42 c42 k42
  have F43 : Fun K "_law_normal" "_law_normal" (topS 43) (fa 43) (fd 43) := fun_mk (st := topS 43) l43 c43 k43
  have F44 : Fun K "_law_worth" "_law_worth" (topS 44) (fa 44) (fd 44) := fun_mk (st := topS 44) l44 c44 k44
  have F45 : Fun K "_law_words" "_law_words" (topS 45) (fa 45) (fd 45) := fun_mk (st := topS 45) l45 c45 k45
  have F46 : Fun K "_law_much" "_law_much" (topS 46) (fa 46) (fd 46) := fun_mk (st := topS 46) l46 c46 k46
  have F47 : Fun K "_law_row" "_law_row" (topS 47) (fa 47) (fd 47) := fun_mk (st := topS 47) l47 c47 k47
  have F48 : Fun K "_law_cube" "_law_cube" (topS 48) (fa 48) (fd 48) := fun_mk (st := topS 48) l48 c48 k48
  have F49 : Fun K "_law_steps" "_law_steps" (topS 49) (fa 49) (fd 49) := fun_mk (st := topS 49) l49 c49 k49
  have F50 : Fun K "_law_total" "_law_total" (topS 50) (fa 50) (fd 50) := fun_mk (st := topS 50) l50 c50 k50
  have F51 : Fun K "_law_has_order" "_law_has_order" (topS 51) (fa 51) (fd 51) := fun_mk (st := topS 51) l51 c51 k51
  have F52 : Fun K "_law_least" "_law_least" (topS 52) (fa 52) (fd 52) := fun_mk (st := topS 52) l52 c52 k52
  have F53 : Fun K "_law_least_right" "_law_least_right" (topS 53) (fa 53) (fd 53) := fun_mk (st := topS 53) l53 c53 k53
  have F54 : Fun K "_law_by_hand_right" "_law_by_hand_right" (topS 54) (fa 54) (fd 54) := fun_mk (st := topS 54) l54 c54 k54
  have F55 : Fun K "_law_right" "_law_right" (topS 55) (fa 55) (fd 55) := fun_mk (st := topS 55) l55 c55 k55
  have F56 : Fun K "law" "law" (topS 56) (fa 56) (fd 56) := fun_mk (st := topS 56) l56 c56 k56
  have I2 : Fun K "__init__" "Unfit.__init__" topI2 (fa 2002) (fd 2002) := fun_mk (st := topI2) xf2 xc2 xk2
  have T : Top K mg fa fd := ⟨F6,
    PySem.W.mg_of X G a6,
    (F6.binds (ps := ["top", "bottom"]) fun _ _ _ _ _ _ us hl => match us, hl with | [_, _], _ => rfl),
    F7,
    PySem.W.mg_of X G a7,
    (F7.binds (ps := ["number"]) fun _ _ _ _ _ _ us hl => match us, hl with | [_], _ => rfl),
    F8,
    PySem.W.mg_of X G a8,
    (F8.binds (ps := ["x", "y"]) fun _ _ _ _ _ _ us hl => match us, hl with | [_, _], _ => rfl),
    F9,
    PySem.W.mg_of X G a9,
    (F9.binds (ps := ["x", "y"]) fun _ _ _ _ _ _ us hl => match us, hl with | [_, _], _ => rfl),
    F10,
    PySem.W.mg_of X G a10,
    (F10.binds (ps := ["x", "y"]) fun _ _ _ _ _ _ us hl => match us, hl with | [_, _], _ => rfl),
    F11,
    PySem.W.mg_of X G a11,
    (F11.binds (ps := ["x", "y"]) fun _ _ _ _ _ _ us hl => match us, hl with | [_, _], _ => rfl),
    F12,
    PySem.W.mg_of X G a12,
    (F12.binds (ps := ["x", "many"]) fun _ _ _ _ _ _ us hl => match us, hl with | [_, _], _ => rfl),
    F13,
    PySem.W.mg_of X G a13,
    (F13.binds (ps := ["base", "many"]) fun _ _ _ _ _ _ us hl => match us, hl with | [_, _], _ => rfl),
    F14,
    PySem.W.mg_of X G a14,
    (F14.binds (ps := ["x"]) fun _ _ _ _ _ _ us hl => match us, hl with | [_], _ => rfl),
    F15,
    PySem.W.mg_of X G a15,
    (F15.binds (ps := ["row", "other"]) fun _ _ _ _ _ _ us hl => match us, hl with | [_, _], _ => rfl),
    F17,
    PySem.W.mg_of X G a17,
    (F17.binds (ps := ["part", "other", "meets"]) fun _ _ _ _ _ _ us hl => match us, hl with | [_, _, _], _ => rfl),
    F18,
    PySem.W.mg_of X G a18,
    (F18.binds (ps := ["row", "part", "meets"]) fun _ _ _ _ _ _ us hl => match us, hl with | [_, _, _], _ => rfl),
    F19,
    PySem.W.mg_of X G a19,
    (F19.binds (ps := ["row", "meets"]) fun _ _ _ _ _ _ us hl => match us, hl with | [_, _], _ => rfl),
    F20,
    PySem.W.mg_of X G a20,
    (F20.binds (ps := ["row"]) fun _ _ _ _ _ _ us hl => match us, hl with | [_], _ => rfl),
    F22,
    PySem.W.mg_of X G a22,
    (F22.binds (ps := ["row", "word"]) fun _ _ _ _ _ _ us hl => match us, hl with | [_, _], _ => rfl),
    F23,
    PySem.W.mg_of X G a23,
    (F23.binds (ps := ["worths", "word", "part", "x"]) fun _ _ _ _ _ _ us hl => match us, hl with | [_, _, _, _], _ => rfl),
    F27,
    PySem.W.mg_of X G a27,
    (F27.binds (ps := ["many", "power"]) fun _ _ _ _ _ _ us hl => match us, hl with | [_, _], _ => rfl),
    F28,
    PySem.W.mg_of X G a28,
    (F28.binds (ps := ["row", "a", "b"]) fun _ _ _ _ _ _ us hl => match us, hl with | [_, _, _], _ => rfl),
    F29,
    PySem.W.mg_of X G a29,
    (F29.binds (ps := ["row", "a", "b"]) fun _ _ _ _ _ _ us hl => match us, hl with | [_, _, _], _ => rfl),
    F30,
    PySem.W.mg_of X G a30,
    (F30.binds (ps := ["row"]) fun _ _ _ _ _ _ us hl => match us, hl with | [_], _ => rfl),
    F32,
    PySem.W.mg_of X G a32,
    (F32.binds (ps := ["_law_script", "_law_k"]) fun _ _ _ _ _ _ us hl => match us, hl with | [_, _], _ => rfl),
    F33,
    PySem.W.mg_of X G a33,
    (F33.binds (ps := ["_law_urn", "_law_low_so"]) fun _ _ _ _ _ _ us hl => match us, hl with | [_, _], _ => rfl),
    F34,
    PySem.W.mg_of X G a34,
    (F34.binds (ps := ["_law_script", "_law_roof_so"]) fun _ _ _ _ _ _ us hl => match us, hl with | [_, _], _ => rfl),
    F35,
    PySem.W.mg_of X G a35,
    (F35.binds (ps := ["_law_urn", "_law_some_so"]) fun _ _ _ _ _ _ us hl => match us, hl with | [_, _], _ => rfl),
    F36,
    PySem.W.mg_of X G a36,
    (F36.binds (ps := ["_law_matter"]) fun _ _ _ _ _ _ us hl => match us, hl with | [_], _ => rfl),
    F37,
    PySem.W.mg_of X G a37,
    (F37.binds (ps := ["_law_mine", "_law_due"]) fun _ _ _ _ _ _ us hl => match us, hl with | [_, _], _ => rfl),
    F38,
    PySem.W.mg_of X G a38,
    (F38.binds (ps := ["_law_top_so", "_law_down_so"]) fun _ _ _ _ _ _ us hl => match us, hl with | [_, _], _ => rfl),
    F39,
    PySem.W.mg_of X G a39,
    (F39.binds (ps := ["_law_urn", "_law_some_so", "_law_many"]) fun _ _ _ _ _ _ us hl => match us, hl with | [_, _, _], _ => rfl),
    F40,
    PySem.W.mg_of X G a40,
    (F40.binds (ps := ["_law_own", "_law_far"]) fun _ _ _ _ _ _ us hl => match us, hl with | [_, _], _ => rfl),
    F41,
    PySem.W.mg_of X G a41,
    (F41.binds (ps := ["_law_own", "_law_far"]) fun _ _ _ _ _ _ us hl => match us, hl with | [_, _], _ => rfl),
    F42,
    PySem.W.mg_of X G a42,
    (F42.binds (ps := ["_law_one", "_law_two"]) fun _ _ _ _ _ _ us hl => match us, hl with | [_, _], _ => rfl),
    F43,
    PySem.W.mg_of X G a43,
    (F43.binds (ps := ["_law_row_so"]) fun _ _ _ _ _ _ us hl => match us, hl with | [_], _ => rfl),
    F44,
    PySem.W.mg_of X G a44,
    (F44.binds (ps := ["_law_row_so", "_law_word_so"]) fun _ _ _ _ _ _ us hl => match us, hl with | [_, _], _ => rfl),
    F45,
    PySem.W.mg_of X G a45,
    (F45.binds (ps := ["_law_parts_so", "_law_long_so"]) fun _ _ _ _ _ _ us hl => match us, hl with | [_, _], _ => rfl),
    F46,
    PySem.W.mg_of X G a46,
    (F46.binds (ps := ["_law_urn"]) fun _ _ _ _ _ _ us hl => match us, hl with | [_], _ => rfl),
    F47,
    PySem.W.mg_of X G a47,
    (F47.binds (ps := ["_law_urn", "_law_many", "_law_long_so"]) fun _ _ _ _ _ _ us hl => match us, hl with | [_, _, _], _ => rfl),
    F48,
    PySem.W.mg_of X G a48,
    (F48.binds (ps := ["_law_one"]) fun _ _ _ _ _ _ us hl => match us, hl with | [_], _ => rfl),
    F49,
    PySem.W.mg_of X G a49,
    (F49.binds (ps := ["_law_row_so", "_law_one", "_law_two"]) fun _ _ _ _ _ _ us hl => match us, hl with | [_, _, _], _ => rfl),
    F50,
    PySem.W.mg_of X G a50,
    (F50.binds (ps := ["_law_row_so", "_law_one", "_law_two"]) fun _ _ _ _ _ _ us hl => match us, hl with | [_, _, _], _ => rfl),
    F51,
    PySem.W.mg_of X G a51,
    (F51.binds (ps := ["_law_row_so", "_law_many", "_law_power"]) fun _ _ _ _ _ _ us hl => match us, hl with | [_, _, _], _ => rfl),
    F52,
    PySem.W.mg_of X G a52,
    (F52.binds (ps := ["_law_many", "_law_power"]) fun _ _ _ _ _ _ us hl => match us, hl with | [_, _], _ => rfl),
    F53,
    PySem.W.mg_of X G a53,
    (F53.binds (ps := []) fun _ _ _ _ _ _ us hl => match us, hl with | [], _ => rfl),
    F54,
    PySem.W.mg_of X G a54,
    (F54.binds (ps := []) fun _ _ _ _ _ _ us hl => match us, hl with | [], _ => rfl),
    F55,
    PySem.W.mg_of X G a55,
    (F55.binds (ps := ["_law_urn"]) fun _ _ _ _ _ _ us hl => match us, hl with | [_], _ => rfl),
    F56,
    PySem.W.mg_of X G a56,
    (F56.binds (ps := ["_law_script"]) fun _ _ _ _ _ _ us hl => match us, hl with | [_], _ => rfl),
    (F27.kbinds (n1 := 0) (n2 := 2) (is := [1, 0]) (by decide) fun _ _ _ _ _ _ us ws h1 h2 => match us, h1, ws, h2 with | [], _, [_, _], _ => rfl),
    (F30.kbinds (n1 := 0) (n2 := 1) (is := [0]) (by decide) fun _ _ _ _ _ _ us ws h1 h2 => match us, h1, ws, h2 with | [], _, [_], _ => rfl),
    (F29.kbinds (n1 := 0) (n2 := 3) (is := [2, 1, 0]) (by decide) fun _ _ _ _ _ _ us ws h1 h2 => match us, h1, ws, h2 with | [], _, [_, _, _], _ => rfl),
    (F28.kbinds (n1 := 0) (n2 := 3) (is := [2, 1, 0]) (by decide) fun _ _ _ _ _ _ us ws h1 h2 => match us, h1, ws, h2 with | [], _, [_, _, _], _ => rfl),
    ⟨⟨_, _, _, _, _, _, _, _, _, _, _, _, _, _, _, xl2, by decide +kernel⟩, xs2, xe2, xy2, xK2⟩,
    PySem.W.mg_of X G xa2,
    xi2,
    xt2,
    exm_self xe2 xz2 xy2 xw2,
    I2,
    (I2.binds (ps := ["self"]) fun _ _ _ _ _ _ us hl => match us, hl with | [_], _ => rfl),
    ⟨_, PySem.W.mg_of X G m_SIX, .tup (xs := [.ref zSIX_0_0, .ref zSIX_0_1, .ref zSIX_0_2, .ref zSIX_0_3, .ref zSIX_0_4, .ref zSIX_0_5]) kSIX_0 rfl rfl (by show 6 ≤ PySem.sizeLine; decide) (.cons rfl (.cons rfl (.cons rfl (.cons rfl (.cons rfl (.cons rfl .nil)))))) (.cons (.tup (xs := [.int (0), .ref zSIX_0_0_1]) kSIX_0_0 rfl rfl (by show 2 ≤ PySem.sizeLine; decide) (.cons ⟨_, rfl⟩ (.cons rfl .nil)) (.cons (.int (0)) (.cons (.tup (xs := [.int (7), .int (24)]) kSIX_0_0_1 rfl rfl (by show 2 ≤ PySem.sizeLine; decide) (.cons ⟨_, rfl⟩ (.cons ⟨_, rfl⟩ .nil)) (.cons (.int (7)) (.cons (.int (24)) .nil))) .nil))) (.cons (.tup (xs := [.int (1), .ref zSIX_0_1_1]) kSIX_0_1 rfl rfl (by show 2 ≤ PySem.sizeLine; decide) (.cons ⟨_, rfl⟩ (.cons rfl .nil)) (.cons (.int (1)) (.cons (.tup (xs := [.int (2), .int (3)]) kSIX_0_1_1 rfl rfl (by show 2 ≤ PySem.sizeLine; decide) (.cons ⟨_, rfl⟩ (.cons ⟨_, rfl⟩ .nil)) (.cons (.int (2)) (.cons (.int (3)) .nil))) .nil))) (.cons (.tup (xs := [.int (0), .ref zSIX_0_2_1]) kSIX_0_2 rfl rfl (by show 2 ≤ PySem.sizeLine; decide) (.cons ⟨_, rfl⟩ (.cons rfl .nil)) (.cons (.int (0)) (.cons (.tup (xs := [.int (3), .int (4)]) kSIX_0_2_1 rfl rfl (by show 2 ≤ PySem.sizeLine; decide) (.cons ⟨_, rfl⟩ (.cons ⟨_, rfl⟩ .nil)) (.cons (.int (3)) (.cons (.int (4)) .nil))) .nil))) (.cons (.tup (xs := [.int (1), .ref zSIX_0_3_1]) kSIX_0_3 rfl rfl (by show 2 ≤ PySem.sizeLine; decide) (.cons ⟨_, rfl⟩ (.cons rfl .nil)) (.cons (.int (1)) (.cons (.tup (xs := [.int (-2), .int (3)]) kSIX_0_3_1 rfl rfl (by show 2 ≤ PySem.sizeLine; decide) (.cons ⟨_, rfl⟩ (.cons ⟨_, rfl⟩ .nil)) (.cons (.int (-2)) (.cons (.int (3)) .nil))) .nil))) (.cons (.tup (xs := [.int (0), .ref zSIX_0_4_1]) kSIX_0_4 rfl rfl (by show 2 ≤ PySem.sizeLine; decide) (.cons ⟨_, rfl⟩ (.cons rfl .nil)) (.cons (.int (0)) (.cons (.tup (xs := [.int (-1), .int (24)]) kSIX_0_4_1 rfl rfl (by show 2 ≤ PySem.sizeLine; decide) (.cons ⟨_, rfl⟩ (.cons ⟨_, rfl⟩ .nil)) (.cons (.int (-1)) (.cons (.int (24)) .nil))) .nil))) (.cons (.tup (xs := [.int (1), .ref zSIX_0_5_1]) kSIX_0_5 rfl rfl (by show 2 ≤ PySem.sizeLine; decide) (.cons ⟨_, rfl⟩ (.cons rfl .nil)) (.cons (.int (1)) (.cons (.tup (xs := [.int (1), .int (1)]) kSIX_0_5_1 rfl rfl (by show 2 ≤ PySem.sizeLine; decide) (.cons ⟨_, rfl⟩ (.cons ⟨_, rfl⟩ .nil)) (.cons (.int (1)) (.cons (.int (1)) .nil))) .nil))) .nil))))))⟩,
    ⟨_, _, _, _, PySem.W.mg_of X G m_HALF, k_HALF, rfl, rfl, (by show 2 ≤ PySem.sizeLine; decide), (.cons ⟨_, rfl⟩ (.cons ⟨_, rfl⟩ .nil))⟩,
    ⟨_, _, _, _, PySem.W.mg_of X G m_ONE, k_ONE, rfl, rfl, (by show 2 ≤ PySem.sizeLine; decide), (.cons ⟨_, rfl⟩ (.cons ⟨_, rfl⟩ .nil))⟩,
    ⟨_, _, _, _, PySem.W.mg_of X G m_ZERO, k_ZERO, rfl, rfl, (by show 2 ≤ PySem.sizeLine; decide), (.cons ⟨_, rfl⟩ (.cons ⟨_, rfl⟩ .nil))⟩,
    PySem.W.mg_of X G f_gcd,
    PySem.W.mg_none_of X G z_abs,
    PySem.W.mg_none_of X G z_all,
    PySem.W.mg_none_of X G z_bool,
    PySem.W.mg_none_of X G z_enumerate,
    PySem.W.mg_none_of X G z_int,
    PySem.W.mg_none_of X G z_isinstance,
    PySem.W.mg_none_of X G z_len,
    PySem.W.mg_none_of X G z_list,
    PySem.W.mg_none_of X G z_max,
    PySem.W.mg_none_of X G z_min,
    PySem.W.mg_none_of X G z_range,
    PySem.W.mg_none_of X G z_reversed,
    PySem.W.mg_none_of X G z_set,
    PySem.W.mg_none_of X G z_sorted,
    PySem.W.mg_none_of X G z_str,
    PySem.W.mg_none_of X G z_tuple,
    PySem.W.mg_none_of X G z_zip⟩
  exact ⟨fd 56, fun s v => .of_eq rfl, fun base _ _ => (all_ok T 60).c56⟩
end K41

namespace K41
open PySem Vi PyProof.Rows
/-! fractions -/
abbrev ii (i : Int) : Option Sv := some (.imm (.int i))
def fr (q : Rat) : D := .tuple [.int q.num, .int (q.den : Int)]
structure IsFr (d : D) (q : Rat) : Prop where
  top : dIx d (.int 0) = some (.imm (.int q.num))
  bot : dIx d (.int 1) = some (.imm (.int (q.den : Int)))
theorem isFr (q : Rat) : IsFr (fr q) q := ⟨rfl, rfl⟩
theorem isFrL (q : Rat) : IsFr (.list [.int q.num, .int (q.den : Int)]) q := ⟨rfl, rfl⟩
theorem div_ok {j : Int} (h : 0 < j) (h2 : j < 2 ^ 250) : divOk j = true := decide_eq_true ⟨h, by
  have : j.natAbs.log2 < 250 := (Nat.log2_lt (by omega)).mpr (by omega)
  omega⟩
theorem mul_ok {i j : Int} (h1 : i.natAbs < 2 ^ 250) (h2 : j.natAbs < 2 ^ 250) : mulOk i j = true := by
  unfold mulOk
  rw [Bool.or_eq_true]
  refine .inr (decide_eq_true ?_)
  have a : i.natAbs.log2 < 250 := by
    by_cases h : i.natAbs = 0
    · rw [h]; decide
    · exact (Nat.log2_lt h).mpr h1
  have b : j.natAbs.log2 < 250 := by
    by_cases h : j.natAbs = 0
    · rw [h]; decide
    · exact (Nat.log2_lt h).mpr h2
  omega
theorem okD_int (i : Int) : okD (.int i) = true := rfl
theorem eqv_int (i j : Int) : PyData.eqv (.int i) (.int j) = (i == j) := by rw [PyData.eqv]
theorem eq_int (i j : Int) : dEq (.int i) (.int j) = some (.imm (.bool (i == j))) := by
  unfold dEq
  rw [okD_int, okD_int, eqv_int]; rfl
/-- the lowest terms -/
theorem low_rat (a : Int) (b : Nat) (hb : 0 < b) : (mkRat a b).num = a / ((Nat.gcd a.natAbs b : Nat) : Int) ∧ ((mkRat a b).den : Int) = (b : Int) / ((Nat.gcd a.natAbs b : Nat) : Int) := by
  rw [Rat.mkRat_def, dif_neg (by omega), Rat.normalize_eq]
  refine ⟨rfl, ?_⟩
  show ((b / Nat.gcd a.natAbs b : Nat) : Int) = _
  rw [Int.natCast_ediv]
theorem fraction_ok {cl : Nat → Fn} (a : Int) (b : Nat) (hb : 0 < b) (h2 : b < 2 ^ 200) : fn6 cl [.imm (.int a), .imm (.int (b : Int))] = some (.imm (fr (mkRat a b)), [none, none]) := by
  have hg : 0 < Nat.gcd a.natAbs b := Nat.gcd_pos_of_pos_right _ hb
  have hg2 : Nat.gcd a.natAbs b ≤ b := Nat.le_of_dvd hb (Nat.gcd_dvd_right _ _)
  obtain ⟨e1, e2⟩ := low_rat a b hb
  have hd : divOk ((Nat.gcd a.natAbs b : Nat) : Int) = true := div_ok (by omega) (by
    have : (2 : Int) ^ 200 < 2 ^ 250 := by decide
    have h3 : ((Nat.gcd a.natAbs b : Nat) : Int) < 2 ^ 200 := by exact_mod_cast Nat.lt_of_le_of_lt hg2 h2
    omega)
  have hab : Nat.gcd a.natAbs (b : Int).natAbs = Nat.gcd a.natAbs b := rfl
  have t1 : (mB (bin dEq (mVar 1) (mC (.int 0)))) [ii a, ii b, none] = some (false, [ii a, ii b, none]) := by
    have : ((b : Int) == 0) = false := by rw [beq_eq_false_iff_ne]; omega
    unfold mB
    rw [c_bin rfl rfl rfl rfl (eq_int (b : Int) 0), this]
  have t2 : (mB (bin dLt (mVar 1) (mC (.int 0)))) [ii a, ii b, ii ((Nat.gcd a.natAbs b : Nat) : Int)] = some (false, [ii a, ii b, ii ((Nat.gcd a.natAbs b : Nat) : Int)]) := by
    have : decide ((b : Int) < 0) = false := decide_eq_false (by omega)
    unfold mB
    rw [c_bin rfl rfl rfl rfl (show dLt (.int (b : Int)) (.int 0) = some (.imm (.bool (decide ((b : Int) < 0)))) from rfl), this]
  have d1 : dDiv (.int a) (.int ((Nat.gcd a.natAbs b : Nat) : Int)) = some (.imm (.int (mkRat a b).num)) := by
    show (if divOk _ = true then _ else _) = _
    rw [if_pos hd, e1]
  have d2 : dDiv (.int (b : Int)) (.int ((Nat.gcd a.natAbs b : Nat) : Int)) = some (.imm (.int ((mkRat a b).den : Int))) := by
    show (if divOk _ = true then _ else _) = _
    rw [if_pos hd, e2]
  unfold fn6
  refine c_fn (ρ0 := [ii a, ii b, none]) rfl rfl (c_seq (c_ifF t1 rfl) (c_seq (ρ1 := [ii a, ii b, ii ((Nat.gcd a.natAbs b : Nat) : Int)]) (c_set rfl rfl) (c_seq (c_ifF t2 rfl) (c_ret (r := .imm (fr (mkRat a b))) (c_tup (c_acons (c_bin rfl rfl rfl rfl d1) rfl (c_acons (c_bin rfl rfl rfl rfl d2) rfl c_anil)) rfl) rfl)))) rfl
/-- small ones -/
structure Sm (q : Rat) : Prop where
  num : q.num.natAbs < 2 ^ 90
  den : q.den < 2 ^ 90
theorem Sm.mul {q r : Rat} (h : Sm q) (k : Sm r) : q.den * r.den < 2 ^ 200 := by
  have : q.den * r.den ≤ 2 ^ 90 * 2 ^ 90 := Nat.mul_le_mul (Nat.le_of_lt h.den) (Nat.le_of_lt k.den)
  have h2 : (2 : Nat) ^ 90 * 2 ^ 90 < 2 ^ 200 := by decide
  omega
theorem lt250 {n : Nat} (h : n < 2 ^ 90) : n < 2 ^ 250 := Nat.lt_trans h (by decide)
theorem Frac_pos (q : Rat) : 0 < q.den := Nat.pos_of_ne_zero q.den_nz
def FracP (f : Fn) : Prop := ∀ (a : Int) (b : Nat), 0 < b → b < 2 ^ 200 → f [.imm (.int a), .imm (.int (b : Int))] = some (.imm (fr (mkRat a b)), [none, none])
theorem add_same {q r : Rat} (h : q.den = r.den) : mkRat (q.num + r.num) q.den = q + r := by
  have e1 := Rat.mkRat_add_mkRat q.num r.num q.den_nz r.den_nz
  rw [Rat.mkRat_self, Rat.mkRat_self] at e1
  rw [e1, ← h, ← Int.add_mul, Rat.mkRat_mul_right q.den_nz]
theorem add_cross (q r : Rat) : mkRat (q.num * (r.den : Int) + r.num * (q.den : Int)) (q.den * r.den) = q + r := by
  have e1 := Rat.mkRat_add_mkRat q.num r.num q.den_nz r.den_nz
  rw [Rat.mkRat_self, Rat.mkRat_self] at e1
  exact e1.symm
theorem mul_cross (q r : Rat) : mkRat (q.num * r.num) (q.den * r.den) = q * r := by
  have e1 := Rat.mkRat_mul_mkRat q.num r.num q.den r.den
  rw [Rat.mkRat_self, Rat.mkRat_self] at e1
  exact e1.symm
theorem mul_int {i j : Int} (h1 : i.natAbs < 2 ^ 90) (h2 : j.natAbs < 2 ^ 90) : dMul (.int i) (.int j) = some (.imm (.int (i * j))) := by
  show (if mulOk i j = true then _ else _) = _
  rw [if_pos (mul_ok (lt250 h1) (lt250 h2))]
theorem plus_ok {cl : Nat → Fn} (F : FracP (cl 6)) {d e : D} {q r : Rat} (hd : IsFr d q) (he : IsFr e r) (hq : Sm q) (hr : Sm r) : fn8 cl [.imm d, .imm e] = some (.imm (fr (q + r)), [none, none]) := by
  have x0 : ∀ ρ, ρ = [some (.imm d), some (.imm e)] → bin dIx (mVar 0) (mC (.int 0)) ρ = some (.val (.imm (.int q.num)), ρ) := fun ρ h => by subst h; exact c_bin rfl rfl rfl rfl hd.top
  have x1 : ∀ ρ, ρ = [some (.imm d), some (.imm e)] → bin dIx (mVar 0) (mC (.int 1)) ρ = some (.val (.imm (.int (q.den : Int))), ρ) := fun ρ h => by subst h; exact c_bin rfl rfl rfl rfl hd.bot
  have y0 : ∀ ρ, ρ = [some (.imm d), some (.imm e)] → bin dIx (mVar 1) (mC (.int 0)) ρ = some (.val (.imm (.int r.num)), ρ) := fun ρ h => by subst h; exact c_bin rfl rfl rfl rfl he.top
  have y1 : ∀ ρ, ρ = [some (.imm d), some (.imm e)] → bin dIx (mVar 1) (mC (.int 1)) ρ = some (.val (.imm (.int (r.den : Int))), ρ) := fun ρ h => by subst h; exact c_bin rfl rfl rfl rfl he.bot
  have t : (mB (bin dEq (bin dIx (mVar 0) (mC (.int 1))) (bin dIx (mVar 1) (mC (.int 1))))) [some (.imm d), some (.imm e)] = some ((q.den : Int) == (r.den : Int), [some (.imm d), some (.imm e)]) := c_b (c_bin (x1 _ rfl) (y1 _ rfl) rfl rfl (eq_int _ _))
  unfold fn8
  refine c_fn (ρ0 := [some (.imm d), some (.imm e)]) (ρ := [some (.imm d), some (.imm e)]) rfl rfl ?_ rfl
  by_cases h : q.den = r.den
  · rw [show ((q.den : Int) == (r.den : Int)) = true by rw [h]; exact beq_self_eq_true _] at t
    have f := F (q.num + r.num) q.den (Frac_pos q) (Nat.lt_trans hq.den (by decide))
    rw [add_same h] at f
    have c : mRet (mCall (cl 6) (rVal (bin dAdd (bin dIx (mVar 0) (mC (.int 0))) (bin dIx (mVar 1) (mC (.int 0)))) (rVal (bin dIx (mVar 0) (mC (.int 1))) rNil))) [some (.imm d), some (.imm e)] = some (.ret (.imm (fr (q + r))), [some (.imm d), some (.imm e)]) :=
      c_ret (c_call (c_rval (c_bin (x0 _ rfl) (y0 _ rfl) rfl rfl rfl) rfl (c_rval (x1 _ rfl) rfl rfl)) rfl rfl f rfl) rfl
    unfold mSeq
    rw [c_ifT t c]
  · have hb : ((q.den : Int) == (r.den : Int)) = false := by rw [beq_eq_false_iff_ne]; omega
    rw [hb] at t
    have f := F (q.num * (r.den : Int) + r.num * (q.den : Int)) (q.den * r.den) (Nat.mul_pos (Frac_pos q) (Frac_pos r)) (hq.mul hr)
    rw [add_cross, Int.natCast_mul] at f
    have m1 := mul_int (i := q.num) (j := (r.den : Int)) hq.num (by exact hr.den)
    have m2 := mul_int (i := r.num) (j := (q.den : Int)) hr.num (by exact hq.den)
    have m3 := mul_int (i := (q.den : Int)) (j := (r.den : Int)) (by exact hq.den) (by exact hr.den)
    exact c_seq (c_ifF t rfl) (c_ret (c_call (c_rval (c_bin (c_bin (x0 _ rfl) (y1 _ rfl) rfl rfl m1) (c_bin (y0 _ rfl) (x1 _ rfl) rfl rfl m2) rfl rfl rfl) rfl (c_rval (c_bin (x1 _ rfl) (y1 _ rfl) rfl rfl m3) rfl rfl)) rfl rfl f rfl) rfl)


def eB : MS := mPar 2 3 (mVar 3) (bin dMod (un dInt (mVar 2)) (mVar 3))
def eT : MT := mB (bin dGt (mVar 3) (mC (.int 0)))
theorem e_stop {x0 x1 x2 : Option Sv} : eT [x0, x1, x2, ii ((0 : Nat) : Int)] = some (false, [x0, x1, x2, ii ((0 : Nat) : Int)]) := rfl
theorem e_go {x0 x1 x2 : Option Sv} {f : Nat} (h : 0 < f) : eT [x0, x1, x2, ii (f : Int)] = some (true, [x0, x1, x2, ii (f : Int)]) := by
  have : decide ((0 : Int) < (f : Int)) = true := decide_eq_true (by omega)
  unfold eT
  rw [c_b (c_bin rfl rfl rfl rfl (show dGt (.int (f : Int)) (.int 0) = some (.imm (.bool (decide ((0 : Int) < (f : Int))))) from rfl)), this]
theorem e_step {x0 x1 : Option Sv} {n f : Nat} (h : 0 < f) : eB [x0, x1, ii (n : Int), ii (f : Int)] = some (.next, [x0, x1, ii (f : Int), ii ((n % f : Nat) : Int)]) := by
  have hm : dMod (.int (n : Int)) (.int (f : Int)) = some (.imm (.int ((n % f : Nat) : Int))) := by
    show (if decide ((0 : Int) < (f : Int)) = true then some (Sv.imm (.int ((n : Int) % (f : Int)))) else none) = _
    rw [if_pos (decide_eq_true (by omega)), Int.natCast_emod]
  have hi : dInt (.int (n : Int)) = some (.imm (.int (n : Int))) := rfl
  have h1 : un dInt (mVar 2) [x0, x1, ii (n : Int), ii (f : Int)] = some (.val (.imm (.int (n : Int))), [x0, x1, ii (n : Int), ii (f : Int)]) := c_un rfl rfl hi
  have h2 : bin dMod (un dInt (mVar 2)) (mVar 3) [x0, x1, ii (n : Int), ii (f : Int)] = some (.val (.imm (.int ((n % f : Nat) : Int))), [x0, x1, ii (n : Int), ii (f : Int)]) := c_bin h1 rfl rfl rfl hm
  unfold eB mPar
  rw [show mVar 3 [x0, x1, ii (n : Int), ii (f : Int)] = some (.slot 3, [x0, x1, ii (n : Int), ii (f : Int)]) from rfl]
  simp only [show take [x0, x1, ii (n : Int), ii (f : Int)] (.slot 3) = some (.imm (.int (f : Int)), [x0, x1, ii (n : Int), ii (f : Int)]) from rfl, h2, show take [x0, x1, ii (n : Int), ii (f : Int)] (.val (.imm (.int ((n % f : Nat) : Int)))) = some (.imm (.int ((n % f : Nat) : Int)), [x0, x1, ii (n : Int), ii (f : Int)]) from rfl]
  rfl
theorem euclid {x0 x1 : Option Sv} : ∀ (k n f m : Nat), f < 2 ^ k → whl eT eB (2 * k + 1 + m) [x0, x1, ii (n : Int), ii (f : Int)] = some (.next, [x0, x1, ii ((Nat.gcd n f : Nat) : Int), ii ((0 : Nat) : Int)]) := by
  intro k
  induction k with
  | zero =>
    intro n f m h
    obtain rfl : f = 0 := by simpa using h
    rw [show 2 * 0 + 1 + m = m + 1 by omega, Nat.gcd_zero_right]
    exact c_whF e_stop
  | succ k ih =>
    intro n f m h
    rw [show 2 * (k + 1) + 1 + m = (2 * k + 1 + (m + 1)) + 1 by omega]
    by_cases h0 : f = 0
    · subst h0
      rw [Nat.gcd_zero_right]
      exact c_whF e_stop
    · have hf : 0 < f := Nat.pos_of_ne_zero h0
      refine c_whT (e_go hf) (e_step hf) ?_
      rw [show 2 * k + 1 + (m + 1) = (2 * k + 1 + m) + 1 by omega]
      have hg : Nat.gcd n f = Nat.gcd f (n % f) := by rw [Nat.gcd_comm n f, Nat.gcd_rec f n, Nat.gcd_comm]
      have hr : n % f < f := Nat.mod_lt _ hf
      by_cases h1 : n % f = 0
      · rw [hg, h1, Nat.gcd_zero_right]
        exact c_whF e_stop
      · have hp : 0 < n % f := Nat.pos_of_ne_zero h1
        refine c_whT (e_go hp) (e_step hp) ?_
        have h2 : f % (n % f) < n % f := Nat.mod_lt _ hp
        have h3 : f % (n % f) ≤ f - n % f := by
          rw [Nat.mod_eq_sub_mod (Nat.le_of_lt hr)]
          exact Nat.mod_le _ _
        have h4 : f % (n % f) < 2 ^ k := by
          rw [Nat.pow_succ] at h
          omega
        rw [hg, Nat.gcd_comm f (n % f), Nat.gcd_rec (n % f) f, Nat.gcd_comm]
        exact ih (n % f) (f % (n % f)) m h4
theorem abs_int (a : Int) : dAbs (.int a) = some (.imm (.int (a.natAbs : Int))) := by
  show some (Sv.imm (.int (if a < 0 then -a else a))) = _
  congr 3
  split <;> omega
theorem gcd_div (a : Int) (b : Nat) (hb : 0 < b) (h2 : b < 2 ^ 200) : dDiv (.int a) (.int ((Nat.gcd a.natAbs b : Nat) : Int)) = some (.imm (.int (mkRat a b).num)) ∧ dDiv (.int (b : Int)) (.int ((Nat.gcd a.natAbs b : Nat) : Int)) = some (.imm (.int ((mkRat a b).den : Int))) := by
  have hg : 0 < Nat.gcd a.natAbs b := Nat.gcd_pos_of_pos_right _ hb
  have hg2 : Nat.gcd a.natAbs b ≤ b := Nat.le_of_dvd hb (Nat.gcd_dvd_right _ _)
  obtain ⟨e1, e2⟩ := low_rat a b hb
  have hd : divOk ((Nat.gcd a.natAbs b : Nat) : Int) = true := div_ok (by omega) (by
    have : (2 : Int) ^ 200 < 2 ^ 250 := by decide
    have h3 : ((Nat.gcd a.natAbs b : Nat) : Int) < 2 ^ 200 := by exact_mod_cast Nat.lt_of_le_of_lt hg2 h2
    omega)
  refine ⟨?_, ?_⟩
  · show (if divOk _ = true then _ else _) = _
    rw [if_pos hd, e1]
  · show (if divOk _ = true then _ else _) = _
    rw [if_pos hd, e2]
theorem low_ok {cl : Nat → Fn} (a : Int) (b : Nat) (hb : 0 < b) (h2 : b < 2 ^ 190) : fn38 cl [.imm (.int a), .imm (.int (b : Int))] = some (.imm (fr (mkRat a b)), [none, none]) := by
  obtain ⟨d1, d2⟩ := gcd_div a b hb (Nat.lt_trans h2 (by decide))
  have e := euclid (x0 := ii a) (x1 := ii b) 190 a.natAbs b 19 h2
  have p1 : un dAbs (mVar 0) [ii a, ii b, none, none] = some (.val (.imm (.int (a.natAbs : Int))), [ii a, ii b, none, none]) := c_un rfl rfl (abs_int a)
  have p2 : un dAbs (mVar 1) [ii a, ii b, none, none] = some (.val (.imm (.int (b : Int))), [ii a, ii b, none, none]) := c_un rfl rfl (abs_int (b : Int))
  have p : mPar 2 3 (un dAbs (mVar 0)) (un dAbs (mVar 1)) [ii a, ii b, none, none] = some (.next, [ii a, ii b, ii (a.natAbs : Int), ii (b : Int)]) := c_par p1 rfl p2 rfl rfl
  have t : (mB (bin dLt (mVar 1) (mC (.int 0)))) [ii a, ii b, ii ((Nat.gcd a.natAbs b : Nat) : Int), ii ((0 : Nat) : Int)] = some (false, [ii a, ii b, ii ((Nat.gcd a.natAbs b : Nat) : Int), ii ((0 : Nat) : Int)]) := by
    have : decide ((b : Int) < 0) = false := decide_eq_false (by omega)
    rw [c_b (c_bin rfl rfl rfl rfl (show dLt (.int (b : Int)) (.int 0) = some (.imm (.bool (decide ((b : Int) < 0)))) from rfl)), this]
  unfold fn38
  exact c_fn (ρ0 := [ii a, ii b, none, none]) rfl rfl (c_seq p (c_seq e (c_seq (c_ifF t rfl) (c_ret (r := .imm (fr (mkRat a b))) (c_tup (c_acons (c_bin rfl rfl rfl rfl d1) rfl (c_acons (c_bin rfl rfl rfl rfl d2) rfl c_anil)) rfl) rfl)))) rfl
/-- the law's sums and products -/
structure Sd (q : Rat) : Prop where
  num : q.num.natAbs < 2 ^ 90
  den : q.den < 2 ^ 40
theorem Sd.sm {q : Rat} (h : Sd q) : Sm q := ⟨h.num, Nat.lt_trans h.den (by decide)⟩
theorem Sd.mul {q r : Rat} (h : Sd q) (k : Sd r) : q.den * r.den < 2 ^ 190 := by
  have : q.den * r.den ≤ 2 ^ 40 * 2 ^ 40 := Nat.mul_le_mul (Nat.le_of_lt h.den) (Nat.le_of_lt k.den)
  have h2 : (2 : Nat) ^ 15 * 2 ^ 15 < 2 ^ 31 := by decide
  omega
def LowP (f : Fn) : Prop := ∀ (a : Int) (b : Nat), 0 < b → b < 2 ^ 190 → f [.imm (.int a), .imm (.int (b : Int))] = some (.imm (fr (mkRat a b)), [none, none])
theorem ladd_ok {cl : Nat → Fn} (F : LowP (cl 38)) {d e : D} {q r : Rat} (hd : IsFr d q) (he : IsFr e r) (hq : Sd q) (hr : Sd r) : fn40 cl [.imm d, .imm e] = some (.imm (fr (q + r)), [none, none]) := by
  have f := F (q.num * (r.den : Int) + r.num * (q.den : Int)) (q.den * r.den) (Nat.mul_pos (Frac_pos q) (Frac_pos r)) (hq.mul hr)
  rw [add_cross, Int.natCast_mul] at f
  have m1 := mul_int (i := q.num) (j := (r.den : Int)) hq.num hr.sm.den
  have m2 := mul_int (i := r.num) (j := (q.den : Int)) hr.num hq.sm.den
  have m3 := mul_int (i := (q.den : Int)) (j := (r.den : Int)) hq.sm.den hr.sm.den
  unfold fn40
  exact c_fn (ρ0 := [some (.imm d), some (.imm e)]) rfl rfl (c_ret (c_call (c_rval (c_bin (c_bin (c_bin rfl rfl rfl rfl hd.top) (c_bin rfl rfl rfl rfl he.bot) rfl rfl m1) (c_bin (c_bin rfl rfl rfl rfl he.top) (c_bin rfl rfl rfl rfl hd.bot) rfl rfl m2) rfl rfl rfl) rfl (c_rval (c_bin (c_bin rfl rfl rfl rfl hd.bot) (c_bin rfl rfl rfl rfl he.bot) rfl rfl m3) rfl rfl)) rfl rfl f rfl) rfl) rfl

theorem c_cons_ret {mg : MG} {m : MS} {d : D} {ds : List D} {ρ ρ1 ρ2 : Fm} {r : Sv} (h1 : mg d ρ = some ρ1) (h2 : m ρ1 = some (.ret r, ρ2)) : loop mg m (d :: ds) ρ = some (.ret r, ρ2) := by
  rw [loop, h1]
  simp only [h2]
theorem c_seqR {m n : MS} {ρ ρ1 : Fm} {r : Sv} (h : m ρ = some (.ret r, ρ1)) : mSeq m n ρ = some (.ret r, ρ1) := by unfold mSeq; rw [h]

end K41

namespace K41
open PySem Vi PyProof.Rows
theorem c_skip {ρ : Fm} : mNext ρ = some (.next, ρ) := rfl
def EV (me : ME) (ρ : Fm) (d : D) : Prop := ∃ pr, me ρ = some (pr, ρ) ∧ frz ρ pr = some (d, ρ) ∧ peek ρ pr = some d
theorem ev_val {me : ME} {ρ : Fm} {d : D} (h : me ρ = some (.val (.imm d), ρ)) : EV me ρ d := ⟨_, h, rfl, rfl⟩
theorem ev_own {me : ME} {ρ : Fm} {ds : List D} {b : Kd} (h : me ρ = some (.val (.own b ds), ρ)) (hb : b.isL = true := by rfl) : EV me ρ (.list ds) := by
  cases b <;> first | exact absurd hb (by decide) | exact ⟨_, h, rfl, rfl⟩
theorem ev_var {ρ : Fm} {i : Nat} {d : D} (h : ρ[i]? = some (some (.imm d))) : EV (mVar i) ρ d := by
  refine ⟨.slot i, ?_, ?_, ?_⟩
  · unfold mVar; rw [h]
  · unfold frz; simp only [h]
  · unfold peek; simp only [h]; rfl
theorem ev_c {ρ : Fm} {d : D} : EV (mC d) ρ d := ev_val rfl
theorem v_call1 {me : ME} {ρ : Fm} {d : D} {r : Sv} {f : Fn} (h : EV me ρ d) (e : f [.imm d] = some (r, [none])) : mCall f (rVal me rNil) ρ = some (.val r, ρ) := by
  obtain ⟨pr, h1, h2, _⟩ := h
  exact c_call (c_rval h1 h2 rfl) rfl rfl e rfl
theorem v_call2 {me mf : ME} {ρ : Fm} {d e : D} {r : Sv} {f : Fn} (h : EV me ρ d) (k : EV mf ρ e) (q : f [.imm d, .imm e] = some (r, [none, none])) : mCall f (rVal me (rVal mf rNil)) ρ = some (.val r, ρ) := by
  obtain ⟨pr, h1, h2, _⟩ := h
  obtain ⟨ps, k1, k2, _⟩ := k
  exact c_call (c_rval h1 h2 (c_rval k1 k2 rfl)) rfl rfl q rfl
theorem v_call3 {me mf mg : ME} {ρ : Fm} {d e g : D} {r : Sv} {f : Fn} (h : EV me ρ d) (k : EV mf ρ e) (l : EV mg ρ g) (q : f [.imm d, .imm e, .imm g] = some (r, [none, none, none])) : mCall f (rVal me (rVal mf (rVal mg rNil))) ρ = some (.val r, ρ) := by
  obtain ⟨pr, h1, h2, _⟩ := h
  obtain ⟨ps, k1, k2, _⟩ := k
  obtain ⟨pt, l1, l2, _⟩ := l
  exact c_call (c_rval h1 h2 (c_rval k1 k2 (c_rval l1 l2 rfl))) rfl rfl q rfl
theorem e_call1 {me : ME} {ρ : Fm} {d r : D} {f : Fn} (h : EV me ρ d) (e : f [.imm d] = some (.imm r, [none])) : EV (mCall f (rVal me rNil)) ρ r := ev_val (v_call1 h e)
theorem e_call2 {me mf : ME} {ρ : Fm} {d e r : D} {f : Fn} (h : EV me ρ d) (k : EV mf ρ e) (q : f [.imm d, .imm e] = some (.imm r, [none, none])) : EV (mCall f (rVal me (rVal mf rNil))) ρ r := ev_val (v_call2 h k q)
theorem e_call3 {me mf mg : ME} {ρ : Fm} {d e g r : D} {f : Fn} (h : EV me ρ d) (k : EV mf ρ e) (l : EV mg ρ g) (q : f [.imm d, .imm e, .imm g] = some (.imm r, [none, none, none])) : EV (mCall f (rVal me (rVal mf (rVal mg rNil)))) ρ r := ev_val (v_call3 h k l q)
def EA (ma : MA) (ρ : Fm) (ds : List D) : Prop := ma ρ = some (ds, ρ)
theorem ea_nil {ρ : Fm} : EA mNil ρ [] := rfl
theorem ea_cons {me : ME} {ma : MA} {ρ : Fm} {d : D} {ds : List D} (h : EV me ρ d) (k : EA ma ρ ds) : EA (mCons me ma) ρ (d :: ds) := by
  obtain ⟨pr, h1, h2, _⟩ := h
  exact c_acons h1 h2 k
theorem v_lst {ma : MA} {ρ : Fm} {ds : List D} (h : EA ma ρ ds) (hl : ds.length ≤ 10000) : mLst ma ρ = some (.val (.own .loc ds), ρ) := c_lst h (c_fits hl)
theorem e_tup {ma : MA} {ρ : Fm} {ds : List D} (h : EA ma ρ ds) (hl : ds.length ≤ 10000) : EV (mTup ma) ρ (.tuple ds) := ev_val (c_tup h (c_fits hl))
theorem e_bin {f : D → D → Option Sv} {ma mb : ME} {ρ : Fm} {d e r : D} (h : EV ma ρ d) (k : EV mb ρ e) (q : f d e = some (.imm r)) : EV (bin f ma mb) ρ r := by
  obtain ⟨pr, h1, _, h3⟩ := h
  obtain ⟨ps, k1, _, k3⟩ := k
  exact ev_val (c_bin h1 k1 h3 k3 q)
theorem e_un {f : D → Option Sv} {ma : ME} {ρ : Fm} {d r : D} (h : EV ma ρ d) (q : f d = some (.imm r)) : EV (un f ma) ρ r := by
  obtain ⟨pr, h1, _, h3⟩ := h
  exact ev_val (c_un h1 h3 q)
/-- an own list grows -/
theorem s_grow {i : Nat} {me : ME} {ρ : Fm} {b b2 : Kd} {ds es : List D} (h0 : ρ[i]? = some (some (.own b ds))) (h : me ρ = some (.val (.own b2 es), ρ)) (hl : ds.length + es.length ≤ 10000) (hb : b.isL = true := by rfl) (hb2 : b2.isL = true := by rfl) : mSet i (bin dAdd (mVar i) me) ρ = some (.next, ρ.set i (some (.own .loc (ds ++ es)))) := by
  cases b <;> cases b2 <;> first | exact absurd hb (by decide) | exact absurd hb2 (by decide) | (
    have hv : mVar i ρ = some (.slot i, ρ) := by unfold mVar; rw [h0]
    have hp : peek ρ (.slot i) = some (.list ds) := by unfold peek; simp only [h0]; rfl
    exact c_set (c_bin hv h hp rfl (c_addL hl)) rfl)
theorem e_grow {i : Nat} {me : ME} {ρ : Fm} {b b2 : Kd} {ds es : List D} (h0 : ρ[i]? = some (some (.own b ds))) (h : me ρ = some (.val (.own b2 es), ρ)) (hl : ds.length + es.length ≤ 10000) (hb : b.isL = true := by rfl) (hb2 : b2.isL = true := by rfl) : bin dAdd (mVar i) me ρ = some (.val (.own .loc (ds ++ es)), ρ) := by
  cases b <;> cases b2 <;> first | exact absurd hb (by decide) | exact absurd hb2 (by decide) | (
    have hv : mVar i ρ = some (.slot i, ρ) := by unfold mVar; rw [h0]
    have hp : peek ρ (.slot i) = some (.list ds) := by unfold peek; simp only [h0]; rfl
    exact c_bin hv h hp rfl (c_addL hl))
theorem v_rep {ma : MA} {ρ : Fm} {d : D} {k : Nat} (h : EA ma ρ [d]) (hk : k ≤ 1000) : mRep (mLst ma) (mC (.int (k : Int))) ρ = some (.val (.own .loc (List.replicate k d)), ρ) := by
  have h1 := v_lst h (by simp)
  have hd : decide (-(2 ^ 63) ≤ (k : Int) ∧ (k : Int) < 2 ^ 63 ∧ ([d] : List D).length * ((k : Int)).toNat ≤ sizeLine) = true := decide_eq_true ⟨by omega, by omega, by rw [Int.toNat_natCast]; simp [sizeLine]; omega⟩
  have hf : ∀ n : Nat, (List.replicate n [d]).flatten = List.replicate n d := fun n => by
    induction n with
    | zero => rfl
    | succ n ih => rw [List.replicate_succ, List.flatten_cons, ih]; rfl
  unfold mRep
  rw [h1]
  show (if decide (-(2 ^ 63) ≤ (k : Int) ∧ (k : Int) < 2 ^ 63 ∧ ([d] : List D).length * ((k : Int)).toNat ≤ sizeLine) = true then some (PR.val (Sv.own .loc (List.replicate ((k : Int)).toNat [d]).flatten), ρ) else none) = _
  rw [if_pos hd, Int.toNat_natCast, hf]

theorem c_orTT {a b : MT} {ρ ρ1 : Fm} (h : a ρ = some (true, ρ1)) : mOrT a b ρ = some (true, ρ1) := by unfold mOrT; rw [h]
theorem c_orTF {a b : MT} {ρ ρ1 : Fm} {x : Option (Bool × Fm)} (h : a ρ = some (false, ρ1)) (h2 : b ρ1 = x) : mOrT a b ρ = x := by unfold mOrT; rw [h]; exact h2
theorem t_call {me : ME} {ρ : Fm} {b : Bool} (h : me ρ = some (.val (.imm (.bool b)), ρ)) : mNotT (mTru me) ρ = some (!b, ρ) := c_not (c_tru h rfl (by cases b <;> rfl))
theorem t_tru {me : ME} {ρ : Fm} {b : Bool} (h : me ρ = some (.val (.imm (.bool b)), ρ)) : mTru me ρ = some (b, ρ) := c_tru h rfl (by cases b <;> rfl)

theorem mif_T {t : MT} {a b : ME} {ρ ρ1 : Fm} {x : Option (PR × Fm)} (h : t ρ = some (true, ρ1)) (h2 : a ρ1 = x) : mIf t a b ρ = x := by unfold mIf; rw [h]; exact h2
theorem mif_F {t : MT} {a b : ME} {ρ ρ1 : Fm} {x : Option (PR × Fm)} (h : t ρ = some (false, ρ1)) (h2 : b ρ1 = x) : mIf t a b ρ = x := by unfold mIf; rw [h]; exact h2

theorem c_cmap {α : Type} {mg : MG} {me : ME} {vs : List Nat} {ρ : Fm} (f g : α → D) : ∀ (l : List α), (∀ a ∈ l, ∃ ρ1 pr ρ3 ρ4, mg (f a) ρ = some ρ1 ∧ me ρ1 = some (pr, ρ3) ∧ frz ρ3 pr = some (g a, ρ4) ∧ wipeA ρ4 vs = ρ) → cloop mg mYes me vs (l.map f) ρ = some (l.map g, ρ)
  | [], _ => rfl
  | a :: l, h => by
    obtain ⟨ρ1, pr, ρ3, ρ4, h1, h2, h3, h4⟩ := h a (List.mem_cons_self ..)
    have ih := c_cmap f g l fun b hb => h b (List.mem_cons_of_mem _ hb)
    exact c_ccons (ρ2 := ρ1) h1 rfl h2 h3 (by rw [h4]; exact ih)

theorem v_bin {f : D → D → Option Sv} {ma mb : ME} {ρ : Fm} {d e : D} {r : Sv} (h : EV ma ρ d) (k : EV mb ρ e) (q : f d e = some r) : bin f ma mb ρ = some (.val r, ρ) := by
  obtain ⟨pr, h1, _, h3⟩ := h
  obtain ⟨ps, k1, _, k3⟩ := k
  exact c_bin h1 k1 h3 k3 q


theorem bools_of {α : Type} (g : α → Bool) : ∀ l : List α, boolsOf (l.map fun d => .bool (g d)) = some (l.map g)
  | [] => rfl
  | d :: l => by rw [List.map_cons, boolsOf, bools_of g l]; rfl
theorem all_of {α : Type} (g : α → Bool) (l : List α) : dAll (.list (l.map fun d => .bool (g d))) = some (.imm (.bool (l.all g))) := by
  show (boolsOf (l.map fun d => .bool (g d))).map _ = _
  rw [bools_of]
  simp [List.all_map, Function.comp_def]

theorem cut_to (L : List D) (k : Nat) (h : k ≤ L.length) : Vi.cutD L none (some (k : Int)) = L.take k := by
  unfold Vi.cutD
  rw [HT.sIx_none, HT.sIx_nat, Nat.min_eq_left h]
  simp

theorem c_andTT {a b : MT} {ρ ρ1 : Fm} {x : Option (Bool × Fm)} (h : a ρ = some (true, ρ1)) (h2 : b ρ1 = x) : mAndT a b ρ = x := by unfold mAndT; rw [h]; exact h2
theorem c_andTF {a b : MT} {ρ ρ1 : Fm} (h : a ρ = some (false, ρ1)) : mAndT a b ρ = some (false, ρ1) := by unfold mAndT; rw [h]
theorem fits_of {n : Nat} (h : n ≤ 10000) : fits n = true := decide_eq_true (by unfold sizeLine; omega)
abbrev bx (a b c : Int) : List D := [.int a, .int b, .int c]
theorem mul_small {i j : Int} (h : -(2 ^ 64) < j ∧ j < 2 ^ 64) : mulOk i j = true := by
  unfold mulOk; rw [Bool.or_eq_true, Bool.or_eq_true]; exact .inl (.inr (decide_eq_true h))
theorem mul_small' {i j : Int} (h : -(2 ^ 64) < i ∧ i < 2 ^ 64) : mulOk i j = true := by
  unfold mulOk; rw [Bool.or_eq_true, Bool.or_eq_true]; exact .inl (.inl (decide_eq_true h))
theorem div_small {j : Int} (h : 0 < j) (h2 : j < 1000000000) : divOk j = true := decide_eq_true ⟨h, by
  have : j.natAbs.log2 < 64 := (Nat.log2_lt (by omega)).mpr (by omega)
  omega⟩
theorem at0 (a b c : Int) : L2.atI (bx a b c) 0 = some (.int a) := rfl
theorem at1 (a b c : Int) : L2.atI (bx a b c) 1 = some (.int b) := rfl
theorem at2 (a b c : Int) : L2.atI (bx a b c) 2 = some (.int c) := rfl
theorem take_ok {K : Nat} {a b c n : Int} (hn : 0 < n) (hn2 : n < 1000000) (hc : 0 ≤ c) (hc2 : c < 1000000) :
    ∃ v a' c' : Int, run (K + 1) 33 [.own .par (bx a b c), .imm (.int n)] = some (.imm (.int v), [some (bx a' b c'), none]) ∧ 0 ≤ v ∧ v < n ∧ 0 ≤ c' ∧ c' ≤ c + 1 := by
  have i0 : L2.ixN 3 0 = some 0 := rfl
  have i2 : L2.ixN 3 2 = some 2 := rfl
  by_cases ha : 0 < a
  · refine ⟨a % n, a / n, c, ?_, Int.emod_nonneg _ (by omega), Int.emod_lt_of_pos _ hn, hc, by omega⟩
    have hd := div_small hn (by omega)
    rw [rs33]
    simp [fits_of, mFn, mSeq, mSet, put, take, frz, peek, mVar, mC, bin, un, mIfS, mNotT, mTru, mRet, mNext, mLst, mNil, mCons, mTup, mFor, mISeq, mN, mDrop, mApp, mCall, rVal, rNil, argsOf, slotsOf, nodupB, Vi.backTo, give, outsOf, Sv.toD, itemsOf, dTru, dIsi2, dIsi, tyN, isT, dTuple, dList, mGtup, mGcons, mGnil, mYes, mComp, mComp2, wipeA, restA, vsOk, dSort, dAdd, dIx, dLen, mIf, mB, dCmpI, dNeg, mAndT, mIEnum, mStore, rSlot, dInt, dMod, dMul, dDiv, dAbs, dPow, mSl, mPart, mNoPart, dCut, mOr, fn33, at0, ha, hn, hd, i0]
  · have key : ∃ z : Int, run (K + 1) 33 [.own .par (bx a b c), .imm (.int n)] = some (.imm (.int (z % n)), [some (bx a b (c + 1)), none]) := by
      let once : Int := ((b + 48271 * (c + 1)) * (39373 + (c + 1))) % 2147483647
      let far : Int := once % 40009 + 7
      let again : Int := ((once + (c + 1) + b / 1000003) * far) % 2147483629
      refine ⟨((again * 48271 + once) % 2147483587) / 64, ?_⟩
      rw [rs33]
      have m1 : mulOk 48271 (c + 1) = true := mul_small' (by decide)
      have m2 : ∀ z : Int, mulOk z (39373 + (c + 1)) = true := fun z => mul_small (by omega)
      have m3 : ∀ z w : Int, mulOk z (w % 40009 + 7) = true := fun z w => mul_small (by have := Int.emod_nonneg w (show (40009 : Int) ≠ 0 by omega); have := Int.emod_lt_of_pos w (show (0 : Int) < 40009 by omega); omega)
      have m4 : ∀ z : Int, mulOk z 48271 = true := fun z => mul_small (by decide)
      have d1 : divOk 1000003 = true := rfl
      have d2 : divOk 64 = true := rfl
      simp [fits_of, mFn, mSeq, mSet, put, take, frz, peek, mVar, mC, bin, un, mIfS, mNotT, mTru, mRet, mNext, mLst, mNil, mCons, mTup, mFor, mISeq, mN, mDrop, mApp, mCall, rVal, rNil, argsOf, slotsOf, nodupB, Vi.backTo, give, outsOf, Sv.toD, itemsOf, dTru, dIsi2, dIsi, tyN, isT, dTuple, dList, mGtup, mGcons, mGnil, mYes, mComp, mComp2, wipeA, restA, vsOk, dSort, dAdd, dIx, dLen, mIf, mB, dCmpI, dNeg, mAndT, mIEnum, mStore, rSlot, dInt, dMod, dMul, dDiv, dAbs, dPow, mSl, mPart, mNoPart, dCut, mOr, fn33, at0, at1, at2, ha, hn, i2, m1, m2, m3, m4, d1, d2, once, far, again]
    obtain ⟨z, e⟩ := key
    exact ⟨z % n, a, c + 1, e, Int.emod_nonneg _ (by omega), Int.emod_lt_of_pos _ hn, by omega, by omega⟩
def TakeP (f : Fn) (b : Int) : Prop := ∀ a c n : Int, 0 < n → n < 1000000 → 0 ≤ c → c < 1000000 → ∃ v a' c' : Int, f [.own .par (bx a b c), .imm (.int n)] = some (.imm (.int v), [some (bx a' b c'), none]) ∧ 0 ≤ v ∧ v < n ∧ 0 ≤ c' ∧ c' ≤ c + 1
theorem take_P (K : Nat) (b : Int) : TakeP (run (K + 1) 33) b := fun a c n h1 h2 h3 h4 => take_ok h1 h2 h3 h4


theorem cut_off (L : List D) (k : Nat) (h : k ≤ L.length) : Vi.cutD L (some (k : Int)) none = L.drop k := by
  unfold Vi.cutD
  rw [HT.sIx_nat, HT.sIx_none, Nat.min_eq_left h, List.take_of_length_le (by simp [fits_of, mFn, mSeq, mSet, put, take, frz, peek, mVar, mC, bin, un, mIfS, mNotT, mTru, mRet, mNext, mLst, mNil, mCons, mTup, mFor, mISeq, mN, mDrop, mApp, mCall, rVal, rNil, argsOf, slotsOf, nodupB, Vi.backTo, give, outsOf, Sv.toD, itemsOf, dTru, dIsi2, dIsi, tyN, isT, dTuple, dList, mGtup, mGcons, mGnil, mYes, mComp, mComp2, wipeA, restA, vsOk, dSort, dAdd, dIx, dLen, mIf, mB, dCmpI, dNeg, mAndT, mIEnum, mStore, rSlot, dInt, dMod, dMul, dDiv, dAbs, dPow, mSl, mPart, mNoPart, dCut, mOr])]



theorem c_store {i : Nat} {mk me : ME} {ρ ρ1 ρ2 ρ3 : Fm} {pr pk : PR} {d : D} {b b1 : Kd} {ds ds1 : List D} {k : Int} {j : Nat} (h1 : me ρ = some (pr, ρ1)) (h2 : frz ρ1 pr = some (d, ρ2)) (h3 : ρ2[i]? = some (some (.own b1 ds1))) (h4 : mk ρ2 = some (pk, ρ3)) (h5 : peek ρ3 pk = some (.int k)) (h6 : ρ3[i]? = some (some (.own b ds))) (h7 : L2.ixN ds.length k = some j) (hb : b.isL = true := by rfl) (hb1 : b1.isL = true := by rfl) : mStore i mk me ρ = some (.next, ρ3.set i (some (.own b (ds.set j d)))) := by
  unfold mStore
  cases b <;> cases b1 <;> first | exact absurd hb (by decide) | exact absurd hb1 (by decide) | (rw [h1]; simp only [h2, h3, h4, h5, h6, h7])

theorem c_rslot {i : Nat} {mr : MR} {ρ ρ1 : Fm} {b : Kd} {ds : List D} {as : List AR} (h : ρ[i]? = some (some (.own b ds))) (h2 : mr ρ = some (as, ρ1)) : rSlot i mr ρ = some (.s i :: as, ρ1) := by
  unfold rSlot
  rw [h]
  simp only [h2]




theorem at_tup {L : List D} {k : Nat} {d : D} (h : L[k]? = some d) : dIx (.tuple L) (.int (k : Int)) = some (.imm d) := by
  show (L2.atI L (k : Int)).map Sv.imm = _
  rw [L2.atI_nat h]; rfl



end K41

namespace K41
open PySem Vi PyProof.Rows
abbrev dd (d : D) : Option Sv := some (.imm d)
/-! the arithmetic of both sides -/
def PlusP (f : Fn) : Prop := ∀ (d e : D) (q r : Rat), IsFr d q → IsFr e r → Sm q → Sm r → f [.imm d, .imm e] = some (.imm (fr (q + r)), [none, none])
def MinusP (f : Fn) : Prop := ∀ (d e : D) (q r : Rat), IsFr d q → IsFr e r → Sm q → Sm r → f [.imm d, .imm e] = some (.imm (fr (q + -r)), [none, none])
def TimesP (f : Fn) : Prop := ∀ (d e : D) (q r : Rat), IsFr d q → IsFr e r → Sm q → Sm r → f [.imm d, .imm e] = some (.imm (fr (q * r)), [none, none])
def OverP (f : Fn) : Prop := ∀ (d : D) (q : Rat) (n : Nat), IsFr d q → Sm q → 1 ≤ n → n < 2 ^ 20 → f [.imm d, .imm (.tuple [.int (n : Int), .int 1])] = some (.imm (fr (mkRat q.num (q.den * n))), [none, none])
def WholeP (f : Fn) : Prop := ∀ n : Int, f [.imm (.int n)] = some (.imm (.tuple [.int n, .int 1]), [none])
def LaddP (f : Fn) : Prop := ∀ (d e : D) (q r : Rat), IsFr d q → IsFr e r → Sd q → Sd r → f [.imm d, .imm e] = some (.imm (fr (q + r)), [none, none])
def LsubP (f : Fn) : Prop := ∀ (d e : D) (q r : Rat), IsFr d q → IsFr e r → Sd q → Sd r → f [.imm d, .imm e] = some (.imm (fr (q + -r)), [none, none])
def LmulP (f : Fn) : Prop := ∀ (d e : D) (q r : Rat), IsFr d q → IsFr e r → Sd q → Sd r → f [.imm d, .imm e] = some (.imm (fr (q * r)), [none, none])
section
variable {cl : Nat → Fn} {d e : D} {q r : Rat} {ρ : Fm} {i : Nat}
theorem q_num_neg (r : Rat) : (-r).num = -r.num := rfl
theorem q_den_neg (r : Rat) : (-r).den = r.den := rfl
theorem ev_top (h : ρ[i]? = some (dd d)) (hd : IsFr d q) : EV (bin dIx (mVar i) (mC (.int 0))) ρ (.int q.num) := e_bin (ev_var h) ev_c hd.top
theorem ev_bot (h : ρ[i]? = some (dd d)) (hd : IsFr d q) : EV (bin dIx (mVar i) (mC (.int 1))) ρ (.int (q.den : Int)) := e_bin (ev_var h) ev_c hd.bot
theorem isFr_neg (he : IsFr e r) : IsFr (fr (-r)) (-r) := isFr _
theorem neg_fr (r : Rat) : (.tuple [.int (-r.num), .int (r.den : Int)] : D) = fr (-r) := by
  unfold fr
  rw [q_num_neg, q_den_neg]
theorem sm_neg (h : Sm r) : Sm (-r) := ⟨by rw [q_num_neg, Int.natAbs_neg]; exact h.num, by rw [q_den_neg]; exact h.den⟩
theorem sd_neg (h : Sd r) : Sd (-r) := ⟨by rw [q_num_neg, Int.natAbs_neg]; exact h.num, by rw [q_den_neg]; exact h.den⟩
theorem minus_ok (P : PlusP (cl 8)) : MinusP (fn9 cl) := fun d e q r hd he hq hr => by
  have ev : EV (mTup (mCons (un dNeg (bin dIx (mVar 1) (mC (.int 0)))) (mCons (bin dIx (mVar 1) (mC (.int 1))) mNil))) [dd d, dd e] (fr (-r)) := by
    rw [← neg_fr]
    exact e_tup (ea_cons (e_un (ev_top rfl he) rfl) (ea_cons (ev_bot rfl he) ea_nil)) (by simp)
  exact c_fn (ρ0 := [dd d, dd e]) rfl rfl (c_ret (v_call2 (ev_var rfl) ev (P d (fr (-r)) q (-r) hd (isFr _) hq (sm_neg hr))) rfl) rfl
theorem times_ok (F : FracP (cl 6)) : TimesP (fn10 cl) := fun d e q r hd he hq hr => by
  have f := F (q.num * r.num) (q.den * r.den) (Nat.mul_pos (Frac_pos q) (Frac_pos r)) (hq.mul hr)
  rw [mul_cross, Int.natCast_mul] at f
  exact c_fn (ρ0 := [dd d, dd e]) rfl rfl (c_ret (v_call2 (e_bin (ev_top rfl hd) (ev_top rfl he) (mul_int hq.num hr.num)) (e_bin (ev_bot rfl hd) (ev_bot rfl he) (mul_int hq.den hr.den)) f) rfl) rfl
theorem over_ok (F : FracP (cl 6)) : OverP (fn11 cl) := fun d q n hd hq h1 h2 => by
  have hb : q.den * n < 2 ^ 200 := by
    have a : q.den * n ≤ 2 ^ 90 * 2 ^ 20 := Nat.mul_le_mul (Nat.le_of_lt hq.den) (Nat.le_of_lt h2)
    have : (2 : Nat) ^ 90 * 2 ^ 20 < 2 ^ 200 := by decide
    omega
  have f := F q.num (q.den * n) (Nat.mul_pos (Frac_pos q) (by omega)) hb
  rw [Int.natCast_mul] at f
  have m1 : dMul (.int q.num) (.int 1) = some (.imm (.int q.num)) := by
    have := mul_int (i := q.num) (j := 1) hq.num (by decide)
    rw [Int.mul_one] at this; exact this
  have m2 : dMul (.int (q.den : Int)) (.int (n : Int)) = some (.imm (.int ((q.den : Int) * (n : Int)))) := mul_int hq.den (by show n < 2 ^ 90; exact Nat.lt_trans h2 (by decide))
  exact c_fn (ρ0 := [dd d, dd (.tuple [.int (n : Int), .int 1])]) rfl rfl (c_ret (v_call2 (e_bin (ev_top (i := 0) rfl hd) (e_bin (ev_var (i := 1) rfl) ev_c rfl) m1) (e_bin (ev_bot (i := 0) rfl hd) (e_bin (ev_var (i := 1) rfl) ev_c rfl) m2) f) rfl) rfl
theorem whole_ok : WholeP (fn7 cl) := fun n => rfl
theorem lmul_ok (F : LowP (cl 38)) : LmulP (fn41 cl) := fun d e q r hd he hq hr => by
  have f := F (q.num * r.num) (q.den * r.den) (Nat.mul_pos (Frac_pos q) (Frac_pos r)) (hq.mul hr)
  rw [mul_cross, Int.natCast_mul] at f
  exact c_fn (ρ0 := [dd d, dd e]) rfl rfl (c_ret (v_call2 (e_bin (ev_top rfl hd) (ev_top rfl he) (mul_int hq.num hr.num)) (e_bin (ev_bot rfl hd) (ev_bot rfl he) (mul_int hq.sm.den hr.sm.den)) f) rfl) rfl
theorem sub_cross (q r : Rat) : mkRat (q.num * (r.den : Int) - r.num * (q.den : Int)) (q.den * r.den) = q + -r := by
  rw [← add_cross q (-r), q_num_neg, q_den_neg, Int.neg_mul, Int.sub_eq_add_neg]
theorem lsub_ok (F : LowP (cl 38)) : LsubP (fn42 cl) := fun d e q r hd he hq hr => by
  have f := F (q.num * (r.den : Int) - r.num * (q.den : Int)) (q.den * r.den) (Nat.mul_pos (Frac_pos q) (Frac_pos r)) (hq.mul hr)
  rw [sub_cross, Int.natCast_mul] at f
  exact c_fn (ρ0 := [dd d, dd e]) rfl rfl (c_ret (v_call2 (e_bin (e_bin (ev_top rfl hd) (ev_bot rfl he) (mul_int hq.num hr.sm.den)) (e_bin (ev_top rfl he) (ev_bot rfl hd) (mul_int hr.num hq.sm.den)) rfl) (e_bin (ev_bot rfl hd) (ev_bot rfl he) (mul_int hq.sm.den hr.sm.den)) f) rfl) rfl
def CubeP (f : Fn) : Prop := ∀ (d : D) (q : Rat), IsFr d q → Sd q → Sd (q * q) → f [.imm d] = some (.imm (fr (q * q * q)), [none])
theorem cube_ok (L : LmulP (cl 41)) : CubeP (fn48 cl) := fun d q hd h1 h2 =>
  c_fn (ρ0 := [dd d]) rfl rfl (c_ret (v_call2 (e_call2 (ev_var rfl) (ev_var rfl) (L d d q q hd hd h1 h1)) (ev_var rfl) (L _ d (q * q) q (isFr _) hd h2 h1)) rfl) rfl
/-! a third power -/
theorem raised_ok {x : Int} (hx : x.natAbs < 2 ^ 40) : fn13 cl [.imm (.int x), .imm (.int 3)] = some (.imm (.int (x * x * x)), [none, none]) := by
  have m1 : dMul (.int 1) (.int x) = some (.imm (.int x)) := by
    have := mul_int (i := 1) (j := x) (by decide) (Nat.lt_trans hx (by decide))
    rw [Int.one_mul] at this; exact this
  have m2 : dMul (.int x) (.int x) = some (.imm (.int (x * x))) := mul_int (Nat.lt_trans hx (by decide)) (Nat.lt_trans hx (by decide))
  have h2 : (x * x).natAbs < 2 ^ 90 := by
    rw [Int.natAbs_mul]
    have a : x.natAbs * x.natAbs ≤ 2 ^ 40 * 2 ^ 40 := Nat.mul_le_mul (Nat.le_of_lt hx) (Nat.le_of_lt hx)
    have : (2 : Nat) ^ 40 * 2 ^ 40 < 2 ^ 90 := by decide
    omega
  have m3 : dMul (.int x) (.int (x * x)) = some (.imm (.int (x * (x * x)))) := mul_int (Nat.lt_trans hx (by decide)) h2
  have m4 : dMul (.int (x * x)) (.int (x * x)) = some (.imm (.int (x * x * (x * x)))) := mul_int h2 h2
  have e : x * (x * x) = x * x * x := by rw [Int.mul_assoc]
  rw [e] at m3
  have st1 : mTru (mVar 1) [ii x, ii 3, ii 1] = some (true, [ii x, ii 3, ii 1]) := rfl
  have b1 : (mSeq (mIfS (mTru (bin dAnd1 (mVar 1) (mC (.int 1)))) (mSet 2 (bin dMul (mVar 2) (mVar 0))) mNext) (mSeq (mSet 0 (bin dMul (mVar 0) (mVar 0))) (mSet 1 (bin dShr (mVar 1) (mC (.int 1)))))) [ii x, ii 3, ii 1] = some (.next, [ii (x * x), ii 1, ii x]) :=
    c_seq (c_ifT (c_tru (d := .int 1) rfl rfl rfl) (c_set (c_bin rfl rfl rfl rfl m1) rfl)) (c_seq (c_set (c_bin rfl rfl rfl rfl m2) rfl) (c_set (c_bin rfl rfl rfl rfl rfl) rfl))
  have b2 : (mSeq (mIfS (mTru (bin dAnd1 (mVar 1) (mC (.int 1)))) (mSet 2 (bin dMul (mVar 2) (mVar 0))) mNext) (mSeq (mSet 0 (bin dMul (mVar 0) (mVar 0))) (mSet 1 (bin dShr (mVar 1) (mC (.int 1)))))) [ii (x * x), ii 1, ii x] = some (.next, [ii (x * x * (x * x)), ii 0, ii (x * x * x)]) :=
    c_seq (c_ifT (c_tru (d := .int 1) rfl rfl rfl) (c_set (c_bin rfl rfl rfl rfl m3) rfl)) (c_seq (c_set (c_bin rfl rfl rfl rfl m4) rfl) (c_set (c_bin rfl rfl rfl rfl rfl) rfl))
  exact c_fn (ρ0 := [ii x, ii 3, none]) rfl rfl (c_seq (c_set rfl rfl) (c_seq (c_whT st1 b1 (c_whT rfl b2 (c_whF rfl))) (c_ret rfl rfl))) rfl
end
end K41

namespace K41
open PySem Vi PyProof.Rows
/-! worths of words as whole numbers: a word of l letters has a worth over dN l; rows and words with their ends in front -/
def dN : Nat → Nat
  | 0 => 1
  | 1 => 6
  | 2 => 72
  | _ => 1296
def ch : Nat → Nat → Int
  | _, 0 => 1
  | 1, 1 => 1
  | 2, 1 => 2
  | 2, 2 => 1
  | 3, 1 => 3
  | 3, 2 => 3
  | 3, 3 => 1
  | _, _ => 0
def sm (p n : Int) (l : Nat) (f : List Int → Int) : Nat → Int → List Int → Int
  | _, _, [] => 0
  | j, s, c :: rest => if c = p then ch l (j + 1) * (s * n) * f rest + sm p n l f (j + 1) (s * n) rest else 0
def wN : List (Int × Int) → List Int → Int
  | [], w => if w = [] then 1 else 0
  | (p, n) :: R, w => wN R w + sm p n w.length (wN R) 0 1 w
def sumP (A : Int) : List (Int × Int) → Int
  | [] => 0
  | (p, n) :: R => if p = A then sumP A R + n else sumP A R
def cubes (A B : Int) : List (Int × Int) → Int
  | [] => 0
  | (p, n) :: R => if p = A then cubes A B R + ((sumP A R + n - sumP B R) * (sumP A R + n - sumP B R) * (sumP A R + n - sumP B R) - (sumP A R - sumP B R) * (sumP A R - sumP B R) * (sumP A R - sumP B R)) else cubes A B R
section
variable {A B : Int} (hAB : A ≠ B)
theorem w0 : ∀ R : List (Int × Int), wN R [] = 1
  | [] => rfl
  | (p, n) :: R => by rw [wN, w0 R]; rfl
theorem w1 (A : Int) : ∀ R : List (Int × Int), wN R [A] = sumP A R
  | [] => rfl
  | (p, n) :: R => by
    have h0 := w0 R
    have h1 := w1 A R
    simp only [wN, sm, sumP, List.length, ch, h0, h1]
    by_cases h : A = p
    · rw [if_pos h, if_pos h.symm]; grind
    · rw [if_neg h, if_neg (fun e => h e.symm)]; grind
theorem w2 (A : Int) : ∀ R : List (Int × Int), wN R [A, A] = sumP A R * sumP A R
  | [] => rfl
  | (p, n) :: R => by
    have h0 := w0 R
    have h1 := w1 A R
    have h2 := w2 A R
    simp only [wN, sm, sumP, List.length, ch, h0, h1, h2]
    by_cases h : A = p
    · simp only [if_pos h, if_pos h.symm]; grind
    · rw [if_neg h, if_neg (fun e => h e.symm)]; grind
theorem w3 (A : Int) : ∀ R : List (Int × Int), wN R [A, A, A] = sumP A R * sumP A R * sumP A R
  | [] => rfl
  | (p, n) :: R => by
    have h0 := w0 R
    have h1 := w1 A R
    have h2 := w2 A R
    have h3 := w3 A R
    simp only [wN, sm, sumP, List.length, ch, h0, h1, h2, h3]
    by_cases h : A = p
    · simp only [if_pos h, if_pos h.symm]; grind
    · rw [if_neg h, if_neg (fun e => h e.symm)]; grind
include hAB in
theorem w11 : ∀ R : List (Int × Int), wN R [A, B] + wN R [B, A] = 2 * (sumP A R * sumP B R)
  | [] => rfl
  | (p, n) :: R => by
    have h0 := w0 R
    have ha := w1 A R
    have hb := w1 B R
    have h2 := w11 R
    simp only [wN, sm, sumP, List.length, ch, h0, ha, hb]
    by_cases h : A = p
    · have h' : ¬ B = p := fun e => hAB (h.trans e.symm)
      have h'' : ¬ p = B := fun e => h' e.symm
      simp only [if_pos h, if_pos h.symm, if_neg h', if_neg h'']; grind
    · have hp : ¬ p = A := fun e => h e.symm
      by_cases h' : B = p
      · simp only [if_neg h, if_neg hp, if_pos h', if_pos h'.symm]; grind
      · have h'' : ¬ p = B := fun e => h' e.symm
        simp only [if_neg h, if_neg hp, if_neg h', if_neg h'']; grind
include hAB in
theorem cubes_ok : ∀ R : List (Int × Int), wN R [A, B, B] - wN R [A, B, A] - wN R [A, A, B] + wN R [A, A, A] = cubes A B R
  | [] => rfl
  | (p, n) :: R => by
    have h0 := w0 R
    have ha := w1 A R
    have hb := w1 B R
    have hbb := w2 B R
    have haa := w2 A R
    have haaa := w3 A R
    have h2 := w11 hAB R
    have h3 := cubes_ok R
    simp only [wN, sm, cubes, List.length, ch, h0, ha, hb, hbb, haa, haaa] at h3 ⊢
    by_cases h : A = p
    · have h' : ¬ B = p := fun e => hAB (h.trans e.symm)
      have h'' : ¬ p = B := fun e => h' e.symm
      simp only [if_pos h, if_pos h.symm, if_neg h', if_neg h'']; grind
    · have hp : ¬ p = A := fun e => h e.symm
      simp only [if_neg h, if_neg hp]; grind
end
end K41

namespace K41
open PySem Vi PyProof.Rows
/-! how large worths may be -/
def pw (x : Nat) : Nat → Nat
  | 0 => 1
  | 1 => x
  | 2 => x * x
  | _ => x * x * x
theorem abs_mul_le {a b : Int} {x y : Nat} (h1 : a.natAbs ≤ x) (h2 : b.natAbs ≤ y) : (a * b).natAbs ≤ x * y := by
  rw [Int.natAbs_mul]; exact Nat.mul_le_mul h1 h2
theorem wN_bd : ∀ (R : List (Int × Int)), (∀ x ∈ R, x.2.natAbs ≤ 18) → ∀ w : List Int, w.length ≤ 3 → (wN R w).natAbs ≤ pw (18 * R.length) w.length
  | [], _, w, hw => by
    unfold wN
    by_cases h : w = []
    · subst h; decide
    · rw [if_neg h]; exact Nat.zero_le _
  | (p, n) :: R, hR, w, hw => by
    have hn : n.natAbs ≤ 18 := hR (p, n) (List.mem_cons_self ..)
    have ih := wN_bd R fun x hx => hR x (List.mem_cons_of_mem _ hx)
    have hl : 18 * ((p, n) :: R).length = 18 * R.length + 18 := by rw [List.length_cons]; omega
    rw [hl]
    generalize 18 * R.length = X at *
    match w, hw with
    | [], _ =>
      have h0 := w0 R
      simp only [wN, sm, h0, pw, List.length]
      decide
    | [c], _ =>
      have h1 := ih [c] (by simp)
      have h0 := w0 R
      simp only [List.length, pw, wN, sm, ch, h0] at h1 ⊢
      split <;> omega
    | [c, d], _ =>
      have h2 := ih [c, d] (by simp)
      have h1 := ih [d] (by simp)
      have h0 := w0 R
      simp only [List.length, pw] at h1 h2 ⊢
      have e : wN ((p, n) :: R) [c, d] = wN R [c, d] + if c = p then 2 * (n * wN R [d]) + (if d = p then n * n else 0) else 0 := by
        simp only [wN, sm, List.length, ch, h0]
        split <;> (try split) <;> grind
      rw [e]
      have m1 := abs_mul_le hn h1
      have m2 := abs_mul_le hn hn
      have g : (X + 18) * (X + 18) = X * X + 36 * X + 324 := by grind
      rw [g]
      split
      · split <;> omega
      · omega
    | [c, d, f], _ =>
      have h3 := ih [c, d, f] (by simp)
      have h2 := ih [d, f] (by simp)
      have h1 := ih [f] (by simp)
      have h0 := w0 R
      simp only [List.length, pw] at h1 h2 h3 ⊢
      have e : wN ((p, n) :: R) [c, d, f] = wN R [c, d, f] + if c = p then 3 * (n * wN R [d, f]) + (if d = p then 3 * (n * n * wN R [f]) + (if f = p then n * n * n else 0) else 0) else 0 := by
        simp only [wN, sm, List.length, ch, h0]
        split <;> (try split) <;> (try split) <;> grind
      rw [e]
      have m2 := abs_mul_le hn hn
      have m1 := abs_mul_le hn h2
      have m3 := abs_mul_le m2 h1
      have m4 := abs_mul_le m2 hn
      have g : (X + 18) * (X + 18) * (X + 18) = X * X * X + 54 * (X * X) + 972 * X + 5832 := by grind
      rw [g]
      split
      · split
        · split <;> omega
        · omega
      · omega
theorem wN_small {R : List (Int × Int)} (h : ∀ x ∈ R, x.2.natAbs ≤ 18) (hl : R.length ≤ 8) {w : List Int} (hw : w.length ≤ 3) : (wN R w).natAbs ≤ 3000000 := by
  have h1 := wN_bd R h w hw
  have mono : pw (18 * R.length) w.length ≤ 3000000 := by
    have hx : 18 * R.length ≤ 144 := by omega
    generalize 18 * R.length = X at hx
    have a := Nat.mul_le_mul hx hx
    have b := Nat.mul_le_mul a hx
    match w.length, hw with
    | 0, _ => show 1 ≤ 3000000; decide
    | 1, _ => show X ≤ 3000000; omega
    | 2, _ => show X * X ≤ 3000000; omega
    | 3, _ => show X * X * X ≤ 3000000; omega
  omega
/-! the values -/
def vl (l : Nat) (k : Int) : Rat := mkRat k (dN l)
theorem dN_pos : ∀ l, 0 < dN l
  | 0 => by decide
  | 1 => by decide
  | 2 => by decide
  | _ + 3 => by show 0 < 1296; decide
theorem dN_le : ∀ l, dN l ≤ 1296
  | 0 => by decide
  | 1 => by decide
  | 2 => by decide
  | _ + 3 => by show 1296 ≤ 1296; decide
theorem mk_sd {k : Int} {d : Nat} (hd : 0 < d) (h : k.natAbs < 2 ^ 80) (h2 : d < 2 ^ 40) : Sd (mkRat k d) := by
  obtain ⟨e1, e2⟩ := low_rat k d hd
  have hg : 0 < Nat.gcd k.natAbs d := Nat.gcd_pos_of_pos_right _ hd
  refine ⟨?_, ?_⟩
  · rw [e1]
    have : (k / ((Nat.gcd k.natAbs d : Nat) : Int)).natAbs ≤ k.natAbs := Int.natAbs_ediv_le_natAbs _ _
    have h3 : (2 : Nat) ^ 80 < 2 ^ 90 := by decide
    omega
  · have : (mkRat k d).den ≤ d := by
      have e3 : ((mkRat k d).den : Int) = ((d / Nat.gcd k.natAbs d : Nat) : Int) := by rw [e2, Int.natCast_ediv]
      have e4 : (mkRat k d).den = d / Nat.gcd k.natAbs d := by omega
      rw [e4]; exact Nat.div_le_self _ _
    omega
theorem vl_sd {l : Nat} {k : Int} (h : k.natAbs < 2 ^ 80) : Sd (vl l k) := mk_sd (dN_pos l) h (Nat.lt_of_le_of_lt (dN_le l) (by decide))
theorem vl_add (l : Nat) (k j : Int) : vl l k + vl l j = vl l (k + j) := by
  unfold vl
  rw [Rat.mkRat_add_mkRat _ _ (Nat.ne_of_gt (dN_pos l)) (Nat.ne_of_gt (dN_pos l)), ← Int.add_mul, Rat.mkRat_mul_right (Nat.ne_of_gt (dN_pos l))]
theorem mk_scale {k : Int} {d : Nat} {c : Nat} (hc : 0 < c) : mkRat (k * (c : Int)) (d * c) = mkRat k d := Rat.mkRat_mul_right (Nat.ne_of_gt hc)
theorem vl_mul {j i : Nat} (h : j + i ≤ 3) (a b : Int) : vl j a * vl i b = vl (j + i) (ch (j + i) j * (a * b)) := by
  unfold vl
  rw [Rat.mkRat_mul_mkRat]
  have key : ∀ c : Nat, 0 < c → dN (j + i) = dN j * dN i * c → ch (j + i) j = (c : Int) → mkRat (a * b) (dN j * dN i) = mkRat (ch (j + i) j * (a * b)) (dN (j + i)) := fun c hc h1 h2 => by
    rw [h1, h2, Int.mul_comm (c : Int)]
    exact (mk_scale hc).symm
  have hj : j = 0 ∨ j = 1 ∨ j = 2 ∨ j = 3 := by omega
  rcases hj with rfl | rfl | rfl | rfl
  · have hi : i = 0 ∨ i = 1 ∨ i = 2 ∨ i = 3 := by omega
    rcases hi with rfl | rfl | rfl | rfl <;> exact key 1 (by decide) (by decide) (by decide)
  · have hi : i = 0 ∨ i = 1 ∨ i = 2 := by omega
    rcases hi with rfl | rfl | rfl
    · exact key 1 (by decide) (by decide) (by decide)
    · exact key 2 (by decide) (by decide) (by decide)
    · exact key 3 (by decide) (by decide) (by decide)
  · have hi : i = 0 ∨ i = 1 := by omega
    rcases hi with rfl | rfl
    · exact key 1 (by decide) (by decide) (by decide)
    · exact key 3 (by decide) (by decide) (by decide)
  · have hi : i = 0 := by omega
    subst hi
    exact key 1 (by decide) (by decide) (by decide)
end K41

namespace K41
open PySem Vi PyProof.Rows
/-! a pair of a row; the worths one pair further -/
abbrev xq (n : Int) : Rat := mkRat n 6
def prD (p : Int × Int) : D := .tuple [.int p.1, fr (xq p.2)]
abbrev rowD (r : List (Int × Int)) : D := .tuple (r.map prD)
abbrev il (w : List Int) : List D := w.map .int
theorem xq_sd {n : Int} (h : n.natAbs ≤ 18) : Sd (xq n) := mk_sd (by decide) (Nat.lt_of_le_of_lt h (by decide)) (by decide)
theorem share_x (j : Nat) (n : Int) : mkRat (xq n).num ((xq n).den * (j + 1)) = mkRat n (6 * (j + 1)) := by
  have h1 : mkRat (xq n).num ((xq n).den * (j + 1)) = xq n * mkRat 1 (j + 1) := by
    rw [← Rat.mkRat_self (xq n), Rat.mkRat_mul_mkRat, Int.mul_one]
    simp [Rat.mkRat_self]
  rw [h1]
  unfold xq
  rw [Rat.mkRat_mul_mkRat, Int.mul_one]
/-- the share of j letters -/
theorem share_next {j : Nat} (hj : j < 3) (s n : Int) : vl j s * mkRat (xq n).num ((xq n).den * (j + 1)) = vl (j + 1) (s * n) := by
  rw [share_x]
  unfold vl
  rw [Rat.mkRat_mul_mkRat]
  have hj' : j = 0 ∨ j = 1 ∨ j = 2 := by omega
  rcases hj' with rfl | rfl | rfl <;> rfl
def WbP (f : Fn) : Prop := ∀ (R : List (Int × Int)) (p n : Int) (W : List D) (w : List Int), (∀ x ∈ R, x.2.natAbs ≤ 18) → R.length ≤ 7 → n.natAbs ≤ 18 → w.length ≤ 3 →
  (∀ l, l ≤ w.length → W[l]? = some (fr (vl l (wN R (w.take l).reverse)))) →
  f [.imm (.list W), .imm (.tuple (il w)), .imm (.int p), .imm (fr (xq n))] = some (.imm (fr (vl w.length (wN ((p, n) :: R) w.reverse))), [none, none, none, none])
def wbB (cl : Nat → Fn) : MS := (mSeq (mIfS (mB (bin dNe (bin dIx (mVar 1) (bin dSub (mVar 4) (mVar 7))) (mVar 2))) mBrk mNext) (mSeq (mSet 5 (mCall (cl 10) (rVal (mVar 5) (rVal (mCall (cl 11) (rVal (mVar 3) (rVal (mCall (cl 7) (rVal (mVar 7) rNil)) rNil))) rNil)))) (mSet 6 (mCall (cl 8) (rVal (mVar 6) (rVal (mCall (cl 10) (rVal (mVar 5) (rVal (bin dIx (mVar 0) (bin dSub (mVar 4) (mVar 7))) rNil))) rNil))))))
theorem wb_fn (cl : Nat → Fn) : fn23 cl = mFn 8 4 (mSeq (mPar 4 5 (un dLen (mVar 1)) (mC (.tuple ([1, 1].map .int)))) (mSeq (mSet 6 (bin dIx (mVar 0) (mVar 4))) (mSeq (mFor (mIRng2 (mCons (mC (.int 1)) (mCons (bin dAdd (mVar 4) (mC (.int 1))) mNil))) (mN 7) (wbB cl)) (mRet (mVar 6))))) := rfl
abbrev BF (W : List D) (w : List Int) (p n : Int) (L : Nat) (s5 s6 s7 : Option Sv) : Fm := [dd (.list W), dd (.tuple (il w)), ii p, dd (fr (xq n)), ii (L : Int), s5, s6, s7]
theorem ne_int (a b : Int) : dNe (.int a) (.int b) = some (.imm (.bool (!(a == b)))) := by
  unfold dNe
  rw [okD_int, okD_int, eqv_int]; rfl
theorem at_list {L : List D} {k : Nat} {d : D} (h : L[k]? = some d) : dIx (.list L) (.int (k : Int)) = some (.imm d) := by
  show (L2.atI L (k : Int)).map Sv.imm = _
  rw [L2.atI_nat h]; rfl
structure Ar (cl : Nat → Fn) : Prop where
  plus : PlusP (cl 8)
  times : TimesP (cl 10)
  over : OverP (cl 11)
  whole : WholeP (cl 7)
theorem rng_cons (j m : Nat) : rngD ((j : Int) + 1) (m + 1) = .int ((j : Int) + 1) :: rngD (((j + 1 : Nat) : Int) + 1) m := by
  unfold rngD
  rw [List.range_succ_eq_map, List.map_cons, List.map_map]
  have e0 : (PyData.int ((j : Int) + 1 + ((0 : Nat) : Int))) = .int ((j : Int) + 1) := by simp
  rw [e0]
  congr 1
  refine List.map_congr_left fun k _ => ?_
  show (PyData.int _) = .int _
  rw [show (j : Int) + 1 + ((k + 1 : Nat) : Int) = ((j + 1 : Nat) : Int) + 1 + (k : Nat) by omega]
theorem c_cons_brk {mg : MG} {m : MS} {d : D} {ds : List D} {ρ ρ1 ρ2 : Fm} (h1 : mg d ρ = some ρ1) (h2 : m ρ1 = some (.brk, ρ2)) : loop mg m (d :: ds) ρ = some (.next, ρ2) := by
  rw [loop, h1]
  simp only [h2]
theorem c_seqB {m n : MS} {ρ ρ1 : Fm} (h : m ρ = some (.brk, ρ1)) : mSeq m n ρ = some (.brk, ρ1) := by unfold mSeq; rw [h]
theorem ch_le (l j : Nat) : (ch l j).natAbs ≤ 3 := by unfold ch; split <;> decide
/-- bounds of what is added up -/
theorem wb_loop {cl : Nat → Fn} (A : Ar cl) {R : List (Int × Int)} {p n : Int} {W : List D} {w : List Int} (hR : ∀ x ∈ R, x.2.natAbs ≤ 18) (hl : R.length ≤ 7) (hn : n.natAbs ≤ 18) (hw : w.length ≤ 3) (hW : ∀ l, l ≤ w.length → W[l]? = some (fr (vl l (wN R (w.take l).reverse)))) :
    ∀ (u : List Int) (j : Nat) (s t : Int) (s7 : Option Sv), w.reverse.drop j = u → j + u.length = w.length → s.natAbs ≤ 18 ^ j → t.natAbs ≤ 10 ^ 9 + j * 10 ^ 12 →
      ∃ (y5 y7 : Option Sv), loop (mN 7) (wbB cl) (rngD ((j : Int) + 1) u.length) (BF W w p n w.length (dd (fr (vl j s))) (dd (fr (vl w.length t))) s7) = some (.next, BF W w p n w.length y5 (dd (fr (vl w.length (t + sm p n w.length (wN R) j s u)))) y7)
  | [], j, s, t, s7, _, _, _, _ => ⟨_, _, by rw [show sm p n w.length (wN R) j s [] = 0 from rfl, Int.add_zero]; rfl⟩
  | c :: rest, j, s, t, s7, hu, hj, hs, ht => by
    have hlen : rest.length + 1 + j = w.length := by rw [List.length_cons] at hj; omega
    have hm : rest.length < w.length := by omega
    have hr : w.reverse.drop (j + 1) = rest := by rw [← List.drop_drop, hu]; rfl
    have hc : w[rest.length]? = some c := by
      have h1 : w.reverse[j]? = some c := by
        have : (w.reverse.drop j)[0]? = some c := by rw [hu]; rfl
        rw [List.getElem?_drop] at this; exact this
      rw [List.getElem?_reverse (by omega)] at h1
      rw [show rest.length = w.length - 1 - j by omega]; exact h1
    have ht' : (w.take rest.length).reverse = rest := by
      rw [List.reverse_take, show w.length - rest.length = j + 1 by omega]; exact hr
    have hWm := hW rest.length (by omega)
    rw [ht'] at hWm
    -- the frame of this lap
    have e7 : ∀ s5 s6 : Option Sv, bin dSub (mVar 4) (mVar 7) (BF W w p n w.length s5 s6 (ii ((j : Int) + 1))) = some (.val (.imm (.int (rest.length : Int))), BF W w p n w.length s5 s6 (ii ((j : Int) + 1))) := fun s5 s6 => by
      have h : dSub (.int (w.length : Int)) (.int ((j : Int) + 1)) = some (.imm (.int (rest.length : Int))) := by
        show some (Sv.imm (.int ((w.length : Int) - ((j : Int) + 1)))) = _
        rw [show (w.length : Int) - ((j : Int) + 1) = (rest.length : Int) by omega]
      exact c_bin rfl rfl rfl rfl h
    have hcw : (il w)[rest.length]? = some (.int c) := by rw [List.getElem?_map, hc]; rfl
    have et : mB (bin dNe (bin dIx (mVar 1) (bin dSub (mVar 4) (mVar 7))) (mVar 2)) (BF W w p n w.length (dd (fr (vl j s))) (dd (fr (vl w.length t))) (ii ((j : Int) + 1))) = some (!(c == p), BF W w p n w.length (dd (fr (vl j s))) (dd (fr (vl w.length t))) (ii ((j : Int) + 1))) :=
      c_b (c_bin (c_bin rfl (e7 _ _) rfl rfl (at_tup hcw)) rfl rfl rfl (ne_int c p))
    rw [show (c :: rest).length = rest.length + 1 from rfl, rng_cons]
    by_cases hcp : c = p
    · rw [show (!(c == p)) = false by simp [hcp]] at et
      have hj3 : j < 3 := by omega
      have hs1 : (s * n).natAbs ≤ 18 ^ (j + 1) := by
        have := abs_mul_le hs hn
        rw [Nat.pow_succ]; exact this
      have hs5 : 18 ^ (j + 1) ≤ 5832 := by
        have hj' : j = 0 ∨ j = 1 ∨ j = 2 := by omega
        rcases hj' with rfl | rfl | rfl <;> decide
      have hs0 : 18 ^ j ≤ 5832 := Nat.le_trans (Nat.pow_le_pow_right (by decide) (Nat.le_succ j)) hs5
      have hN := wN_small hR (by omega) (w := rest) (by omega)
      have hadd : (ch w.length (j + 1) * (s * n * wN R rest)).natAbs ≤ 10 ^ 12 := by
        have a1 := abs_mul_le (Nat.le_trans hs1 hs5) hN
        have a2 := abs_mul_le (ch_le w.length (j + 1)) a1
        exact Nat.le_trans a2 (by decide)
      have h80 : (10 : Nat) ^ 9 + 3 * 10 ^ 12 < 2 ^ 80 := by decide
      have hj12 : j * 10 ^ 12 ≤ 2 * 10 ^ 12 := Nat.mul_le_mul_right _ (by omega)
      have q1 := A.over (fr (xq n)) (xq n) (j + 1) (isFr _) (xq_sd hn).sm (by omega) (by omega)
      have hsd : Sd (mkRat (xq n).num ((xq n).den * (j + 1))) := by
        rw [share_x]
        exact mk_sd (by omega) (Nat.lt_of_le_of_lt hn (by decide)) (by omega)
      have q2 := A.times (fr (vl j s)) (fr (mkRat (xq n).num ((xq n).den * (j + 1)))) _ _ (isFr _) (isFr _) (vl_sd (by omega)).sm hsd.sm
      rw [share_next hj3] at q2
      have q3 := A.times (fr (vl (j + 1) (s * n))) (fr (vl rest.length (wN R rest))) _ _ (isFr _) (isFr _) (vl_sd (by omega)).sm (vl_sd (by omega)).sm
      rw [vl_mul (by omega), show j + 1 + rest.length = w.length by omega] at q3
      have q4 := A.plus (fr (vl w.length t)) (fr (vl w.length (ch w.length (j + 1) * (s * n * wN R rest)))) _ _ (isFr _) (isFr _) (vl_sd (by omega)).sm (vl_sd (by omega)).sm
      rw [vl_add] at q4
      obtain ⟨y5, y7, ih⟩ := wb_loop A hR hl hn hw hW rest (j + 1) (s * n) (t + ch w.length (j + 1) * (s * n * wN R rest)) (ii ((j : Int) + 1)) hr (by omega) hs1 (by
        have : (j + 1) * 10 ^ 12 = j * 10 ^ 12 + 10 ^ 12 := by rw [Nat.add_mul, Nat.one_mul]
        omega)
      refine ⟨y5, y7, ?_⟩
      have ev5 : EV (mCall (cl 11) (rVal (mVar 3) (rVal (mCall (cl 7) (rVal (mVar 7) rNil)) rNil))) (BF W w p n w.length (dd (fr (vl j s))) (dd (fr (vl w.length t))) (ii ((j : Int) + 1))) (fr (mkRat (xq n).num ((xq n).den * (j + 1)))) :=
        e_call2 (ev_var rfl) (e_call1 (ev_var (i := 7) rfl) (A.whole _)) q1
      have s5 : mSet 5 (mCall (cl 10) (rVal (mVar 5) (rVal (mCall (cl 11) (rVal (mVar 3) (rVal (mCall (cl 7) (rVal (mVar 7) rNil)) rNil))) rNil))) (BF W w p n w.length (dd (fr (vl j s))) (dd (fr (vl w.length t))) (ii ((j : Int) + 1))) = some (.next, BF W w p n w.length (dd (fr (vl (j + 1) (s * n)))) (dd (fr (vl w.length t))) (ii ((j : Int) + 1))) :=
        c_set (v_call2 (ev_var (i := 5) rfl) ev5 q2) rfl
      have s6 : mSet 6 (mCall (cl 8) (rVal (mVar 6) (rVal (mCall (cl 10) (rVal (mVar 5) (rVal (bin dIx (mVar 0) (bin dSub (mVar 4) (mVar 7))) rNil))) rNil))) (BF W w p n w.length (dd (fr (vl (j + 1) (s * n)))) (dd (fr (vl w.length t))) (ii ((j : Int) + 1))) = some (.next, BF W w p n w.length (dd (fr (vl (j + 1) (s * n)))) (dd (fr (vl w.length (t + ch w.length (j + 1) * (s * n * wN R rest))))) (ii ((j : Int) + 1))) :=
        c_set (v_call2 (ev_var (i := 6) rfl) (e_call2 (ev_var (i := 5) rfl) (e_bin (ev_var (i := 0) rfl) (ev_val (e7 _ _)) (at_list hWm)) q3) q4) rfl
      have es : t + sm p n w.length (wN R) j s (c :: rest) = t + ch w.length (j + 1) * (s * n * wN R rest) + sm p n w.length (wN R) (j + 1) (s * n) rest := by
        show t + (if c = p then _ else _) = _
        rw [if_pos hcp, Int.mul_assoc (ch w.length (j + 1)), Int.add_assoc]
      rw [es]
      exact c_cons (ρ1 := BF W w p n w.length (dd (fr (vl j s))) (dd (fr (vl w.length t))) (ii ((j : Int) + 1))) rfl (c_seq (c_ifF et c_skip) (c_seq s5 s6)) ih
    · have : (!(c == p)) = true := by simp [hcp]
      rw [this] at et
      refine ⟨dd (fr (vl j s)), ii ((j : Int) + 1), ?_⟩
      rw [show sm p n w.length (wN R) j s (c :: rest) = 0 by unfold sm; rw [if_neg hcp], Int.add_zero]
      exact c_cons_brk (ρ1 := BF W w p n w.length (dd (fr (vl j s))) (dd (fr (vl w.length t))) (ii ((j : Int) + 1))) rfl (c_seqB (c_ifT et rfl))
theorem one_fr : fr (vl 0 1) = .tuple ([1, 1].map .int) := by
  have h1 : (vl 0 1).num = 1 := by decide +kernel
  have h2 : (vl 0 1).den = 1 := by decide +kernel
  unfold fr
  rw [h1, h2]; rfl
theorem wb_ok {cl : Nat → Fn} (A : Ar cl) : WbP (fn23 cl) := fun R p n W w hR hl hn hw hW => by
  have hb := wN_small hR (by omega) (w := w.reverse) (by rw [List.length_reverse]; exact hw)
  obtain ⟨y5, y7, e⟩ := wb_loop A hR hl hn hw hW w.reverse 0 1 (wN R w.reverse) none rfl (by rw [List.length_reverse]; omega) (by decide) (by omega)
  have hWl := hW w.length (Nat.le_refl _)
  rw [List.take_length] at hWl
  have hlen : (il w).length = w.length := List.length_map ..
  have s1 : mPar 4 5 (un dLen (mVar 1)) (mC (.tuple ([1, 1].map .int))) [dd (.list W), dd (.tuple (il w)), ii p, dd (fr (xq n)), none, none, none, none] = some (.next, BF W w p n w.length (dd (fr (vl 0 1))) none none) := by
    have h : dLen (.tuple (il w)) = some (.imm (.int (w.length : Int))) := by
      show some (Sv.imm (.int ((il w).length : Int))) = _
      rw [hlen]
    rw [one_fr]
    have h2 : mC (.tuple ([1, 1].map .int)) [dd (.list W), dd (.tuple (il w)), ii p, dd (fr (xq n)), none, none, none, none] = some (.val (.imm (.tuple ([1, 1].map .int))), [dd (.list W), dd (.tuple (il w)), ii p, dd (fr (xq n)), none, none, none, none]) := rfl
    exact c_par (s1 := .imm (.int (w.length : Int))) (s2 := .imm (.tuple ([1, 1].map .int))) (c_un rfl rfl h) rfl h2 rfl rfl
  have s2 : mSet 6 (bin dIx (mVar 0) (mVar 4)) (BF W w p n w.length (dd (fr (vl 0 1))) none none) = some (.next, BF W w p n w.length (dd (fr (vl 0 1))) (dd (fr (vl w.length (wN R w.reverse)))) none) :=
    c_set (c_bin rfl rfl rfl rfl (at_list hWl)) rfl
  have hrg : mIRng2 (mCons (mC (.int 1)) (mCons (bin dAdd (mVar 4) (mC (.int 1))) mNil)) (BF W w p n w.length (dd (fr (vl 0 1))) (dd (fr (vl w.length (wN R w.reverse)))) none) = some (rngD (((0 : Nat) : Int) + 1) w.reverse.length, BF W w p n w.length (dd (fr (vl 0 1))) (dd (fr (vl w.length (wN R w.reverse)))) none) :=
    c_rng2 (i := 1) (j := (w.length : Int) + 1) (c_acons rfl rfl (c_acons (c_bin rfl rfl rfl rfl rfl) rfl c_anil)) (by omega) (by omega) (by rw [List.length_reverse]; omega)
  have es : wN ((p, n) :: R) w.reverse = wN R w.reverse + sm p n w.length (wN R) 0 1 w.reverse := by rw [wN, List.length_reverse]
  rw [es, wb_fn]
  exact c_fn (ρ0 := [dd (.list W), dd (.tuple (il w)), ii p, dd (fr (xq n)), none, none, none, none]) rfl rfl (c_seq s1 (c_seq s2 (c_seq (c_for hrg e) (c_ret rfl rfl)))) rfl
end K41

namespace K41
open PySem Vi PyProof.Rows
/-! the worth of a word, forward -/
def wl (R : List (Int × Int)) (w : List Int) : List D := (List.range (w.length + 1)).map fun l => fr (vl l (wN R (w.take l).reverse))
def WorthP (f : Fn) : Prop := ∀ (r : List (Int × Int)) (w : List Int), (∀ x ∈ r, x.2.natAbs ≤ 18) → r.length ≤ 8 → w.length ≤ 3 →
  f [.imm (rowD r), .imm (.tuple (il w))] = some (.imm (fr (vl w.length (wN r.reverse w.reverse))), [none, none])
def wwB (cl : Nat → Fn) : MS := (mSet 2 (mComp (mIRng1 (mCons (bin dAdd (un dLen (mVar 1)) (mC (.int 1))) mNil)) (mN 5) mYes (mCall (cl 23) (rVal (mVar 2) (rVal (mSl (mVar 1) mNoPart (mPart (mVar 5))) (rVal (mVar 3) (rVal (mVar 4) rNil))))) [5]))
theorem ww_fn (cl : Nat → Fn) : fn22 cl = mFn 6 2 (mSeq (mSet 2 (bin dAdd (mLst (mCons (mC (.tuple ([1, 1].map .int))) mNil)) (mRep (mLst (mCons (mC (.tuple ([0, 1].map .int))) mNil)) (un dLen (mVar 1))))) (mSeq (mFor (mISeq (mVar 0)) (mGseq 2 (mGcons (mN 3) (mGcons (mN 4) mGnil))) (wwB cl)) (mRet (bin dIx (mVar 2) (un dNeg (mC (.int 1))))))) := rfl
abbrev XF (s0 : Option Sv) (w : List Int) (s2 s3 s4 s5 : Option Sv) : Fm := [s0, dd (.tuple (il w)), s2, s3, s4, s5]
theorem wl_at {R : List (Int × Int)} {w : List Int} {l : Nat} (h : l ≤ w.length) : (wl R w)[l]? = some (fr (vl l (wN R (w.take l).reverse))) := by
  unfold wl
  rw [List.getElem?_map, List.getElem?_range (by omega)]; rfl
theorem ww_call {cl : Nat → Fn} (B : WbP (cl 23)) {R : List (Int × Int)} {p n : Int} {w : List Int} {s0 s2 : Option Sv} (hR : ∀ x ∈ R, x.2.natAbs ≤ 18) (hl : R.length ≤ 7) (hn : n.natAbs ≤ 18) (hw : w.length ≤ 3) (h2 : s2 = some (.own .loc (wl R w)) ∨ s2 = dd (.list (wl R w))) {l : Nat} (hl2 : l ≤ w.length) :
    mCall (cl 23) (rVal (mVar 2) (rVal (mSl (mVar 1) mNoPart (mPart (mVar 5))) (rVal (mVar 3) (rVal (mVar 4) rNil)))) (XF s0 w s2 (ii p) (dd (fr (xq n))) (ii (l : Int))) = some (.val (.imm (fr (vl l (wN ((p, n) :: R) (w.take l).reverse)))), XF s0 w (dd (.list (wl R w))) (ii p) (dd (fr (xq n))) (ii (l : Int))) := by
  have hlen : (w.take l).length = l := by rw [List.length_take]; omega
  have e := B R p n (wl R w) (w.take l) hR hl hn (by omega) (fun l' h' => by
    rw [List.take_take, Nat.min_eq_left (by omega)]
    exact wl_at (by omega))
  rw [hlen] at e
  have hs : mSl (mVar 1) mNoPart (mPart (mVar 5)) (XF s0 w (dd (.list (wl R w))) (ii p) (dd (fr (xq n))) (ii (l : Int))) = some (.val (.imm (.tuple (il (w.take l)))), XF s0 w (dd (.list (wl R w))) (ii p) (dd (fr (xq n))) (ii (l : Int))) := by
    have hc := cut_to (il w) l (by rw [List.length_map]; exact hl2)
    have : mSl (mVar 1) mNoPart (mPart (mVar 5)) (XF s0 w (dd (.list (wl R w))) (ii p) (dd (fr (xq n))) (ii (l : Int))) = some (.val (.imm (.tuple (Vi.cutD (il w) none (some (l : Int))))), XF s0 w (dd (.list (wl R w))) (ii p) (dd (fr (xq n))) (ii (l : Int))) := rfl
    rw [this, hc]
    unfold il
    rw [List.map_take]
  rcases h2 with rfl | rfl
  · exact c_call (as := [.v (.list (wl R w)), .v (.tuple (il (w.take l))), .v (.int p), .v (fr (xq n))]) (c_rval rfl rfl (c_rval hs rfl (c_rval rfl rfl (c_rval rfl rfl rfl)))) rfl rfl e rfl
  · exact c_call (as := [.v (.list (wl R w)), .v (.tuple (il (w.take l))), .v (.int p), .v (fr (xq n))]) (c_rval rfl rfl (c_rval hs rfl (c_rval rfl rfl (c_rval rfl rfl rfl)))) rfl rfl e rfl
theorem ww_step {cl : Nat → Fn} (B : WbP (cl 23)) {R : List (Int × Int)} {p n : Int} {w : List Int} {s0 : Option Sv} (hR : ∀ x ∈ R, x.2.natAbs ≤ 18) (hl : R.length ≤ 7) (hn : n.natAbs ≤ 18) (hw : w.length ≤ 3) :
    wwB cl (XF s0 w (some (.own .loc (wl R w))) (ii p) (dd (fr (xq n))) none) = some (.next, XF s0 w (some (.own .loc (wl ((p, n) :: R) w))) (ii p) (dd (fr (xq n))) none) := by
  have hlen : (il w).length = w.length := List.length_map ..
  have hr : mIRng1 (mCons (bin dAdd (un dLen (mVar 1)) (mC (.int 1))) mNil) (XF s0 w (some (.own .loc (wl R w))) (ii p) (dd (fr (xq n))) none) = some (rngD 0 (w.length + 1), XF s0 w (some (.own .loc (wl R w))) (ii p) (dd (fr (xq n))) none) := by
    have h : dLen (.tuple (il w)) = some (.imm (.int (w.length : Int))) := by
      show some (Sv.imm (.int ((il w).length : Int))) = _
      rw [hlen]
    have ha : dAdd (.int (w.length : Int)) (.int 1) = some (.imm (.int ((w.length + 1 : Nat) : Int))) := by
      show some (Sv.imm (.int ((w.length : Int) + 1))) = _
      rw [Int.natCast_add]; rfl
    have hb : bin dAdd (un dLen (mVar 1)) (mC (.int 1)) (XF s0 w (some (.own .loc (wl R w))) (ii p) (dd (fr (xq n))) none) = some (.val (.imm (.int ((w.length + 1 : Nat) : Int))), XF s0 w (some (.own .loc (wl R w))) (ii p) (dd (fr (xq n))) none) :=
      v_bin (e_un (ev_var (i := 1) rfl) h) ev_c ha
    obtain ⟨N, hN⟩ : ∃ N, N = w.length + 1 := ⟨_, rfl⟩
    rw [← hN] at hb ⊢
    have hN2 : N ≤ 1000000 := by rw [hN]; exact Nat.le_trans (Nat.succ_le_succ hw) (by decide)
    clear h ha hlen
    generalize XF s0 w (some (.own .loc (wl R w))) (ii p) (dd (fr (xq n))) none = ρ0 at hb ⊢
    have h3 : mCons (bin dAdd (un dLen (mVar 1)) (mC (.int 1))) mNil ρ0 = some ([.int (N : Int)], ρ0) := c_acons hb rfl c_anil
    exact c_rng1 h3 hN2
  have hd : rngD 0 (w.length + 1) = .int ((0 : Nat) : Int) :: ((List.range w.length).map fun k => .int ((k + 1 : Nat) : Int)) := by
    unfold rngD
    rw [List.range_succ_eq_map, List.map_cons, List.map_map]
    refine congrArg (fun t => PyData.int ((0 : Nat) : Int) :: t) (List.map_congr_left fun k _ => ?_)
    show (PyData.int (0 + ((k + 1 : Nat) : Int))) = .int ((k + 1 : Nat) : Int)
    rw [Int.zero_add]
  have hwl : wl ((p, n) :: R) w = fr (vl 0 (wN ((p, n) :: R) (w.take 0).reverse)) :: ((List.range w.length).map fun k => fr (vl (k + 1) (wN ((p, n) :: R) (w.take (k + 1)).reverse))) := by
    unfold wl
    rw [List.range_succ_eq_map, List.map_cons, List.map_map]; rfl
  have hc2 : cloop (mN 5) mYes (mCall (cl 23) (rVal (mVar 2) (rVal (mSl (mVar 1) mNoPart (mPart (mVar 5))) (rVal (mVar 3) (rVal (mVar 4) rNil))))) [5] ((List.range w.length).map fun k => .int ((k + 1 : Nat) : Int)) (XF s0 w (dd (.list (wl R w))) (ii p) (dd (fr (xq n))) none) = some ((List.range w.length).map fun k => fr (vl (k + 1) (wN ((p, n) :: R) (w.take (k + 1)).reverse)), XF s0 w (dd (.list (wl R w))) (ii p) (dd (fr (xq n))) none) :=
    c_cmap (fun k : Nat => .int ((k + 1 : Nat) : Int)) (fun k => fr (vl (k + 1) (wN ((p, n) :: R) (w.take (k + 1)).reverse))) _ fun k hk => by
      have hk2 := List.mem_range.mp hk
      exact ⟨_, _, _, _, rfl, ww_call B hR hl hn hw (.inr rfl) (by omega), rfl, rfl⟩
  have hc : cloop (mN 5) mYes (mCall (cl 23) (rVal (mVar 2) (rVal (mSl (mVar 1) mNoPart (mPart (mVar 5))) (rVal (mVar 3) (rVal (mVar 4) rNil))))) [5] (rngD 0 (w.length + 1)) (XF s0 w (some (.own .loc (wl R w))) (ii p) (dd (fr (xq n))) none) = some (wl ((p, n) :: R) w, XF s0 w (dd (.list (wl R w))) (ii p) (dd (fr (xq n))) none) := by
    rw [hd, hwl]
    exact c_ccons (ρ1 := XF s0 w (some (.own .loc (wl R w))) (ii p) (dd (fr (xq n))) (ii ((0 : Nat) : Int))) rfl rfl (ww_call B hR hl hn hw (.inl rfl) (Nat.zero_le _)) rfl hc2
  have hlw : (wl ((p, n) :: R) w).length ≤ 10000 := by unfold wl; rw [List.length_map, List.length_range]; omega
  exact c_set (c_comp (ρ3 := XF s0 w (dd (.list (wl R w))) (ii p) (dd (fr (xq n))) none) hr rfl hc (c_fits hlw) rfl) rfl
theorem ww_loop {cl : Nat → Fn} (B : WbP (cl 23)) {w : List Int} {s0 : Option Sv} (hw : w.length ≤ 3) : ∀ (r R : List (Int × Int)) (s3 s4 : Option Sv), (∀ x ∈ r, x.2.natAbs ≤ 18) → (∀ x ∈ R, x.2.natAbs ≤ 18) → R.length + r.length ≤ 8 →
    ∃ y3 y4, loop (mGseq 2 (mGcons (mN 3) (mGcons (mN 4) mGnil))) (wwB cl) (r.map prD) (XF s0 w (some (.own .loc (wl R w))) s3 s4 none) = some (.next, XF s0 w (some (.own .loc (wl (r.reverse ++ R) w))) y3 y4 none)
  | [], R, s3, s4, _, _, _ => ⟨s3, s4, rfl⟩
  | (p, n) :: r, R, s3, s4, hr, hR, hl => by
    rw [List.length_cons] at hl
    have hn : n.natAbs ≤ 18 := hr (p, n) (List.mem_cons_self ..)
    obtain ⟨y3, y4, e⟩ := ww_loop B hw r ((p, n) :: R) (ii p) (dd (fr (xq n))) (fun x hx => hr x (List.mem_cons_of_mem _ hx)) (fun x hx => by
      rcases List.mem_cons.mp hx with rfl | hx
      · exact hn
      · exact hR x hx) (by rw [List.length_cons]; omega)
    refine ⟨y3, y4, ?_⟩
    rw [List.reverse_cons, List.append_assoc]
    exact c_cons (ρ1 := XF s0 w (some (.own .loc (wl R w))) (ii p) (dd (fr (xq n))) none) rfl (ww_step B hR (by omega) hn hw) e
end K41

namespace K41
open PySem Vi PyProof.Rows
theorem zero_fr (l : Nat) : fr (vl l 0) = .tuple ([0, 1].map .int) := by
  unfold vl
  rw [Rat.zero_mkRat]; rfl
theorem wl_nil (w : List Int) : wl [] w = .tuple ([1, 1].map .int) :: List.replicate w.length (.tuple ([0, 1].map .int)) := by
  unfold wl
  rw [List.range_succ_eq_map, List.map_cons, List.map_map]
  have h0 : fr (vl 0 (wN [] (w.take 0).reverse)) = .tuple ([1, 1].map .int) := one_fr
  rw [h0]
  refine congrArg (fun t => (.tuple ([1, 1].map .int) : D) :: t) ?_
  refine List.eq_replicate_iff.mpr ⟨by rw [List.length_map, List.length_range], fun x hx => ?_⟩
  obtain ⟨k, hk, rfl⟩ := List.mem_map.mp hx
  have hk2 := List.mem_range.mp hk
  show fr (vl (k + 1) (wN [] (w.take (k + 1)).reverse)) = _
  have : wN [] (w.take (k + 1)).reverse = 0 := by
    unfold wN
    rw [if_neg]
    intro h
    have := congrArg List.length h
    rw [List.length_reverse, List.length_take, List.length_nil] at this
    omega
  rw [this, zero_fr]
theorem v_rep2 {ma : MA} {mb : ME} {ρ : Fm} {d : D} {k : Nat} (h : EA ma ρ [d]) (hb : EV mb ρ (.int (k : Int))) (hk : k ≤ 1000) : mRep (mLst ma) mb ρ = some (.val (.own .loc (List.replicate k d)), ρ) := by
  have h1 := v_lst h (by simp)
  obtain ⟨pr, e1, _, e2⟩ := hb
  have hd : decide (-(2 ^ 63) ≤ (k : Int) ∧ (k : Int) < 2 ^ 63 ∧ ([d] : List D).length * ((k : Int)).toNat ≤ sizeLine) = true := decide_eq_true ⟨by omega, by omega, by rw [Int.toNat_natCast]; simp [sizeLine]; omega⟩
  have hf : ∀ n : Nat, (List.replicate n [d]).flatten = List.replicate n d := fun n => by
    induction n with
    | zero => rfl
    | succ n ih => rw [List.replicate_succ, List.flatten_cons, ih]; rfl
  unfold mRep
  rw [h1]
  simp only [e1, e2]
  rw [if_pos hd, Int.toNat_natCast, hf]
theorem at_end {L : List D} {n : Nat} {d : D} (hl : L.length = n + 1) (h : L[n]? = some d) : L2.atI L (-1) = some d := by
  unfold L2.atI L2.ixN
  rw [if_neg (by decide), if_pos (by omega), hl]
  have : ((-1 : Int) + ((n + 1 : Nat) : Int)).toNat = n := by omega
  rw [this]
  exact h
theorem ww_ok {cl : Nat → Fn} (B : WbP (cl 23)) : WorthP (fn22 cl) := fun r w hr hl hw => by
  have hlen : (il w).length = w.length := List.length_map ..
  have hL : dLen (.tuple (il w)) = some (.imm (.int (w.length : Int))) := by
    show some (Sv.imm (.int ((il w).length : Int))) = _
    rw [hlen]
  have s1 : mSet 2 (bin dAdd (mLst (mCons (mC (.tuple ([1, 1].map .int))) mNil)) (mRep (mLst (mCons (mC (.tuple ([0, 1].map .int))) mNil)) (un dLen (mVar 1)))) (XF (dd (rowD r)) w none none none none) = some (.next, XF (dd (rowD r)) w (some (.own .loc (wl [] w))) none none none) := by
    rw [wl_nil]
    exact c_set (c_bin (v_lst (ea_cons ev_c ea_nil) (by simp)) (v_rep2 (ea_cons ev_c ea_nil) (e_un (ev_var (i := 1) rfl) hL) (by omega)) rfl rfl (c_addL (by simp; omega))) rfl
  obtain ⟨y3, y4, e⟩ := ww_loop (s0 := dd (rowD r)) B hw r [] none none hr (fun x hx => by cases hx) (by simp; omega)
  rw [List.append_nil] at e
  have hi : mISeq (mVar 0) (XF (dd (rowD r)) w (some (.own .loc (wl [] w))) none none none) = some (r.map prD, XF (dd (rowD r)) w (some (.own .loc (wl [] w))) none none none) := rfl
  have hwl : (wl r.reverse w).length = w.length + 1 := by unfold wl; rw [List.length_map, List.length_range]
  have ha := at_end hwl (wl_at (R := r.reverse) (w := w) (Nat.le_refl _))
  rw [List.take_length] at ha
  have hx : dIx (.list (wl r.reverse w)) (.int (-1)) = some (.imm (fr (vl w.length (wN r.reverse w.reverse)))) := by
    show (L2.atI (wl r.reverse w) (-1)).map Sv.imm = _
    rw [ha]; rfl
  rw [ww_fn]
  exact c_fn (ρ0 := XF (dd (rowD r)) w none none none none) rfl rfl (c_seq s1 (c_seq (c_for hi e) (c_ret (c_bin rfl rfl rfl rfl hx) rfl))) rfl
end K41

namespace K41
open PySem Vi PyProof.Rows
/-! cuts, and a tuple that is () -/
theorem cut_but (L : List D) (x : D) : Vi.cutD (L ++ [x]) none (some (-1)) = L := by
  unfold Vi.cutD
  rw [HT.sIx_none]
  have h : HT.sIx (L ++ [x]).length (L ++ [x]).length (some (-1)) = L.length := by
    show (if (-1 : Int) < 0 then ((-1 : Int) + ((L ++ [x]).length : Int)).toNat else min (-1 : Int).toNat (L ++ [x]).length) = L.length
    rw [if_pos (by decide), List.length_append, List.length_singleton]
    omega
  rw [h]
  simp
theorem lay_pr (p : Int × Int) : PyData.canLay0 (prD p) = true := by
  unfold prD fr
  simp [PyData.canLay0, PyData.canLayAll0]
theorem dep_pr (p : Int × Int) : PyData.depth (prD p) ≤ 2 := by
  unfold prD fr
  simp [PyData.depth, PyData.depthAll]
theorem lay_row : ∀ r : List (Int × Int), PyData.canLayAll0 (r.map prD) = true
  | [] => by rw [List.map_nil, PyData.canLayAll0]
  | p :: r => by rw [List.map_cons, PyData.canLayAll0, lay_row r, lay_pr]; rfl
theorem dep_row : ∀ r : List (Int × Int), PyData.depthAll (r.map prD) ≤ 2
  | [] => by rw [List.map_nil, PyData.depthAll]; decide
  | p :: r => by rw [List.map_cons, PyData.depthAll]; exact Nat.max_le.mpr ⟨dep_pr p, dep_row r⟩
theorem ok_rowD (r : List (Int × Int)) : okD (rowD r) = true := by
  have h := dep_row r
  show (PyData.canLay0 (.tuple (r.map prD)) && decide (PyData.depth (.tuple (r.map prD)) ≤ 64)) = true
  rw [PyData.canLay0, lay_row, PyData.depth, decide_eq_true (by omega)]; rfl
theorem lay_il : ∀ w : List Int, PyData.canLayAll0 (il w) = true
  | [] => by rw [show il [] = [] from rfl, PyData.canLayAll0]
  | a :: w => by rw [show il (a :: w) = .int a :: il w from rfl, PyData.canLayAll0, lay_il w, PyData.canLay0]; rfl
theorem dep_il : ∀ w : List Int, PyData.depthAll (il w) ≤ 0
  | [] => by rw [show il [] = [] from rfl, PyData.depthAll]; decide
  | a :: w => by rw [show il (a :: w) = .int a :: il w from rfl, PyData.depthAll, PyData.depth]; exact Nat.max_le.mpr ⟨Nat.le_refl _, dep_il w⟩
theorem ok_ilD (w : List Int) : okD (.tuple (il w)) = true := by
  have h := dep_il w
  show (PyData.canLay0 (.tuple (il w)) && decide (PyData.depth (.tuple (il w)) ≤ 64)) = true
  rw [PyData.canLay0, lay_il, PyData.depth, decide_eq_true (by omega)]; rfl
theorem ok_nil : okD (.tuple []) = true := ok_ilD []
theorem eq_nil {L : List D} (h : okD (.tuple L) = true) : dEq (.tuple L) (.tuple []) = some (.imm (.bool L.isEmpty)) := by
  unfold dEq
  rw [h, ok_nil]
  have : PyData.eqv (.tuple L) (.tuple []) = L.isEmpty := by
    cases L with
    | nil => simp [PyData.eqv, PyData.eqvAll]
    | cons x L => simp [PyData.eqv, PyData.eqvAll]
  rw [this]; rfl
end K41

namespace K41
open PySem Vi PyProof.Rows
/-! the law's worth of a word -/
structure Al (cl : Nat → Fn) : Prop where
  low : LowP (cl 38)
  add : LaddP (cl 40)
  mul : LmulP (cl 41)
def LwP (f : Fn) (m : Nat) : Prop := ∀ (r : List (Int × Int)) (w : List Int), (∀ x ∈ r, x.2.natAbs ≤ 18) → r.length ≤ m → w.length ≤ 3 →
  f [.imm (rowD r), .imm (.tuple (il w))] = some (.imm (fr (vl w.length (wN r.reverse w.reverse))), [none, none])
theorem share_low (q x : Rat) (m : Nat) : mkRat (q.num * x.num) (q.den * x.den * m) = q * mkRat x.num (x.den * m) := by
  have h := Rat.mkRat_mul_mkRat q.num x.num q.den (x.den * m)
  rw [Rat.mkRat_self] at h
  rw [h, Nat.mul_assoc]
def luRow : ME := (mSl (mVar 0) mNoPart (mPart (un dNeg (mC (.int 1)))))
def luB (cl : Nat → Fn) : MS := (mSeq (mIfS (mOrT (mB (bin dEq (mVar 6) (mTup mNil))) (mB (bin dNe (bin dIx (mVar 6) (un dNeg (mC (.int 1)))) (mVar 2)))) (mRet (mVar 4)) mNext) (mSeq (mSet 6 (mSl (mVar 6) mNoPart (mPart (un dNeg (mC (.int 1)))))) (mSeq (mSet 5 (mCall (cl 38) (rVal (bin dMul (bin dIx (mVar 5) (mC (.int 0))) (bin dIx (mVar 3) (mC (.int 0)))) (rVal (bin dMul (bin dMul (bin dIx (mVar 5) (mC (.int 1))) (bin dIx (mVar 3) (mC (.int 1)))) (mVar 7)) rNil)))) (mSet 4 (mCall (cl 40) (rVal (mVar 4) (rVal (mCall (cl 41) (rVal (mVar 5) (rVal (mCall (cl 44) (rVal luRow (rVal (mVar 6) rNil))) rNil))) rNil)))))))
theorem lu_fn (cl : Nat → Fn) : fn44 cl = mFn 8 2 (mSeq (mIfS (mB (bin dEq (mVar 0) (mTup mNil))) (mRet (mTup (mCons (un dInt (bin dEq (mVar 1) (mTup mNil))) (mCons (mC (.int 1)) mNil)))) mNext) (mSeq (mAsgG (bin dIx (mVar 0) (un dNeg (mC (.int 1)))) (mGtup 2 (mGcons (mN 2) (mGcons (mN 3) mGnil)))) (mSeq (mPar3O 4 5 6 (mCall (cl 44) (rVal luRow (rVal (mVar 1) rNil))) (mTup (mCons (mC (.int 1)) (mCons (mC (.int 1)) mNil))) (mVar 1)) (mSeq (mFor (mIRng2 (mCons (mC (.int 1)) (mCons (bin dAdd (un dLen (mVar 1)) (mC (.int 1))) mNil))) (mN 7) (luB cl)) (mRet (mVar 4)))))) := rfl
theorem lu_zero {cl : Nat → Fn} : LwP (fn44 cl) 0 := fun r w _ hl _ => by
  cases List.length_eq_zero_iff.mp (Nat.le_zero.mp hl)
  have h1 : mB (bin dEq (mVar 0) (mTup mNil)) [dd (rowD []), dd (.tuple (il w)), none, none, none, none, none, none] = some (true, [dd (rowD []), dd (.tuple (il w)), none, none, none, none, none, none]) := rfl
  have h2 : bin dEq (mVar 1) (mTup mNil) [dd (rowD []), dd (.tuple (il w)), none, none, none, none, none, none] = some (.val (.imm (.bool (il w).isEmpty)), [dd (rowD []), dd (.tuple (il w)), none, none, none, none, none, none]) := c_bin rfl rfl rfl rfl (eq_nil (ok_ilD w))
  rw [lu_fn]
  cases w with
  | nil =>
    have e : fr (vl ([] : List Int).length (wN [].reverse [].reverse)) = .tuple [.int 1, .int 1] := one_fr
    rw [e]
    have hs : mRet (mTup (mCons (un dInt (bin dEq (mVar 1) (mTup mNil))) (mCons (mC (.int 1)) mNil))) [dd (rowD []), dd (.tuple (il [])), none, none, none, none, none, none] = some (.ret (.imm (.tuple [.int 1, .int 1])), [dd (rowD []), dd (.tuple (il [])), none, none, none, none, none, none]) := rfl
    exact c_fn (ρ0 := [dd (rowD []), dd (.tuple (il [])), none, none, none, none, none, none]) rfl rfl (c_seqR (c_ifT h1 hs)) rfl
  | cons c w =>
    have e : fr (vl (c :: w).length (wN [].reverse (c :: w).reverse)) = .tuple [.int 0, .int 1] := by
      have : wN [].reverse (c :: w).reverse = 0 := by
        show (if (c :: w).reverse = [] then (1 : Int) else 0) = 0
        rw [if_neg (by simp)]
      rw [this]; exact zero_fr _
    rw [e]
    have hs : mRet (mTup (mCons (un dInt (bin dEq (mVar 1) (mTup mNil))) (mCons (mC (.int 1)) mNil))) [dd (rowD []), dd (.tuple (il (c :: w))), none, none, none, none, none, none] = some (.ret (.imm (.tuple [.int 0, .int 1])), [dd (rowD []), dd (.tuple (il (c :: w))), none, none, none, none, none, none]) :=
      c_ret (c_tup (c_acons (c_un h2 rfl rfl) rfl (c_acons rfl rfl c_anil)) rfl) rfl
    exact c_fn (ρ0 := [dd (rowD []), dd (.tuple (il (c :: w))), none, none, none, none, none, none]) rfl rfl (c_seqR (c_ifT h1 hs)) rfl
end K41

namespace K41
open PySem Vi PyProof.Rows
abbrev LF (r : List (Int × Int)) (w : List Int) (p n : Int) (s4 s5 s6 s7 : Option Sv) : Fm := [dd (.tuple (r.map prD ++ [prD (p, n)])), dd (.tuple (il w)), ii p, dd (fr (xq n)), s4, s5, s6, s7]
theorem lu_row {r : List (Int × Int)} {w : List Int} {p n : Int} {s4 s5 s6 s7 : Option Sv} : luRow (LF r w p n s4 s5 s6 s7) = some (.val (.imm (rowD r)), LF r w p n s4 s5 s6 s7) := by
  have hc := cut_but (r.map prD) (prD (p, n))
  have : luRow (LF r w p n s4 s5 s6 s7) = some (.val (.imm (.tuple (Vi.cutD (r.map prD ++ [prD (p, n)]) none (some (-1))))), LF r w p n s4 s5 s6 s7) := rfl
  rw [this, hc]
theorem at_back (L : List D) (x : D) : dIx (.tuple (L ++ [x])) (.int (-1)) = some (.imm x) := by
  show (L2.atI (L ++ [x]) (-1)).map Sv.imm = _
  rw [at_end (n := L.length) (d := x) (by simp) (by simp)]; rfl
theorem il_rev (c : Int) (u : List Int) : il (c :: u).reverse = il u.reverse ++ [.int c] := by
  unfold il
  rw [List.reverse_cons, List.map_append]; rfl
theorem lu_loop {cl : Nat → Fn} (A : Al cl) {m : Nat} (hL : LwP (cl 44) m) {r : List (Int × Int)} {p n : Int} {w : List Int} (hr : ∀ x ∈ r, x.2.natAbs ≤ 18) (hl : r.length ≤ m) (hm : m ≤ 7) (hn : n.natAbs ≤ 18) (hw : w.length ≤ 3) :
    ∀ (u : List Int) (j : Nat) (s t : Int) (s7 : Option Sv), j + u.length = w.length → s.natAbs ≤ 18 ^ j → t.natAbs ≤ 10 ^ 9 + j * 10 ^ 12 →
      ∃ (y5 y6 y7 : Option Sv), loop (mN 7) (luB cl) (rngD ((j : Int) + 1) u.length) (LF r w p n (dd (fr (vl w.length t))) (dd (fr (vl j s))) (dd (.tuple (il u.reverse))) s7) = some (.next, LF r w p n (dd (fr (vl w.length (t + sm p n w.length (wN r.reverse) j s u)))) y5 y6 y7) ∨
        loop (mN 7) (luB cl) (rngD ((j : Int) + 1) u.length) (LF r w p n (dd (fr (vl w.length t))) (dd (fr (vl j s))) (dd (.tuple (il u.reverse))) s7) = some (.ret (.imm (fr (vl w.length (t + sm p n w.length (wN r.reverse) j s u)))), LF r w p n (dd (fr (vl w.length (t + sm p n w.length (wN r.reverse) j s u)))) y5 y6 y7)
  | [], j, s, t, s7, _, _, _ => ⟨_, _, _, .inl (by rw [show sm p n w.length (wN r.reverse) j s [] = 0 from rfl, Int.add_zero]; rfl)⟩
  | c :: u, j, s, t, s7, hj, hs, ht => by
    have hlen : u.length + 1 + j = w.length := by rw [List.length_cons] at hj; omega
    have hrR : ∀ x ∈ r.reverse, x.2.natAbs ≤ 18 := fun x hx => hr x (List.mem_reverse.mp hx)
    have hN := wN_small hrR (by rw [List.length_reverse]; omega) (w := u) (by omega)
    have e1 : mB (bin dEq (mVar 6) (mTup mNil)) (LF r w p n (dd (fr (vl w.length t))) (dd (fr (vl j s))) (dd (.tuple (il (c :: u).reverse))) (ii ((j : Int) + 1))) = some (false, LF r w p n (dd (fr (vl w.length t))) (dd (fr (vl j s))) (dd (.tuple (il (c :: u).reverse))) (ii ((j : Int) + 1))) := by
      have h := eq_nil (ok_ilD (c :: u).reverse)
      rw [show (il (c :: u).reverse).isEmpty = false by rw [il_rev]; simp] at h
      exact c_b (c_bin rfl rfl rfl rfl h)
    have e2 : mB (bin dNe (bin dIx (mVar 6) (un dNeg (mC (.int 1)))) (mVar 2)) (LF r w p n (dd (fr (vl w.length t))) (dd (fr (vl j s))) (dd (.tuple (il (c :: u).reverse))) (ii ((j : Int) + 1))) = some (!(c == p), LF r w p n (dd (fr (vl w.length t))) (dd (fr (vl j s))) (dd (.tuple (il (c :: u).reverse))) (ii ((j : Int) + 1))) := by
      have h := at_back (il u.reverse) (.int c)
      rw [← il_rev] at h
      exact c_b (c_bin (c_bin rfl rfl rfl rfl h) rfl rfl rfl (ne_int c p))
    have et := c_orTF e1 e2
    rw [show (c :: u).length = u.length + 1 from rfl, rng_cons]
    by_cases hcp : c = p
    · rw [show (!(c == p)) = false by simp [hcp]] at et
      have hj3 : j < 3 := by omega
      have hs1 : (s * n).natAbs ≤ 18 ^ (j + 1) := by
        have := abs_mul_le hs hn
        rw [Nat.pow_succ]; exact this
      have hs5 : 18 ^ (j + 1) ≤ 5832 := by
        have hj' : j = 0 ∨ j = 1 ∨ j = 2 := by omega
        rcases hj' with rfl | rfl | rfl <;> decide
      have hs0 : 18 ^ j ≤ 5832 := Nat.le_trans (Nat.pow_le_pow_right (by decide) (Nat.le_succ j)) hs5
      have hadd : (ch w.length (j + 1) * (s * n * wN r.reverse u)).natAbs ≤ 10 ^ 12 := by
        have a1 := abs_mul_le (Nat.le_trans hs1 hs5) hN
        have a2 := abs_mul_le (ch_le w.length (j + 1)) a1
        exact Nat.le_trans a2 (by decide)
      have h80 : (10 : Nat) ^ 9 + 3 * 10 ^ 12 < 2 ^ 80 := by decide
      have hj12 : j * 10 ^ 12 ≤ 2 * 10 ^ 12 := Nat.mul_le_mul_right _ (by omega)
      have hsj : Sd (vl j s) := vl_sd (by omega)
      have hxn := xq_sd hn
      have hden : (vl j s).den * (xq n).den * (j + 1) < 2 ^ 190 := by
        have a := Nat.mul_le_mul (Nat.le_of_lt hsj.den) (Nat.le_of_lt hxn.den)
        have b := Nat.mul_le_mul a (show j + 1 ≤ 3 by omega)
        exact Nat.lt_of_le_of_lt b (by decide)
      have q1 := A.low ((vl j s).num * (xq n).num) ((vl j s).den * (xq n).den * (j + 1)) (Nat.mul_pos (Nat.mul_pos (Frac_pos _) (Frac_pos _)) (by omega)) hden
      rw [share_low, share_next hj3, Int.natCast_mul, Int.natCast_mul] at q1
      have q2 := hL r u.reverse hr hl (by rw [List.length_reverse]; omega)
      rw [List.length_reverse, List.reverse_reverse] at q2
      have q3 := A.mul (fr (vl (j + 1) (s * n))) (fr (vl u.length (wN r.reverse u))) _ _ (isFr _) (isFr _) (vl_sd (by omega)) (vl_sd (by omega))
      rw [vl_mul (by omega), show j + 1 + u.length = w.length by omega] at q3
      have q4 := A.add (fr (vl w.length t)) (fr (vl w.length (ch w.length (j + 1) * (s * n * wN r.reverse u)))) _ _ (isFr _) (isFr _) (vl_sd (by omega)) (vl_sd (by omega))
      rw [vl_add] at q4
      have m1 : dMul (.int (vl j s).num) (.int (xq n).num) = some (.imm (.int ((vl j s).num * (xq n).num))) := mul_int hsj.num hxn.num
      have m2 : dMul (.int ((vl j s).den : Int)) (.int ((xq n).den : Int)) = some (.imm (.int (((vl j s).den : Int) * ((xq n).den : Int)))) := mul_int hsj.sm.den hxn.sm.den
      have m3 : dMul (.int (((vl j s).den : Int) * ((xq n).den : Int))) (.int ((j : Int) + 1)) = some (.imm (.int (((vl j s).den : Int) * ((xq n).den : Int) * ((j + 1 : Nat) : Int)))) := by
        have h1 : (((vl j s).den : Int) * ((xq n).den : Int)).natAbs < 2 ^ 90 := by
          rw [← Int.natCast_mul, Int.natAbs_natCast]
          exact Nat.lt_of_le_of_lt (Nat.mul_le_mul (Nat.le_of_lt hsj.den) (Nat.le_of_lt hxn.den)) (by decide)
        exact mul_int h1 (by omega)
      have ec : il (c :: u).reverse = il u.reverse ++ [.int c] := il_rev c u
      have s6 : mSet 6 (mSl (mVar 6) mNoPart (mPart (un dNeg (mC (.int 1))))) (LF r w p n (dd (fr (vl w.length t))) (dd (fr (vl j s))) (dd (.tuple (il (c :: u).reverse))) (ii ((j : Int) + 1))) = some (.next, LF r w p n (dd (fr (vl w.length t))) (dd (fr (vl j s))) (dd (.tuple (il u.reverse))) (ii ((j : Int) + 1))) := by
        have hc := cut_but (il u.reverse) (.int c)
        rw [← ec] at hc
        have : mSl (mVar 6) mNoPart (mPart (un dNeg (mC (.int 1)))) (LF r w p n (dd (fr (vl w.length t))) (dd (fr (vl j s))) (dd (.tuple (il (c :: u).reverse))) (ii ((j : Int) + 1))) = some (.val (.imm (.tuple (Vi.cutD (il (c :: u).reverse) none (some (-1))))), LF r w p n (dd (fr (vl w.length t))) (dd (fr (vl j s))) (dd (.tuple (il (c :: u).reverse))) (ii ((j : Int) + 1))) := rfl
        rw [hc] at this
        exact c_set this rfl
      have s5 : mSet 5 (mCall (cl 38) (rVal (bin dMul (bin dIx (mVar 5) (mC (.int 0))) (bin dIx (mVar 3) (mC (.int 0)))) (rVal (bin dMul (bin dMul (bin dIx (mVar 5) (mC (.int 1))) (bin dIx (mVar 3) (mC (.int 1)))) (mVar 7)) rNil))) (LF r w p n (dd (fr (vl w.length t))) (dd (fr (vl j s))) (dd (.tuple (il u.reverse))) (ii ((j : Int) + 1))) = some (.next, LF r w p n (dd (fr (vl w.length t))) (dd (fr (vl (j + 1) (s * n)))) (dd (.tuple (il u.reverse))) (ii ((j : Int) + 1))) :=
        c_set (v_call2 (e_bin (ev_top (i := 5) rfl (isFr _)) (ev_top (i := 3) rfl (isFr _)) m1) (e_bin (e_bin (ev_bot (i := 5) rfl (isFr _)) (ev_bot (i := 3) rfl (isFr _)) m2) (ev_var (i := 7) rfl) m3) q1) rfl
      have s4 : mSet 4 (mCall (cl 40) (rVal (mVar 4) (rVal (mCall (cl 41) (rVal (mVar 5) (rVal (mCall (cl 44) (rVal luRow (rVal (mVar 6) rNil))) rNil))) rNil))) (LF r w p n (dd (fr (vl w.length t))) (dd (fr (vl (j + 1) (s * n)))) (dd (.tuple (il u.reverse))) (ii ((j : Int) + 1))) = some (.next, LF r w p n (dd (fr (vl w.length (t + ch w.length (j + 1) * (s * n * wN r.reverse u))))) (dd (fr (vl (j + 1) (s * n)))) (dd (.tuple (il u.reverse))) (ii ((j : Int) + 1))) :=
        c_set (v_call2 (ev_var (i := 4) rfl) (e_call2 (ev_var (i := 5) rfl) (e_call2 (ev_val lu_row) (ev_var (i := 6) rfl) q2) q3) q4) rfl
      have es : t + sm p n w.length (wN r.reverse) j s (c :: u) = t + ch w.length (j + 1) * (s * n * wN r.reverse u) + sm p n w.length (wN r.reverse) (j + 1) (s * n) u := by
        show t + (if c = p then _ else _) = _
        rw [if_pos hcp, Int.mul_assoc (ch w.length (j + 1)), Int.add_assoc]
      rw [es]
      have hb : luB cl (LF r w p n (dd (fr (vl w.length t))) (dd (fr (vl j s))) (dd (.tuple (il (c :: u).reverse))) (ii ((j : Int) + 1))) = some (.next, LF r w p n (dd (fr (vl w.length (t + ch w.length (j + 1) * (s * n * wN r.reverse u))))) (dd (fr (vl (j + 1) (s * n)))) (dd (.tuple (il u.reverse))) (ii ((j : Int) + 1))) :=
        c_seq (c_ifF et c_skip) (c_seq s6 (c_seq s5 s4))
      obtain ⟨y5, y6, y7, ih⟩ := lu_loop A hL hr hl hm hn hw u (j + 1) (s * n) (t + ch w.length (j + 1) * (s * n * wN r.reverse u)) (ii ((j : Int) + 1)) (by omega) hs1 (by
        have : (j + 1) * 10 ^ 12 = j * 10 ^ 12 + 10 ^ 12 := by rw [Nat.add_mul, Nat.one_mul]
        omega)
      refine ⟨y5, y6, y7, ?_⟩
      rcases ih with ih | ih
      · exact .inl (c_cons (ρ1 := LF r w p n (dd (fr (vl w.length t))) (dd (fr (vl j s))) (dd (.tuple (il (c :: u).reverse))) (ii ((j : Int) + 1))) rfl hb ih)
      · exact .inr (c_cons (ρ1 := LF r w p n (dd (fr (vl w.length t))) (dd (fr (vl j s))) (dd (.tuple (il (c :: u).reverse))) (ii ((j : Int) + 1))) rfl hb ih)
    · rw [show (!(c == p)) = true by simp [hcp]] at et
      refine ⟨dd (fr (vl j s)), dd (.tuple (il (c :: u).reverse)), ii ((j : Int) + 1), .inr ?_⟩
      rw [show sm p n w.length (wN r.reverse) j s (c :: u) = 0 by unfold sm; rw [if_neg hcp], Int.add_zero]
      exact c_cons_ret (ρ1 := LF r w p n (dd (fr (vl w.length t))) (dd (fr (vl j s))) (dd (.tuple (il (c :: u).reverse))) (ii ((j : Int) + 1))) rfl (c_seqR (c_ifT et (c_ret rfl rfl)))
end K41

namespace K41
open PySem Vi PyProof.Rows
theorem lu_step {cl : Nat → Fn} (A : Al cl) {m : Nat} (hL : LwP (cl 44) m) (hm : m ≤ 7) : LwP (fn44 cl) (m + 1) := fun r0 w hr0 hl0 hw => by
  rcases List.eq_nil_or_concat r0 with rfl | ⟨r, q, rfl⟩
  · exact lu_zero (cl := cl) [] w hr0 (Nat.zero_le _) hw
  · obtain ⟨p, n⟩ := q
    rw [List.concat_eq_append] at *
    have hn : n.natAbs ≤ 18 := hr0 (p, n) (by simp)
    have hr : ∀ x ∈ r, x.2.natAbs ≤ 18 := fun x hx => hr0 x (by simp [hx])
    have hl : r.length ≤ m := by rw [List.length_append, List.length_singleton] at hl0; omega
    have hrR : ∀ x ∈ r.reverse, x.2.natAbs ≤ 18 := fun x hx => hr x (List.mem_reverse.mp hx)
    have hN := wN_small hrR (by rw [List.length_reverse]; omega) (w := w.reverse) (by rw [List.length_reverse]; exact hw)
    have hrow : rowD (r ++ [(p, n)]) = .tuple (r.map prD ++ [prD (p, n)]) := by
      show (.tuple ((r ++ [(p, n)]).map prD) : D) = _
      rw [List.map_append]; rfl
    have hok := ok_rowD (r ++ [(p, n)])
    rw [hrow] at hok ⊢
    have e0 : mB (bin dEq (mVar 0) (mTup mNil)) [dd (.tuple (r.map prD ++ [prD (p, n)])), dd (.tuple (il w)), none, none, none, none, none, none] = some (false, [dd (.tuple (r.map prD ++ [prD (p, n)])), dd (.tuple (il w)), none, none, none, none, none, none]) := by
      have h := eq_nil hok
      rw [show (r.map prD ++ [prD (p, n)]).isEmpty = false by simp] at h
      exact c_b (c_bin rfl rfl rfl rfl h)
    have e1 : mAsgG (bin dIx (mVar 0) (un dNeg (mC (.int 1)))) (mGtup 2 (mGcons (mN 2) (mGcons (mN 3) mGnil))) [dd (.tuple (r.map prD ++ [prD (p, n)])), dd (.tuple (il w)), none, none, none, none, none, none] = some (.next, LF r w p n none none none none) := by
      have h : bin dIx (mVar 0) (un dNeg (mC (.int 1))) [dd (.tuple (r.map prD ++ [prD (p, n)])), dd (.tuple (il w)), none, none, none, none, none, none] = some (.val (.imm (prD (p, n))), [dd (.tuple (r.map prD ++ [prD (p, n)])), dd (.tuple (il w)), none, none, none, none, none, none]) := c_bin rfl rfl rfl rfl (at_back (r.map prD) (prD (p, n)))
      unfold mAsgG
      rw [h]; rfl
    have q2 := hL r w hr hl hw
    have e2 : mPar3O 4 5 6 (mCall (cl 44) (rVal luRow (rVal (mVar 1) rNil))) (mTup (mCons (mC (.int 1)) (mCons (mC (.int 1)) mNil))) (mVar 1) (LF r w p n none none none none) = some (.next, LF r w p n (dd (fr (vl w.length (wN r.reverse w.reverse)))) (dd (fr (vl 0 1))) (dd (.tuple (il w.reverse.reverse))) none) := by
      have h : mCall (cl 44) (rVal luRow (rVal (mVar 1) rNil)) (LF r w p n none none none none) = some (.val (.imm (fr (vl w.length (wN r.reverse w.reverse)))), LF r w p n none none none none) := v_call2 (ev_val lu_row) (ev_var (i := 1) rfl) q2
      rw [List.reverse_reverse, one_fr]
      unfold mPar3O
      rw [h]; rfl
    obtain ⟨y5, y6, y7, e3⟩ := lu_loop A hL hr hl hm hn hw w.reverse 0 1 (wN r.reverse w.reverse) none (by rw [List.length_reverse]; omega) (by decide) (by omega)
    have hrg : mIRng2 (mCons (mC (.int 1)) (mCons (bin dAdd (un dLen (mVar 1)) (mC (.int 1))) mNil)) (LF r w p n (dd (fr (vl w.length (wN r.reverse w.reverse)))) (dd (fr (vl 0 1))) (dd (.tuple (il w.reverse.reverse))) none) = some (rngD (((0 : Nat) : Int) + 1) w.reverse.length, LF r w p n (dd (fr (vl w.length (wN r.reverse w.reverse)))) (dd (fr (vl 0 1))) (dd (.tuple (il w.reverse.reverse))) none) := by
      have h : dLen (.tuple (il w)) = some (.imm (.int (w.length : Int))) := by
        show some (Sv.imm (.int ((il w).length : Int))) = _
        rw [List.length_map]
      exact c_rng2 (i := 1) (j := (w.length : Int) + 1) (c_acons rfl rfl (c_acons (v_bin (e_un (ev_var (i := 1) rfl) h) ev_c rfl) rfl c_anil)) (by omega) (by omega) (by rw [List.length_reverse]; omega)
    have es : wN (r ++ [(p, n)]).reverse w.reverse = wN r.reverse w.reverse + sm p n w.length (wN r.reverse) 0 1 w.reverse := by
      rw [List.reverse_append]
      show wN ((p, n) :: r.reverse) w.reverse = _
      rw [wN, List.length_reverse]
    rw [es, lu_fn]
    rcases e3 with e3 | e3
    · exact c_fn (ρ0 := [dd (.tuple (r.map prD ++ [prD (p, n)])), dd (.tuple (il w)), none, none, none, none, none, none]) rfl rfl (c_seq (c_ifF e0 c_skip) (c_seq e1 (c_seq e2 (c_seq (c_for hrg e3) (c_ret rfl rfl))))) rfl
    · exact c_fn (ρ0 := [dd (.tuple (r.map prD ++ [prD (p, n)])), dd (.tuple (il w)), none, none, none, none, none, none]) rfl rfl (c_seq (c_ifF e0 c_skip) (c_seq e1 (c_seq e2 (c_seqR (c_for hrg e3))))) rfl
end K41

namespace K41
open PySem Vi PyProof.Rows
/-! a sum of four products -/
theorem vl_cross (k : Int) : (vl 3 k).num * 1296 = k * ((vl 3 k).den : Int) := by
  have h : mkRat (vl 3 k).num (vl 3 k).den = mkRat k 1296 := by rw [Rat.mkRat_self]; rfl
  rw [Rat.mkRat_eq_iff (vl 3 k).den_nz (by decide)] at h
  exact h
theorem vl_of {a k : Int} {b : Nat} (hb : 0 < b) (h : a * 1296 = k * (b : Int)) : mkRat a b = vl 3 k := by
  unfold vl
  rw [Rat.mkRat_eq_iff (Nat.ne_of_gt hb) (by decide)]
  exact h
theorem vl_den (k : Int) : (vl 3 k).den ≤ 1296 := by
  obtain ⟨_, e2⟩ := low_rat k 1296 (by decide)
  have e3 : ((vl 3 k).den : Int) ≤ 1296 := by
    show ((mkRat k 1296).den : Int) ≤ 1296
    rw [e2]; exact Int.ediv_le_self _ (by decide)
  omega
abbrev DF (x y : D) (T B : Int) (s4 s5 s6 s7 s8 : Option Sv) : Fm := [dd x, dd y, ii T, ii B, s4, s5, s6, s7, s8]
def dtB (cl : Nat → Fn) : MS := (mSeq (mIfS (mOrT (mB (bin dEq (mVar 4) (mC (.int 0)))) (mB (bin dEq (mVar 6) (mC (.int 0))))) mCont mNext) (mSeq (mSet 8 (bin dMul (mVar 5) (mVar 7))) (mIfS (mB (bin dEq (mVar 8) (mVar 3))) (mSet 2 (bin dAdd (mVar 2) (bin dMul (mVar 4) (mVar 6)))) (mAsgG (mCall (cl 6) (rVal (bin dAdd (bin dMul (mVar 2) (mVar 8)) (bin dMul (bin dMul (mVar 4) (mVar 6)) (mVar 3))) (rVal (bin dMul (mVar 3) (mVar 8)) rNil))) (mGtup 2 (mGcons (mN 2) (mGcons (mN 3) mGnil)))))))
theorem dt_fn (cl : Nat → Fn) : fn15 cl = mFn 9 2 (mSeq (mPar 2 3 (mC (.int 0)) (mC (.int 1))) (mSeq (mFor (mIZipM (mCons (mVar 0) (mCons (mVar 1) mNil))) (mGtup 2 (mGcons (mGtup 2 (mGcons (mN 4) (mGcons (mN 5) mGnil))) (mGcons (mGtup 2 (mGcons (mN 6) (mGcons (mN 7) mGnil))) mGnil))) (dtB cl)) (mRet (mCall (cl 6) (rVal (mVar 2) (rVal (mVar 3) rNil)))))) := rfl
def gd (g : Int) : D := .tuple [.int g, .int 1]
def totK : List (Int × Int) → Int
  | [] => 0
  | (g, k) :: l => g * k + totK l
/-- what stands for K over 1296 -/
structure St (K T : Int) (B : Nat) : Prop where
  pos : 0 < B
  le : B ≤ 1296
  eq : T * 1296 = K * (B : Int)
theorem St.small {K T : Int} {B : Nat} (h : St K T B) : T.natAbs ≤ K.natAbs := by
  have e := congrArg Int.natAbs h.eq
  rw [Int.natAbs_mul, Int.natAbs_mul, Int.natAbs_natCast] at e
  have h1 : K.natAbs * B ≤ K.natAbs * 1296 := Nat.mul_le_mul_left _ h.le
  have h2 : (1296 : Int).natAbs = 1296 := rfl
  rw [h2] at e
  omega
theorem dt_step {cl : Nat → Fn} (F : FracP (cl 6)) {x y : D} {K T : Int} {B : Nat} {g k : Int} {s8 : Option Sv} (hg : g = 2 ∨ g = -2) (hk : k.natAbs ≤ 10 ^ 9) (hK : K.natAbs ≤ 10 ^ 12) (h : St K T B) :
    ∃ (T' : Int) (B' : Nat) (y8 : Option Sv), St (K + g * k) T' B' ∧ (dtB cl (DF x y T B (ii g) (ii 1) (ii (vl 3 k).num) (ii ((vl 3 k).den : Int)) s8) = some (.next, DF x y T' B' (ii g) (ii 1) (ii (vl 3 k).num) (ii ((vl 3 k).den : Int)) y8) ∨
      dtB cl (DF x y T B (ii g) (ii 1) (ii (vl 3 k).num) (ii ((vl 3 k).den : Int)) s8) = some (.cont, DF x y T' B' (ii g) (ii 1) (ii (vl 3 k).num) (ii ((vl 3 k).den : Int)) y8)) := by
  have hT := h.small
  have hc := vl_cross k
  have hd := vl_den k
  have hdp := Frac_pos (vl 3 k)
  have hq : St k (vl 3 k).num (vl 3 k).den := ⟨hdp, hd, hc⟩
  have hqn := hq.small
  generalize (vl 3 k).num = c at *
  generalize (vl 3 k).den = d at *
  have g0 : (g == 0) = false := by rcases hg with rfl | rfl <;> rfl
  have t1 : mB (bin dEq (mVar 4) (mC (.int 0))) (DF x y T B (ii g) (ii 1) (ii c) (ii (d : Int)) s8) = some (false, DF x y T B (ii g) (ii 1) (ii c) (ii (d : Int)) s8) := by
    have e := eq_int g 0
    rw [g0] at e
    exact c_b (c_bin rfl rfl rfl rfl e)
  have t2 : mB (bin dEq (mVar 6) (mC (.int 0))) (DF x y T B (ii g) (ii 1) (ii c) (ii (d : Int)) s8) = some (c == 0, DF x y T B (ii g) (ii 1) (ii c) (ii (d : Int)) s8) := c_b (c_bin rfl rfl rfl rfl (eq_int c 0))
  have hga : g.natAbs ≤ 2 := by rcases hg with rfl | rfl <;> decide
  by_cases h0 : c = 0
  · have hk0 : k = 0 := by
      rw [h0, Int.zero_mul] at hc
      rcases Int.mul_eq_zero.mp hc.symm with h | h
      · exact h
      · omega
    rw [show (c == 0) = true by simp [h0]] at t2
    refine ⟨T, B, s8, by rw [hk0, Int.mul_zero, Int.add_zero]; exact h, .inr ?_⟩
    unfold dtB
    have hi : mIfS (mOrT (mB (bin dEq (mVar 4) (mC (.int 0)))) (mB (bin dEq (mVar 6) (mC (.int 0))))) mCont mNext (DF x y T B (ii g) (ii 1) (ii c) (ii (d : Int)) s8) = some (.cont, DF x y T B (ii g) (ii 1) (ii c) (ii (d : Int)) s8) := c_ifT (c_orTF t1 t2) rfl
    unfold mSeq
    rw [hi]
  · rw [show (c == 0) = false by simp [h0]] at t2
    have m1 : dMul (.int 1) (.int (d : Int)) = some (.imm (.int (d : Int))) := by
      have := mul_int (i := 1) (j := (d : Int)) (by decide) (by rw [Int.natAbs_natCast]; exact Nat.lt_of_le_of_lt hd (by decide))
      rw [Int.one_mul] at this; exact this
    have hgc := abs_mul_le hga hqn
    have m2 : dMul (.int g) (.int c) = some (.imm (.int (g * c))) := mul_int (Nat.lt_of_le_of_lt hga (by decide)) (by omega)
    have s8' : mSet 8 (bin dMul (mVar 5) (mVar 7)) (DF x y T B (ii g) (ii 1) (ii c) (ii (d : Int)) s8) = some (.next, DF x y T B (ii g) (ii 1) (ii c) (ii (d : Int)) (ii (d : Int))) := c_set (c_bin rfl rfl rfl rfl m1) rfl
    have te : mB (bin dEq (mVar 8) (mVar 3)) (DF x y T B (ii g) (ii 1) (ii c) (ii (d : Int)) (ii (d : Int))) = some ((d : Int) == (B : Int), DF x y T B (ii g) (ii 1) (ii c) (ii (d : Int)) (ii (d : Int))) := c_b (c_bin rfl rfl rfl rfl (eq_int _ _))
    by_cases hdB : d = B
    · rw [show ((d : Int) == (B : Int)) = true by simp [hdB]] at te
      refine ⟨T + g * c, B, ii (d : Int), ⟨h.pos, h.le, ?_⟩, .inl (c_seq (c_ifF (c_orTF t1 t2) c_skip) (c_seq s8' (c_ifT te (c_set (c_bin rfl (c_bin rfl rfl rfl rfl m2) rfl rfl rfl) rfl))))⟩
      have h1 := h.eq
      subst hdB
      grind
    · rw [show ((d : Int) == (B : Int)) = false by simp; omega] at te
      have hB := h.le
      have hpos := h.pos
      have hTd := abs_mul_le hT (show ((d : Int)).natAbs ≤ 1296 by rw [Int.natAbs_natCast]; exact hd)
      have hgcB := abs_mul_le hgc (show ((B : Int)).natAbs ≤ 1296 by rw [Int.natAbs_natCast]; exact hB)
      have m3 : dMul (.int T) (.int (d : Int)) = some (.imm (.int (T * (d : Int)))) := mul_int (by omega) (by omega)
      have m4 : dMul (.int (g * c)) (.int (B : Int)) = some (.imm (.int (g * c * (B : Int)))) := mul_int (by omega) (by omega)
      have m5 : dMul (.int (B : Int)) (.int (d : Int)) = some (.imm (.int ((B : Int) * (d : Int)))) := mul_int (by omega) (by omega)
      have hBd : B * d < 2 ^ 200 := Nat.lt_of_le_of_lt (Nat.mul_le_mul hB hd) (by decide)
      have f := F (T * (d : Int) + g * c * (B : Int)) (B * d) (Nat.mul_pos hpos hdp) hBd
      have hz : mkRat (T * (d : Int) + g * c * (B : Int)) (B * d) = vl 3 (K + g * k) := vl_of (Nat.mul_pos hpos hdp) (by
        have h1 := h.eq
        rw [Int.natCast_mul]
        grind)
      rw [hz, Int.natCast_mul] at f
      refine ⟨(vl 3 (K + g * k)).num, (vl 3 (K + g * k)).den, ii (d : Int), ⟨Frac_pos _, vl_den _, vl_cross _⟩, .inl (c_seq (c_ifF (c_orTF t1 t2) c_skip) (c_seq s8' (c_ifF te ?_)))⟩
      have hcall : mCall (cl 6) (rVal (bin dAdd (bin dMul (mVar 2) (mVar 8)) (bin dMul (bin dMul (mVar 4) (mVar 6)) (mVar 3))) (rVal (bin dMul (mVar 3) (mVar 8)) rNil)) (DF x y T B (ii g) (ii 1) (ii c) (ii (d : Int)) (ii (d : Int))) = some (.val (.imm (fr (vl 3 (K + g * k)))), DF x y T B (ii g) (ii 1) (ii c) (ii (d : Int)) (ii (d : Int))) :=
        v_call2 (ev_val (c_bin (c_bin rfl rfl rfl rfl m3) (c_bin (c_bin rfl rfl rfl rfl m2) rfl rfl rfl m4) rfl rfl rfl)) (ev_val (c_bin rfl rfl rfl rfl m5)) f
      unfold mAsgG
      rw [hcall]; rfl
end K41

namespace K41
open PySem Vi PyProof.Rows
theorem totK_app (l : List (Int × Int)) (K : Int) : ∀ g k : Int, totK ((g, k) :: l) + K = totK l + (K + g * k) := fun g k => by
  show g * k + totK l + K = _
  omega
theorem dt_loop {cl : Nat → Fn} (F : FracP (cl 6)) {x y : D} : ∀ (l : List (Int × Int)) (K T : Int) (B : Nat) (s4 s5 s6 s7 s8 : Option Sv), (∀ z ∈ l, (z.1 = 2 ∨ z.1 = -2) ∧ z.2.natAbs ≤ 10 ^ 9) → K.natAbs + 2 * 10 ^ 9 * l.length ≤ 10 ^ 12 → St K T B →
    ∃ (T' : Int) (B' : Nat) (y4 y5 y6 y7 y8 : Option Sv), St (totK l + K) T' B' ∧ loop (mGtup 2 (mGcons (mGtup 2 (mGcons (mN 4) (mGcons (mN 5) mGnil))) (mGcons (mGtup 2 (mGcons (mN 6) (mGcons (mN 7) mGnil))) mGnil))) (dtB cl) (zipD (l.map fun z => gd z.1) (l.map fun z => fr (vl 3 z.2))) (DF x y T B s4 s5 s6 s7 s8) = some (.next, DF x y T' B' y4 y5 y6 y7 y8)
  | [], K, T, B, s4, s5, s6, s7, s8, _, _, h => ⟨T, B, s4, s5, s6, s7, s8, by rw [show totK [] = 0 from rfl, Int.zero_add]; exact h, rfl⟩
  | (g, k) :: l, K, T, B, s4, s5, s6, s7, s8, hz, hK, h => by
    obtain ⟨hg, hk⟩ := hz (g, k) (List.mem_cons_self ..)
    rw [List.length_cons] at hK
    obtain ⟨T1, B1, y8, h1, e1⟩ := dt_step (cl := cl) (x := x) (y := y) (s8 := s8) F hg hk (by omega) h
    have hga : g.natAbs ≤ 2 := by rcases hg with rfl | rfl <;> decide
    have hgk : (g * k).natAbs ≤ 2 * 10 ^ 9 := abs_mul_le hga hk
    have hKg : (K + g * k).natAbs ≤ K.natAbs + 2 * 10 ^ 9 := Nat.le_trans (Int.natAbs_add_le _ _) (Nat.add_le_add_left hgk _)
    obtain ⟨T2, B2, z4, z5, z6, z7, z8, h2, e2⟩ := dt_loop F l (K + g * k) T1 B1 (ii g) (ii 1) (ii (vl 3 k).num) (ii ((vl 3 k).den : Int)) y8 (fun z hz' => hz z (List.mem_cons_of_mem _ hz')) (by omega) h1
    refine ⟨T2, B2, z4, z5, z6, z7, z8, by rw [totK_app]; exact h2, ?_⟩
    rcases e1 with e1 | e1
    · exact c_cons (ρ1 := DF x y T B (ii g) (ii 1) (ii (vl 3 k).num) (ii ((vl 3 k).den : Int)) s8) rfl e1 e2
    · exact c_cons_cont (ρ1 := DF x y T B (ii g) (ii 1) (ii (vl 3 k).num) (ii ((vl 3 k).den : Int)) s8) rfl e1 e2
def DotP (f : Fn) : Prop := ∀ l : List (Int × Int), (∀ z ∈ l, (z.1 = 2 ∨ z.1 = -2) ∧ z.2.natAbs ≤ 10 ^ 9) → l.length ≤ 10 → f [.imm (.tuple (l.map fun z => gd z.1)), .imm (.list (l.map fun z => fr (vl 3 z.2)))] = some (.imm (fr (vl 3 (totK l))), [none, none])
theorem dt_ok {cl : Nat → Fn} (F : FracP (cl 6)) : DotP (fn15 cl) := fun l hz hl => by
  obtain ⟨T, B, y4, y5, y6, y7, y8, h, e⟩ := dt_loop (cl := cl) (x := .tuple (l.map fun z => gd z.1)) (y := .list (l.map fun z => fr (vl 3 z.2))) F l 0 0 1 none none none none none hz (by simp; omega) ⟨by decide, by decide, rfl⟩
  rw [Int.add_zero] at h
  have hz2 : mIZipM (mCons (mVar 0) (mCons (mVar 1) mNil)) (DF (.tuple (l.map fun z => gd z.1)) (.list (l.map fun z => fr (vl 3 z.2))) 0 1 none none none none none) = some (zipD (l.map fun z => gd z.1) (l.map fun z => fr (vl 3 z.2)), DF (.tuple (l.map fun z => gd z.1)) (.list (l.map fun z => fr (vl 3 z.2))) 0 1 none none none none none) := rfl
  have f := F T B h.pos (Nat.lt_of_le_of_lt h.le (by decide))
  rw [vl_of h.pos h.eq] at f
  rw [dt_fn]
  have s1 : mPar 2 3 (mC (.int 0)) (mC (.int 1)) [dd (.tuple (l.map fun z => gd z.1)), dd (.list (l.map fun z => fr (vl 3 z.2))), none, none, none, none, none, none, none] = some (.next, DF (.tuple (l.map fun z => gd z.1)) (.list (l.map fun z => fr (vl 3 z.2))) 0 1 none none none none none) := rfl
  exact c_fn (ρ0 := [dd (.tuple (l.map fun z => gd z.1)), dd (.list (l.map fun z => fr (vl 3 z.2))), none, none, none, none, none, none, none]) rfl rfl (c_seq s1 (c_seq (c_for hz2 e) (c_ret (v_call2 (ev_var (i := 2) rfl) (ev_var (i := 3) rfl) f) rfl))) rfl
/-! sign_sum -/
def SumP (f : Fn) : Prop := ∀ (r : List (Int × Int)) (a b : Int), (∀ x ∈ r, x.2.natAbs ≤ 18) → r.length ≤ 8 →
  f [.imm (rowD r), .imm (.int a), .imm (.int b)] = some (.imm (fr (vl 3 (2 * (wN r.reverse [a, b, b] - wN r.reverse [a, b, a] - wN r.reverse [a, a, b] + wN r.reverse [a, a, a])))), [none, none, none])
def suW (a b : Int) : List (List Int) := [[b, b, a], [a, b, a], [b, a, a], [a, a, a]]
abbrev SuF (r : List (Int × Int)) (a b : Int) (s4 s5 s6 : Option Sv) : Fm := [dd (rowD r), ii a, ii b, dd (.tuple ((suW a b).map fun w => .tuple (il w))), s4, s5, s6]
theorem sum_ok {cl : Nat → Fn} (W : WorthP (cl 22)) (Dt : DotP (cl 15)) (Wh : WholeP (cl 7)) : SumP (fn28 cl) := fun r a b hr hl => by
  have hrR : ∀ x ∈ r.reverse, x.2.natAbs ≤ 18 := fun x hx => hr x (List.mem_reverse.mp hx)
  have sm3 : ∀ w : List Int, w.length = 3 → (wN r.reverse w).natAbs ≤ 10 ^ 9 := fun w hw => Nat.le_trans (wN_small hrR (by rw [List.length_reverse]; exact hl) (by omega)) (by decide)
  have q1 := W r [b, b, a] hr hl (by simp)
  have q2 := W r [a, b, a] hr hl (by simp)
  have q3 := W r [b, a, a] hr hl (by simp)
  have q4 := W r [a, a, a] hr hl (by simp)
  have dt := Dt [(2, wN r.reverse [a, b, b]), (-2, wN r.reverse [a, b, a]), (-2, wN r.reverse [a, a, b]), (2, wN r.reverse [a, a, a])] (fun z hz => by
    simp only [List.mem_cons, List.not_mem_nil, or_false] at hz
    rcases hz with rfl | rfl | rfl | rfl
    · exact ⟨.inl rfl, sm3 _ rfl⟩
    · exact ⟨.inr rfl, sm3 _ rfl⟩
    · exact ⟨.inr rfl, sm3 _ rfl⟩
    · exact ⟨.inl rfl, sm3 _ rfl⟩) (by simp)
  have et : totK [(2, wN r.reverse [a, b, b]), (-2, wN r.reverse [a, b, a]), (-2, wN r.reverse [a, a, b]), (2, wN r.reverse [a, a, a])] = 2 * (wN r.reverse [a, b, b] - wN r.reverse [a, b, a] - wN r.reverse [a, a, b] + wN r.reverse [a, a, a]) := by
    simp only [totK]; omega
  rw [et] at dt
  have s1 : mSet 3 (mTup (mCons (mTup (mCons (mVar 2) (mCons (mVar 2) (mCons (mVar 1) mNil)))) (mCons (mTup (mCons (mVar 1) (mCons (mVar 2) (mCons (mVar 1) mNil)))) (mCons (mTup (mCons (mVar 2) (mCons (mVar 1) (mCons (mVar 1) mNil)))) (mCons (mTup (mCons (mVar 1) (mCons (mVar 1) (mCons (mVar 1) mNil)))) mNil))))) [dd (rowD r), ii a, ii b, none, none, none, none] = some (.next, SuF r a b none none none) := rfl
  have s2 : mPar 4 5 (mCall (cl 7) (rVal (mC (.int 2)) rNil)) (mCall (cl 7) (rVal (un dNeg (mC (.int 2))) rNil)) (SuF r a b none none none) = some (.next, SuF r a b (dd (gd 2)) (dd (gd (-2))) none) :=
    c_par (s1 := .imm (gd 2)) (s2 := .imm (gd (-2))) (v_call1 ev_c (Wh 2)) rfl (v_call1 (e_un ev_c rfl) (Wh (-2))) rfl rfl
  have hc : cloop (mN 6) mYes (mCall (cl 22) (rVal (mVar 0) (rVal (mVar 6) rNil))) [6] ((suW a b).map fun w => .tuple (il w)) (SuF r a b (dd (gd 2)) (dd (gd (-2))) none) = some ((suW a b).map fun w => fr (vl 3 (wN r.reverse w.reverse)), SuF r a b (dd (gd 2)) (dd (gd (-2))) none) :=
    c_cmap (fun w : List Int => .tuple (il w)) (fun w => fr (vl 3 (wN r.reverse w.reverse))) _ fun w hw => by
      have hw3 : w.length = 3 := by
        simp only [suW, List.mem_cons, List.not_mem_nil, or_false] at hw
        rcases hw with rfl | rfl | rfl | rfl <;> rfl
      have q := W r w hr hl (by omega)
      rw [hw3] at q
      exact ⟨SuF r a b (dd (gd 2)) (dd (gd (-2))) (dd (.tuple (il w))), _, _, _, rfl, v_call2 (ev_var (i := 0) rfl) (ev_var (i := 6) rfl) q, rfl, rfl⟩
  have hk : mComp (mISeq (mVar 3)) (mN 6) mYes (mCall (cl 22) (rVal (mVar 0) (rVal (mVar 6) rNil))) [6] (SuF r a b (dd (gd 2)) (dd (gd (-2))) none) = some (.val (.own .loc ((suW a b).map fun w => fr (vl 3 (wN r.reverse w.reverse)))), SuF r a b (dd (gd 2)) (dd (gd (-2))) none) :=
    c_comp (ds := (suW a b).map fun w => .tuple (il w)) (ρ1 := SuF r a b (dd (gd 2)) (dd (gd (-2))) none) rfl rfl hc rfl rfl
  unfold fn28
  exact c_fn (ρ0 := [dd (rowD r), ii a, ii b, none, none, none, none]) rfl rfl (c_seq s1 (c_seq s2 (c_ret (v_call2 (e_tup (ea_cons (ev_var (i := 4) rfl) (ea_cons (ev_var (i := 5) rfl) (ea_cons (ev_var (i := 5) rfl) (ea_cons (ev_var (i := 4) rfl) ea_nil)))) (by simp)) (ev_own hk) dt) rfl))) rfl
end K41

namespace K41
open PySem Vi PyProof.Rows
/-! thirds of cubes -/
theorem num3 (q : Rat) : (q*q*q).num = q.num*q.num*q.num ∧ (q*q*q).den = q.den*q.den*q.den := by
  have h : q*q*q = q^3 := by
    rw [Rat.pow_succ, Rat.pow_succ, Rat.pow_succ, Rat.pow_zero, Rat.one_mul]
  rw [h, Rat.num_pow, Rat.den_pow]
  exact ⟨by rw [Int.pow_succ, Int.pow_succ, Int.pow_succ, Int.pow_zero, Int.one_mul], by rw [Nat.pow_succ, Nat.pow_succ, Nat.pow_succ, Nat.pow_zero, Nat.one_mul]⟩
def c3 (m : Int) : Int := m * m * m
theorem xq3 (m : Int) : xq m * xq m * xq m = mkRat (c3 m) 216 := by
  unfold xq c3
  rw [Rat.mkRat_mul_mkRat, Rat.mkRat_mul_mkRat]
theorem xq_add (a b : Int) : xq a + xq b = xq (a + b) := by
  unfold xq
  rw [Rat.mkRat_add_mkRat a b (by decide) (by decide), ← Int.add_mul, Rat.mkRat_mul_right (by decide)]
theorem mk_sub {n : Nat} (hn : n ≠ 0) (a b : Int) : mkRat a n + -(mkRat b n) = mkRat (a - b) n := by
  rw [Rat.neg_mkRat, Rat.mkRat_add_mkRat a (-b) hn hn, ← Int.add_mul, Rat.mkRat_mul_right hn, Int.sub_eq_add_neg]
theorem third (k : Int) : mkRat (mkRat k 216).num ((mkRat k 216).den * 3) = mkRat k 648 := by
  have h : (mkRat k 216).num * 216 = k * ((mkRat k 216).den : Int) := by
    have h : mkRat (mkRat k 216).num (mkRat k 216).den = mkRat k 216 := by rw [Rat.mkRat_self]
    rw [Rat.mkRat_eq_iff (mkRat k 216).den_nz (by decide)] at h
    exact h
  rw [Rat.mkRat_eq_iff (by have := (mkRat k 216).den_nz; omega) (by decide)]
  rw [Int.natCast_mul]
  show (mkRat k 216).num * 648 = k * (((mkRat k 216).den : Int) * 3)
  rw [← Int.mul_assoc, ← h]; omega
theorem tot_share (k : Int) : mkRat k 648 = vl 3 (2 * k) := by
  show mkRat k 648 = mkRat (2 * k) 1296
  rw [Rat.mkRat_eq_iff (by decide) (by decide)]
  show k * 1296 = 2 * k * 648
  omega
theorem xs_sd {n : Int} (h : n.natAbs ≤ 1000) : Sd (xq n) := mk_sd (by decide) (Nat.lt_of_le_of_lt h (by decide)) (by decide)
theorem c3_le {m : Int} (h : m.natAbs ≤ 1000) : (c3 m).natAbs ≤ 10 ^ 9 := by
  unfold c3
  rw [Int.natAbs_mul, Int.natAbs_mul]
  exact Nat.le_trans (Nat.mul_le_mul (Nat.mul_le_mul h h) h) (by decide)
theorem c3_sd {m : Int} (h : m.natAbs ≤ 1000) : Sd (mkRat (c3 m) 216) := mk_sd (by decide) (Nat.lt_of_le_of_lt (c3_le h) (by decide)) (by decide)
theorem xx_sd {m : Int} (h : m.natAbs ≤ 1000) : Sd (xq m * xq m) := by
  unfold xq
  rw [Rat.mkRat_mul_mkRat]
  exact mk_sd (by decide) (by rw [Int.natAbs_mul]; exact Nat.lt_of_le_of_lt (Nat.mul_le_mul h h) (by decide)) (by decide)
/-- power_of at 3 -/
def PowP (f : Fn) : Prop := ∀ m : Int, m.natAbs ≤ 1000 → f [.imm (fr (xq m)), .imm (.int 3)] = some (.imm (fr (mkRat (c3 m) 216)), [none, none])
def RaisP (f : Fn) : Prop := ∀ x : Int, x.natAbs < 2 ^ 40 → f [.imm (.int x), .imm (.int 3)] = some (.imm (.int (x * x * x)), [none, none])
theorem xq_bd {m : Int} (h : m.natAbs ≤ 1000) : (xq m).num.natAbs < 2 ^ 40 ∧ (((xq m).den : Int)).natAbs < 2 ^ 40 := by
  obtain ⟨e1, e2⟩ := low_rat m 6 (by decide)
  refine ⟨?_, ?_⟩
  · show (mkRat m 6).num.natAbs < _
    rw [e1]
    have : (m / ((Nat.gcd m.natAbs 6 : Nat) : Int)).natAbs ≤ m.natAbs := Int.natAbs_ediv_le_natAbs _ _
    exact Nat.lt_of_le_of_lt (Nat.le_trans this h) (by decide)
  · show (((mkRat m 6).den : Int)).natAbs < _
    have h2 : ((mkRat m 6).den : Int) ≤ 6 := by rw [e2]; exact Int.ediv_le_self _ (by decide)
    omega
theorem pow_ok {cl : Nat → Fn} (Ra : RaisP (cl 13)) : PowP (fn12 cl) := fun m hm => by
  obtain ⟨b1, b2⟩ := xq_bd hm
  obtain ⟨n1, n2⟩ := num3 (xq m)
  have hf : (.tuple [.int ((xq m).num * (xq m).num * (xq m).num), .int (((xq m).den : Int) * ((xq m).den : Int) * ((xq m).den : Int))] : D) = fr (mkRat (c3 m) 216) := by
    rw [← xq3]
    unfold fr
    rw [n1, n2, Int.natCast_mul, Int.natCast_mul]
  have q1 := Ra (xq m).num b1
  have q2 := Ra ((xq m).den : Int) b2
  have ev : EV (mTup (mCons (mCall (cl 13) (rVal (bin dIx (mVar 0) (mC (.int 0))) (rVal (mVar 1) rNil))) (mCons (mCall (cl 13) (rVal (bin dIx (mVar 0) (mC (.int 1))) (rVal (mVar 1) rNil))) mNil))) [dd (fr (xq m)), ii 3] (fr (mkRat (c3 m) 216)) := by
    rw [← hf]
    exact e_tup (ea_cons (e_call2 (ev_top rfl (isFr _)) (ev_var (i := 1) rfl) q1) (ea_cons (e_call2 (ev_bot rfl (isFr _)) (ev_var (i := 1) rfl) q2) ea_nil)) (by simp)
  obtain ⟨pr, h1, h2, h3⟩ := ev
  have hp : give [dd (fr (xq m)), ii 3] pr = some (.imm (fr (mkRat (c3 m) 216))) ∨ True := .inr trivial
  unfold fn12
  have k : mTup (mCons (mCall (cl 13) (rVal (bin dIx (mVar 0) (mC (.int 0))) (rVal (mVar 1) rNil))) (mCons (mCall (cl 13) (rVal (bin dIx (mVar 0) (mC (.int 1))) (rVal (mVar 1) rNil))) mNil)) [dd (fr (xq m)), ii 3] = some (.val (.imm (fr (mkRat (c3 m) 216))), [dd (fr (xq m)), ii 3]) := by
    rw [← hf]
    exact c_tup (ea_cons (e_call2 (ev_top rfl (isFr _)) (ev_var (i := 1) rfl) q1) (ea_cons (e_call2 (ev_bot rfl (isFr _)) (ev_var (i := 1) rfl) q2) ea_nil)) (c_fits (by simp))
  exact c_fn (ρ0 := [dd (fr (xq m)), ii 3]) rfl rfl (c_seq (c_ifF (c_b rfl) c_skip) (c_ret k rfl)) rfl
/-! steps as whole numbers -/
def stL (a b : Int) : Int → Int → List (Int × Int) → List (Int × Int × Int)
  | _, _, [] => []
  | o, h, (p, n) :: r => if p = a then (o, o + n, h) :: stL a b (o + n) h r else if p = b then stL a b o (h + n) r else stL a b o h r
def shK (x : Int × Int × Int) : Int := c3 (x.2.1 - x.2.2) - c3 (x.1 - x.2.2)
def stD (x : Int × Int × Int) : D := .tuple [fr (xq x.1), fr (xq x.2.1), fr (xq x.2.2), fr (mkRat (shK x) 648)]
def shS : List (Int × Int × Int) → Int
  | [] => 0
  | x :: l => shK x + shS l
theorem sh_cubes {A B : Int} (h : A ≠ B) : ∀ (r R : List (Int × Int)), cubes A B R + shS (stL A B (sumP A R) (sumP B R) r) = cubes A B (r.reverse ++ R)
  | [], R => by simp [stL, shS]
  | (p, n) :: r, R => by
    have ih := sh_cubes h r ((p, n) :: R)
    rw [List.reverse_cons, List.append_assoc, List.singleton_append, ← ih]
    by_cases h1 : p = A
    · have h2 : p ≠ B := fun h3 => h (h1.symm.trans h3)
      simp only [stL, cubes, sumP, if_pos h1, if_neg h2, shS, shK, c3]
      omega
    · by_cases h2 : p = B
      · simp only [stL, cubes, sumP, if_neg h1, if_pos h2]
      · simp only [stL, cubes, sumP, if_neg h1, if_neg h2]
theorem sh_row {A B : Int} (h : A ≠ B) (r : List (Int × Int)) : shS (stL A B 0 0 r) = cubes A B r.reverse := by
  have := sh_cubes h r []
  rw [List.append_nil] at this
  rw [← this]
  simp [cubes, sumP]
theorem stL_len (a b : Int) : ∀ (r : List (Int × Int)) (o h : Int), (stL a b o h r).length ≤ r.length
  | [], _, _ => Nat.le_refl _
  | (p, n) :: r, o, h => by
    unfold stL
    split
    · rw [List.length_cons, List.length_cons]; exact Nat.succ_le_succ (stL_len a b r _ _)
    · split
      · exact Nat.le_succ_of_le (stL_len a b r _ _)
      · exact Nat.le_succ_of_le (stL_len a b r _ _)
end K41

namespace K41
open PySem Vi PyProof.Rows
namespace Nf
/-! rows: pairs (part, k), k for k / 6 -/
abbrev Pr := Int × Int
abbrev Row := List Pr
def v6 (k : Int) : Rat := mkRat k 6
def f6 (k : Int) : D := fr (v6 k)
def prD (p : Pr) : D := .tuple [.int p.1, f6 p.2]
def dsD (r : Row) : List D := r.map prD
def pushS : Row → Pr → Row
  | [], p => if p.2 = 0 then [] else [p]
  | l :: s, p => if l.1 = p.1 then (if l.2 + p.2 = 0 then s else (p.1, l.2 + p.2) :: s) else if p.2 = 0 then l :: s else p :: l :: s
def nfS (r : Row) : Row := r.foldl pushS []
def nf (r : Row) : Row := (nfS r).reverse
/-- what stands for a pair -/
def IsPr (d : D) (p : Pr) : Prop := ∃ e, (d = .tuple [.int p.1, e] ∨ d = .list [.int p.1, e]) ∧ IsFr e (v6 p.2)
theorem isPr (p : Pr) : IsPr (prD p) p := ⟨f6 p.2, .inl rfl, isFr _⟩
theorem v_add (k l : Int) : v6 k + v6 l = v6 (k + l) := by
  unfold v6
  rw [Rat.mkRat_add_mkRat k l (by decide) (by decide), ← Int.add_mul, Rat.mkRat_mul_right (by decide)]
theorem v_zero : v6 0 = 0 := by unfold v6; rw [Rat.zero_mkRat]
theorem v_num (k : Int) : (v6 k).num = 0 ↔ k = 0 := by
  rw [Rat.num_eq_zero]
  unfold v6
  exact Rat.mkRat_eq_zero (by decide)
theorem v_sd {k : Int} (h : k.natAbs < 2 ^ 80) : Sd (v6 k) := by
  have e := low_rat k 6 (by decide)
  have hg : 0 < Nat.gcd k.natAbs 6 := Nat.gcd_pos_of_pos_right _ (by decide)
  refine ⟨?_, ?_⟩
  · show (mkRat k 6).num.natAbs < _
    rw [e.1]
    have h1 : (k / ((Nat.gcd k.natAbs 6 : Nat) : Int)).natAbs ≤ k.natAbs := by
      rw [Int.natAbs_ediv_of_dvd]
      · exact Nat.div_le_self _ _
      · exact Int.natAbs_dvd_natAbs.mp (by simpa using Nat.gcd_dvd_left k.natAbs 6)
    exact Nat.lt_of_le_of_lt h1 (Nat.lt_trans h (by decide))
  · have h2 : ((mkRat k 6).den : Int) ≤ 6 := by
      rw [e.2]
      exact Int.ediv_le_self _ (by decide)
    show (mkRat k 6).den < _
    have : (6 : Nat) < 2 ^ 40 := by decide
    omega
theorem hasD_nil (x : D) : hasD x [] = false := rfl
theorem ok_two (a b : Int) : okD (.tuple [.int a, .int b]) = true := by
  show (PyData.canLay0 (.tuple [.int a, .int b]) && decide (PyData.depth (.tuple [.int a, .int b]) ≤ 64)) = true
  simp [PyData.canLay0, PyData.canLayAll0, PyData.depth, PyData.depthAll]
theorem together_ok {cl : Nat → Fn} (a b : Int) : fn17 cl [.imm (.int a), .imm (.int b), .imm (.tuple [])] = some (.imm (.bool false), [none, none, none]) := by
  have hm : ∀ x y : Int, dInT false (.tuple [.int x, .int y]) (.tuple []) = some (.imm (.bool false)) := fun x y => by
    unfold dInT
    simp only [ok_two, show okD (.tuple []) = true from rfl, hasD_nil, Bool.and_self, if_true]
    rfl
  have t : mTup (mCons (mA dMin2 (mCons (mVar 0) (mCons (mVar 1) mNil))) (mCons (mA dMax2 (mCons (mVar 0) (mCons (mVar 1) mNil))) mNil)) [ii a, ii b, some (.imm (.tuple []))] = some (.val (.imm (.tuple [.int (if b < a then b else a), .int (if b > a then b else a)])), [ii a, ii b, some (.imm (.tuple []))]) :=
    c_tup (c_acons rfl rfl (c_acons rfl rfl c_anil)) rfl
  unfold fn17
  exact c_fn (ρ0 := [ii a, ii b, some (.imm (.tuple []))]) rfl rfl (c_ret (c_bin t rfl rfl rfl (hm _ _)) rfl) rfl
def TogP (f : Fn) : Prop := ∀ a b : Int, f [.imm (.int a), .imm (.int b), .imm (.tuple [])] = some (.imm (.bool false), [none, none, none])
theorem last_at (ds : List D) (d : D) : L2.atI (ds ++ [d]) ((ds.length : Nat) : Int) = some d := by
  rw [L2.atI_nat (List.getElem?_concat_length ..)]
theorem downD_cons (lo : Int) (n : Nat) : downD lo (n + 1) = .int lo :: (downD lo (n + 1)).tail := by
  unfold downD
  rw [List.range_succ_eq_map, List.map_cons, List.tail_cons]
  have : lo + ((0 : Nat) : Int) * (-1) = lo := by omega
  rw [this]
/-- the place to join at -/
theorem down_nil {x1 x2 x3 : Option Sv} : mIDown (mCons (bin dSub (un dLen (mVar 0)) (mC (.int 1))) (mCons (un dNeg (mC (.int 1))) (mCons (un dNeg (mC (.int 1))) mNil))) [some (.own .par []), x1, x2, x3] = some ([], [some (.own .par []), x1, x2, x3]) := by
  have h0 : bin dSub (un dLen (mVar 0)) (mC (.int 1)) [some (.own .par []), x1, x2, x3] = some (.val (.imm (.int (-1))), [some (.own .par []), x1, x2, x3]) := c_bin (c_un rfl rfl (show dLen (.list []) = some (.imm (.int 0)) from rfl)) rfl rfl rfl rfl
  unfold mIDown
  rw [c_acons h0 rfl (c_acons (c_un rfl rfl rfl) rfl (c_acons (c_un rfl rfl rfl) rfl c_anil))]
  have r2 : rngOk (-1) = true := rfl
  show (if (rngOk (-1) && rngOk (-1)) = true then some (downD (-1) ((-1 : Int) - -1).toNat, [some (.own .par []), x1, x2, x3]) else none) = _
  rw [r2, show ((-1 : Int) - -1).toNat = 0 by decide]
  rfl
theorem place_nil {cl : Nat → Fn} (k : Int) : fn18 cl [.own .par [], .imm (.int k), .imm (.tuple [])] = some (.imm .none, [some [], none, none]) := by
  unfold fn18
  exact c_fn (ρ0 := [some (.own .par []), ii k, some (.imm (.tuple [])), none]) rfl rfl (c_seq (c_for down_nil c_nil) (c_ret rfl rfl)) rfl
theorem c_down {ma : MA} {ρ ρ1 : Fm} {i j : Int} {n : Nat} (h : ma ρ = some ([.int i, .int j, .int (-1)], ρ1)) (h1 : rngOk i = true) (h2 : rngOk j = true) (h3 : (i - j).toNat = n) : mIDown ma ρ = some (downD i n, ρ1) := by
  subst h3
  unfold mIDown
  rw [h]
  show (if (rngOk i && rngOk j) = true then some (downD i (i - j).toNat, ρ1) else none) = _
  rw [h1, h2]
  rfl
theorem last_0 {L : List D} {n : Nat} (hlen : L.length = n + 1) {x1 x2 x3 : Option Sv} : bin dSub (un dLen (mVar 0)) (mC (.int 1)) [some (.own .par L), x1, x2, x3] = some (.val (.imm (.int (n : Int))), [some (.own .par L), x1, x2, x3]) := by
  have hs : dSub (.int (L.length : Int)) (.int 1) = some (.imm (.int (n : Int))) := by
    show some (Sv.imm (.int ((L.length : Int) - 1))) = _
    rw [hlen, show (((n + 1 : Nat) : Int) - 1) = (n : Int) by omega]
  exact c_bin (c_un rfl rfl (show dLen (.list L) = some (.imm (.int (L.length : Int))) from rfl)) rfl rfl rfl hs
theorem last_1 {ρ : Fm} : un dNeg (mC (.int 1)) ρ = some (.val (.imm (.int (-1))), ρ) := rfl
theorem down_last {L : List D} {n : Nat} (hlen : L.length = n + 1) (hn : n ≤ 900) {x1 x2 x3 : Option Sv} : mIDown (mCons (bin dSub (un dLen (mVar 0)) (mC (.int 1))) (mCons (un dNeg (mC (.int 1))) (mCons (un dNeg (mC (.int 1))) mNil))) [some (.own .par L), x1, x2, x3] = some (.int (n : Int) :: (downD (n : Int) (n + 1)).tail, [some (.own .par L), x1, x2, x3]) := by
  have h3 : ((n : Int) - -1).toNat = n + 1 := by omega
  rw [← downD_cons]
  exact c_down (c_acons (last_0 hlen) rfl (c_acons last_1 rfl (c_acons last_1 rfl c_anil))) (c_rng (by omega)) (c_rng (by omega)) h3
theorem at_last {L : List D} {n : Nat} {j : Int} {e : D} (ha : L2.atI L (n : Int) = some (.tuple [.int j, e])) {x1 x2 : Option Sv} : bin dIx (bin dIx (mVar 0) (mVar 3)) (mC (.int 0)) [some (.own .par L), x1, x2, ii (n : Int)] = some (.val (.imm (.int j)), [some (.own .par L), x1, x2, ii (n : Int)]) := by
  have h1 : dIx (.list L) (.int (n : Int)) = some (.imm (.tuple [.int j, e])) := by
    show (L2.atI L (n : Int)).map Sv.imm = _
    rw [ha]; rfl
  exact c_bin (c_bin rfl rfl rfl rfl h1) rfl rfl rfl rfl
def pB (cl : Nat → Fn) : MS := (mSeq (mIfS (mB (bin dEq (bin dIx (bin dIx (mVar 0) (mVar 3)) (mC (.int 0))) (mVar 1))) (mRet (mVar 3)) mNext) (mIfS (mNotT (mTru (mCall (cl 17) (rVal (bin dIx (bin dIx (mVar 0) (mVar 3)) (mC (.int 0))) (rVal (mVar 1) (rVal (mVar 2) rNil)))))) (mRet (mC .none)) mNext))
theorem place_body {cl : Nat → Fn} (T : TogP (cl 17)) {L : List D} {n : Nat} {j : Int} {e : D} (ha : L2.atI L (n : Int) = some (.tuple [.int j, e])) (k : Int) : pB cl [some (.own .par L), ii k, some (.imm (.tuple [])), ii (n : Int)] = some (.ret (.imm (if j = k then .int (n : Int) else .none)), [some (.own .par L), ii k, some (.imm (.tuple [])), ii (n : Int)]) := by
  have x0 := at_last ha (x1 := ii k) (x2 := some (.imm (.tuple [])))
  have t1 : mB (bin dEq (bin dIx (bin dIx (mVar 0) (mVar 3)) (mC (.int 0))) (mVar 1)) [some (.own .par L), ii k, some (.imm (.tuple [])), ii (n : Int)] = some (j == k, [some (.own .par L), ii k, some (.imm (.tuple [])), ii (n : Int)]) := c_b (c_bin x0 rfl rfl rfl (eq_int j k))
  unfold pB
  by_cases h : j = k
  · rw [show (j == k) = true from beq_iff_eq.mpr h] at t1
    rw [if_pos h]
    exact c_seqR (c_ifT t1 (c_ret rfl rfl))
  · rw [show (j == k) = false from beq_eq_false_iff_ne.mpr h] at t1
    rw [if_neg h]
    have t2 : mNotT (mTru (mCall (cl 17) (rVal (bin dIx (bin dIx (mVar 0) (mVar 3)) (mC (.int 0))) (rVal (mVar 1) (rVal (mVar 2) rNil))))) [some (.own .par L), ii k, some (.imm (.tuple [])), ii (n : Int)] = some (true, [some (.own .par L), ii k, some (.imm (.tuple [])), ii (n : Int)]) :=
      c_not (b := false) (c_tru (c_call (c_rval x0 rfl rfl) rfl rfl (T j k) rfl) rfl rfl)
    exact c_seq (c_ifF t1 rfl) (c_ifT t2 (c_ret rfl rfl))
theorem place_fn (cl : Nat → Fn) : fn18 cl = mFn 4 3 (mSeq (mFor (mIDown (mCons (bin dSub (un dLen (mVar 0)) (mC (.int 1))) (mCons (un dNeg (mC (.int 1))) (mCons (un dNeg (mC (.int 1))) mNil)))) (mN 3) (pB cl)) (mRet (mC .none))) := rfl
theorem place_last {cl : Nat → Fn} (T : TogP (cl 17)) (ds : List D) (j : Int) (e : D) (k : Int) (hl : ds.length ≤ 900) : fn18 cl [.own .par (ds ++ [.tuple [.int j, e]]), .imm (.int k), .imm (.tuple [])] = some (.imm (if j = k then .int (ds.length : Int) else .none), [some (ds ++ [.tuple [.int j, e]]), none, none]) := by
  have hlen : (ds ++ [PyData.tuple [.int j, e]]).length = ds.length + 1 := by simp
  have ha := last_at ds (.tuple [.int j, e])
  generalize ds ++ [PyData.tuple [.int j, e]] = L at *
  generalize ds.length = n at *
  have b := place_body T ha k
  have hi := down_last hlen hl (x1 := ii k) (x2 := some (.imm (.tuple []))) (x3 := none)
  rw [place_fn]
  generalize (downD (n : Int) (n + 1)).tail = tl at hi
  exact c_fn (ρ0 := [some (.own .par L), ii k, some (.imm (.tuple [])), none]) rfl rfl (c_seqR (c_for hi (c_cons_ret rfl b))) rfl

/-- the calls that _shortest makes -/
structure ShP (cl : Nat → Fn) : Prop where
  nil : ∀ k : Int, cl 18 [.own .par [], .imm (.int k), .imm (.tuple [])] = some (.imm .none, [some [], none, none])
  last : ∀ (ds : List D) (j : Int) (e : D) (k : Int), ds.length ≤ 900 → cl 18 [.own .par (ds ++ [.tuple [.int j, e]]), .imm (.int k), .imm (.tuple [])] = some (.imm (if j = k then .int (ds.length : Int) else .none), [some (ds ++ [.tuple [.int j, e]]), none, none])
  plus : ∀ (d e : D) (q r : Rat), IsFr d q → IsFr e r → Sm q → Sm r → cl 8 [.imm d, .imm e] = some (.imm (fr (q + r)), [none, none])
def sB (cl : Nat → Fn) : MS := (mSeq (mSet 5 (mCall (cl 18) (rSlot 2 (rVal (mVar 3) (rVal (mVar 1) rNil))))) (mSeq (mIfS (mB (bin dIs (mVar 5) (mC .none))) (mPar 5 6 (un dLen (mVar 2)) (mC (.tuple ([0, 1].map .int)))) (mSet 6 (bin dIx (bin dIx (mVar 2) (mVar 5)) (mC (.int 1))))) (mSeq (mSet 7 (mCall (cl 8) (rVal (mVar 6) (rVal (mVar 4) rNil)))) (mSlx 2 (mPart (mVar 5)) (mPart (bin dAdd (mVar 5) (mC (.int 1)))) (mIf (mTru (bin dIx (mVar 7) (mC (.int 0)))) (mLst (mCons (mTup (mCons (mVar 3) (mCons (mVar 7) mNil))) mNil)) (mLst mNil))))))
theorem short_fn (cl : Nat → Fn) : fn19 cl = mFn 8 2 (mSeq (mSet 2 (mLst mNil)) (mSeq (mFor (mISeq (mVar 0)) (mGseq 2 (mGcons (mN 3) (mGcons (mN 4) mGnil))) (sB cl)) (mRet (mVar 2)))) := rfl
abbrev nn : Option Sv := some (.imm .none)
abbrev zz : Option Sv := some (.imm (f6 0))
abbrev SF (x0 : Option Sv) (L : List D) (part : Int) (e : D) (x5 x6 x7 : Option Sv) : Fm := [x0, some (.imm (.tuple [])), some (.own .loc L), ii part, some (.imm e), x5, x6, x7]
theorem z6 : f6 0 = .tuple ([0, 1].map .int) := by
  unfold f6 fr
  rw [v_zero]; rfl
/-- at, before where there is nothing to join at -/
theorem step_none {x0 x6 x7 : Option Sv} {L : List D} {part : Int} {e : D} : (mIfS (mB (bin dIs (mVar 5) (mC .none))) (mPar 5 6 (un dLen (mVar 2)) (mC (.tuple ([0, 1].map .int)))) (mSet 6 (bin dIx (bin dIx (mVar 2) (mVar 5)) (mC (.int 1))))) (SF x0 L part e nn x6 x7) = some (.next, SF x0 L part e (ii (L.length : Int)) zz x7) := by
  have p1 : un dLen (mVar 2) (SF x0 L part e nn x6 x7) = some (.val (.imm (.int (L.length : Int))), SF x0 L part e nn x6 x7) := c_un rfl rfl (show dLen (.list L) = some (.imm (.int (L.length : Int))) from rfl)
  have hp : mPar 5 6 (un dLen (mVar 2)) (mC (.tuple ([0, 1].map .int))) (SF x0 L part e nn x6 x7) = some (.next, SF x0 L part e (ii (L.length : Int)) zz x7) := by
    have := c_par (i := 5) (j := 6) p1 rfl (show mC (.tuple ([0, 1].map .int)) (SF x0 L part e nn x6 x7) = some (.val (.imm (.tuple ([0, 1].map .int))), SF x0 L part e nn x6 x7) from rfl) rfl rfl
    rw [← z6] at this
    exact this
  exact c_ifT (c_b (b := true) (c_bin rfl rfl rfl rfl rfl)) hp
theorem step_at {x0 x6 x7 : Option Sv} {L : List D} {n : Nat} {j : Int} {g : D} {part : Int} {e : D} (ha : L2.atI L (n : Int) = some (.tuple [.int j, g])) : (mIfS (mB (bin dIs (mVar 5) (mC .none))) (mPar 5 6 (un dLen (mVar 2)) (mC (.tuple ([0, 1].map .int)))) (mSet 6 (bin dIx (bin dIx (mVar 2) (mVar 5)) (mC (.int 1))))) (SF x0 L part e (ii (n : Int)) x6 x7) = some (.next, SF x0 L part e (ii (n : Int)) (some (.imm g)) x7) := by
  have h1 : dIx (.list L) (.int (n : Int)) = some (.imm (.tuple [.int j, g])) := by
    show (L2.atI L (n : Int)).map Sv.imm = _
    rw [ha]; rfl
  exact c_ifF (c_b (b := false) (c_bin rfl rfl rfl rfl rfl)) (c_set (c_bin (c_bin rfl rfl rfl rfl h1) rfl rfl rfl rfl) rfl)
/-- what is put in -/
theorem mif_T {t : MT} {a b : ME} {ρ ρ1 : Fm} {x : Option (PR × Fm)} (h : t ρ = some (true, ρ1)) (h2 : a ρ1 = x) : mIf t a b ρ = x := by unfold mIf; rw [h]; exact h2
theorem mif_F {t : MT} {a b : ME} {ρ ρ1 : Fm} {x : Option (PR × Fm)} (h : t ρ = some (false, ρ1)) (h2 : b ρ1 = x) : mIf t a b ρ = x := by unfold mIf; rw [h]; exact h2
theorem step_new {x0 x5 x6 : Option Sv} {L : List D} {part k : Int} {e : D} : mIf (mTru (bin dIx (mVar 7) (mC (.int 0)))) (mLst (mCons (mTup (mCons (mVar 3) (mCons (mVar 7) mNil))) mNil)) (mLst mNil) (SF x0 L part e x5 x6 (some (.imm (f6 k)))) = some (.val (.own .loc (if k = 0 then [] else [prD (part, k)])), SF x0 L part e x5 x6 (some (.imm (f6 k)))) := by
  have t : mTru (bin dIx (mVar 7) (mC (.int 0))) (SF x0 L part e x5 x6 (some (.imm (f6 k)))) = some ((v6 k).num != 0, SF x0 L part e x5 x6 (some (.imm (f6 k)))) := c_tru (c_bin rfl rfl rfl rfl rfl) rfl rfl
  by_cases h : k = 0
  · rw [show ((v6 k).num != 0) = false by rw [bne_eq_false_iff_eq]; exact (v_num k).mpr h] at t
    rw [if_pos h]
    exact mif_F t (c_lst c_anil rfl)
  · rw [show ((v6 k).num != 0) = true by rw [bne_iff_ne]; exact fun z => h ((v_num k).mp z)] at t
    rw [if_neg h]
    exact mif_T t (c_lst (c_acons (c_tup (c_acons rfl rfl (c_acons rfl rfl c_anil)) rfl) rfl c_anil) rfl)
theorem c_slx {i : Nat} {ma mc : MO} {me : ME} {ρ ρ1 : Fm} {b b0 : Kd} {ys ds : List D} {a c : Nat} (h1 : me ρ = some (.val (.own b0 ys), ρ1)) (h2 : ρ1[i]? = some (some (.own b ds))) (h3 : ma ρ1 = some (some (a : Int), ρ1)) (h4 : mc ρ1 = some (some (c : Int), ρ1)) (h5 : a ≤ c) (h6 : a ≤ ds.length) (h7 : ds.length + ys.length ≤ 10000) (hb : b.isL = true := by rfl) (hb0 : b0.isL = true := by rfl) :
    mSlx i ma mc me ρ = some (.next, ρ1.set i (some (.own b (ds.take a ++ ys ++ ds.drop c)))) := by
  have f : fits (ds.length + ys.length) = true := c_fits h7
  have g1 : decide ((0 : Int) ≤ (a : Int)) = true := decide_eq_true (by omega)
  have g2 : decide ((a : Int) ≤ (c : Int)) = true := decide_eq_true (by omega)
  have g3 : decide ((a : Int) ≤ (ds.length : Int)) = true := decide_eq_true (by omega)
  unfold mSlx
  cases b <;> cases b0 <;> first | exact absurd hb (by decide) | exact absurd hb0 (by decide) | (rw [h1]; simp only [h2, h3, h4, g1, g2, g3, f, Bool.and_self, if_true, Int.toNat_natCast])
theorem step_put {x0 x6 : Option Sv} {L : List D} {a : Nat} {part k : Int} {e : D} (ha : a ≤ L.length) (hl : L.length ≤ 900) : mSlx 2 (mPart (mVar 5)) (mPart (bin dAdd (mVar 5) (mC (.int 1)))) (mIf (mTru (bin dIx (mVar 7) (mC (.int 0)))) (mLst (mCons (mTup (mCons (mVar 3) (mCons (mVar 7) mNil))) mNil)) (mLst mNil)) (SF x0 L part e (ii (a : Int)) x6 (some (.imm (f6 k)))) = some (.next, SF x0 (L.take a ++ (if k = 0 then [] else [prD (part, k)]) ++ L.drop (a + 1)) part e (ii (a : Int)) x6 (some (.imm (f6 k)))) := by
  have n := step_new (x0 := x0) (x5 := ii (a : Int)) (x6 := x6) (L := L) (part := part) (k := k) (e := e)
  have hy : (if k = 0 then ([] : List D) else [prD (part, k)]).length ≤ 1 := by split <;> simp
  generalize (if k = 0 then ([] : List D) else [prD (part, k)]) = ys at *
  have h4 : mPart (bin dAdd (mVar 5) (mC (.int 1))) (SF x0 L part e (ii (a : Int)) x6 (some (.imm (f6 k)))) = some (some ((a + 1 : Nat) : Int), SF x0 L part e (ii (a : Int)) x6 (some (.imm (f6 k)))) := rfl
  exact c_slx (a := a) (c := a + 1) n rfl rfl h4 (by omega) ha (by omega)

theorem dsD_app (a b : Row) : dsD (a ++ b) = dsD a ++ dsD b := by unfold dsD; rw [List.map_append]
theorem dsD_len (a : Row) : (dsD a).length = a.length := by unfold dsD; rw [List.length_map]
theorem call5 {cl : Nat → Fn} {x0 x5 x6 x7 : Option Sv} {L : List D} {part : Int} {e r : D} (h : cl 18 [.own .par L, .imm (.int part), .imm (.tuple [])] = some (.imm r, [some L, none, none])) : mSet 5 (mCall (cl 18) (rSlot 2 (rVal (mVar 3) (rVal (mVar 1) rNil)))) (SF x0 L part e x5 x6 x7) = some (.next, SF x0 L part e (some (.imm r)) x6 x7) :=
  c_set (c_call (as := [.s 2, .v (.int part), .v (.tuple [])]) rfl rfl rfl h rfl) rfl
theorem call7 {cl : Nat → Fn} {x0 x5 x7 : Option Sv} {L : List D} {part : Int} {e g : D} {k : Int} (h : cl 8 [.imm g, .imm e] = some (.imm (f6 k), [none, none])) : mSet 7 (mCall (cl 8) (rVal (mVar 6) (rVal (mVar 4) rNil))) (SF x0 L part e x5 (some (.imm g)) x7) = some (.next, SF x0 L part e x5 (some (.imm g)) (some (.imm (f6 k)))) :=
  c_set (c_call rfl rfl rfl h rfl) rfl
theorem push_nil (p : Pr) : pushS [] p = if p.2 = 0 then [] else [p] := rfl
theorem push_cons (l : Pr) (s : Row) (p : Pr) : pushS (l :: s) p = if l.1 = p.1 then (if l.2 + p.2 = 0 then s else (p.1, l.2 + p.2) :: s) else if p.2 = 0 then l :: s else p :: l :: s := rfl
def lm (s : Row) : Prop := ∀ p ∈ s, p.2.natAbs < 2 ^ 80
theorem plus6 {cl : Nat → Fn} (P : ShP cl) {e : D} {a k : Int} (he : IsFr e (v6 k)) (ha : a.natAbs < 2 ^ 80) (hk : k.natAbs < 2 ^ 80) : cl 8 [.imm (f6 a), .imm e] = some (.imm (f6 (a + k)), [none, none]) := by
  have := P.plus (f6 a) e (v6 a) (v6 k) (isFr _) he (v_sd ha).sm (v_sd hk).sm
  rw [v_add] at this
  exact this
theorem short_step {cl : Nat → Fn} (P : ShP cl) {x0 x5 x6 x7 : Option Sv} (s : Row) (p : Pr) {e : D} (he : IsFr e (v6 p.2)) (hs : lm s) (hp : p.2.natAbs < 2 ^ 80) (hl : s.length ≤ 800) :
    ∃ y5 y6 y7, sB cl (SF x0 (dsD s.reverse) p.1 e x5 x6 x7) = some (.next, SF x0 (dsD (pushS s p).reverse) p.1 e y5 y6 y7) := by
  have h0 : (0 : Int).natAbs < 2 ^ 80 := by decide
  match s, hs, hl with
  | [], _, _ =>
    have q := plus6 P he h0 hp
    rw [Int.zero_add] at q
    have pt := step_put (x0 := x0) (x6 := zz) (L := []) (a := 0) (part := p.1) (k := p.2) (e := e) (Nat.le_refl _) (by decide)
    refine ⟨ii ((0 : Nat) : Int), zz, some (.imm (f6 p.2)), ?_⟩
    have e2 : dsD (pushS [] p).reverse = ([] : List D).take 0 ++ (if p.2 = 0 then [] else [prD (p.1, p.2)]) ++ ([] : List D).drop (0 + 1) := by
      rw [push_nil]
      by_cases hz : p.2 = 0
      · rw [if_pos hz, if_pos hz]; rfl
      · rw [if_neg hz, if_neg hz]; rfl
    rw [e2]
    exact c_seq (call5 (P.nil p.1)) (c_seq (step_none (L := [])) (c_seq (call7 q) pt))
  | l :: s, hs, hl =>
    have hlen : (dsD s.reverse).length ≤ 800 := by rw [dsD_len, List.length_reverse]; simp only [List.length_cons] at hl; omega
    have hL : dsD (l :: s).reverse = dsD s.reverse ++ [.tuple [.int l.1, f6 l.2]] := by rw [List.reverse_cons, dsD_app]; rfl
    have c := P.last (dsD s.reverse) l.1 (f6 l.2) p.1 (by omega)
    by_cases h : l.1 = p.1
    · rw [if_pos h] at c
      have q := plus6 P he (hs l (List.mem_cons_self ..)) hp
      have ha := last_at (dsD s.reverse) (.tuple [.int l.1, f6 l.2])
      have pt := step_put (x0 := x0) (x6 := some (.imm (f6 l.2))) (L := dsD s.reverse ++ [.tuple [.int l.1, f6 l.2]]) (a := (dsD s.reverse).length) (part := p.1) (k := l.2 + p.2) (e := e) (by rw [List.length_append]; omega) (by rw [List.length_append]; simp; omega)
      have e2 : dsD (pushS (l :: s) p).reverse = (dsD s.reverse ++ [PyData.tuple [.int l.1, f6 l.2]]).take (dsD s.reverse).length ++ (if l.2 + p.2 = 0 then [] else [prD (p.1, l.2 + p.2)]) ++ (dsD s.reverse ++ [PyData.tuple [.int l.1, f6 l.2]]).drop ((dsD s.reverse).length + 1) := by
        rw [List.take_left, List.drop_of_length_le (by rw [List.length_append]; simp), List.append_nil]
        rw [push_cons, if_pos h]
        by_cases hz : l.2 + p.2 = 0
        · rw [if_pos hz, if_pos hz, List.append_nil]
        · rw [if_neg hz, if_neg hz, List.reverse_cons, dsD_app]; rfl
      rw [e2, hL]
      generalize dsD s.reverse = ds at *
      exact ⟨_, _, _, c_seq (call5 c) (c_seq (step_at ha) (c_seq (call7 q) pt))⟩
    · rw [if_neg h] at c
      have q := plus6 P he h0 hp
      rw [Int.zero_add] at q
      have pt := step_put (x0 := x0) (x6 := zz) (L := dsD s.reverse ++ [.tuple [.int l.1, f6 l.2]]) (a := (dsD s.reverse ++ [PyData.tuple [.int l.1, f6 l.2]]).length) (part := p.1) (k := p.2) (e := e) (Nat.le_refl _) (by rw [List.length_append]; simp; omega)
      have e2 : dsD (pushS (l :: s) p).reverse = (dsD s.reverse ++ [PyData.tuple [.int l.1, f6 l.2]]).take (dsD s.reverse ++ [PyData.tuple [.int l.1, f6 l.2]]).length ++ (if p.2 = 0 then [] else [prD (p.1, p.2)]) ++ (dsD s.reverse ++ [PyData.tuple [.int l.1, f6 l.2]]).drop ((dsD s.reverse ++ [PyData.tuple [.int l.1, f6 l.2]]).length + 1) := by
        rw [List.take_length, List.drop_of_length_le (by omega), List.append_nil]
        rw [push_cons, if_neg h]
        by_cases hz : p.2 = 0
        · rw [if_pos hz, if_pos hz, hL, List.append_nil]
        · rw [if_neg hz, if_neg hz, List.reverse_cons, dsD_app, hL]; rfl
      rw [e2, hL]
      generalize dsD s.reverse ++ [PyData.tuple [.int l.1, f6 l.2]] = L at *
      exact ⟨_, _, _, c_seq (call5 c) (c_seq step_none (c_seq (call7 q) pt))⟩
/-! sizes -/
def norm (r : Row) : Nat := (r.map fun p => p.2.natAbs).sum
theorem norm_cons (p : Pr) (r : Row) : norm (p :: r) = p.2.natAbs + norm r := by unfold norm; rw [List.map_cons, List.sum_cons]
theorem norm_mem {r : Row} {p : Pr} (h : p ∈ r) : p.2.natAbs ≤ norm r := by
  induction r with
  | nil => cases h
  | cons q r ih =>
    rw [norm_cons]
    rcases List.mem_cons.mp h with rfl | h
    · omega
    · have := ih h; omega
theorem push_norm (s : Row) (p : Pr) : norm (pushS s p) ≤ norm s + p.2.natAbs := by
  unfold pushS
  split
  · split
    · simp [norm]
    · rw [norm_cons]; omega
  · rename_i l s
    rw [norm_cons]
    split
    · split
      · omega
      · rw [norm_cons]
        show (l.2 + p.2).natAbs + norm s ≤ _
        have := Int.natAbs_add_le l.2 p.2
        omega
    · split
      · rw [norm_cons]; omega
      · rw [norm_cons, norm_cons]; omega
theorem push_len (s : Row) (p : Pr) : (pushS s p).length ≤ s.length + 1 := by
  unfold pushS
  split
  · split <;> simp
  · split
    · split
      · rename_i l s _ _
        simp only [List.length_cons]; omega
      · simp only [List.length_cons]; omega
    · split
      · simp only [List.length_cons]; omega
      · simp only [List.length_cons]; omega
/-- all pairs -/
inductive IsPrs : List D → Row → Prop
  | nil : IsPrs [] []
  | cons {d : D} {p : Pr} {ds : List D} {r : Row} : IsPr d p → IsPrs ds r → IsPrs (d :: ds) (p :: r)
theorem isPrs : ∀ r : Row, IsPrs (dsD r) r
  | [] => .nil
  | p :: r => .cons (isPr p) (isPrs r)
theorem norm_lm {s : Row} (h : norm s < 2 ^ 80) : lm s := fun p hp => Nat.lt_of_le_of_lt (norm_mem hp) h
theorem short_loop {cl : Nat → Fn} (P : ShP cl) {x0 : Option Sv} : ∀ {ds : List D} {r : Row}, IsPrs ds r → ∀ (s : Row) (x3 x4 x5 x6 x7 : Option Sv), norm s + norm r < 2 ^ 80 → s.length + r.length ≤ 800 →
    ∃ y3 y4 y5 y6 y7, loop (mGseq 2 (mGcons (mN 3) (mGcons (mN 4) mGnil))) (sB cl) ds [x0, some (.imm (.tuple [])), some (.own .loc (dsD s.reverse)), x3, x4, x5, x6, x7] = some (.next, [x0, some (.imm (.tuple [])), some (.own .loc (dsD (r.foldl pushS s).reverse)), y3, y4, y5, y6, y7]) := by
  intro ds r h
  induction h with
  | nil => intro s x3 x4 x5 x6 x7 _ _; exact ⟨x3, x4, x5, x6, x7, rfl⟩
  | @cons d p ds r hp hr ih =>
    intro s x3 x4 x5 x6 x7 hn hl
    rw [norm_cons] at hn
    rw [List.length_cons] at hl
    obtain ⟨e, hd, he⟩ := hp
    have hg : mGseq 2 (mGcons (mN 3) (mGcons (mN 4) mGnil)) d [x0, some (.imm (.tuple [])), some (.own .loc (dsD s.reverse)), x3, x4, x5, x6, x7] = some (SF x0 (dsD s.reverse) p.1 e x5 x6 x7) := by
      rcases hd with rfl | rfl <;> rfl
    obtain ⟨y5, y6, y7, e1⟩ := short_step P (x0 := x0) (x5 := x5) (x6 := x6) (x7 := x7) s p he (norm_lm (by omega)) (by omega) (by omega)
    have k1 := push_norm s p
    have k2 := push_len s p
    obtain ⟨z3, z4, z5, z6, z7, e2⟩ := ih (pushS s p) (ii p.1) (some (.imm e)) y5 y6 y7 (by omega) (by omega)
    exact ⟨z3, z4, z5, z6, z7, c_cons hg e1 e2⟩
theorem short_ok {cl : Nat → Fn} (P : ShP cl) {d : D} {ds : List D} {r : Row} (hd : itemsOf d = some ds) (hr : IsPrs ds r) (hn : norm r < 2 ^ 80) (hl : r.length ≤ 800) : fn19 cl [.imm d, .imm (.tuple [])] = some (.own .loc (dsD (nf r)), [none, none]) := by
  obtain ⟨y3, y4, y5, y6, y7, e⟩ := short_loop P (x0 := some (.imm d)) hr [] none none none none none (by simpa [norm] using hn) (by simpa using hl)
  have hi : mISeq (mVar 0) [some (.imm d), some (.imm (.tuple [])), some (.own .loc (dsD [].reverse)), none, none, none, none, none] = some (ds, [some (.imm d), some (.imm (.tuple [])), some (.own .loc (dsD [].reverse)), none, none, none, none, none]) := by
    unfold mISeq
    rw [show mVar 0 [some (.imm d), some (.imm (.tuple [])), some (.own .loc (dsD [].reverse)), none, none, none, none, none] = some (.slot 0, [some (.imm d), some (.imm (.tuple [])), some (.own .loc (dsD [].reverse)), none, none, none, none, none]) from rfl]
    show (match itemsOf d with | some ds => some (ds, _) | none => none) = _
    rw [hd]
  rw [short_fn]
  exact c_fn (ρ0 := [some (.imm d), some (.imm (.tuple [])), none, none, none, none, none, none]) rfl rfl (c_seq (ρ1 := [some (.imm d), some (.imm (.tuple [])), some (.own .loc (dsD [].reverse)), none, none, none, none, none]) rfl (c_seq (c_for hi e) (c_ret (r := .own .loc (dsD (nf r))) rfl rfl))) rfl
def rowD (r : Row) : D := .tuple (dsD r)
theorem normal_ok {cl : Nat → Fn} {d : D} {r : Row} (h : cl 19 [.imm d, .imm (.tuple [])] = some (.own .loc (dsD (nf r)), [none, none])) : fn20 cl [.imm d] = some (.imm (rowD (nf r)), [none]) := by
  unfold fn20
  exact c_fn (ρ0 := [some (.imm d)]) rfl rfl (c_ret (c_un (c_call (c_rval rfl rfl (c_rval (c_tup c_anil rfl) rfl rfl)) rfl rfl h rfl) rfl rfl) rfl) rfl


theorem lay_pr (p : Pr) : PyData.canLay0 (prD p) = true := by
  unfold prD f6 fr
  simp [PyData.canLay0, PyData.canLayAll0]
theorem dep_pr (p : Pr) : PyData.depth (prD p) ≤ 2 := by
  unfold prD f6 fr
  simp [PyData.depth, PyData.depthAll]
theorem lay_ds : ∀ r : Row, PyData.canLayAll0 (dsD r) = true
  | [] => by rw [show dsD [] = [] from rfl, PyData.canLayAll0]
  | p :: r => by rw [show dsD (p :: r) = prD p :: dsD r from rfl, PyData.canLayAll0, lay_pr, lay_ds r]; rfl
theorem dep_ds : ∀ r : Row, PyData.depthAll (dsD r) ≤ 2
  | [] => by rw [show dsD [] = [] from rfl, PyData.depthAll]; decide
  | p :: r => by
    rw [show dsD (p :: r) = prD p :: dsD r from rfl, PyData.depthAll]
    exact Nat.max_le.mpr ⟨dep_pr p, dep_ds r⟩
theorem ok_lst (r : Row) : okD (.list (dsD r)) = true := by
  show (PyData.canLay0 (.list (dsD r)) && decide (PyData.depth (.list (dsD r)) ≤ 64)) = true
  have := dep_ds r
  rw [PyData.canLay0, PyData.depth, lay_ds, decide_eq_true (by omega)]; rfl
theorem ok_tup (r : Row) : okD (.tuple (dsD r)) = true := by
  show (PyData.canLay0 (.tuple (dsD r)) && decide (PyData.depth (.tuple (dsD r)) ≤ 64)) = true
  have := dep_ds r
  rw [PyData.canLay0, PyData.depth, lay_ds, decide_eq_true (by omega)]; rfl
theorem ne_nil (r : Row) : dNe (.list (dsD r)) (.list []) = some (.imm (.bool (!r.isEmpty))) := by
  unfold dNe
  rw [ok_lst, show okD (.list []) = true from rfl]
  have : PyData.eqv (.list (dsD r)) (.list []) = r.isEmpty := by cases r <;> simp [dsD, PyData.eqv, PyData.eqvAll]
  rw [this]; rfl
/-! the law's own normal row -/
def LaddP (f : Fn) : Prop := ∀ (d e : D) (q r : Rat), IsFr d q → IsFr e r → Sd q → Sd r → f [.imm d, .imm e] = some (.imm (fr (q + r)), [none, none])
abbrev NF (x0 : Option Sv) (s : Row) (part : Int) (e : D) : Fm := [x0, some (.own .loc (dsD s.reverse)), ii part, some (.imm e)]
def nT : MT := (mAndT (mB (bin dNe (mVar 1) (mLst mNil))) (mB (bin dEq (bin dIx (bin dIx (mVar 1) (un dNeg (mC (.int 1)))) (mC (.int 0))) (mVar 2))))
def nA (cl : Nat → Fn) : MS := (mSet 3 (mCall (cl 40) (rVal (bin dIx (mPop 1) (mC (.int 1))) (rVal (mVar 3) rNil))))
def nP : MS := (mIfS (mB (bin dNe (bin dIx (mVar 3) (mC (.int 0))) (mC (.int 0)))) (mDrop (mApp 1 (mTup (mCons (mVar 2) (mCons (mVar 3) mNil))))) mNext)
theorem normal_fn (cl : Nat → Fn) : fn43 cl = mFn 4 1 (mSeq (mSet 1 (mLst mNil)) (mSeq (mFor (mISeq (mVar 0)) (mGseq 2 (mGcons (mN 2) (mGcons (mN 3) mGnil))) (mSeq (mIfS nT (nA cl) mNext) nP)) (mRet (un dTuple (mVar 1))))) := rfl
theorem c_andTF {a b : MT} {ρ ρ1 : Fm} (h : a ρ = some (false, ρ1)) : mAndT a b ρ = some (false, ρ1) := by unfold mAndT; rw [h]
theorem c_andTT {a b : MT} {ρ ρ1 : Fm} {x : Option (Bool × Fm)} (h : a ρ = some (true, ρ1)) (h2 : b ρ1 = x) : mAndT a b ρ = x := by unfold mAndT; rw [h]; exact h2
theorem ne_int (i j : Int) : dNe (.int i) (.int j) = some (.imm (.bool (!(i == j)))) := by
  unfold dNe
  rw [okD_int, okD_int, eqv_int]; rfl
theorem at_neg {L : List D} {d : D} : L2.atI (L ++ [d]) (-1) = some d := by
  unfold L2.atI L2.ixN
  simp only [List.length_append, List.length_cons, List.length_nil]
  rw [if_neg (by omega), if_pos (by omega), show ((-1 : Int) + ((L.length + (0 + 1) : Nat) : Int)).toNat = L.length by omega]
  exact List.getElem?_concat_length ..
theorem c_skip {ρ : Fm} : mNext ρ = some (.next, ρ) := rfl
theorem np_ok {x0 : Option Sv} (s : Row) (part k : Int) (hl : s.length ≤ 900) : nP (NF x0 s part (f6 k)) = some (.next, NF x0 (if k = 0 then s else (part, k) :: s) part (f6 k)) := by
  have t : mB (bin dNe (bin dIx (mVar 3) (mC (.int 0))) (mC (.int 0))) (NF x0 s part (f6 k)) = some (!((v6 k).num == 0), NF x0 s part (f6 k)) := c_b (c_bin (c_bin rfl rfl rfl rfl rfl) rfl rfl rfl (ne_int _ _))
  unfold nP
  by_cases h : k = 0
  · rw [show (!((v6 k).num == 0)) = false by rw [(v_num k).mpr h]; rfl] at t
    rw [if_pos h]
    exact c_ifF t c_skip
  · rw [show (!((v6 k).num == 0)) = true by rw [beq_eq_false_iff_ne.mpr (fun z => h ((v_num k).mp z))]; rfl] at t
    rw [if_neg h]
    have a : mTup (mCons (mVar 2) (mCons (mVar 3) mNil)) (NF x0 s part (f6 k)) = some (.val (.imm (prD (part, k))), NF x0 s part (f6 k)) := c_tup (c_acons rfl rfl (c_acons rfl rfl c_anil)) rfl
    have hf : fits ((dsD s.reverse).length + 1) = true := c_fits (by rw [dsD_len, List.length_reverse]; omega)
    have e2 : dsD ((part, k) :: s).reverse = dsD s.reverse ++ [prD (part, k)] := by rw [List.reverse_cons, dsD_app]; rfl
    have b := c_app (i := 1) (ρ := NF x0 s part (f6 k)) rfl a rfl rfl hf
    have g := c_ifT t (n := mNext) (c_drop b)
    rw [g]
    show some (Fl.next, [x0, some (.own .loc (dsD s.reverse ++ [prD (part, k)])), ii part, some (.imm (f6 k))]) = _
    rw [← e2]
theorem nt_nil {x0 : Option Sv} {part : Int} {e : D} : nT (NF x0 [] part e) = some (false, NF x0 [] part e) := by
  have n := ne_nil []
  exact c_andTF (c_b (b := false) (c_bin rfl (c_lst c_anil rfl) rfl rfl n))
theorem nt_cons {x0 : Option Sv} {part : Int} {e : D} (l : Pr) (s : Row) : nT (NF x0 (l :: s) part e) = some (l.1 == part, NF x0 (l :: s) part e) := by
  have n := ne_nil (l :: s).reverse
  have hz : (l :: s).reverse.isEmpty = false := by simp
  rw [hz] at n
  have hL : dsD (l :: s).reverse = dsD s.reverse ++ [.tuple [.int l.1, f6 l.2]] := by rw [List.reverse_cons, dsD_app]; rfl
  have ha : L2.atI (dsD (l :: s).reverse) (-1) = some (.tuple [.int l.1, f6 l.2]) := by rw [hL]; exact at_neg
  have hx : dIx (.list (dsD (l :: s).reverse)) (.int (-1)) = some (.imm (.tuple [.int l.1, f6 l.2])) := by
    show (L2.atI (dsD (l :: s).reverse) (-1)).map Sv.imm = _
    rw [ha]; rfl
  generalize hg : dsD (l :: s).reverse = L at *
  have hN : NF x0 (l :: s) part e = [x0, some (.own .loc L), ii part, some (.imm e)] := by rw [← hg]
  rw [hN]
  have a1 : mB (bin dNe (mVar 1) (mLst mNil)) [x0, some (.own .loc L), ii part, some (.imm e)] = some (true, [x0, some (.own .loc L), ii part, some (.imm e)]) := c_b (b := true) (c_bin rfl (c_lst c_anil rfl) rfl rfl n)
  have a2 : bin dIx (mVar 1) (un dNeg (mC (.int 1))) [x0, some (.own .loc L), ii part, some (.imm e)] = some (.val (.imm (.tuple [.int l.1, f6 l.2])), [x0, some (.own .loc L), ii part, some (.imm e)]) := c_bin rfl last_1 rfl rfl hx
  exact c_andTT a1 (c_b (c_bin (c_bin a2 rfl rfl rfl rfl) rfl rfl rfl (eq_int _ _)))
theorem na_ok {cl : Nat → Fn} (P : LaddP (cl 40)) {x0 : Option Sv} (l : Pr) (s : Row) (part k : Int) (h1 : l.2.natAbs < 2 ^ 80) (h2 : k.natAbs < 2 ^ 80) : nA cl (NF x0 (l :: s) part (f6 k)) = some (.next, NF x0 s part (f6 (l.2 + k))) := by
  have q := P (f6 l.2) (f6 k) _ _ (isFr _) (isFr _) (v_sd h1) (v_sd h2)
  rw [v_add] at q
  have hL : dsD (l :: s).reverse = dsD s.reverse ++ [.tuple [.int l.1, f6 l.2]] := by rw [List.reverse_cons, dsD_app]; rfl
  have p : mPop 1 (NF x0 (l :: s) part (f6 k)) = some (.val (.imm (.tuple [.int l.1, f6 l.2])), NF x0 s part (f6 k)) := by
    show (match (dsD (l :: s).reverse)[(dsD (l :: s).reverse).length - 1]? with | some d => some (PR.val (.imm d), [x0, some (.own .loc (dsD (l :: s).reverse).dropLast), ii part, some (.imm (f6 k))]) | none => none) = _
    rw [hL, List.dropLast_concat, show (dsD s.reverse ++ [PyData.tuple [.int l.1, f6 l.2]]).length - 1 = (dsD s.reverse).length by rw [List.length_append]; simp, List.getElem?_concat_length]
  unfold nA
  exact c_set (c_call (c_rval (c_bin p rfl rfl rfl rfl) rfl (c_rval rfl rfl rfl)) rfl rfl q rfl) rfl
theorem law_step {cl : Nat → Fn} (P : LaddP (cl 40)) {x0 : Option Sv} (s : Row) (p : Pr) (hs : lm s) (hp : p.2.natAbs < 2 ^ 80) (hl : s.length ≤ 800) : ∃ e, mSeq (mIfS nT (nA cl) mNext) nP (NF x0 s p.1 (f6 p.2)) = some (.next, NF x0 (pushS s p) p.1 e) := by
  cases s with
  | nil => exact ⟨f6 p.2, c_seq (c_ifF nt_nil c_skip) (np_ok [] p.1 p.2 (by decide))⟩
  | cons l s =>
    have t := nt_cons (x0 := x0) (part := p.1) (e := f6 p.2) l s
    by_cases h : l.1 = p.1
    · rw [show (l.1 == p.1) = true from beq_iff_eq.mpr h] at t
      refine ⟨f6 (l.2 + p.2), ?_⟩
      rw [push_cons, if_pos h]
      exact c_seq (c_ifT t (na_ok P l s p.1 p.2 (hs l (List.mem_cons_self ..)) hp)) (np_ok s p.1 (l.2 + p.2) (by simp only [List.length_cons] at hl; omega))
    · rw [show (l.1 == p.1) = false from beq_eq_false_iff_ne.mpr h] at t
      refine ⟨f6 p.2, ?_⟩
      rw [push_cons, if_neg h]
      exact c_seq (c_ifF t c_skip) (np_ok (l :: s) p.1 p.2 (by omega))
theorem law_loop {cl : Nat → Fn} (P : LaddP (cl 40)) {x0 : Option Sv} : ∀ (r s : Row) (x2 x3 : Option Sv), norm s + norm r < 2 ^ 80 → s.length + r.length ≤ 800 →
    ∃ y2 y3, loop (mGseq 2 (mGcons (mN 2) (mGcons (mN 3) mGnil))) (mSeq (mIfS nT (nA cl) mNext) nP) (dsD r) [x0, some (.own .loc (dsD s.reverse)), x2, x3] = some (.next, [x0, some (.own .loc (dsD (r.foldl pushS s).reverse)), y2, y3]) := by
  intro r
  induction r with
  | nil => intro s x2 x3 _ _; exact ⟨x2, x3, rfl⟩
  | cons p r ih =>
    intro s x2 x3 hn hl
    rw [norm_cons] at hn
    rw [List.length_cons] at hl
    obtain ⟨e, e1⟩ := law_step P (x0 := x0) s p (norm_lm (by omega)) (by omega) (by omega)
    have k1 := push_norm s p
    have k2 := push_len s p
    obtain ⟨y2, y3, e2⟩ := ih (pushS s p) (ii p.1) (some (.imm e)) (by omega) (by omega)
    exact ⟨y2, y3, c_cons (d := prD p) (ρ1 := NF x0 s p.1 (f6 p.2)) rfl e1 e2⟩
theorem law_normal {cl : Nat → Fn} (P : LaddP (cl 40)) {r : Row} (hn : norm r < 2 ^ 80) (hl : r.length ≤ 800) : fn43 cl [.imm (rowD r)] = some (.imm (rowD (nf r)), [none]) := by
  obtain ⟨y2, y3, e⟩ := law_loop P (x0 := some (.imm (rowD r))) r [] none none (by simpa [norm] using hn) (by simpa using hl)
  rw [normal_fn]
  exact c_fn (ρ0 := [some (.imm (rowD r)), none, none, none]) rfl rfl (c_seq (ρ1 := [some (.imm (rowD r)), some (.own .loc (dsD [].reverse)), none, none]) rfl (c_seq (c_for (ds := dsD r) (ρ1 := [some (.imm (rowD r)), some (.own .loc (dsD [].reverse)), none, none]) rfl e) (c_ret (c_un rfl rfl rfl) rfl))) rfl


end Nf
end K41

namespace K41
open PySem Vi PyProof.Rows
/-! sign_steps and its twin -/
abbrev TF (r : List (Int × Int)) (a b o h : Int) (L : List (Int × Int × Int)) (s6 s7 s8 s9 : Option Sv) : Fm := [dd (rowD r), ii a, ii b, dd (fr (xq o)), dd (fr (xq h)), some (.own .loc (L.map stD)), s6, s7, s8, s9]
def tC (cl : Nat → Fn) : ME := (mCall (cl 9) (rVal (mCall (cl 12) (rVal (mCall (cl 9) (rVal (mVar 3) (rVal (mVar 4) rNil))) (rVal (mC (.int 3)) rNil))) (rVal (mCall (cl 12) (rVal (mCall (cl 9) (rVal (mVar 8) (rVal (mVar 4) rNil))) (rVal (mC (.int 3)) rNil))) rNil)))
def tT (cl : Nat → Fn) : ME := (mTup (mCons (mVar 8) (mCons (mVar 3) (mCons (mVar 4) (mCons (mCall (cl 11) (rVal (mVar 9) (rVal (mCall (cl 7) (rVal (mC (.int 3)) rNil)) rNil))) mNil)))))
def tB (cl : Nat → Fn) : MS := (mSeq (mIfS (mB (bin dEq (mVar 6) (mVar 2))) (mSet 4 (mCall (cl 8) (rVal (mVar 4) (rVal (mVar 7) rNil)))) mNext) (mIfS (mB (bin dEq (mVar 6) (mVar 1))) (mSeq (mPar 8 3 (mVar 3) (mCall (cl 8) (rVal (mVar 3) (rVal (mVar 7) rNil)))) (mSeq (mSet 9 (tC cl)) (mDrop (mApp 5 (tT cl))))) mNext))
theorem t_fn (cl : Nat → Fn) : fn29 cl = mFn 10 3 (mSeq (mPar3O 3 4 5 (mC (.tuple ([0, 1].map .int))) (mC (.tuple ([0, 1].map .int))) (mLst mNil)) (mSeq (mFor (mISeq (mVar 0)) (mGseq 2 (mGcons (mN 6) (mGcons (mN 7) mGnil))) (tB cl)) (mRet (un dTuple (mVar 5))))) := rfl
structure At (cl : Nat → Fn) : Prop where
  P : PlusP (cl 8)
  M : MinusP (cl 9)
  W : PowP (cl 12)
  V : OverP (cl 11)
  H : WholeP (cl 7)
theorem xs_sm {n : Int} (h : n.natAbs ≤ 1000) : Sm (xq n) := (xs_sd h).sm
theorem c3_sm {m : Int} (h : m.natAbs ≤ 1000) : Sm (mkRat (c3 m) 216) := (c3_sd h).sm
theorem sh_sd {m k : Int} (h1 : m.natAbs ≤ 1000) (h2 : k.natAbs ≤ 1000) : Sd (mkRat (c3 m - c3 k) 216) := by
  have a := c3_le h1
  have b := c3_le h2
  exact mk_sd (by decide) (by omega) (by decide)
theorem plus_xq {f : Fn} (P : PlusP f) {x y : Int} (h1 : x.natAbs ≤ 1000) (h2 : y.natAbs ≤ 1000) : f [.imm (fr (xq x)), .imm (fr (xq y))] = some (.imm (fr (xq (x + y))), [none, none]) := by
  have := P _ _ _ _ (isFr (xq x)) (isFr (xq y)) (xs_sm h1) (xs_sm h2)
  rw [xq_add] at this; exact this
theorem minus_xq {f : Fn} (P : MinusP f) {x y : Int} (h1 : x.natAbs ≤ 1000) (h2 : y.natAbs ≤ 1000) : f [.imm (fr (xq x)), .imm (fr (xq y))] = some (.imm (fr (xq (x - y))), [none, none]) := by
  have := P _ _ _ _ (isFr (xq x)) (isFr (xq y)) (xs_sm h1) (xs_sm h2)
  rw [mk_sub (by decide)] at this; exact this
theorem t_step {cl : Nat → Fn} (A : At cl) {r : List (Int × Int)} {a b : Int} (hab : a ≠ b) {p n o h : Int} {L : List (Int × Int × Int)} {s8 s9 : Option Sv} (hn : n.natAbs ≤ 18) (ho : o.natAbs ≤ 200) (hh : h.natAbs ≤ 200) (hL : L.length ≤ 100) :
    ∃ (y8 y9 : Option Sv), tB cl (TF r a b o h L (ii p) (dd (fr (xq n))) s8 s9) = some (.next, TF r a b (if p = a then o + n else o) (if p = a then h else if p = b then h + n else h) (if p = a then L ++ [(o, o + n, h)] else L) (ii p) (dd (fr (xq n))) y8 y9) := by
  have t1 : mB (bin dEq (mVar 6) (mVar 2)) (TF r a b o h L (ii p) (dd (fr (xq n))) s8 s9) = some (p == b, TF r a b o h L (ii p) (dd (fr (xq n))) s8 s9) := c_b (c_bin rfl rfl rfl rfl (eq_int p b))
  by_cases h1 : p = a
  · have h2 : (p == b) = false := by simp; exact fun h3 => hab (h1.symm.trans h3)
    rw [h2] at t1
    simp only [if_pos h1]
    have t2 : mB (bin dEq (mVar 6) (mVar 1)) (TF r a b o h L (ii p) (dd (fr (xq n))) s8 s9) = some (true, TF r a b o h L (ii p) (dd (fr (xq n))) s8 s9) := by
      have := eq_int p a
      rw [show (p == a) = true by simp [h1]] at this
      exact c_b (c_bin rfl rfl rfl rfl this)
    have e1 : mPar 8 3 (mVar 3) (mCall (cl 8) (rVal (mVar 3) (rVal (mVar 7) rNil))) (TF r a b o h L (ii p) (dd (fr (xq n))) s8 s9) = some (.next, TF r a b (o + n) h L (ii p) (dd (fr (xq n))) (dd (fr (xq o))) s9) :=
      c_par (i := 8) (j := 3) (ρ4 := TF r a b o h L (ii p) (dd (fr (xq n))) s8 s9) (s1 := .imm (fr (xq o))) (s2 := .imm (fr (xq (o + n)))) rfl rfl (v_call2 (ev_var (i := 3) rfl) (ev_var (i := 7) rfl) (plus_xq A.P (by omega) (by omega))) rfl rfl
    have m1 := minus_xq A.M (x := o + n) (y := h) (by omega) (by omega)
    have m2 := minus_xq A.M (x := o) (y := h) (by omega) (by omega)
    have m3 := A.M _ _ _ _ (isFr (mkRat (c3 (o + n - h)) 216)) (isFr (mkRat (c3 (o - h)) 216)) (c3_sm (by omega)) (c3_sm (by omega))
    rw [mk_sub (by decide)] at m3
    have e2 : mSet 9 (tC cl) (TF r a b (o + n) h L (ii p) (dd (fr (xq n))) (dd (fr (xq o))) s9) = some (.next, TF r a b (o + n) h L (ii p) (dd (fr (xq n))) (dd (fr (xq o))) (dd (fr (mkRat (c3 (o + n - h) - c3 (o - h)) 216)))) :=
      c_set (v_call2 (e_call2 (e_call2 (ev_var (i := 3) rfl) (ev_var (i := 4) rfl) m1) ev_c (A.W _ (by omega))) (e_call2 (e_call2 (ev_var (i := 8) rfl) (ev_var (i := 4) rfl) m2) ev_c (A.W _ (by omega))) m3) rfl
    have m4 := A.V _ _ 3 (isFr (mkRat (c3 (o + n - h) - c3 (o - h)) 216)) (sh_sd (by omega) (by omega)).sm (by decide) (by decide)
    rw [third] at m4
    have e3 : tT cl (TF r a b (o + n) h L (ii p) (dd (fr (xq n))) (dd (fr (xq o))) (dd (fr (mkRat (c3 (o + n - h) - c3 (o - h)) 216)))) = some (.val (.imm (stD (o, o + n, h))), TF r a b (o + n) h L (ii p) (dd (fr (xq n))) (dd (fr (xq o))) (dd (fr (mkRat (c3 (o + n - h) - c3 (o - h)) 216)))) :=
      c_tup (ea_cons (ev_var (i := 8) rfl) (ea_cons (ev_var (i := 3) rfl) (ea_cons (ev_var (i := 4) rfl) (ea_cons (e_call2 (ev_var (i := 9) rfl) (e_call1 ev_c (A.H 3)) m4) ea_nil)))) (c_fits (by simp))
    have e4 : mDrop (mApp 5 (tT cl)) (TF r a b (o + n) h L (ii p) (dd (fr (xq n))) (dd (fr (xq o))) (dd (fr (mkRat (c3 (o + n - h) - c3 (o - h)) 216)))) = some (.next, TF r a b (o + n) h (L ++ [(o, o + n, h)]) (ii p) (dd (fr (xq n))) (dd (fr (xq o))) (dd (fr (mkRat (c3 (o + n - h) - c3 (o - h)) 216)))) := by
      have k := c_drop (c_app (i := 5) (b := .loc) (b2 := .loc) (ds := L.map stD) (ys := L.map stD) rfl e3 rfl rfl (c_fits (by rw [List.length_map]; omega)))
      rw [k]
      unfold TF
      rw [List.map_append]; rfl
    exact ⟨_, _, c_seq (c_ifF t1 c_skip) (c_ifT t2 (c_seq e1 (c_seq e2 e4)))⟩
  · simp only [if_neg h1]
    have t2 : ∀ h' : Int, mB (bin dEq (mVar 6) (mVar 1)) (TF r a b o h' L (ii p) (dd (fr (xq n))) s8 s9) = some (false, TF r a b o h' L (ii p) (dd (fr (xq n))) s8 s9) := fun h' => by
      have := eq_int p a
      rw [show (p == a) = false by simp [h1]] at this
      exact c_b (c_bin rfl rfl rfl rfl this)
    by_cases h2 : p = b
    · rw [show (p == b) = true by simp [h2]] at t1
      simp only [if_pos h2]
      have e1 : mSet 4 (mCall (cl 8) (rVal (mVar 4) (rVal (mVar 7) rNil))) (TF r a b o h L (ii p) (dd (fr (xq n))) s8 s9) = some (.next, TF r a b o (h + n) L (ii p) (dd (fr (xq n))) s8 s9) :=
        c_set (v_call2 (ev_var (i := 4) rfl) (ev_var (i := 7) rfl) (plus_xq A.P (by omega) (by omega))) rfl
      exact ⟨_, _, c_seq (c_ifT t1 e1) (c_ifF (t2 _) c_skip)⟩
    · rw [show (p == b) = false by simp [h2]] at t1
      simp only [if_neg h2]
      exact ⟨_, _, c_seq (c_ifF t1 c_skip) (c_ifF (t2 _) c_skip)⟩
def StB (B : MS) (r : List (Int × Int)) (a b : Int) : Prop := ∀ {p n o h : Int} {L : List (Int × Int × Int)} {s8 s9 : Option Sv}, n.natAbs ≤ 18 → o.natAbs ≤ 200 → h.natAbs ≤ 200 → L.length ≤ 100 →
    ∃ (y8 y9 : Option Sv), B (TF r a b o h L (ii p) (dd (fr (xq n))) s8 s9) = some (.next, TF r a b (if p = a then o + n else o) (if p = a then h else if p = b then h + n else h) (if p = a then L ++ [(o, o + n, h)] else L) (ii p) (dd (fr (xq n))) y8 y9)
theorem t_loop {B : MS} {r : List (Int × Int)} {a b : Int} (A : StB B r a b) : ∀ (u : List (Int × Int)) (o h : Int) (L : List (Int × Int × Int)) (s6 s7 s8 s9 : Option Sv), (∀ x ∈ u, x.2.natAbs ≤ 18) → o.natAbs + 18 * u.length ≤ 200 → h.natAbs + 18 * u.length ≤ 200 → L.length + u.length ≤ 100 →
    ∃ (o' h' : Int) (y6 y7 y8 y9 : Option Sv), loop (mGseq 2 (mGcons (mN 6) (mGcons (mN 7) mGnil))) B (u.map prD) (TF r a b o h L s6 s7 s8 s9) = some (.next, TF r a b o' h' (L ++ stL a b o h u) y6 y7 y8 y9)
  | [], o, h, L, s6, s7, s8, s9, _, _, _, _ => ⟨o, h, s6, s7, s8, s9, by rw [show stL a b o h [] = [] from rfl, List.append_nil]; rfl⟩
  | (p, n) :: u, o, h, L, s6, s7, s8, s9, hu, ho, hh, hL => by
    rw [List.length_cons] at ho hh hL
    have hn : n.natAbs ≤ 18 := hu (p, n) (List.mem_cons_self ..)
    have hu2 : ∀ x ∈ u, x.2.natAbs ≤ 18 := fun x hx => hu x (List.mem_cons_of_mem _ hx)
    obtain ⟨y8, y9, e1⟩ := A (p := p) (L := L) (s8 := s8) (s9 := s9) hn (show o.natAbs ≤ 200 by omega) (show h.natAbs ≤ 200 by omega) (by omega)
    by_cases h1 : p = a
    · simp only [if_pos h1] at e1
      obtain ⟨o', h', z6, z7, z8, z9, e2⟩ := t_loop A u (o + n) h (L ++ [(o, o + n, h)]) (ii p) (dd (fr (xq n))) y8 y9 hu2 (by omega) (by omega) (by rw [List.length_append, List.length_singleton]; omega)
      refine ⟨o', h', z6, z7, z8, z9, ?_⟩
      rw [show stL a b o h ((p, n) :: u) = (o, o + n, h) :: stL a b (o + n) h u by simp only [stL, if_pos h1], List.append_cons]
      exact c_cons (ρ1 := TF r a b o h L (ii p) (dd (fr (xq n))) s8 s9) rfl e1 e2
    · simp only [if_neg h1] at e1
      by_cases h2 : p = b
      · simp only [if_pos h2] at e1
        obtain ⟨o', h', z6, z7, z8, z9, e2⟩ := t_loop A u o (h + n) L (ii p) (dd (fr (xq n))) y8 y9 hu2 (by omega) (by omega) (by omega)
        refine ⟨o', h', z6, z7, z8, z9, ?_⟩
        rw [show stL a b o h ((p, n) :: u) = stL a b o (h + n) u by simp only [stL, if_neg h1, if_pos h2]]
        exact c_cons (ρ1 := TF r a b o h L (ii p) (dd (fr (xq n))) s8 s9) rfl e1 e2
      · simp only [if_neg h2] at e1
        obtain ⟨o', h', z6, z7, z8, z9, e2⟩ := t_loop A u o h L (ii p) (dd (fr (xq n))) y8 y9 hu2 (by omega) (by omega) (by omega)
        refine ⟨o', h', z6, z7, z8, z9, ?_⟩
        rw [show stL a b o h ((p, n) :: u) = stL a b o h u by simp only [stL, if_neg h1, if_neg h2]]
        exact c_cons (ρ1 := TF r a b o h L (ii p) (dd (fr (xq n))) s8 s9) rfl e1 e2
theorem zero_xq : fr (xq 0) = .tuple ([0, 1].map .int) := by
  unfold fr xq
  rw [Rat.zero_mkRat]; rfl
def StepP (f : Fn) : Prop := ∀ (r : List (Int × Int)) (a b : Int), a ≠ b → (∀ x ∈ r, x.2.natAbs ≤ 18) → r.length ≤ 8 → f [.imm (rowD r), .imm (.int a), .imm (.int b)] = some (.imm (.tuple ((stL a b 0 0 r).map stD)), [none, none, none])
theorem t_ok {cl : Nat → Fn} (A : At cl) : StepP (fn29 cl) := fun r a b hab hr hl => by
  obtain ⟨o', h', y6, y7, y8, y9, e⟩ := t_loop (B := tB cl) (r := r) (a := a) (b := b) (fun h1 h2 h3 h4 => t_step A hab h1 h2 h3 h4) r 0 0 [] none none none none hr (by simp; omega) (by simp; omega) (by simp; omega)
  rw [t_fn]
  have s1 : mPar3O 3 4 5 (mC (.tuple ([0, 1].map .int))) (mC (.tuple ([0, 1].map .int))) (mLst mNil) [dd (rowD r), ii a, ii b, none, none, none, none, none, none, none] = some (.next, TF r a b 0 0 [] none none none none) := by
    unfold TF
    rw [zero_xq]; rfl
  have s2 : mISeq (mVar 0) (TF r a b 0 0 [] none none none none) = some (r.map prD, TF r a b 0 0 [] none none none none) := rfl
  exact c_fn (ρ0 := [dd (rowD r), ii a, ii b, none, none, none, none, none, none, none]) rfl rfl (c_seq s1 (c_seq (c_for s2 e) (c_ret (c_un rfl rfl rfl) rfl))) rfl
/-! the law's -/
def uC (cl : Nat → Fn) : ME := (mCall (cl 42) (rVal (mCall (cl 48) (rVal (mCall (cl 42) (rVal (mVar 4) (rVal (mVar 3) rNil))) rNil)) (rVal (mCall (cl 48) (rVal (mCall (cl 42) (rVal (mVar 4) (rVal (mVar 8) rNil))) rNil)) rNil)))
def uT (cl : Nat → Fn) : ME := (mTup (mCons (mVar 3) (mCons (mVar 8) (mCons (mVar 4) (mCons (mCall (cl 38) (rVal (bin dIx (mVar 9) (mC (.int 0))) (rVal (bin dMul (bin dIx (mVar 9) (mC (.int 1))) (mC (.int 3))) rNil))) mNil)))))
def uB (cl : Nat → Fn) : MS := (mSeq (mIfS (mB (bin dEq (mVar 6) (mVar 1))) (mSeq (mSet 8 (mCall (cl 40) (rVal (mVar 3) (rVal (mVar 7) rNil)))) (mSeq (mSet 9 (uC cl)) (mSeq (mDrop (mApp 5 (uT cl))) (mSet 3 (mVar 8))))) mNext) (mIfS (mB (bin dEq (mVar 6) (mVar 2))) (mSet 4 (mCall (cl 40) (rVal (mVar 4) (rVal (mVar 7) rNil)))) mNext))
theorem u_fn (cl : Nat → Fn) : fn49 cl = mFn 10 3 (mSeq (mPar3O 3 4 5 (mTup (mCons (mC (.int 0)) (mCons (mC (.int 1)) mNil))) (mTup (mCons (mC (.int 0)) (mCons (mC (.int 1)) mNil))) (mLst mNil)) (mSeq (mFor (mISeq (mVar 0)) (mGseq 2 (mGcons (mN 6) (mGcons (mN 7) mGnil))) (uB cl)) (mRet (un dTuple (mVar 5))))) := rfl
structure Au (cl : Nat → Fn) : Prop where
  P : LaddP (cl 40)
  M : LsubP (cl 42)
  C : CubeP (cl 48)
  F : LowP (cl 38)
theorem ladd_xq {f : Fn} (P : LaddP f) {x y : Int} (h1 : x.natAbs ≤ 1000) (h2 : y.natAbs ≤ 1000) : f [.imm (fr (xq x)), .imm (fr (xq y))] = some (.imm (fr (xq (x + y))), [none, none]) := by
  have := P _ _ _ _ (isFr (xq x)) (isFr (xq y)) (xs_sd h1) (xs_sd h2)
  rw [xq_add] at this; exact this
theorem lsub_xq {f : Fn} (P : LsubP f) {x y : Int} (h1 : x.natAbs ≤ 1000) (h2 : y.natAbs ≤ 1000) : f [.imm (fr (xq x)), .imm (fr (xq y))] = some (.imm (fr (xq (x - y))), [none, none]) := by
  have := P _ _ _ _ (isFr (xq x)) (isFr (xq y)) (xs_sd h1) (xs_sd h2)
  rw [mk_sub (by decide)] at this; exact this
theorem cube_xq {f : Fn} (C : CubeP f) {x : Int} (h1 : x.natAbs ≤ 1000) : f [.imm (fr (xq x))] = some (.imm (fr (mkRat (c3 x) 216)), [none]) := by
  have := C _ _ (isFr (xq x)) (xs_sd h1) (xx_sd h1)
  rw [xq3] at this; exact this
theorem turn3 (o n h : Int) : c3 (h - o) - c3 (h - (o + n)) = c3 (o + n - h) - c3 (o - h) := by
  unfold c3
  grind
theorem u_step {cl : Nat → Fn} (A : Au cl) {r : List (Int × Int)} {a b : Int} (hab : a ≠ b) {p n o h : Int} {L : List (Int × Int × Int)} {s8 s9 : Option Sv} (hn : n.natAbs ≤ 18) (ho : o.natAbs ≤ 200) (hh : h.natAbs ≤ 200) (hL : L.length ≤ 100) :
    ∃ (y8 y9 : Option Sv), uB cl (TF r a b o h L (ii p) (dd (fr (xq n))) s8 s9) = some (.next, TF r a b (if p = a then o + n else o) (if p = a then h else if p = b then h + n else h) (if p = a then L ++ [(o, o + n, h)] else L) (ii p) (dd (fr (xq n))) y8 y9) := by
  have t2 : ∀ (o' : Int) (L' : List (Int × Int × Int)) (s8 s9 : Option Sv), mB (bin dEq (mVar 6) (mVar 2)) (TF r a b o' h L' (ii p) (dd (fr (xq n))) s8 s9) = some (p == b, TF r a b o' h L' (ii p) (dd (fr (xq n))) s8 s9) := fun _ _ _ _ => c_b (c_bin rfl rfl rfl rfl (eq_int p b))
  have t1 : mB (bin dEq (mVar 6) (mVar 1)) (TF r a b o h L (ii p) (dd (fr (xq n))) s8 s9) = some (p == a, TF r a b o h L (ii p) (dd (fr (xq n))) s8 s9) := c_b (c_bin rfl rfl rfl rfl (eq_int p a))
  by_cases h1 : p = a
  · have h2 : (p == b) = false := by simp; exact fun h3 => hab (h1.symm.trans h3)
    rw [h2] at t2
    rw [show (p == a) = true by simp [h1]] at t1
    simp only [if_pos h1]
    have e1 : mSet 8 (mCall (cl 40) (rVal (mVar 3) (rVal (mVar 7) rNil))) (TF r a b o h L (ii p) (dd (fr (xq n))) s8 s9) = some (.next, TF r a b o h L (ii p) (dd (fr (xq n))) (dd (fr (xq (o + n)))) s9) :=
      c_set (v_call2 (ev_var (i := 3) rfl) (ev_var (i := 7) rfl) (ladd_xq A.P (by omega) (by omega))) rfl
    have m1 := lsub_xq A.M (x := h) (y := o) (by omega) (by omega)
    have m2 := lsub_xq A.M (x := h) (y := o + n) (by omega) (by omega)
    have m3 := A.M _ _ _ _ (isFr (mkRat (c3 (h - o)) 216)) (isFr (mkRat (c3 (h - (o + n))) 216)) (c3_sd (by omega)) (c3_sd (by omega))
    rw [mk_sub (by decide), turn3] at m3
    have e2 : mSet 9 (uC cl) (TF r a b o h L (ii p) (dd (fr (xq n))) (dd (fr (xq (o + n)))) s9) = some (.next, TF r a b o h L (ii p) (dd (fr (xq n))) (dd (fr (xq (o + n)))) (dd (fr (mkRat (c3 (o + n - h) - c3 (o - h)) 216)))) :=
      c_set (v_call2 (e_call1 (e_call2 (ev_var (i := 4) rfl) (ev_var (i := 3) rfl) m1) (cube_xq A.C (by omega))) (e_call1 (e_call2 (ev_var (i := 4) rfl) (ev_var (i := 8) rfl) m2) (cube_xq A.C (by omega))) m3) rfl
    have sd := sh_sd (m := o + n - h) (k := o - h) (by omega) (by omega)
    have m4 := A.F (mkRat (c3 (o + n - h) - c3 (o - h)) 216).num ((mkRat (c3 (o + n - h) - c3 (o - h)) 216).den * 3) (Nat.mul_pos (Frac_pos _) (by decide)) (by
      have := sd.den
      have h2 : (2 : Nat) ^ 40 * 3 < 2 ^ 190 := by decide
      omega)
    rw [third, Int.natCast_mul] at m4
    have e3 : uT cl (TF r a b o h L (ii p) (dd (fr (xq n))) (dd (fr (xq (o + n)))) (dd (fr (mkRat (c3 (o + n - h) - c3 (o - h)) 216)))) = some (.val (.imm (stD (o, o + n, h))), TF r a b o h L (ii p) (dd (fr (xq n))) (dd (fr (xq (o + n)))) (dd (fr (mkRat (c3 (o + n - h) - c3 (o - h)) 216)))) :=
      c_tup (ea_cons (ev_var (i := 3) rfl) (ea_cons (ev_var (i := 8) rfl) (ea_cons (ev_var (i := 4) rfl) (ea_cons (e_call2 (ev_top (i := 9) rfl (isFr _)) (e_bin (ev_bot (i := 9) rfl (isFr _)) ev_c (mul_int sd.sm.den (by decide))) m4) ea_nil)))) (c_fits (by simp))
    have e4 : mDrop (mApp 5 (uT cl)) (TF r a b o h L (ii p) (dd (fr (xq n))) (dd (fr (xq (o + n)))) (dd (fr (mkRat (c3 (o + n - h) - c3 (o - h)) 216)))) = some (.next, TF r a b o h (L ++ [(o, o + n, h)]) (ii p) (dd (fr (xq n))) (dd (fr (xq (o + n)))) (dd (fr (mkRat (c3 (o + n - h) - c3 (o - h)) 216)))) := by
      have k := c_drop (c_app (i := 5) (b := .loc) (b2 := .loc) (ds := L.map stD) (ys := L.map stD) rfl e3 rfl rfl (c_fits (by rw [List.length_map]; omega)))
      rw [k]
      unfold TF
      rw [List.map_append]; rfl
    have e5 : mSet 3 (mVar 8) (TF r a b o h (L ++ [(o, o + n, h)]) (ii p) (dd (fr (xq n))) (dd (fr (xq (o + n)))) (dd (fr (mkRat (c3 (o + n - h) - c3 (o - h)) 216)))) = some (.next, TF r a b (o + n) h (L ++ [(o, o + n, h)]) (ii p) (dd (fr (xq n))) (dd (fr (xq (o + n)))) (dd (fr (mkRat (c3 (o + n - h) - c3 (o - h)) 216)))) := c_set rfl rfl
    exact ⟨_, _, c_seq (c_ifT t1 (c_seq e1 (c_seq e2 (c_seq e4 e5)))) (c_ifF (t2 _ _ _ _) c_skip)⟩
  · simp only [if_neg h1]
    rw [show (p == a) = false by simp [h1]] at t1
    by_cases h2 : p = b
    · rw [show (p == b) = true by simp [h2]] at t2
      simp only [if_pos h2]
      have e1 : mSet 4 (mCall (cl 40) (rVal (mVar 4) (rVal (mVar 7) rNil))) (TF r a b o h L (ii p) (dd (fr (xq n))) s8 s9) = some (.next, TF r a b o (h + n) L (ii p) (dd (fr (xq n))) s8 s9) :=
        c_set (v_call2 (ev_var (i := 4) rfl) (ev_var (i := 7) rfl) (ladd_xq A.P (by omega) (by omega))) rfl
      exact ⟨_, _, c_seq (c_ifF t1 c_skip) (c_ifT (t2 _ _ _ _) e1)⟩
    · rw [show (p == b) = false by simp [h2]] at t2
      simp only [if_neg h2]
      exact ⟨_, _, c_seq (c_ifF t1 c_skip) (c_ifF (t2 _ _ _ _) c_skip)⟩
theorem u_ok {cl : Nat → Fn} (A : Au cl) : StepP (fn49 cl) := fun r a b hab hr hl => by
  obtain ⟨o', h', y6, y7, y8, y9, e⟩ := t_loop (B := uB cl) (r := r) (a := a) (b := b) (fun h1 h2 h3 h4 => u_step A hab h1 h2 h3 h4) r 0 0 [] none none none none hr (by simp; omega) (by simp; omega) (by simp; omega)
  rw [u_fn]
  have s1 : mPar3O 3 4 5 (mTup (mCons (mC (.int 0)) (mCons (mC (.int 1)) mNil))) (mTup (mCons (mC (.int 0)) (mCons (mC (.int 1)) mNil))) (mLst mNil) [dd (rowD r), ii a, ii b, none, none, none, none, none, none, none] = some (.next, TF r a b 0 0 [] none none none none) := by
    unfold TF
    rw [zero_xq]; rfl
  have s2 : mISeq (mVar 0) (TF r a b 0 0 [] none none none none) = some (r.map prD, TF r a b 0 0 [] none none none none) := rfl
  exact c_fn (ρ0 := [dd (rowD r), ii a, ii b, none, none, none, none, none, none, none]) rfl rfl (c_seq s1 (c_seq (c_for s2 e) (c_ret (c_un rfl rfl rfl) rfl))) rfl
end K41

namespace K41
open PySem Vi PyProof.Rows
/-! the law's total -/
def TotP (f : Fn) : Prop := ∀ (r : List (Int × Int)) (a b : Int), (∀ x ∈ r, x.2.natAbs ≤ 18) → r.length ≤ 8 →
  f [.imm (rowD r), .imm (.int a), .imm (.int b)] = some (.imm (fr (vl 3 (2 * (wN r.reverse [a, b, b] - wN r.reverse [a, b, a] - wN r.reverse [a, a, b] + wN r.reverse [a, a, a])))), [none, none, none])
theorem two_fr : fr (vl 0 2) = .tuple [.int 2, .int 1] := by kernel_rfl
theorem tot_ok {cl : Nat → Fn} (Lw : LwP (cl 44) 8) (Ad : LaddP (cl 40)) (Su : LsubP (cl 42)) (Mu : LmulP (cl 41)) : TotP (fn50 cl) := fun r a b hr hl => by
  have hrR : ∀ x ∈ r.reverse, x.2.natAbs ≤ 18 := fun x hx => hr x (List.mem_reverse.mp hx)
  have sm3 : ∀ w : List Int, w.length = 3 → (wN r.reverse w).natAbs ≤ 10 ^ 9 := fun w hw => Nat.le_trans (wN_small hrR (by rw [List.length_reverse]; exact hl) (by omega)) (by decide)
  have q1 : cl 44 [.imm (rowD r), .imm (.tuple [.int b, .int b, .int a])] = some (.imm (fr (vl 3 (wN r.reverse [a, b, b]))), [none, none]) := Lw r [b, b, a] hr hl (by simp)
  have q2 : cl 44 [.imm (rowD r), .imm (.tuple [.int a, .int b, .int a])] = some (.imm (fr (vl 3 (wN r.reverse [a, b, a]))), [none, none]) := Lw r [a, b, a] hr hl (by simp)
  have q3 : cl 44 [.imm (rowD r), .imm (.tuple [.int b, .int a, .int a])] = some (.imm (fr (vl 3 (wN r.reverse [a, a, b]))), [none, none]) := Lw r [b, a, a] hr hl (by simp)
  have q4 : cl 44 [.imm (rowD r), .imm (.tuple [.int a, .int a, .int a])] = some (.imm (fr (vl 3 (wN r.reverse [a, a, a]))), [none, none]) := Lw r [a, a, a] hr hl (by simp)
  have b1 := sm3 [a, b, b] rfl
  have b2 := sm3 [a, b, a] rfl
  have b3 := sm3 [a, a, b] rfl
  have b4 := sm3 [a, a, a] rfl
  generalize wN r.reverse [a, b, b] = k1 at *
  generalize wN r.reverse [a, b, a] = k2 at *
  generalize wN r.reverse [a, a, b] = k3 at *
  generalize wN r.reverse [a, a, a] = k4 at *
  have big : ∀ k : Int, k.natAbs ≤ 10 ^ 11 → Sd (vl 3 k) := fun k h => vl_sd (Nat.lt_of_le_of_lt h (by decide))
  have a1 := Ad _ _ _ _ (isFr (vl 3 k1)) (isFr (vl 3 k4)) (big _ (by omega)) (big _ (by omega))
  rw [vl_add] at a1
  have a2 := Ad _ _ _ _ (isFr (vl 3 k2)) (isFr (vl 3 k3)) (big _ (by omega)) (big _ (by omega))
  rw [vl_add] at a2
  have a3 := Su _ _ _ _ (isFr (vl 3 (k1 + k4))) (isFr (vl 3 (k2 + k3))) (big _ (by omega)) (big _ (by omega))
  rw [show vl 3 (k1 + k4) + -vl 3 (k2 + k3) = vl 3 (k1 + k4 - (k2 + k3)) from mk_sub (by decide) _ _] at a3
  have a4 := Mu _ _ _ _ (isFr (vl 3 (k1 + k4 - (k2 + k3)))) (isFr (vl 0 2)) (big _ (by omega)) (vl_sd (by decide))
  rw [vl_mul (j := 3) (i := 0) (by decide), show ch (3 + 0) 3 = 1 from rfl, Int.one_mul, show (k1 + k4 - (k2 + k3)) * 2 = 2 * (k1 - k2 - k3 + k4) by omega, two_fr] at a4
  unfold fn50
  have w3 : ∀ x : Option Sv, ∀ i j k : Int, True := fun _ _ _ _ => trivial
  have z1 : mSet 3 (mCall (cl 40) (rVal (mCall (cl 44) (rVal (mVar 0) (rVal (mTup (mCons (mVar 2) (mCons (mVar 2) (mCons (mVar 1) mNil)))) rNil))) (rVal (mCall (cl 44) (rVal (mVar 0) (rVal (mTup (mCons (mVar 1) (mCons (mVar 1) (mCons (mVar 1) mNil)))) rNil))) rNil))) [dd (rowD r), ii a, ii b, none] = some (.next, [dd (rowD r), ii a, ii b, dd (fr (vl 3 (k1 + k4)))]) :=
    c_set (v_call2 (e_call2 (ev_var (i := 0) rfl) (e_tup (ea_cons (ev_var (i := 2) rfl) (ea_cons (ev_var (i := 2) rfl) (ea_cons (ev_var (i := 1) rfl) ea_nil))) (by simp)) q1) (e_call2 (ev_var (i := 0) rfl) (e_tup (ea_cons (ev_var (i := 1) rfl) (ea_cons (ev_var (i := 1) rfl) (ea_cons (ev_var (i := 1) rfl) ea_nil))) (by simp)) q4) a1) rfl
  have z2 : mSet 3 (mCall (cl 42) (rVal (mVar 3) (rVal (mCall (cl 40) (rVal (mCall (cl 44) (rVal (mVar 0) (rVal (mTup (mCons (mVar 1) (mCons (mVar 2) (mCons (mVar 1) mNil)))) rNil))) (rVal (mCall (cl 44) (rVal (mVar 0) (rVal (mTup (mCons (mVar 2) (mCons (mVar 1) (mCons (mVar 1) mNil)))) rNil))) rNil))) rNil))) [dd (rowD r), ii a, ii b, dd (fr (vl 3 (k1 + k4)))] = some (.next, [dd (rowD r), ii a, ii b, dd (fr (vl 3 (k1 + k4 - (k2 + k3))))]) :=
    c_set (v_call2 (ev_var (i := 3) rfl) (e_call2 (e_call2 (ev_var (i := 0) rfl) (e_tup (ea_cons (ev_var (i := 1) rfl) (ea_cons (ev_var (i := 2) rfl) (ea_cons (ev_var (i := 1) rfl) ea_nil))) (by simp)) q2) (e_call2 (ev_var (i := 0) rfl) (e_tup (ea_cons (ev_var (i := 2) rfl) (ea_cons (ev_var (i := 1) rfl) (ea_cons (ev_var (i := 1) rfl) ea_nil))) (by simp)) q3) a2) a3) rfl
  exact c_fn (ρ0 := [dd (rowD r), ii a, ii b, none]) rfl rfl (c_seq z1 (c_seq z2 (c_ret (v_call2 (ev_var (i := 3) rfl) (e_tup (ea_cons ev_c (ea_cons ev_c ea_nil)) (by simp)) a4) rfl))) rfl
/-! parts whose flow is below nothing -/
def SgnP (f : Fn) : Prop := ∀ q : Rat, f [.imm (fr q)] = some (.imm (.int (b2n (decide (0 < q.num)) - b2n (decide (q.num < 0)))), [none])
theorem sgn_ok {cl : Nat → Fn} : SgnP (fn14 cl) := fun q => by
  have h1 : EV (bin dGt (bin dIx (mVar 0) (mC (.int 0))) (mC (.int 0))) [dd (fr q)] (.bool (decide (0 < q.num))) := e_bin (ev_top rfl (isFr _)) ev_c rfl
  have h2 : EV (bin dLt (bin dIx (mVar 0) (mC (.int 0))) (mC (.int 0))) [dd (fr q)] (.bool (decide (q.num < 0))) := e_bin (ev_top rfl (isFr _)) ev_c rfl
  unfold fn14
  exact c_fn (ρ0 := [dd (fr q)]) rfl rfl (c_ret (v_bin h1 h2 rfl) rfl) rfl
theorem v6_neg (k : Int) : decide ((Nf.v6 k).num < 0) = decide (k < 0) := by
  have h : (mkRat k 6).num * 6 = k * ((mkRat k 6).den : Int) := by
    have h : mkRat (mkRat k 6).num (mkRat k 6).den = mkRat k 6 := by rw [Rat.mkRat_self]
    rw [Rat.mkRat_eq_iff (mkRat k 6).den_nz (by decide)] at h
    exact h
  have hd : 0 < ((mkRat k 6).den : Int) := by have := (mkRat k 6).den_nz; omega
  show decide ((mkRat k 6).num < 0) = _
  generalize (mkRat k 6).num = c at *
  generalize ((mkRat k 6).den : Int) = d at *
  have e : (c < 0) ↔ (k < 0) := by
    constructor
    · intro hc
      by_cases hk : k < 0
      · exact hk
      · have : 0 ≤ k * d := Int.mul_nonneg (by omega) (by omega)
        omega
    · intro hk
      have : k * d < 0 := Int.mul_neg_of_neg_of_pos hk hd
      omega
  exact decide_eq_decide.mpr e
theorem sgn_neg (p q : Prop) [Decidable p] [Decidable q] (h : p → ¬ q) : decide (b2n (decide p) - b2n (decide q) < 0) = decide q := by
  by_cases hq : q
  · have hp : ¬ p := fun hp => h hp hq
    rw [decide_eq_false hp, decide_eq_true hq]; rfl
  · rw [decide_eq_false hq]
    cases decide p <;> rfl
/-- the parts below nothing of a row -/
def bel (l : List (Int × Int)) : List Int := (l.filter fun p => decide (p.2 < 0)).map Prod.fst
theorem bel_loop {mt : MT} {x0 : Option Sv} {vs : List Nat} (i j : Nat) (hm : mGseq 2 (mGcons (mN i) (mGcons (mN j) mGnil)) = mGseq 2 (mGcons (mN i) (mGcons (mN j) mGnil))) : True := trivial
def BelP (f : Fn) : Prop := ∀ r : List (Int × Int), (∀ x ∈ r, x.2.natAbs ≤ 18) → r.length ≤ 8 → f [.imm (rowD r)] = some (.imm (.tuple (il (setI (bel (Nf.nf r))))), [none])
theorem sortset_int {ns : List Int} (h : ns.length < 63) : dSortSetI (.list (il ns)) = some (.own .loc (il (setI ns))) := by
  have e : intsOf2 (il ns) = some ns := by
    clear h
    induction ns with
    | nil => rfl
    | cons n ns ih =>
      show (match intsOf2 (il ns) with | some ms => some (n :: ms) | none => none) = _
      rw [ih]
  show (match intsOf2 (il ns) with | some ns => if decide (ns.length < 63) = true then some (Sv.own .loc ((setI ns).map .int)) else none | none => none) = _
  rw [e]
  show (if decide (ns.length < 63) = true then _ else none) = _
  rw [if_pos (decide_eq_true h)]
theorem bel_len (l : List (Int × Int)) : (bel l).length ≤ l.length := by
  unfold bel
  rw [List.length_map]
  exact List.length_filter_le _ _
theorem bel_c {cl : Nat → Fn} (S : SgnP (cl 14)) {x0 : Option Sv} : ∀ l : List (Int × Int), cloop (mGseq 2 (mGcons (mN 1) (mGcons (mN 2) mGnil))) (mB (bin dLt (mCall (cl 14) (rVal (mVar 2) rNil)) (mC (.int 0)))) (mVar 1) [1, 2] (Nf.dsD l) [x0, none, none] = some (il (bel l), [x0, none, none])
  | [] => rfl
  | (p, k) :: l => by
    have ih := bel_c S (x0 := x0) l
    have hlt : dLt (.int (b2n (decide (0 < (Nf.v6 k).num)) - b2n (decide ((Nf.v6 k).num < 0)))) (.int 0) = some (.imm (.bool (decide (k < 0)))) := by
      have h := sgn_neg (0 < (Nf.v6 k).num) ((Nf.v6 k).num < 0) (fun h1 h2 => by omega)
      have g : ∀ i : Int, dLt (.int i) (.int 0) = some (.imm (.bool (decide (i < 0)))) := fun _ => rfl
      rw [g, h, v6_neg]
    have ht : mB (bin dLt (mCall (cl 14) (rVal (mVar 2) rNil)) (mC (.int 0))) [x0, ii p, dd (fr (Nf.v6 k))] = some (decide (k < 0), [x0, ii p, dd (fr (Nf.v6 k))]) := c_b (v_bin (e_call1 (ev_var (i := 2) rfl) (S (Nf.v6 k))) ev_c hlt)
    by_cases hk : k < 0
    · rw [decide_eq_true hk] at ht
      rw [show bel ((p, k) :: l) = p :: bel l by unfold bel; rw [List.filter_cons_of_pos (by simpa using hk)]; rfl]
      exact c_ccons (d := .tuple [.int p, fr (Nf.v6 k)]) (ρ1 := [x0, ii p, dd (fr (Nf.v6 k))]) rfl ht rfl rfl ih
    · rw [decide_eq_false hk] at ht
      rw [show bel ((p, k) :: l) = bel l by unfold bel; rw [List.filter_cons_of_neg (by simpa using hk)]]
      exact c_cskip (d := .tuple [.int p, fr (Nf.v6 k)]) (ρ1 := [x0, ii p, dd (fr (Nf.v6 k))]) rfl ht ih
def NormP (f : Fn) : Prop := ∀ r : List (Int × Int), (∀ x ∈ r, x.2.natAbs ≤ 18) → r.length ≤ 8 → f [.imm (rowD r)] = some (.imm (Nf.rowD (Nf.nf r)), [none])
theorem nf_len (r : List (Int × Int)) : (Nf.nf r).length ≤ r.length := by
  have : ∀ (r s : List (Int × Int)), (r.foldl Nf.pushS s).length ≤ s.length + r.length := by
    intro r
    induction r with
    | nil => intro s; exact Nat.le_refl _
    | cons p r ih =>
      intro s
      have h1 := ih (Nf.pushS s p)
      have h2 := Nf.push_len s p
      rw [List.length_cons]
      rw [List.foldl_cons]
      omega
  unfold Nf.nf Nf.nfS
  rw [List.length_reverse]
  have := this r []
  simpa using this
theorem below_ok {cl : Nat → Fn} (S : SgnP (cl 14)) (N : NormP (cl 20)) : BelP (fn30 cl) := fun r hr hl => by
  have q := N r hr hl
  have h63 : (bel (Nf.nf r)).length < 63 := by have := bel_len (Nf.nf r); have := nf_len r; omega
  have hi : mISeq (mCall (cl 20) (rVal (mVar 0) rNil)) [dd (rowD r), none, none] = some (Nf.dsD (Nf.nf r), [dd (rowD r), none, none]) := by
    unfold mISeq
    rw [v_call1 (ev_var (i := 0) rfl) q]; rfl
  have hc := bel_c S (x0 := dd (rowD r)) (Nf.nf r)
  have hcmp := c_comp (vs := [1, 2]) (ρ3 := [dd (rowD r), none, none]) hi rfl hc (c_fits (by rw [List.length_map]; omega)) rfl
  unfold fn30
  exact c_fn (ρ0 := [dd (rowD r), none, none]) rfl rfl (c_ret (c_un (f := dTuple) (c_un (f := dSortSetI) hcmp rfl (sortset_int h63)) rfl rfl) rfl) rfl
/-! the same twice -/
def SameP (f : Fn) (d : D) : Prop := f [.imm d, .imm d] = some (.imm (.bool true), [none, none])
theorem zip_self : ∀ ds : List D, zipD ds ds = ds.map fun d => .tuple [d, d]
  | [] => rfl
  | d :: ds => by rw [zipD, zip_self ds]; rfl
theorem same_c {cl : Nat → Fn} (ds : List D) (x y : Option Sv) (h : ∀ d ∈ ds, SameP (cl 37) d) : cloop (mGtup 2 (mGcons (mN 2) (mGcons (mN 3) mGnil))) mYes (mCall (cl 37) (rVal (mVar 2) (rVal (mVar 3) rNil))) [2, 3] (zipD ds ds) [x, y, none, none] = some (ds.map fun _ => .bool true, [x, y, none, none]) := by
  rw [zip_self]
  exact c_cmap (fun d => .tuple [d, d]) (fun _ => .bool true) ds fun d hd => ⟨[x, y, dd d, dd d], _, _, _, rfl, v_call2 (ev_var (i := 2) rfl) (ev_var (i := 3) rfl) (h d hd), rfl, rfl⟩
theorem same_seq {cl : Nat → Fn} (ds : List D) (hl : ds.length ≤ 10000) (h : ∀ d ∈ ds, SameP (cl 37) d) : SameP (fn37 cl) (.list ds) ∧ SameP (fn37 cl) (.tuple ds) := by
  have ha : dAll (.list (ds.map fun _ => .bool true)) = some (.imm (.bool true)) := by
    rw [all_of (fun _ : D => true) ds, show (ds.all fun _ => true) = true from List.all_eq_true.mpr fun _ _ => rfl]
  have ee := eq_int (ds.length : Int) (ds.length : Int)
  rw [show (((ds.length : Int)) == (ds.length : Int)) = true by simp] at ee
  constructor
  · have hz : mIZip (mCons (mVar 0) (mCons (mVar 1) mNil)) [dd (.list ds), dd (.list ds), none, none] = some (zipD ds ds, [dd (.list ds), dd (.list ds), none, none]) := rfl
    have he : bin dEq (un dLen (mVar 0)) (un dLen (mVar 1)) [dd (.list ds), dd (.list ds), none, none] = some (.val (.imm (.bool true)), [dd (.list ds), dd (.list ds), none, none]) := v_bin (e_un (ev_var (i := 0) rfl) rfl) (e_un (ev_var (i := 1) rfl) rfl) ee
    have hall : un dAll (mComp (mIZip (mCons (mVar 0) (mCons (mVar 1) mNil))) (mGtup 2 (mGcons (mN 2) (mGcons (mN 3) mGnil))) mYes (mCall (cl 37) (rVal (mVar 2) (rVal (mVar 3) rNil))) [2, 3]) [dd (.list ds), dd (.list ds), none, none] = some (.val (.imm (.bool true)), [dd (.list ds), dd (.list ds), none, none]) :=
      c_un (c_comp hz rfl (same_c ds _ _ h) (c_fits (by rw [List.length_map]; exact hl)) rfl) rfl ha
    exact c_fn (ρ0 := [dd (.list ds), dd (.list ds), none, none]) rfl rfl (c_seqR (c_ifT (c_tru (d := .bool true) rfl rfl rfl) (c_seq (c_ifF (c_orTF (c_b (b := false) rfl) (c_b (b := false) rfl)) c_skip) (c_ret (c_andB (a := true) (b := true) he fun _ => hall) rfl)))) rfl
  · have hz : mIZip (mCons (mVar 0) (mCons (mVar 1) mNil)) [dd (.tuple ds), dd (.tuple ds), none, none] = some (zipD ds ds, [dd (.tuple ds), dd (.tuple ds), none, none]) := rfl
    have he : bin dEq (un dLen (mVar 0)) (un dLen (mVar 1)) [dd (.tuple ds), dd (.tuple ds), none, none] = some (.val (.imm (.bool true)), [dd (.tuple ds), dd (.tuple ds), none, none]) := v_bin (e_un (ev_var (i := 0) rfl) rfl) (e_un (ev_var (i := 1) rfl) rfl) ee
    have hall : un dAll (mComp (mIZip (mCons (mVar 0) (mCons (mVar 1) mNil))) (mGtup 2 (mGcons (mN 2) (mGcons (mN 3) mGnil))) mYes (mCall (cl 37) (rVal (mVar 2) (rVal (mVar 3) rNil))) [2, 3]) [dd (.tuple ds), dd (.tuple ds), none, none] = some (.val (.imm (.bool true)), [dd (.tuple ds), dd (.tuple ds), none, none]) :=
      c_un (c_comp hz rfl (same_c ds _ _ h) (c_fits (by rw [List.length_map]; exact hl)) rfl) rfl ha
    exact c_fn (ρ0 := [dd (.tuple ds), dd (.tuple ds), none, none]) rfl rfl (c_seqR (c_ifT (c_tru (d := .bool true) rfl rfl rfl) (c_seq (c_ifF (c_orTF (c_b (b := false) rfl) (c_b (b := false) rfl)) c_skip) (c_ret (c_andB (a := true) (b := true) he fun _ => hall) rfl)))) rfl
theorem same_int {cl : Nat → Fn} (i : Int) : SameP (fn37 cl) (.int i) := by
  have ee := eq_int i i
  rw [show (i == i) = true by simp] at ee
  have h : mAnd (un (dIsi Ty.int) (mVar 0)) (mAnd (un dNot (un (dIsi Ty.bool) (mVar 0))) (bin dEq (mVar 0) (mVar 1))) [ii i, ii i, none, none] = some (.val (.imm (.bool true)), [ii i, ii i, none, none]) :=
    c_andB (a := true) (b := true) rfl fun _ => c_andB (a := true) (b := true) rfl fun _ => v_bin (ev_var (i := 0) rfl) (ev_var (i := 1) rfl) ee
  exact c_fn (ρ0 := [ii i, ii i, none, none]) rfl rfl (c_seq (c_ifF (c_tru (d := .bool false) rfl rfl rfl) c_skip) (c_seq (c_ifF (c_orTF (c_b (b := false) rfl) (c_tru (d := .bool false) rfl rfl rfl)) c_skip) (c_ret h rfl))) rfl
end K41

namespace K41
open PySem Vi PyProof.Rows
/-! draws -/
theorem bx_len (a b c : Int) : (bx a b c).length = 3 := rfl
def OfP (f : Fn) (b : Int) : Prop := ∀ (L : List D) (a c : Int), 0 < L.length → L.length < 1000 → 0 ≤ c → c < 900000 → ∃ (x : D) (a' c' : Int), f [.own .par (bx a b c), .imm (.list L)] = some (.imm x, [some (bx a' b c'), none]) ∧ x ∈ L ∧ 0 ≤ c' ∧ c' ≤ c + 1
section
variable {cl : Nat → Fn} {b : Int}
theorem of_ok (T : TakeP (cl 33) b) : OfP (fn35 cl) b := fun L a c h1 h2 h3 h4 => by
  obtain ⟨v, a1, c1, e, q1, q2, p1, p2⟩ := T a c (L.length : Int) (by omega) (by omega) h3 (by omega)
  obtain ⟨k, rfl⟩ : ∃ k : Nat, v = (k : Int) := ⟨v.toNat, by omega⟩
  have hk : k < L.length := by omega
  have e3 : mCall (cl 33) (rSlot 0 (rVal (un dLen (mVar 1)) rNil)) [some (.own .par (bx a b c)), dd (.list L)] = some (.val (.imm (.int (k : Int))), [some (.own .par (bx a1 b c1)), dd (.list L)]) := c_call (c_rslot rfl (c_rval (c_un (s := .list L) rfl rfl rfl) rfl rfl)) rfl rfl e rfl
  have e4 : dIx (.list L) (.int (k : Int)) = some (.imm L[k]) := by
    show (L2.atI L (k : Int)).map Sv.imm = _
    rw [L2.atI_nat (List.getElem?_eq_getElem hk)]; rfl
  exact ⟨L[k], a1, c1, c_fn (ρ0 := [some (.own .par (bx a b c)), dd (.list L)]) rfl rfl (c_ret (c_bin rfl e3 rfl rfl e4) rfl) rfl, List.getElem_mem hk, p1, p2⟩

end
/-- a list of draws -/
theorem c_draw {mg : MG} {body : ME} {vs : List Nat} {ρ : List D → Fm} {good : D → Prop} {w : Nat} {B : Int}
    (step : ∀ (d : D) (a c : Int), 0 ≤ c → c + w < B → ∃ (x : D) (a' c' : Int) (ρ1 ρ2 ρ3 : Fm) (pr : PR), mg d (ρ (bx a b c)) = some ρ1 ∧ body ρ1 = some (pr, ρ2) ∧ frz ρ2 pr = some (x, ρ3) ∧ wipeA ρ3 vs = ρ (bx a' b c') ∧ good x ∧ 0 ≤ c' ∧ c' ≤ c + w) :
    ∀ (ds : List D) (a c : Int), 0 ≤ c → c + w * ds.length < B → ∃ (xs : List D) (a' c' : Int), cloop mg mYes body vs ds (ρ (bx a b c)) = some (xs, ρ (bx a' b c')) ∧ xs.length = ds.length ∧ (∀ x ∈ xs, good x) ∧ 0 ≤ c' ∧ c' ≤ c + w * ds.length
  | [], a, c, h1, _ => ⟨[], a, c, rfl, rfl, fun _ h => (by cases h), h1, (by simp)⟩
  | d :: ds, a, c, h1, h2 => by
    rw [List.length_cons] at h2 ⊢
    have hm : (w : Int) * ((ds.length + 1 : Nat) : Int) = w * ds.length + w := by rw [Int.natCast_add, Int.mul_add]; simp
    have hw : (0 : Int) ≤ (w : Int) * ds.length := Int.mul_nonneg (by omega) (by omega)
    rw [hm] at h2 ⊢
    obtain ⟨x, a1, c1, ρ1, ρ2, ρ3, pr, e1, e2, e3, e4, g, p1, p2⟩ := step d a c h1 (by omega)
    obtain ⟨xs, a2, c2, k1, k2, k3, k4, k5⟩ := c_draw step ds a1 c1 p1 (by omega)
    refine ⟨x :: xs, a2, c2, c_ccons e1 rfl e2 e3 (by rw [e4]; exact k1), by rw [List.length_cons, k2], fun y hy => ?_, k4, by omega⟩
    rcases List.mem_cons.mp hy with rfl | hy
    · exact g
    · exact k3 y hy

end K41

namespace K41
open PySem Vi PyProof.Rows
section
variable {cl : Nat → Fn} {b : Int}
def muL : List D := [.tuple [.int 1, .int 1], .tuple [.int (-1), .int 1], .tuple [.int 1, .int 2], .tuple [.int (-1), .int 2], .tuple [.int 2, .int 1], .tuple [.int (-2), .int 1], .tuple [.int 1, .int 3], .tuple [.int (-3), .int 2], .tuple [.int 3, .int 1], .tuple [.int 0, .int 1]]
def muE : MA := (mCons (mTup (mCons (mC (.int 1)) (mCons (mC (.int 1)) mNil))) (mCons (mTup (mCons (un dNeg (mC (.int 1))) (mCons (mC (.int 1)) mNil))) (mCons (mTup (mCons (mC (.int 1)) (mCons (mC (.int 2)) mNil))) (mCons (mTup (mCons (un dNeg (mC (.int 1))) (mCons (mC (.int 2)) mNil))) (mCons (mTup (mCons (mC (.int 2)) (mCons (mC (.int 1)) mNil))) (mCons (mTup (mCons (un dNeg (mC (.int 2))) (mCons (mC (.int 1)) mNil))) (mCons (mTup (mCons (mC (.int 1)) (mCons (mC (.int 3)) mNil))) (mCons (mTup (mCons (un dNeg (mC (.int 3))) (mCons (mC (.int 2)) mNil))) (mCons (mTup (mCons (mC (.int 3)) (mCons (mC (.int 1)) mNil))) (mCons (mTup (mCons (mC (.int 0)) (mCons (mC (.int 1)) mNil))) mNil))))))))))
theorem much_fn (cl : Nat → Fn) : fn46 cl = mFn 1 1 (mRet (mCall (cl 35) (rSlot 0 (rVal (mLst muE) rNil)))) := rfl
theorem muE_ev (ρ : Fm) : mLst muE ρ = some (.val (.own .loc muL), ρ) := rfl
theorem mu_fr (n : Int) (p q : Int) (h : (mkRat n 6).num = p) (h2 : ((mkRat n 6).den : Int) = q) : fr (xq n) = .tuple [.int p, .int q] := by
  unfold fr xq
  rw [h, h2]
theorem mu_six : ∀ x ∈ muL, ∃ n : Int, x = fr (xq n) ∧ n.natAbs ≤ 18 := by
  intro x hx
  simp only [muL, List.mem_cons, List.not_mem_nil, or_false] at hx
  rcases hx with rfl | rfl | rfl | rfl | rfl | rfl | rfl | rfl | rfl | rfl
  · exact ⟨6, (mu_fr 6 1 1 (by decide +kernel) (by decide +kernel)).symm, by decide⟩
  · exact ⟨-6, (mu_fr (-6) (-1) 1 (by decide +kernel) (by decide +kernel)).symm, by decide⟩
  · exact ⟨3, (mu_fr 3 1 2 (by decide +kernel) (by decide +kernel)).symm, by decide⟩
  · exact ⟨-3, (mu_fr (-3) (-1) 2 (by decide +kernel) (by decide +kernel)).symm, by decide⟩
  · exact ⟨12, (mu_fr 12 2 1 (by decide +kernel) (by decide +kernel)).symm, by decide⟩
  · exact ⟨-12, (mu_fr (-12) (-2) 1 (by decide +kernel) (by decide +kernel)).symm, by decide⟩
  · exact ⟨2, (mu_fr 2 1 3 (by decide +kernel) (by decide +kernel)).symm, by decide⟩
  · exact ⟨-9, (mu_fr (-9) (-3) 2 (by decide +kernel) (by decide +kernel)).symm, by decide⟩
  · exact ⟨18, (mu_fr 18 3 1 (by decide +kernel) (by decide +kernel)).symm, by decide⟩
  · exact ⟨0, (mu_fr 0 0 1 (by decide +kernel) (by decide +kernel)).symm, by decide⟩
def MuchP (f : Fn) (b : Int) : Prop := ∀ a c : Int, 0 ≤ c → c < 900000 → ∃ (n a' c' : Int), f [.own .par (bx a b c)] = some (.imm (fr (xq n)), [some (bx a' b c')]) ∧ n.natAbs ≤ 18 ∧ 0 ≤ c' ∧ c' ≤ c + 1
theorem much_ok (O : OfP (cl 35) b) : MuchP (fn46 cl) b := fun a c h1 h2 => by
  obtain ⟨x, a1, c1, e, hx, p1, p2⟩ := O muL a c (by decide) (by decide) h1 h2
  obtain ⟨n, rfl, hn⟩ := mu_six x hx
  refine ⟨n, a1, c1, ?_, hn, p1, p2⟩
  rw [much_fn]
  have k : mCall (cl 35) (rSlot 0 (rVal (mLst muE) rNil)) [some (.own .par (bx a b c))] = some (.val (.imm (fr (xq n))), [some (.own .par (bx a1 b c1))]) := c_call (as := [.s 0, .v (.list muL)]) (c_rslot rfl (c_rval (muE_ev _) rfl rfl)) rfl rfl e rfl
  exact c_fn (ρ0 := [some (.own .par (bx a b c))]) rfl rfl (c_ret k rfl) rfl
/-! rows drawn -/
def GPr (x : D) : Prop := ∃ p : Int × Int, x = prD p ∧ p.2.natAbs ≤ 18
theorem prs_of : ∀ xs : List D, (∀ x ∈ xs, GPr x) → ∃ r : List (Int × Int), xs = r.map prD ∧ ∀ p ∈ r, p.2.natAbs ≤ 18
  | [], _ => ⟨[], rfl, fun _ h => by cases h⟩
  | x :: xs, h => by
    obtain ⟨p, rfl, hp⟩ := h x (List.mem_cons_self ..)
    obtain ⟨r, rfl, hr⟩ := prs_of xs fun y hy => h y (List.mem_cons_of_mem _ hy)
    refine ⟨p :: r, rfl, fun q hq => ?_⟩
    rcases List.mem_cons.mp hq with rfl | hq
    · exact hp
    · exact hr q hq
def RowP (f : Fn) (b : Int) : Prop := ∀ (a c : Int) (many long : Nat), 0 < many → many ≤ 10 → long ≤ 8 → 0 ≤ c → c < 1000 → ∃ (r : List (Int × Int)) (a' c' : Int), f [.own .par (bx a b c), .imm (.int (many : Int)), .imm (.int (long : Int))] = some (.imm (rowD r), [some (bx a' b c'), none, none]) ∧ (∀ p ∈ r, p.2.natAbs ≤ 18) ∧ r.length = long ∧ 0 ≤ c' ∧ c' ≤ c + 100
def rwE (cl : Nat → Fn) : ME := (mTup (mCons (mCall (cl 33) (rSlot 0 (rVal (mVar 1) rNil))) (mCons (mCall (cl 46) (rSlot 0 rNil)) mNil)))
theorem row_fn (cl : Nat → Fn) : fn47 cl = mFn 4 3 (mRet (un dTuple (mComp (mIRng1 (mCons (mVar 2) mNil)) (mN 3) mYes (rwE cl) [3]))) := rfl
theorem row_ok (T : TakeP (cl 33) b) (M : MuchP (cl 46) b) : RowP (fn47 cl) b := fun a c many long hm hm2 hl h1 h2 => by
  have hd : (rngD 0 long).length = long := by unfold rngD; rw [List.length_map, List.length_range]
  obtain ⟨xs, a', c', e, k1, k2, k3, k4⟩ := c_draw (mg := mN 3) (body := rwE cl) (vs := [3]) (ρ := fun bb => [some (.own .par bb), ii (many : Int), ii (long : Int), none]) (good := GPr) (w := 2) (B := 2000) (b := b) (fun d a c h1 h2 => by
    obtain ⟨v, a1, c1, e1, q1, q2, p1, p2⟩ := T a c (many : Int) (by omega) (by omega) h1 (by omega)
    obtain ⟨n, a2, c2, e2, hn, p3, p4⟩ := M a1 c1 p1 (by omega)
    have s1 : mCall (cl 33) (rSlot 0 (rVal (mVar 1) rNil)) [some (.own .par (bx a b c)), ii (many : Int), ii (long : Int), dd d] = some (.val (.imm (.int v)), [some (.own .par (bx a1 b c1)), ii (many : Int), ii (long : Int), dd d]) := c_call (as := [.s 0, .v (.int (many : Int))]) (c_rslot rfl (c_rval rfl rfl rfl)) rfl rfl e1 rfl
    have s2 : mCall (cl 46) (rSlot 0 rNil) [some (.own .par (bx a1 b c1)), ii (many : Int), ii (long : Int), dd d] = some (.val (.imm (fr (xq n))), [some (.own .par (bx a2 b c2)), ii (many : Int), ii (long : Int), dd d]) := c_call (as := [.s 0]) (c_rslot rfl rfl) rfl rfl e2 rfl
    have s3 : rwE cl [some (.own .par (bx a b c)), ii (many : Int), ii (long : Int), dd d] = some (.val (.imm (prD (v, n))), [some (.own .par (bx a2 b c2)), ii (many : Int), ii (long : Int), dd d]) := c_tup (c_acons s1 rfl (c_acons s2 rfl c_anil)) rfl
    exact ⟨prD (v, n), a2, c2, _, _, _, _, rfl, s3, rfl, rfl, ⟨(v, n), rfl, hn⟩, by omega, by omega⟩) (rngD 0 long) a c h1 (by rw [hd]; omega)
  obtain ⟨r, rfl, hr⟩ := prs_of xs k2
  rw [hd] at k1 k4
  rw [List.length_map] at k1
  refine ⟨r, a', c', ?_, hr, k1, k3, by omega⟩
  rw [row_fn]
  have hr1 : mIRng1 (mCons (mVar 2) mNil) [some (.own .par (bx a b c)), ii (many : Int), ii (long : Int), none] = some (rngD 0 long, [some (.own .par (bx a b c)), ii (many : Int), ii (long : Int), none]) := c_rng1 (c_acons rfl rfl c_anil) (by omega)
  exact c_fn (ρ0 := [some (.own .par (bx a b c)), ii (many : Int), ii (long : Int), none]) rfl rfl (c_ret (c_un (f := dTuple) (c_comp hr1 rfl e (c_fits (by rw [List.length_map]; omega)) rfl) rfl rfl) rfl) rfl
/-! two picked -/
theorem c_popat {i : Nat} {me : ME} {ρ ρ1 : Fm} {bk b1 : Kd} {ds ds1 : List D} {k : Nat} {d : D} (h0 : ρ[i]? = some (some (.own b1 ds1))) (h1 : me ρ = some (.val (.imm (.int (k : Int))), ρ1)) (h2 : ρ1[i]? = some (some (.own bk ds))) (h3 : ds[k]? = some d) (hk : k < 1000) (hb : bk.isL = true := by rfl) (hb1 : b1.isL = true := by rfl) :
    mPopAt i me ρ = some (.val (.imm d), ρ1.set i (some (.own bk (ds.eraseIdx k)))) := by
  have hlt : k < ds.length := by
    rcases Nat.lt_or_ge k ds.length with h | h
    · exact h
    · rw [List.getElem?_eq_none h] at h3; cases h3
  have hs : seqIndex? (k : Int) ds.length = some k := by rw [seqIndex_of (by omega) (by omega)]; rfl
  have hd : decide (-(2 ^ 63) ≤ (k : Int) ∧ (k : Int) < 2 ^ 63) = true := decide_eq_true ⟨by omega, by omega⟩
  have hp : peek ρ1 (.val (.imm (.int (k : Int)))) = some (.int (k : Int)) := rfl
  unfold mPopAt
  cases bk <;> cases b1 <;> first | exact absurd hb (by decide) | exact absurd hb1 (by decide) | (simp only [h0, h1, hp, h2, hs, h3, hd, if_true])
abbrev PF (bb : List D) (x1 : Option Sv) (L F : List D) (s5 : Option Sv) : Fm := [some (.own .par bb), x1, ii 2, some (.own .loc L), some (.own .loc F), s5]
def pkB (cl : Nat → Fn) : MS := (mDrop (mApp 4 (mPopAt 3 (mCall (cl 33) (rSlot 0 (rVal (un dLen (mVar 3)) rNil))))))
theorem pick_fn (cl : Nat → Fn) : fn39 cl = mFn 6 3 (mSeq (mPar 3 4 (un dList (mVar 1)) (mLst mNil)) (mSeq (mFor (mIRng1 (mCons (mA dMin2 (mCons (mVar 2) (mCons (un dLen (mVar 3)) mNil))) mNil)) (mN 5) (pkB cl)) (mRet (mVar 4)))) := rfl
theorem pk_step (T : TakeP (cl 33) b) {x1 s5 : Option Sv} {a c : Int} {L F : List D} (hL : 0 < L.length) (hL2 : L.length ≤ 10) (hF : F.length ≤ 10) (h1 : 0 ≤ c) (h2 : c < 1000) :
    ∃ (k : Nat) (a' c' : Int) (hk : k < L.length), pkB cl (PF (bx a b c) x1 L F s5) = some (.next, PF (bx a' b c') x1 (L.eraseIdx k) (F ++ [L[k]]) s5) ∧ 0 ≤ c' ∧ c' ≤ c + 1 := by
  obtain ⟨v, a1, c1, e1, q1, q2, p1, p2⟩ := T a c (L.length : Int) (by omega) (by omega) h1 (by omega)
  obtain ⟨k, rfl⟩ : ∃ k : Nat, v = (k : Int) := ⟨v.toNat, by omega⟩
  have hk : k < L.length := by omega
  have s1 : mCall (cl 33) (rSlot 0 (rVal (un dLen (mVar 3)) rNil)) (PF (bx a b c) x1 L F s5) = some (.val (.imm (.int (k : Int))), PF (bx a1 b c1) x1 L F s5) := c_call (as := [.s 0, .v (.int (L.length : Int))]) (c_rslot rfl (c_rval (c_un (s := .list L) rfl rfl rfl) rfl rfl)) rfl rfl e1 rfl
  have s2 : mPopAt 3 (mCall (cl 33) (rSlot 0 (rVal (un dLen (mVar 3)) rNil))) (PF (bx a b c) x1 L F s5) = some (.val (.imm L[k]), PF (bx a1 b c1) x1 (L.eraseIdx k) F s5) :=
    c_popat (i := 3) (bk := .loc) (b1 := .loc) (ds := L) (ds1 := L) rfl s1 rfl (List.getElem?_eq_getElem hk) (by omega)
  exact ⟨k, a1, c1, hk, c_drop (c_app (i := 4) (b := .loc) (b2 := .loc) (ds := F) (ys := F) rfl s2 rfl rfl (c_fits (by omega))), p1, p2⟩
def PickP (f : Fn) (b : Int) : Prop := ∀ (a c : Int) (many : Nat), many = 2 ∨ many = 3 → 0 ≤ c → c < 900 → ∃ (x y a' c' : Int), f [.own .par (bx a b c), .imm (.list (rngD 0 many)), .imm (.int 2)] = some (.own .loc [.int x, .int y], [some (bx a' b c'), none, none]) ∧ x ≠ y ∧ 0 ≤ c' ∧ c' ≤ c + 10
theorem pick_ok (T : TakeP (cl 33) b) : PickP (fn39 cl) b := fun a c many hm h1 h2 => by
  have hd : (rngD 0 many).length = many := by unfold rngD; rw [List.length_map, List.length_range]
  obtain ⟨k1, a1, c1, hk1, e1, p1, p2⟩ := pk_step (cl := cl) T (x1 := dd (.list (rngD 0 many))) (s5 := ii 0) (a := a) (c := c) (L := rngD 0 many) (F := []) (by omega) (by omega) (by simp) h1 (by omega)
  have hle : ((rngD 0 many).eraseIdx k1).length = many - 1 := by rw [List.length_eraseIdx_of_lt hk1, hd]
  obtain ⟨k2, a2, c2, hk2, e2, p3, p4⟩ := pk_step (cl := cl) T (x1 := dd (.list (rngD 0 many))) (s5 := ii 1) (a := a1) (c := c1) (L := (rngD 0 many).eraseIdx k1) (F := [] ++ [(rngD 0 many)[k1]]) (by omega) (by omega) (by simp) p1 (by omega)
  have key : ∃ x y : Int, (rngD 0 many)[k1] = .int x ∧ ((rngD 0 many).eraseIdx k1)[k2] = .int y ∧ x ≠ y := by
    rw [hd] at hk1
    rw [hle] at hk2
    rcases hm with rfl | rfl
    · have a1 : k1 = 0 ∨ k1 = 1 := by omega
      have a2 : k2 = 0 := by omega
      subst a2
      rcases a1 with rfl | rfl
      · exact ⟨0, 1, rfl, rfl, by decide⟩
      · exact ⟨1, 0, rfl, rfl, by decide⟩
    · have a1 : k1 = 0 ∨ k1 = 1 ∨ k1 = 2 := by omega
      have a2 : k2 = 0 ∨ k2 = 1 := by omega
      rcases a1 with rfl | rfl | rfl <;> rcases a2 with rfl | rfl
      · exact ⟨0, 1, rfl, rfl, by decide⟩
      · exact ⟨0, 2, rfl, rfl, by decide⟩
      · exact ⟨1, 0, rfl, rfl, by decide⟩
      · exact ⟨1, 2, rfl, rfl, by decide⟩
      · exact ⟨2, 0, rfl, rfl, by decide⟩
      · exact ⟨2, 1, rfl, rfl, by decide⟩
  obtain ⟨x, y, hx, hy, hxy⟩ := key
  rw [hx] at e1 e2
  rw [hy] at e2
  refine ⟨x, y, a2, c2, ?_, hxy, p3, by omega⟩
  rw [pick_fn]
  have s1 : mPar 3 4 (un dList (mVar 1)) (mLst mNil) [some (.own .par (bx a b c)), dd (.list (rngD 0 many)), ii 2, none, none, none] = some (.next, PF (bx a b c) (dd (.list (rngD 0 many))) (rngD 0 many) [] none) := rfl
  have hmin : mA dMin2 (mCons (mVar 2) (mCons (un dLen (mVar 3)) mNil)) (PF (bx a b c) (dd (.list (rngD 0 many))) (rngD 0 many) [] none) = some (.val (.imm (.int 2)), PF (bx a b c) (dd (.list (rngD 0 many))) (rngD 0 many) [] none) := by
    rcases hm with rfl | rfl <;> rfl
  have s2 : mIRng1 (mCons (mA dMin2 (mCons (mVar 2) (mCons (un dLen (mVar 3)) mNil))) mNil) (PF (bx a b c) (dd (.list (rngD 0 many))) (rngD 0 many) [] none) = some ([.int 0, .int 1], PF (bx a b c) (dd (.list (rngD 0 many))) (rngD 0 many) [] none) :=
    c_rng1 (n := 2) (c_acons hmin rfl c_anil) (by decide)
  have s3 : loop (mN 5) (pkB cl) [.int 0, .int 1] (PF (bx a b c) (dd (.list (rngD 0 many))) (rngD 0 many) [] none) = some (.next, PF (bx a2 b c2) (dd (.list (rngD 0 many))) (((rngD 0 many).eraseIdx k1).eraseIdx k2) [.int x, .int y] (ii 1)) :=
    c_cons (ρ1 := PF (bx a b c) (dd (.list (rngD 0 many))) (rngD 0 many) [] (ii 0)) rfl e1 (c_cons (ρ1 := PF (bx a1 b c1) (dd (.list (rngD 0 many))) ((rngD 0 many).eraseIdx k1) ([] ++ [.int x]) (ii 1)) rfl e2 c_nil)
  exact c_fn (ρ0 := [some (.own .par (bx a b c)), dd (.list (rngD 0 many)), ii 2, none, none, none]) rfl rfl (c_seq s1 (c_seq (c_for s2 s3) (c_ret (r := .own .loc [.int x, .int y]) rfl rfl))) rfl
end
end K41

namespace K41
open PySem Vi PyProof.Rows
/-! equal fractions, sums of shares -/
theorem okF (q : Rat) : okD (fr q) = true := Nf.ok_two _ _
theorem eq_fr (q : Rat) : dEq (fr q) (fr q) = some (.imm (.bool true)) := by
  unfold dEq
  rw [okF]
  have : PyData.eqv (fr q) (fr q) = true := by unfold fr; simp [PyData.eqv, PyData.eqvAll]
  rw [this]; rfl
theorem same_fr {cl : Nat → Fn} (h : ∀ i : Int, SameP (cl 37) (.int i)) (q : Rat) : SameP (fn37 cl) (fr q) :=
  (same_seq [.int q.num, .int (q.den : Int)] (by simp) (fun d hd => by
    simp only [List.mem_cons, List.not_mem_nil, or_false] at hd
    rcases hd with rfl | rfl <;> exact h _)).2
theorem stL_bd (a b : Int) : ∀ (r : List (Int × Int)) (o h : Int), (∀ x ∈ r, x.2.natAbs ≤ 18) → o.natAbs + 18 * r.length ≤ 200 → h.natAbs + 18 * r.length ≤ 200 → ∀ x ∈ stL a b o h r, (shK x).natAbs ≤ 2 * 10 ^ 9
  | [], _, _, _, _, _ => fun x hx => by cases hx
  | (p, n) :: r, o, h, hr, ho, hh => by
    rw [List.length_cons] at ho hh
    have hn : n.natAbs ≤ 18 := hr (p, n) (List.mem_cons_self ..)
    have hr2 : ∀ x ∈ r, x.2.natAbs ≤ 18 := fun x hx => hr x (List.mem_cons_of_mem _ hx)
    unfold stL
    split
    · intro x hx
      rcases List.mem_cons.mp hx with rfl | hx
      · have a1 := c3_le (m := o + n - h) (by omega)
        have a2 := c3_le (m := o - h) (by omega)
        show (c3 (o + n - h) - c3 (o - h)).natAbs ≤ _
        omega
      · exact stL_bd a b r _ _ hr2 (by omega) (by omega) x hx
    · split
      · exact stL_bd a b r _ _ hr2 (by omega) (by omega)
      · exact stL_bd a b r _ _ hr2 (by omega) (by omega)
abbrev RF (bb : List D) (s1 s2 s3 s4 s5 s6 s7 s8 s9 : Option Sv) : Fm := [some (.own .par bb), s1, s2, s3, s4, s5, s6, s7, s8, s9, none, none]
def r5 (cl : Nat → Fn) : MS := (mSet 6 (mCall (cl 40) (rVal (mVar 6) (rVal (bin dIx (mVar 7) (mC (.int 3))) rNil))))
theorem sum_loop {cl : Nat → Fn} (Ad : LaddP (cl 40)) {bb : List D} {s1 s2 s3 s4 s5 s8 s9 : Option Sv} : ∀ (X : List (Int × Int × Int)) (t : Int) (s7 : Option Sv), (∀ x ∈ X, (shK x).natAbs ≤ 2 * 10 ^ 9) → t.natAbs + 2 * 10 ^ 9 * X.length ≤ 10 ^ 12 →
    ∃ y7, loop (mN 7) (r5 cl) (X.map stD) (RF bb s1 s2 s3 s4 s5 (dd (fr (mkRat t 648))) s7 s8 s9) = some (.next, RF bb s1 s2 s3 s4 s5 (dd (fr (mkRat (t + shS X) 648))) y7 s8 s9)
  | [], t, s7, _, _ => ⟨s7, by rw [show shS [] = 0 from rfl, Int.add_zero]; rfl⟩
  | x :: X, t, s7, hx, ht => by
    rw [List.length_cons] at ht
    have h1 := hx x (List.mem_cons_self ..)
    have ht2 : (t + shK x).natAbs ≤ t.natAbs + 2 * 10 ^ 9 := Nat.le_trans (Int.natAbs_add_le _ _) (Nat.add_le_add_left h1 _)
    obtain ⟨y7, e⟩ := sum_loop Ad (bb := bb) (s1 := s1) (s2 := s2) (s3 := s3) (s4 := s4) (s5 := s5) (s8 := s8) (s9 := s9) X (t + shK x) (dd (stD x)) (fun z hz => hx z (List.mem_cons_of_mem _ hz)) (by omega)
    refine ⟨y7, ?_⟩
    have q := Ad _ _ _ _ (isFr (mkRat t 648)) (isFr (mkRat (shK x) 648)) (mk_sd (by decide) (Nat.lt_of_le_of_lt (show t.natAbs ≤ 10 ^ 12 by omega) (by decide)) (by decide)) (mk_sd (by decide) (Nat.lt_of_le_of_lt h1 (by decide)) (by decide))
    rw [Rat.mkRat_add_mkRat t (shK x) (by decide) (by decide), ← Int.add_mul, Rat.mkRat_mul_right (by decide)] at q
    rw [show t + shS (x :: X) = t + shK x + shS X by show t + (shK x + shS X) = _; omega]
    exact c_cons (ρ1 := RF bb s1 s2 s3 s4 s5 (dd (fr (mkRat t 648))) (dd (stD x)) s8 s9) rfl (c_set (v_call2 (ev_var (i := 6) rfl) (e_bin (f := dIx) (ev_var (i := 7) rfl) ev_c rfl) q) rfl) e
/-! a case -/
def r1 (cl : Nat → Fn) : MS := (mSet 1 (bin dAdd (mC (.int 2)) (mCall (cl 33) (rSlot 0 (rVal (mC (.int 2)) rNil)))))
def r2 (cl : Nat → Fn) : MS := (mSet 2 (mCall (cl 47) (rSlot 0 (rVal (mVar 1) (rVal (bin dAdd (mC (.int 1)) (mCall (cl 33) (rSlot 0 (rVal (mC (.int 8)) rNil)))) rNil)))))
def r3 (cl : Nat → Fn) : MS := (mAsgG (mCall (cl 39) (rSlot 0 (rVal (mLRng (mVar 1)) (rVal (mC (.int 2)) rNil)))) (mGseq 2 (mGcons (mN 3) (mGcons (mN 4) mGnil))))
def r4 (cl : Nat → Fn) : MS := (mPar 5 6 (mCall (cl 49) (rVal (mVar 2) (rVal (mVar 3) (rVal (mVar 4) rNil)))) (mTup (mCons (mC (.int 0)) (mCons (mC (.int 1)) mNil))))
def r6 (cl : Nat → Fn) : MS := (mSet 8 (mLst (mCons (mCall (cl 29) (rVal (mVar 2) (rVal (mVar 3) (rVal (mVar 4) rNil)))) (mCons (mCall (cl 28) (rVal (mVar 2) (rVal (mVar 3) (rVal (mVar 4) rNil)))) (mCons (mCall (cl 30) (rVal (mVar 2) rNil)) mNil)))))
def r7C (cl : Nat → Fn) : ME := (mComp (mISeq (mCall (cl 43) (rVal (mVar 2) rNil))) (mGseq 2 (mGcons (mN 10) (mGcons (mN 11) mGnil))) (mB (bin dLt (bin dIx (mVar 11) (mC (.int 0))) (mC (.int 0)))) (mVar 10) [10, 11])
def r7 (cl : Nat → Fn) : MS := (mSet 9 (un dSortSetI (r7C cl)))
def r8A (cl : Nat → Fn) : ME := (mCall (cl 37) (rVal (mVar 8) (rVal (mLst (mCons (mVar 5) (mCons (mVar 6) (mCons (un dTuple (mVar 9)) mNil)))) rNil)))
def r8B (cl : Nat → Fn) : ME := (bin dEq (mVar 6) (mCall (cl 50) (rVal (mVar 2) (rVal (mVar 3) (rVal (mVar 4) rNil)))))
theorem right_fn (cl : Nat → Fn) : fn55 cl = mFn 12 1 (mSeq (r1 cl) (mSeq (r2 cl) (mSeq (r3 cl) (mSeq (r4 cl) (mSeq (mFor (mISeq (mVar 5)) (mN 7) (r5 cl)) (mSeq (r6 cl) (mSeq (r7 cl) (mRet (mAnd (r8A cl) (r8B cl)))))))))) := rfl
theorem r7_c {x0 x1 x2 x3 x4 x5 x6 x7 x8 x9 : Option Sv} : ∀ l : List (Int × Int), cloop (mGseq 2 (mGcons (mN 10) (mGcons (mN 11) mGnil))) (mB (bin dLt (bin dIx (mVar 11) (mC (.int 0))) (mC (.int 0)))) (mVar 10) [10, 11] (Nf.dsD l) [x0, x1, x2, x3, x4, x5, x6, x7, x8, x9, none, none] = some (il (bel l), [x0, x1, x2, x3, x4, x5, x6, x7, x8, x9, none, none])
  | [] => rfl
  | (p, k) :: l => by
    have ih := r7_c (x0 := x0) (x1 := x1) (x2 := x2) (x3 := x3) (x4 := x4) (x5 := x5) (x6 := x6) (x7 := x7) (x8 := x8) (x9 := x9) l
    have hlt : dLt (.int (Nf.v6 k).num) (.int 0) = some (.imm (.bool (decide (k < 0)))) := by
      have g : ∀ i : Int, dLt (.int i) (.int 0) = some (.imm (.bool (decide (i < 0)))) := fun _ => rfl
      rw [g, v6_neg]
    have ht : mB (bin dLt (bin dIx (mVar 11) (mC (.int 0))) (mC (.int 0))) [x0, x1, x2, x3, x4, x5, x6, x7, x8, x9, ii p, dd (fr (Nf.v6 k))] = some (decide (k < 0), [x0, x1, x2, x3, x4, x5, x6, x7, x8, x9, ii p, dd (fr (Nf.v6 k))]) := c_b (v_bin (ev_top (i := 11) rfl (isFr _)) ev_c hlt)
    by_cases hk : k < 0
    · rw [decide_eq_true hk] at ht
      rw [show bel ((p, k) :: l) = p :: bel l by unfold bel; rw [List.filter_cons_of_pos (by simpa using hk)]; rfl]
      exact c_ccons (d := .tuple [.int p, fr (Nf.v6 k)]) (ρ1 := [x0, x1, x2, x3, x4, x5, x6, x7, x8, x9, ii p, dd (fr (Nf.v6 k))]) rfl ht rfl rfl ih
    · rw [decide_eq_false hk] at ht
      rw [show bel ((p, k) :: l) = bel l by unfold bel; rw [List.filter_cons_of_neg (by simpa using hk)]]
      exact c_cskip (d := .tuple [.int p, fr (Nf.v6 k)]) (ρ1 := [x0, x1, x2, x3, x4, x5, x6, x7, x8, x9, ii p, dd (fr (Nf.v6 k))]) rfl ht ih
structure RightP (cl : Nat → Fn) (b : Int) : Prop where
  T : TakeP (cl 33) b
  R : RowP (cl 47) b
  P : PickP (cl 39) b
  S : StepP (cl 29)
  U : StepP (cl 49)
  A : LaddP (cl 40)
  Su : SumP (cl 28)
  B : BelP (cl 30)
  N : NormP (cl 43)
  T2 : TotP (cl 50)
  Sm : ∀ (X : List (Int × Int × Int)) (q : Rat) (ns : List Int), X.length ≤ 10 → ns.length ≤ 10 → SameP (cl 37) (.list [.tuple (X.map stD), fr q, .tuple (il ns)])
theorem insI_len (x : Int) : ∀ l : List Int, (insI x l).length ≤ l.length + 1
  | [] => Nat.le_refl _
  | y :: ys => by
    unfold insI
    split
    · exact Nat.le_refl _
    · split
      · exact Nat.le_succ _
      · rw [List.length_cons, List.length_cons]; exact Nat.succ_le_succ (insI_len x ys)
theorem setI_len : ∀ ns : List Int, (setI ns).length ≤ ns.length
  | [] => Nat.le_refl _
  | n :: ns => by
    have h := setI_len ns
    have h2 := insI_len n (setI ns)
    show (insI n (setI ns)).length ≤ _
    rw [List.length_cons]; omega
theorem lrng_ok {me : ME} {ρ : Fm} {n : Nat} (h : me ρ = some (.slot 1, ρ)) (h2 : peek ρ (.slot 1) = some (.int (n : Int))) (hn : n ≤ 1000) : mLRng me ρ = some (.val (.own .loc (rngD 0 n)), ρ) := by
  have hb : (rngOk (n : Int) && decide ((n : Int) ≤ 16777216)) = true := by
    rw [c_rng (by omega), decide_eq_true (by omega)]; rfl
  unfold mLRng
  rw [h]
  simp only [h2]
  rw [if_pos hb]; rfl
section
variable {cl : Nat → Fn} {bb b2 b3 : List D} {s1 s2 s3 s4 s5 s6 s7 s8 s9 : Option Sv}
theorem z1_ok {v : Int} {many : Nat} (hm : 2 + v = (many : Int)) (e : cl 33 [.own .par bb, .imm (.int 2)] = some (.imm (.int v), [some b2, none])) : r1 cl (RF bb none none none none none none none none none) = some (.next, RF b2 (ii (many : Int)) none none none none none none none none) := by
  have k : mCall (cl 33) (rSlot 0 (rVal (mC (.int 2)) rNil)) (RF bb none none none none none none none none none) = some (.val (.imm (.int v)), RF b2 none none none none none none none none none) := c_call (as := [.s 0, .v (.int 2)]) (c_rslot rfl (c_rval rfl rfl rfl)) rfl rfl e rfl
  have ha : dAdd (.int 2) (.int v) = some (.imm (.int (many : Int))) := by
    show some (Sv.imm (.int (2 + v))) = _
    rw [hm]
  exact c_set (c_bin (f := dAdd) rfl k rfl rfl ha) rfl
theorem z2_ok {w m : Int} {long : Nat} {R : D} (hl : 1 + w = (long : Int)) (e : cl 33 [.own .par bb, .imm (.int 8)] = some (.imm (.int w), [some b2, none])) (e3 : cl 47 [.own .par b2, .imm (.int m), .imm (.int (long : Int))] = some (.imm R, [some b3, none, none])) : r2 cl (RF bb (ii m) none none none none none none none none) = some (.next, RF b3 (ii m) (dd R) none none none none none none none) := by
  have k : mCall (cl 33) (rSlot 0 (rVal (mC (.int 8)) rNil)) (RF bb (ii m) none none none none none none none none) = some (.val (.imm (.int w)), RF b2 (ii m) none none none none none none none none) := c_call (as := [.s 0, .v (.int 8)]) (c_rslot rfl (c_rval rfl rfl rfl)) rfl rfl e rfl
  have ha : dAdd (.int 1) (.int w) = some (.imm (.int (long : Int))) := by
    show some (Sv.imm (.int (1 + w))) = _
    rw [hl]
  have k2 := c_bin (f := dAdd) (ma := mC (.int 1)) rfl k rfl rfl ha
  exact c_set (c_call (as := [.s 0, .v (.int m), .v (.int (long : Int))]) (c_rslot rfl (c_rval rfl rfl (c_rval k2 rfl rfl))) rfl rfl e3 rfl) rfl
theorem z3_a {n : Nat} (hn : n ≤ 1000) : mLRng (mVar 1) (RF bb (ii (n : Int)) s2 none none none none none none none) = some (.val (.own .loc (rngD 0 n)), RF bb (ii (n : Int)) s2 none none none none none none none) := lrng_ok rfl rfl hn
theorem z3_b {m : Int} {L : List D} {x y : Int} (hrg : mLRng (mVar 1) (RF bb (ii m) s2 none none none none none none none) = some (.val (.own .loc L), RF bb (ii m) s2 none none none none none none none)) (e : cl 39 [.own .par bb, .imm (.list L), .imm (.int 2)] = some (.own .loc [.int x, .int y], [some b2, none, none])) : mCall (cl 39) (rSlot 0 (rVal (mLRng (mVar 1)) (rVal (mC (.int 2)) rNil))) (RF bb (ii m) s2 none none none none none none none) = some (.val (.own .loc [.int x, .int y]), RF b2 (ii m) s2 none none none none none none none) :=
    c_call (as := [.s 0, .v (.list L), .v (.int 2)]) (c_rslot rfl (c_rval hrg rfl (c_rval rfl rfl rfl))) rfl rfl e rfl
theorem z3_c {m x y : Int} {me : ME} (k : me (RF bb (ii m) s2 none none none none none none none) = some (.val (.own .loc [.int x, .int y]), RF b2 (ii m) s2 none none none none none none none)) : mAsgG me (mGseq 2 (mGcons (mN 3) (mGcons (mN 4) mGnil))) (RF bb (ii m) s2 none none none none none none none) = some (.next, RF b2 (ii m) s2 (ii x) (ii y) none none none none none) := by
  unfold mAsgG
  rw [k]; rfl
theorem z3_ok {n : Nat} {x y : Int} (hn : n ≤ 1000) (e : cl 39 [.own .par bb, .imm (.list (rngD 0 n)), .imm (.int 2)] = some (.own .loc [.int x, .int y], [some b2, none, none])) : r3 cl (RF bb (ii (n : Int)) s2 none none none none none none none) = some (.next, RF b2 (ii (n : Int)) s2 (ii x) (ii y) none none none none none) := z3_c (z3_b (z3_a hn) e)
theorem z4_ok {x y : Int} {R d : D} (e : cl 49 [.imm R, .imm (.int x), .imm (.int y)] = some (.imm d, [none, none, none])) : r4 cl (RF bb s1 (dd R) (ii x) (ii y) none none none none none) = some (.next, RF bb s1 (dd R) (ii x) (ii y) (dd d) (dd (.tuple [.int 0, .int 1])) none none none) :=
  c_par (i := 5) (j := 6) (ρ4 := RF bb s1 (dd R) (ii x) (ii y) none none none none none) (s1 := .imm d) (s2 := .imm (.tuple [.int 0, .int 1])) (v_call3 (ev_var (i := 2) rfl) (ev_var (i := 3) rfl) (ev_var (i := 4) rfl) e) rfl (c_tup (ea_cons ev_c (ea_cons ev_c ea_nil)) rfl) rfl rfl
theorem z6_ok {x y : Int} {R d1 d2 d3 : D} (h1 : cl 29 [.imm R, .imm (.int x), .imm (.int y)] = some (.imm d1, [none, none, none])) (h2 : cl 28 [.imm R, .imm (.int x), .imm (.int y)] = some (.imm d2, [none, none, none])) (h3 : cl 30 [.imm R] = some (.imm d3, [none])) : r6 cl (RF bb s1 (dd R) (ii x) (ii y) s5 s6 s7 none none) = some (.next, RF bb s1 (dd R) (ii x) (ii y) s5 s6 s7 (some (.own .loc [d1, d2, d3])) none) :=
  c_set (v_lst (ea_cons (e_call3 (ev_var (i := 2) rfl) (ev_var (i := 3) rfl) (ev_var (i := 4) rfl) h1) (ea_cons (e_call3 (ev_var (i := 2) rfl) (ev_var (i := 3) rfl) (ev_var (i := 4) rfl) h2) (ea_cons (e_call1 (ev_var (i := 2) rfl) h3) ea_nil))) (by simp)) rfl
theorem z7_ok {R : D} {l : List (Int × Int)} (h : cl 43 [.imm R] = some (.imm (Nf.rowD l), [none])) (hl : l.length ≤ 8) : r7 cl (RF bb s1 (dd R) s3 s4 s5 s6 s7 s8 none) = some (.next, RF bb s1 (dd R) s3 s4 s5 s6 s7 s8 (some (.own .loc (il (setI (bel l)))))) := by
  have h63 : (bel l).length ≤ 8 := by have := bel_len l; omega
  have hi7 : mISeq (mCall (cl 43) (rVal (mVar 2) rNil)) (RF bb s1 (dd R) s3 s4 s5 s6 s7 s8 none) = some (Nf.dsD l, RF bb s1 (dd R) s3 s4 s5 s6 s7 s8 none) := by
    unfold mISeq
    rw [v_call1 (ev_var (i := 2) rfl) h]; rfl
  exact c_set (c_un (f := dSortSetI) (c_comp (vs := [10, 11]) hi7 rfl (r7_c l) (c_fits (by rw [List.length_map]; omega)) rfl) rfl (sortset_int (by omega))) rfl
theorem z8_ok {d q : D} {L : List D} (hs : SameP (cl 37) (.list [d, q, .tuple L])) : r8A cl (RF bb s1 s2 s3 s4 (dd d) (dd q) s7 (some (.own .loc [d, q, .tuple L])) (some (.own .loc L))) = some (.val (.imm (.bool true)), RF bb s1 s2 s3 s4 (dd d) (dd q) s7 (dd (.list [d, q, .tuple L])) (some (.own .loc L))) := by
  have k : mLst (mCons (mVar 5) (mCons (mVar 6) (mCons (un dTuple (mVar 9)) mNil))) (RF bb s1 s2 s3 s4 (dd d) (dd q) s7 (dd (.list [d, q, .tuple L])) (some (.own .loc L))) = some (.val (.own .loc [d, q, .tuple L]), RF bb s1 s2 s3 s4 (dd d) (dd q) s7 (dd (.list [d, q, .tuple L])) (some (.own .loc L))) := rfl
  exact c_call (as := [.v (.list [d, q, .tuple L]), .v (.list [d, q, .tuple L])]) (c_rval rfl rfl (c_rval k rfl rfl)) rfl rfl hs rfl
theorem z9_ok {x y : Int} {R : D} {q : Rat} (h : cl 50 [.imm R, .imm (.int x), .imm (.int y)] = some (.imm (fr q), [none, none, none])) : r8B cl (RF bb s1 (dd R) (ii x) (ii y) s5 (dd (fr q)) s7 s8 s9) = some (.val (.imm (.bool true)), RF bb s1 (dd R) (ii x) (ii y) s5 (dd (fr q)) s7 s8 s9) :=
  v_bin (ev_var (i := 6) rfl) (e_call3 (ev_var (i := 2) rfl) (ev_var (i := 3) rfl) (ev_var (i := 4) rfl) h) (eq_fr q)
end
theorem right_ok {cl : Nat → Fn} {b : Int} (P : RightP cl b) (a : Int) : ∃ o, fn55 cl [.own .par (bx a b 0)] = some (.imm (.bool true), [some o]) := by
  obtain ⟨v, a1, c1, e1, q1, q2, p1, p2⟩ := P.T a 0 2 (by decide) (by decide) (by decide) (by decide)
  obtain ⟨many, hm⟩ : ∃ many : Nat, (2 + v) = (many : Int) := ⟨(2 + v).toNat, by omega⟩
  obtain ⟨w, a2, c2, e2, w1, w2, p3, p4⟩ := P.T a1 c1 8 (by decide) (by decide) p1 (by omega)
  obtain ⟨long, hl⟩ : ∃ long : Nat, (1 + w) = (long : Int) := ⟨(1 + w).toNat, by omega⟩
  obtain ⟨r, a3, c3', e3, hr, hrl, p5, p6⟩ := P.R a2 c2 many long (by omega) (by omega) (by omega) p3 (by omega)
  obtain ⟨x, y, a4, c4, e4, hxy, p7, p8⟩ := P.P a3 c3' many (by omega) p5 (by omega)
  have hr8 : r.length ≤ 8 := by omega
  have hU := P.U r x y hxy hr hr8
  have hS := P.S r x y hxy hr hr8
  have hSu := P.Su r x y hr hr8
  have hT2 := P.T2 r x y hr hr8
  have hB := P.B r hr hr8
  have hN := P.N r hr hr8
  have hc : mkRat (0 + shS (stL x y 0 0 r)) 648 = vl 3 (2 * (wN r.reverse [x, y, y] - wN r.reverse [x, y, x] - wN r.reverse [x, x, y] + wN r.reverse [x, x, x])) := by
    rw [Int.zero_add, sh_row hxy, cubes_ok hxy, tot_share]
  have hz0 : (.tuple [.int 0, .int 1] : D) = fr (mkRat 0 648) := by
    unfold fr
    rw [Rat.zero_mkRat]; rfl
  have hX8 := stL_len x y r 0 0
  have hbd := stL_bd x y r 0 0 hr (by simp; omega) (by simp; omega)
  obtain ⟨y7, z5'⟩ := sum_loop P.A (bb := bx a4 b c4) (s1 := ii (many : Int)) (s2 := dd (rowD r)) (s3 := ii x) (s4 := ii y) (s5 := dd (.tuple ((stL x y 0 0 r).map stD))) (s8 := none) (s9 := none) (stL x y 0 0 r) 0 none hbd (by
    have h1 : 2 * 10 ^ 9 * (stL x y 0 0 r).length ≤ 2 * 10 ^ 9 * 8 := Nat.mul_le_mul_left _ (by omega)
    have h2 : (2 * 10 ^ 9 * 8 : Nat) ≤ 10 ^ 12 := by decide
    have h3 : (0 : Int).natAbs = 0 := rfl
    rw [h3, Nat.zero_add]
    exact Nat.le_trans h1 h2)
  rw [hc, ← hz0] at z5'
  have hl8 : (Nf.nf r).length ≤ 8 := by have := nf_len r; omega
  have hXl : (stL x y 0 0 r).length ≤ 10 := by omega
  have hnl : (setI (bel (Nf.nf r))).length ≤ 10 := by have := setI_len (bel (Nf.nf r)); have := bel_len (Nf.nf r); omega
  have hs := P.Sm (stL x y 0 0 r) (vl 3 (2 * (wN r.reverse [x, y, y] - wN r.reverse [x, y, x] - wN r.reverse [x, x, y] + wN r.reverse [x, x, x]))) (setI (bel (Nf.nf r))) hXl hnl
  have z1 := z1_ok hm e1
  have z2 := z2_ok hl e2 e3
  have z3 := z3_ok (cl := cl) (s2 := dd (rowD r)) (show many ≤ 1000 by omega) e4
  have z4 := z4_ok (bb := bx a4 b c4) (s1 := ii (many : Int)) hU
  have z7 := fun s5 s6 s7 s8 => z7_ok (bb := bx a4 b c4) (s1 := ii (many : Int)) (s3 := ii x) (s4 := ii y) (s5 := s5) (s6 := s6) (s7 := s7) (s8 := s8) hN hl8
  have z9 := fun s5 s7 s8 s9 => z9_ok (bb := bx a4 b c4) (s1 := ii (many : Int)) (s5 := s5) (s7 := s7) (s8 := s8) (s9 := s9) hT2
  have z6 := fun s5 s6 s7 => z6_ok (bb := bx a4 b c4) (s1 := ii (many : Int)) (s5 := s5) (s6 := s6) (s7 := s7) hS hSu hB
  have z8 := z8_ok (bb := bx a4 b c4) (s1 := ii (many : Int)) (s2 := dd (rowD r)) (s3 := ii x) (s4 := ii y) (s7 := y7) hs
  clear hs hc hbd hU hS hSu hT2 hB hN e1 e2 e3 e4
  generalize vl 3 (2 * (wN r.reverse [x, y, y] - wN r.reverse [x, y, x] - wN r.reverse [x, x, y] + wN r.reverse [x, x, x])) = q at *
  generalize (stL x y 0 0 r).map stD = X at *
  generalize rowD r = R at *
  have z5 : mFor (mISeq (mVar 5)) (mN 7) (r5 cl) (RF (bx a4 b c4) (ii (many : Int)) (dd R) (ii x) (ii y) (dd (.tuple X)) (dd (.tuple [.int 0, .int 1])) none none none) = some (.next, RF (bx a4 b c4) (ii (many : Int)) (dd R) (ii x) (ii y) (dd (.tuple X)) (dd (fr q)) y7 none none) :=
    c_for (ds := X) (ρ1 := RF (bx a4 b c4) (ii (many : Int)) (dd R) (ii x) (ii y) (dd (.tuple X)) (dd (.tuple [.int 0, .int 1])) none none none) rfl z5'
  generalize bx a4 b c4 = B4 at *
  generalize il (setI (bel (Nf.nf r))) = L at *
  rw [right_fn]
  exact ⟨_, c_fn (ρ0 := RF (bx a b 0) none none none none none none none none none) rfl rfl (c_seq z1 (c_seq z2 (c_seq z3 (c_seq z4 (c_seq z5 (c_seq (z6 _ _ _) (c_seq (z7 _ _ _ _) (c_ret (c_andT z8 rfl rfl (z9 _ _ _ _)) rfl)))))))) rfl⟩
end K41

namespace K41
open PySem Vi PyProof.Rows
/-! the numbers of the script -/
abbrev scD (ns : List Int) : D := .dict (ns.map fun n => (.int n, .none))
def cB : MS := (mSeq (mSet 5 (bin dMod (un dInt (mVar 3)) (mVar 1))) (mStore 2 (mVar 5) (bin dAdd (bin dIx (mVar 2) (mVar 5)) (bin dMul (mVar 4) (bin dAdd (mVar 3) (mC (.int 2)))))))
theorem cells_fn (cl : Nat → Fn) : fn34 cl = mFn 6 2 (mSeq (mSet 2 (mOr (un dList (mSl (mVar 0) mNoPart (mPart (mVar 1)))) (mLst (mCons (mC (.int 0)) mNil)))) (mSeq (mFor (mIEnum (mCons (mSl (mVar 0) (mPart (mVar 1)) (mPart (mC (.int 63)))) mNil)) (mGtup 2 (mGcons (mN 3) (mGcons (mN 4) mGnil))) cB) (mRet (mVar 2)))) := rfl
abbrev ZF (x0 : Option Sv) (u : Int) (x3 x4 x5 : Option Sv) : Fm := [x0, ii 1, some (.own .loc [.int u]), x3, x4, x5]
theorem cB_ok {x0 x5 : Option Sv} {u n : Int} {k : Nat} (hk : k ≤ 1000) : ∃ u' y5, cB (ZF x0 u (ii k) (ii n) x5) = some (.next, ZF x0 u' (ii k) (ii n) y5) := by
  have hm : mulOk n ((k : Int) + 2) = true := c_mul (by omega)
  have m : dMul (.int n) (.int ((k : Int) + 2)) = some (.imm (.int (n * ((k : Int) + 2)))) := by
    show (if mulOk n ((k : Int) + 2) = true then _ else _) = _
    rw [if_pos hm]
  have e1 : ∀ y, EV (mVar 3) (ZF x0 u (ii k) (ii n) y) (.int (k : Int)) := fun y => ev_var rfl
  have e2 : ∀ y, EV (mVar 4) (ZF x0 u (ii k) (ii n) y) (.int n) := fun y => ev_var rfl
  have e3 : EV (mVar 1) (ZF x0 u (ii k) (ii n) x5) (.int 1) := ev_var rfl
  have hmod : dMod (.int (k : Int)) (.int 1) = some (.imm (.int ((k : Int) % 1))) := rfl
  have s1 : mSet 5 (bin dMod (un dInt (mVar 3)) (mVar 1)) (ZF x0 u (ii k) (ii n) x5) = some (.next, ZF x0 u (ii k) (ii n) (ii ((k : Int) % 1))) := c_set (v_bin (e_un (f := dInt) (e1 x5) rfl) e3 hmod) rfl
  have h2 : (k : Int) % 1 = 0 := by omega
  rw [h2] at s1
  have hb : bin dIx (mVar 2) (mVar 5) (ZF x0 u (ii k) (ii n) (ii 0)) = some (.val (.imm (.int u)), ZF x0 u (ii k) (ii n) (ii 0)) := c_bin rfl rfl rfl rfl rfl
  have e5 := v_bin (f := dAdd) (ev_val hb) (e_bin (f := dMul) (e2 (ii 0)) (e_bin (f := dAdd) (e1 (ii 0)) (ev_c (d := .int 2)) rfl) m) rfl
  exact ⟨_, ii 0, c_seq s1 (c_store (j := 0) (k := 0) (ds := [.int u]) (ds1 := [.int u]) (b := .loc) (b1 := .loc) (i := 2) (ρ2 := ZF x0 u (ii k) (ii n) (ii 0)) (ρ3 := ZF x0 u (ii k) (ii n) (ii 0)) e5 rfl rfl rfl rfl rfl rfl)⟩
theorem cells_loop {x0 : Option Sv} : ∀ (ns : List Int) (k : Nat) (u : Int) (x3 x4 x5 : Option Sv), k + ns.length ≤ 900 → ∃ u' y3 y4 y5,
    loop (mGtup 2 (mGcons (mN 3) (mGcons (mN 4) mGnil))) cB (enumD k (ns.map .int)) (ZF x0 u x3 x4 x5) = some (.next, ZF x0 u' y3 y4 y5)
  | [], k, u, x3, x4, x5, _ => ⟨u, x3, x4, x5, rfl⟩
  | n :: ns, k, u, x3, x4, x5, hk => by
    simp only [List.length_cons] at hk
    obtain ⟨u1, y5, e1⟩ := cB_ok (x0 := x0) (x5 := x5) (u := u) (n := n) (k := k) (by omega)
    obtain ⟨u2, z3, z4, z5, e2⟩ := cells_loop (x0 := x0) ns (k + 1) u1 (ii k) (ii n) y5 (by omega)
    exact ⟨u2, z3, z4, z5, c_cons (ρ1 := ZF x0 u (ii k) (ii n) x5) rfl e1 e2⟩
theorem cut_ints (ns : List Int) (lo hi : Option Int) : ∃ ms : List Int, Vi.cutD (ns.map .int) lo hi = ms.map .int ∧ ms.length ≤ ns.length := by
  refine ⟨(ns.drop (HT.sIx ns.length 0 lo)).take (HT.sIx ns.length ns.length hi - HT.sIx ns.length 0 lo), ?_, ?_⟩
  · unfold Vi.cutD
    rw [List.length_map, ← List.map_drop, ← List.map_take]
  · rw [List.length_take, List.length_drop]; omega
theorem sc_keys (ns : List Int) : (ns.map fun n => ((.int n : D), (.none : D))).map Prod.fst = ns.map .int := by rw [List.map_map]; rfl
theorem first_one (x : Int) (ns : List Int) : Vi.cutD ((x :: ns).map PyData.int) none (some 1) = [.int x] := by
  unfold Vi.cutD
  rw [HT.sIx_none, show (some (1 : Int)) = some ((1 : Nat) : Int) from rfl, HT.sIx_nat]
  have : min 1 ((x :: ns).map PyData.int).length = 1 := by simp
  rw [this]
  rfl
theorem cells_ok {cl : Nat → Fn} (ns : List Int) (h : ns.length ≤ 63) : ∃ u : Int, fn34 cl [.imm (scD ns), .imm (.int 1)] = some (.own .loc [.int u], [none, none]) := by
  match ns, h with
  | [], _ => exact ⟨0, rfl⟩
  | x :: ns, h =>
    have hk := sc_keys (x :: ns)
    obtain ⟨ms, e1, hl⟩ := cut_ints (x :: ns) (some 1) (some 63)
    obtain ⟨u, y3, y4, y5, e3⟩ := cells_loop (x0 := some (.imm (scD (x :: ns)))) ms 0 x none none none (by omega)
    refine ⟨u, ?_⟩
    have e0 := first_one x ns
    rw [← hk] at e0 e1
    unfold scD at e3 ⊢
    generalize ((x :: ns).map fun n => ((.int n : D), (.none : D))) = kv at e0 e1 e3 ⊢
    have h1 : un dList (mSl (mVar 0) mNoPart (mPart (mVar 1))) [some (.imm (.dict kv)), ii 1, none, none, none, none] = some (.val (.own .loc [.int x]), [some (.imm (.dict kv)), ii 1, none, none, none, none]) := by
      have hs : mSl (mVar 0) mNoPart (mPart (mVar 1)) [some (.imm (.dict kv)), ii 1, none, none, none, none] = some (.val (.own .loc (Vi.cutD (kv.map Prod.fst) none (some 1))), [some (.imm (.dict kv)), ii 1, none, none, none, none]) := rfl
      rw [e0] at hs
      exact c_un hs rfl rfl
    have s1 : mSet 2 (mOr (un dList (mSl (mVar 0) mNoPart (mPart (mVar 1)))) (mLst (mCons (mC (.int 0)) mNil))) [some (.imm (.dict kv)), ii 1, none, none, none, none] = some (.next, ZF (some (.imm (.dict kv))) x none none none) := by
      refine c_set (pr := .val (.own .loc [.int x])) (ρ1 := [some (.imm (.dict kv)), ii 1, none, none, none, none]) ?_ rfl
      unfold mOr
      rw [h1]
      rfl
    have hi : mIEnum (mCons (mSl (mVar 0) (mPart (mVar 1)) (mPart (mC (.int 63)))) mNil) (ZF (some (.imm (.dict kv))) x none none none) = some (enumD 0 (ms.map .int), ZF (some (.imm (.dict kv))) x none none none) := by
      have hs : mSl (mVar 0) (mPart (mVar 1)) (mPart (mC (.int 63))) (ZF (some (.imm (.dict kv))) x none none none) = some (.val (.own .loc (Vi.cutD (kv.map Prod.fst) (some 1) (some 63))), ZF (some (.imm (.dict kv))) x none none none) := rfl
      rw [e1] at hs
      unfold mIEnum
      rw [c_acons hs rfl c_anil]
      rfl
    rw [cells_fn]
    exact c_fn (ρ0 := [some (.imm (.dict kv)), ii 1, none, none, none, none]) rfl rfl (c_seq s1 (c_seq (c_for hi e3) (c_ret rfl rfl))) rfl
theorem dGe_int (i j : Int) : dGe (.int i) (.int j) = some (.imm (.bool (decide (j ≤ i)))) := rfl
theorem box_ok {cl : Nat → Fn} {ms : List Int} {k : Nat} (hk : k < ms.length) (hk2 : k < 2) : ∃ a b : Int, fn32 cl [.imm (.list (ms.map .int)), .imm (.int (k : Int))] = some (.own .loc (bx a b 0), [none, none]) := by
  have hx : dIx (.list (ms.map .int)) (.int (k : Int)) = some (.imm (.int ms[k])) := by
    show (L2.atI (ms.map PyData.int) (k : Int)).map Sv.imm = _
    rw [L2.atI_nat (show (ms.map PyData.int)[k]? = some (.int ms[k]) by rw [List.getElem?_map, List.getElem?_eq_getElem hk]; rfl)]
    rfl
  have hlen : dLen (.list (ms.map .int)) = some (.imm (.int ((ms.length : Nat) : Int))) := by
    show some (Sv.imm (.int (((ms.map PyData.int).length : Nat) : Int))) = _
    rw [List.length_map]
  obtain ⟨s, hs⟩ : ∃ s, ms[k] = s := ⟨_, rfl⟩
  rw [hs] at hx
  clear hs
  generalize ms.length = n at *
  generalize ms.map PyData.int = L at *
  have v0 : ∀ y, EV (mVar 0) [some (.imm (.list L)), ii (k : Int), y] (.list L) := fun y => ev_var rfl
  have v1 : ∀ y, EV (mVar 1) [some (.imm (.list L)), ii (k : Int), y] (.int (k : Int)) := fun y => ev_var rfl
  have v2 : EV (mVar 2) [some (.imm (.list L)), ii (k : Int), ii s] (.int s) := ev_var rfl
  have t1 : mB (bin dLt (mVar 1) (un dLen (mVar 0))) [some (.imm (.list L)), ii (k : Int), none] = some (true, [some (.imm (.list L)), ii (k : Int), none]) := by
    have h := c_b (v_bin (f := dLt) (v1 none) (e_un (f := dLen) (v0 none) hlen) (show dLt (.int (k : Int)) (.int (n : Int)) = some (.imm (.bool (decide ((k : Int) < (n : Int))))) from rfl))
    rwa [decide_eq_true (show (k : Int) < (n : Int) by omega)] at h
  have s1 : mSet 2 (mIf (mB (bin dLt (mVar 1) (un dLen (mVar 0)))) (bin dIx (mVar 0) (mVar 1)) (mC (.int 0))) [some (.imm (.list L)), ii (k : Int), none] = some (.next, [some (.imm (.list L)), ii (k : Int), ii s]) :=
    c_set (mif_T t1 (v_bin (v0 none) (v1 none) hx)) rfl
  have habs : dAbs (.int s) = some (.imm (.int (if s < 0 then -s else s))) := rfl
  have hpow : dPow (.int 10) (.int 18) = some (.imm (.int 1000000000000000000)) := rfl
  generalize (if s < 0 then -s else s) = z at habs
  generalize hq : decide ((1000000000000000000 : Int) ≤ z) = q
  have hge : dGe (.int z) (.int 1000000000000000000) = some (.imm (.bool q)) := by rw [dGe_int, hq]
  have m1 : mulOk z (if q = true then 1 else 0) = true := c_mul (by cases q <;> decide)
  have hmul : dMul (.int z) (.int (if q = true then 1 else 0)) = some (.imm (.int (z * (if q = true then 1 else 0)))) := by
    show (if mulOk z _ = true then _ else _) = _
    rw [m1]; rfl
  have m2 : mulOk 39373 (k : Int) = true := c_mul (by omega)
  have hmul2 : dMul (.int 39373) (.int (k : Int)) = some (.imm (.int (39373 * (k : Int)))) := by
    show (if mulOk 39373 (k : Int) = true then some (Sv.imm (.int (39373 * (k : Int)))) else none) = _
    rw [if_pos m2]
  have a1 := e_un (f := dAbs) v2 habs
  have a2 := e_bin (f := dMul) a1 (e_un (f := dInt) (e_bin (f := dGe) a1 (e_bin (f := dPow) (ev_c (d := .int 10)) (ev_c (d := .int 18)) hpow) hge) (show dInt (.bool q) = some (.imm (.int (if q = true then 1 else 0))) from rfl)) hmul
  have hadd : ∀ x y : Int, dAdd (.int x) (.int y) = some (.imm (.int (x + y))) := fun x y => rfl
  have hint : dInt (.int s) = some (.imm (.int s)) := rfl
  have hmod : dMod (.int s) (.int 2305843009213693951) = some (.imm (.int (s % 2305843009213693951))) := rfl
  have a3 := e_bin (f := dAdd) (e_bin (f := dAdd) (e_bin (f := dMod) (e_un (f := dInt) v2 hint) (ev_c (d := .int 2305843009213693951)) hmod) (e_bin (f := dMul) (ev_c (d := .int 39373)) (v1 (ii s)) hmul2) (hadd _ _)) (ev_c (d := .int 88541)) (hadd _ _)
  have a4 := v_lst (ea_cons a2 (ea_cons a3 (ea_cons (ev_c (d := .int 0)) ea_nil))) (by simp)
  refine ⟨z * (if q = true then 1 else 0), s % 2305843009213693951 + 39373 * (k : Int) + 88541, ?_⟩
  unfold fn32
  exact c_fn (ρ0 := [some (.imm (.list L)), ii (k : Int), none]) rfl rfl (c_seq s1 (c_ret a4 rfl)) rfl
/-! the law -/
def oB (cl : Nat → Fn) : ME := (mCallO (cl 55) (mCall (cl 32) (rVal (mCall (cl 34) (rVal (mVar 0) (rVal (mC (.int 1)) rNil))) (rVal (mC (.int 0)) rNil))))
theorem law_fn (cl : Nat → Fn) : fn56 cl = mFn 1 1 (mRet (mAnd (mCall (cl 54) rNil) (oB cl))) := rfl
structure LawP (cl : Nat → Fn) : Prop where
  hand : cl 54 [] = some (.imm (.bool true), [])
  cells : ∀ ns : List Int, ns.length ≤ 63 → ∃ u : Int, cl 34 [.imm (scD ns), .imm (.int 1)] = some (.own .loc [.int u], [none, none])
  box : ∀ u : Int, ∃ a b : Int, cl 32 [.imm (.list [.int u]), .imm (.int 0)] = some (.own .loc (bx a b 0), [none, none])
  right : ∀ a b : Int, ∃ o, cl 55 [.own .par (bx a b 0)] = some (.imm (.bool true), [some o])
theorem oB_ok {cl : Nat → Fn} (P : LawP cl) {ns : List Int} (hl : ns.length ≤ 63) : oB cl [some (.imm (scD ns))] = some (.val (.imm (.bool true)), [some (.imm (scD ns))]) := by
  obtain ⟨u, e0⟩ := P.cells ns hl
  obtain ⟨a, b, e⟩ := P.box u
  obtain ⟨o, e2⟩ := P.right a b
  have h1 : mCall (cl 34) (rVal (mVar 0) (rVal (mC (.int 1)) rNil)) [some (.imm (scD ns))] = some (.val (.own .loc [.int u]), [some (.imm (scD ns))]) := v_call2 (ev_var (i := 0) rfl) ev_c e0
  have hc : mCall (cl 32) (rVal (mCall (cl 34) (rVal (mVar 0) (rVal (mC (.int 1)) rNil))) (rVal (mC (.int 0)) rNil)) [some (.imm (scD ns))] = some (.val (.own .loc (bx a b 0)), [some (.imm (scD ns))]) := v_call2 (ev_own h1) ev_c e
  unfold oB mCallO
  rw [hc]
  simp only [e2]
theorem law_gen {cl : Nat → Fn} (P : LawP cl) (ns : List Int) (hl : ns.length ≤ 63) : fn56 cl [.imm (scD ns)] = some (.imm (.bool true), [none]) := by
  have h2 : mCall (cl 54) rNil [some (.imm (scD ns))] = some (.val (.imm (.bool true)), [some (.imm (scD ns))]) := c_call rfl rfl rfl P.hand rfl
  have h3 := oB_ok P hl
  rw [law_fn]
  exact c_fn (ρ0 := [some (.imm (scD ns))]) rfl rfl (c_ret (c_andT h2 rfl rfl h3) rfl) rfl
end K41

namespace K41
open PySem Vi PyProof.Rows
theorem hand_ok : run 59 54 [] = some (.imm (.bool true), []) := by kernel_rfl
theorem i_frac (K : Nat) : FracP (run (K + 1) 6) := fun a b h1 h2 => by rw [rs6]; exact fraction_ok a b h1 h2
theorem i_whole (K : Nat) : WholeP (run (K + 1) 7) := by rw [rs7]; exact whole_ok
theorem i_plus (K : Nat) : PlusP (run (K + 2) 8) := fun d e q r h1 h2 h3 h4 => by rw [rs8]; exact plus_ok (i_frac K) h1 h2 h3 h4
theorem i_minus (K : Nat) : MinusP (run (K + 3) 9) := by rw [rs9]; exact minus_ok (i_plus K)
theorem i_times (K : Nat) : TimesP (run (K + 2) 10) := by rw [rs10]; exact times_ok (i_frac K)
theorem i_over (K : Nat) : OverP (run (K + 2) 11) := by rw [rs11]; exact over_ok (i_frac K)
theorem i_rais (K : Nat) : RaisP (run (K + 1) 13) := fun x hx => by rw [rs13]; exact raised_ok hx
theorem i_pow (K : Nat) : PowP (run (K + 2) 12) := by rw [rs12]; exact pow_ok (i_rais K)
theorem i_step (K : Nat) : StepP (run (K + 4) 29) := by rw [rs29]; exact t_ok ⟨i_plus (K + 1), i_minus K, i_pow (K + 1), i_over (K + 1), i_whole (K + 2)⟩
theorem i_dot (K : Nat) : DotP (run (K + 2) 15) := by rw [rs15]; exact dt_ok (i_frac K)
theorem i_wb (K : Nat) : WbP (run (K + 3) 23) := by rw [rs23]; exact wb_ok ⟨i_plus K, i_times K, i_over K, i_whole (K + 1)⟩
theorem i_ww (K : Nat) : WorthP (run (K + 4) 22) := by rw [rs22]; exact ww_ok (i_wb K)
theorem i_sum (K : Nat) : SumP (run (K + 5) 28) := by rw [rs28]; exact sum_ok (i_ww K) (i_dot (K + 2)) (i_whole (K + 3))
theorem i_low (K : Nat) : LowP (run (K + 1) 38) := fun a b h1 h2 => by rw [rs38]; exact low_ok a b h1 h2
theorem i_ladd (K : Nat) : LaddP (run (K + 2) 40) := fun d e q r h1 h2 h3 h4 => by rw [rs40]; exact ladd_ok (i_low K) h1 h2 h3 h4
theorem i_lmul (K : Nat) : LmulP (run (K + 2) 41) := by rw [rs41]; exact lmul_ok (i_low K)
theorem i_lsub (K : Nat) : LsubP (run (K + 2) 42) := by rw [rs42]; exact lsub_ok (i_low K)
theorem i_cube (K : Nat) : CubeP (run (K + 3) 48) := by rw [rs48]; exact cube_ok (i_lmul K)
theorem i_ustep (K : Nat) : StepP (run (K + 4) 49) := by rw [rs49]; exact u_ok ⟨i_ladd (K + 1), i_lsub (K + 1), i_cube K, i_low (K + 2)⟩
theorem i_lw (K : Nat) : ∀ m : Nat, m ≤ 8 → LwP (run (K + 3 + m) 44) m
  | 0, _ => by
    show LwP (run (K + 2 + 1) 44) 0
    rw [rs44]; exact lu_zero
  | m + 1, h => by
    show LwP (run (K + 3 + m + 1) 44) (m + 1)
    rw [rs44]
    have h1 := i_low (K + 2 + m)
    have h2 := i_ladd (K + 1 + m)
    have h3 := i_lmul (K + 1 + m)
    rw [show K + 2 + m + 1 = K + 3 + m by omega] at h1
    rw [show K + 1 + m + 2 = K + 3 + m by omega] at h2 h3
    exact lu_step ⟨h1, h2, h3⟩ (i_lw K m (by omega)) (by omega)
theorem i_tot (K : Nat) : TotP (run (K + 12) 50) := by rw [rs50]; exact tot_ok (i_lw K 8 (by decide)) (i_ladd (K + 9)) (i_lsub (K + 9)) (i_lmul (K + 9))
theorem i_tog (K : Nat) : Nf.TogP (run (K + 1) 17) := fun a b => by rw [rs17]; exact Nf.together_ok a b
theorem i_sh (K : Nat) : Nf.ShP (run (K + 2)) :=
  ⟨fun k => by rw [rs18]; exact Nf.place_nil k, fun ds j e k h => by rw [rs18]; exact Nf.place_last (i_tog K) ds j e k h, fun d e q r h1 h2 h3 h4 => i_plus K d e q r h1 h2 h3 h4⟩
theorem norm_le {m : Nat} : ∀ {r : List (Int × Int)}, (∀ p ∈ r, p.2.natAbs ≤ m) → Nf.norm r ≤ r.length * m
  | [], _ => by simp [Nf.norm]
  | p :: r, h => by
    have h1 := norm_le fun q hq => h q (List.mem_cons_of_mem _ hq)
    have h2 := h p (List.mem_cons_self ..)
    rw [Nf.norm_cons, List.length_cons, Nat.add_mul]; omega
theorem norm_80 {r : List (Int × Int)} (hr : ∀ x ∈ r, x.2.natAbs ≤ 18) (hl : r.length ≤ 8) : Nf.norm r < 2 ^ 80 := by
  have h1 := norm_le hr
  have h2 : r.length * 18 ≤ 8 * 18 := Nat.mul_le_mul_right _ hl
  exact Nat.lt_of_le_of_lt (Nat.le_trans h1 h2) (by decide)
theorem i_short (K : Nat) (r : List (Int × Int)) (hr : ∀ x ∈ r, x.2.natAbs ≤ 18) (hl : r.length ≤ 8) : run (K + 3) 19 [.imm (Nf.rowD r), .imm (.tuple [])] = some (.own .loc (Nf.dsD (Nf.nf r)), [none, none]) := by
  rw [rs19]; exact Nf.short_ok (i_sh K) rfl (Nf.isPrs r) (norm_80 hr hl) (by omega)
theorem i_norm (K : Nat) : NormP (run (K + 4) 20) := fun r hr hl => by
  rw [rs20]; exact Nf.normal_ok (i_short K r hr hl)
theorem i_lnorm (K : Nat) : NormP (run (K + 3) 43) := fun r hr hl => by
  rw [rs43]; exact Nf.law_normal (i_ladd K) (norm_80 hr hl) (by omega)
theorem i_sgn (K : Nat) : SgnP (run (K + 1) 14) := by rw [rs14]; exact sgn_ok
theorem i_bel (K : Nat) : BelP (run (K + 5) 30) := by rw [rs30]; exact below_ok (i_sgn (K + 3)) (i_norm K)
theorem i_si (K : Nat) (i : Int) : SameP (run (K + 1) 37) (.int i) := by rw [rs37]; exact same_int i
theorem i_sf (K : Nat) (q : Rat) : SameP (run (K + 2) 37) (fr q) := by rw [rs37]; exact same_fr (i_si K) q
theorem i_st (K : Nat) (x : Int × Int × Int) : SameP (run (K + 3) 37) (stD x) := by
  rw [rs37]
  exact (same_seq _ (by simp) (fun d hd => by
    simp only [List.mem_cons, List.not_mem_nil, or_false] at hd
    rcases hd with rfl | rfl | rfl | rfl <;> exact i_sf K _)).2
theorem i_sx (K : Nat) (X : List (Int × Int × Int)) (h : X.length ≤ 10) : SameP (run (K + 4) 37) (.tuple (X.map stD)) := by
  rw [rs37]
  exact (same_seq _ (by rw [List.length_map]; omega) (fun d hd => by
    obtain ⟨x, _, rfl⟩ := List.mem_map.mp hd
    exact i_st K x)).2
theorem i_sn (K : Nat) (ns : List Int) (h : ns.length ≤ 10) : SameP (run (K + 2) 37) (.tuple (il ns)) := by
  rw [rs37]
  exact (same_seq _ (by rw [List.length_map]; omega) (fun d hd => by
    obtain ⟨x, _, rfl⟩ := List.mem_map.mp hd
    exact i_si K x)).2
theorem i_same (K : Nat) (X : List (Int × Int × Int)) (q : Rat) (ns : List Int) (h1 : X.length ≤ 10) (h2 : ns.length ≤ 10) : SameP (run (K + 5) 37) (.list [.tuple (X.map stD), fr q, .tuple (il ns)]) := by
  rw [rs37]
  exact (same_seq _ (by simp) (fun d hd => by
    simp only [List.mem_cons, List.not_mem_nil, or_false] at hd
    rcases hd with rfl | rfl | rfl
    · exact i_sx K X h1
    · exact i_sf (K + 2) q
    · exact i_sn (K + 2) ns h2)).1
theorem i_of (K : Nat) (b : Int) : OfP (run (K + 2) 35) b := by rw [rs35]; exact of_ok (take_P K b)
theorem i_much (K : Nat) (b : Int) : MuchP (run (K + 3) 46) b := by rw [rs46]; exact much_ok (i_of K b)
theorem i_row (K : Nat) (b : Int) : RowP (run (K + 4) 47) b := by rw [rs47]; exact row_ok (take_P (K + 2) b) (i_much K b)
theorem i_pick (K : Nat) (b : Int) : PickP (run (K + 2) 39) b := by rw [rs39]; exact pick_ok (take_P K b)
theorem right_calls (b : Int) : RightP (run 58) b :=
  ⟨take_P 57 b, i_row 54 b, i_pick 56 b, i_step 54, i_ustep 54, i_ladd 56, i_sum 53, i_bel 53, i_lnorm 55, i_tot 46, i_same 53⟩
theorem law_calls : LawP (run 59) := ⟨hand_ok, fun ns h => by rw [rs34]; exact cells_ok ns h, fun u => by rw [rs32]; exact box_ok (ms := [u]) (k := 0) (by simp) (by decide), fun a b => by rw [rs55]; exact right_ok (right_calls b) a⟩
theorem law_true (ns : List Int) (hl : ns.length ≤ 63) : ∃ os, run 60 56 [.imm (.dict (ns.map fun n => (.int n, .none)))] = some (.imm (.bool true), os) := ⟨[none], by rw [rs56]; exact law_gen law_calls ns hl⟩
end K41

open PySem PySem.W PyProof.Rows
set_option maxHeartbeats 0 in
theorem PySem.Challenge.cw_everychange_k41_signs_shares_and_least_r_holds : PySem.Challenge.rw_everychange_k41_signs_shares_and_least_r.Holds := by
  w_on; o_law; k_head; (case hw => w_witness2)
  k_fill
  refine L2.walk_of (l := PySem.Challenge.rw_everychange_k41_signs_shares_and_least_r) (n := 63) (k := 60) (x := "_law_script") (CX := fun _ => L2.CX0) (sp := fun w => Vi.spD _ 1 (K41.run 60 56)) rfl (by decide) rfl ⟨rfl, by decide, by decide⟩ (fun w h Y => PySem.W.kIn_of Y) ?F (fun _ _ a ns hl _ hS => Vi.law_sp hS (K41.law_true ns hl)) (fun _ _ _ _ _ h => h)
  case F =>
    intro w mg fa h KX G hmg
    refine' K41.all_mk KX G hmg ?a6 ?l6 ?c6 ?k6 ?a7 ?l7 ?c7 ?k7 ?a8 ?l8 ?c8 ?k8 ?a9 ?l9 ?c9 ?k9 ?a10 ?l10 ?c10 ?k10 ?a11 ?l11 ?c11 ?k11 ?a12 ?l12 ?c12 ?k12 ?a13 ?l13 ?c13 ?k13 ?a14 ?l14 ?c14 ?k14 ?a15 ?l15 ?c15 ?k15 ?a17 ?l17 ?c17 ?k17 ?a18 ?l18 ?c18 ?k18 ?a19 ?l19 ?c19 ?k19 ?a20 ?l20 ?c20 ?k20 ?a22 ?l22 ?c22 ?k22 ?a23 ?l23 ?c23 ?k23 ?a27 ?l27 ?c27 ?k27 ?a28 ?l28 ?c28 ?k28 ?a29 ?l29 ?c29 ?k29 ?a30 ?l30 ?c30 ?k30 ?a32 ?l32 ?c32 ?k32 ?a33 ?l33 ?c33 ?k33 ?a34 ?l34 ?c34 ?k34 ?a35 ?l35 ?c35 ?k35 ?a36 ?l36 ?c36 ?k36 ?a37 ?l37 ?c37 ?k37 ?a38 ?l38 ?c38 ?k38 ?a39 ?l39 ?c39 ?k39 ?a40 ?l40 ?c40 ?k40 ?a41 ?l41 ?c41 ?k41 ?a42 ?l42 ?c42 ?k42 ?a43 ?l43 ?c43 ?k43 ?a44 ?l44 ?c44 ?k44 ?a45 ?l45 ?c45 ?k45 ?a46 ?l46 ?c46 ?k46 ?a47 ?l47 ?c47 ?k47 ?a48 ?l48 ?c48 ?k48 ?a49 ?l49 ?c49 ?k49 ?a50 ?l50 ?c50 ?k50 ?a51 ?l51 ?c51 ?k51 ?a52 ?l52 ?c52 ?k52 ?a53 ?l53 ?c53 ?k53 ?a54 ?l54 ?c54 ?k54 ?a55 ?l55 ?c55 ?k55 ?a56 ?l56 ?c56 ?k56 ?xa2 ?xl2 ?xs2 ?xi2 ?xt2 ?xf2 ?xc2 ?xk2 ?xK2 ?xe2 ?xy2 ?xz2 ?xw2 ?m_SIX ?kSIX_0 ?kSIX_0_5 ?kSIX_0_5_1 ?kSIX_0_4 ?kSIX_0_4_1 ?kSIX_0_3 ?kSIX_0_3_1 ?kSIX_0_2 ?kSIX_0_2_1 ?kSIX_0_1 ?kSIX_0_1_1 ?kSIX_0_0 ?kSIX_0_0_1 ?m_HALF ?k_HALF ?m_ONE ?k_ONE ?m_ZERO ?k_ZERO ?f_gcd ?z_abs ?z_all ?z_bool ?z_enumerate ?z_int ?z_isinstance ?z_len ?z_list ?z_max ?z_min ?z_range ?z_reversed ?z_set ?z_sorted ?z_str ?z_tuple ?z_zip
    (case a6 => k_is); (case l6 => k_is); (case c6 => k_is); (case k6 => k_is); (case a7 => k_is); (case l7 => k_is); (case c7 => k_is); (case k7 => k_is); (case a8 => k_is); (case l8 => k_is); (case c8 => k_is); (case k8 => k_is); (case a9 => k_is); (case l9 => k_is); (case c9 => k_is); (case k9 => k_is); (case a10 => k_is); (case l10 => k_is); (case c10 => k_is); (case k10 => k_is); (case a11 => k_is); (case l11 => k_is); (case c11 => k_is); (case k11 => k_is); (case a12 => k_is); (case l12 => k_is); (case c12 => k_is); (case k12 => k_is); (case a13 => k_is); (case l13 => k_is); (case c13 => k_is); (case k13 => k_is); (case a14 => k_is); (case l14 => k_is); (case c14 => k_is); (case k14 => k_is); (case a15 => k_is); (case l15 => k_is); (case c15 => k_is); (case k15 => k_is); (case a17 => k_is); (case l17 => k_is); (case c17 => k_is); (case k17 => k_is); (case a18 => k_is); (case l18 => k_is); (case c18 => k_is); (case k18 => k_is); (case a19 => k_is); (case l19 => k_is); (case c19 => k_is); (case k19 => k_is); (case a20 => k_is); (case l20 => k_is); (case c20 => k_is); (case k20 => k_is); (case a22 => k_is); (case l22 => k_is); (case c22 => k_is); (case k22 => k_is); (case a23 => k_is); (case l23 => k_is); (case c23 => k_is); (case k23 => k_is); (case a27 => k_is); (case l27 => k_is); (case c27 => k_is); (case k27 => k_is); (case a28 => k_is); (case l28 => k_is); (case c28 => k_is); (case k28 => k_is); (case a29 => k_is); (case l29 => k_is); (case c29 => k_is); (case k29 => k_is); (case a30 => k_is); (case l30 => k_is); (case c30 => k_is); (case k30 => k_is); (case a32 => k_is); (case l32 => k_is); (case c32 => k_is); (case k32 => k_is); (case a33 => k_is); (case l33 => k_is); (case c33 => k_is); (case k33 => k_is); (case a34 => k_is); (case l34 => k_is); (case c34 => k_is); (case k34 => k_is); (case a35 => k_is); (case l35 => k_is); (case c35 => k_is); (case k35 => k_is); (case a36 => k_is); (case l36 => k_is); (case c36 => k_is); (case k36 => k_is); (case a37 => k_is); (case l37 => k_is); (case c37 => k_is); (case k37 => k_is); (case a38 => k_is); (case l38 => k_is); (case c38 => k_is); (case k38 => k_is); (case a39 => k_is); (case l39 => k_is); (case c39 => k_is); (case k39 => k_is); (case a40 => k_is); (case l40 => k_is); (case c40 => k_is); (case k40 => k_is); (case a41 => k_is); (case l41 => k_is); (case c41 => k_is); (case k41 => k_is); (case a42 => k_is); (case l42 => k_is); (case c42 => k_is); (case k42 => k_is); (case a43 => k_is); (case l43 => k_is); (case c43 => k_is); (case k43 => k_is); (case a44 => k_is); (case l44 => k_is); (case c44 => k_is); (case k44 => k_is); (case a45 => k_is); (case l45 => k_is); (case c45 => k_is); (case k45 => k_is); (case a46 => k_is); (case l46 => k_is); (case c46 => k_is); (case k46 => k_is); (case a47 => k_is); (case l47 => k_is); (case c47 => k_is); (case k47 => k_is); (case a48 => k_is); (case l48 => k_is); (case c48 => k_is); (case k48 => k_is); (case a49 => k_is); (case l49 => k_is); (case c49 => k_is); (case k49 => k_is); (case a50 => k_is); (case l50 => k_is); (case c50 => k_is); (case k50 => k_is); (case a51 => k_is); (case l51 => k_is); (case c51 => k_is); (case k51 => k_is); (case a52 => k_is); (case l52 => k_is); (case c52 => k_is); (case k52 => k_is); (case a53 => k_is); (case l53 => k_is); (case c53 => k_is); (case k53 => k_is); (case a54 => k_is); (case l54 => k_is); (case c54 => k_is); (case k54 => k_is); (case a55 => k_is); (case l55 => k_is); (case c55 => k_is); (case k55 => k_is); (case a56 => k_is); (case l56 => k_is); (case c56 => k_is); (case k56 => k_is); (case xa2 => k_is); (case xl2 => k_is); (case xs2 => k_is); (case xi2 => k_is); (case xt2 => k_is); (case xf2 => k_is); (case xc2 => k_is); (case xk2 => k_is); (case xK2 => k_is); (case xe2 => k_is); (case xy2 => k_is); (case xz2 => k_is); (case xw2 => k_is); (case m_SIX => k_is); (case kSIX_0 => k_is); (case kSIX_0_5 => k_is); (case kSIX_0_5_1 => k_is); (case kSIX_0_4 => k_is); (case kSIX_0_4_1 => k_is); (case kSIX_0_3 => k_is); (case kSIX_0_3_1 => k_is); (case kSIX_0_2 => k_is); (case kSIX_0_2_1 => k_is); (case kSIX_0_1 => k_is); (case kSIX_0_1_1 => k_is); (case kSIX_0_0 => k_is); (case kSIX_0_0_1 => k_is); (case m_HALF => k_is); (case k_HALF => k_is); (case m_ONE => k_is); (case k_ONE => k_is); (case m_ZERO => k_is); (case k_ZERO => k_is); (case f_gcd => k_is); (case z_abs => k_is); (case z_all => k_is); (case z_bool => k_is); (case z_enumerate => k_is); (case z_int => k_is); (case z_isinstance => k_is); (case z_len => k_is); (case z_list => k_is); (case z_max => k_is); (case z_min => k_is); (case z_range => k_is); (case z_reversed => k_is); (case z_set => k_is); (case z_sorted => k_is); (case z_str => k_is); (case z_tuple => k_is); (case z_zip => k_is)

