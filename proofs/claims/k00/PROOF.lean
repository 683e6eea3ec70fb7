import PyProof.Rows.All
import Wide.All
import OpenK.AllK
import Wide.FinOn
import HandS.ForMost
import HandS.Deep
import HandS.TupAny
import HandS.IsInst
import HandS.Flow
import HandS.Zip
import HandS.Wide
import HandS.Walk
import HandS.TupMul
import KE.SortData
import KE.DataCmp
import KE.KeyNested
import HandS.ExcInit
import KE.GoesMore
import HandS.Style
import HandS.Gcd
import HandS.Rev
import HandS.Iter
import KE.DataMinMax
import PyProof.Claim2Refuses
import HandS.Conv
import HandS.TupSets
import HandS.Sort
import HandS.SetFor
import HandS.Strs
import KE.KMathGC
import KE.KDictKeyed
import KE.KDictDisplayH
import KE.KDictCopyH
import KE.KDictSum
import HandS.Exc
import HandS.ExcOwn
import HandS.TryOnly
import HandS.TryMany
import HandS.WordsExc
import HandS.WideBits
import HandS.RevTup
import PyProof.Rows.RuleB_bool
import KE.GoesZip
import KE.KDictWalk
import HandS.SetKeys
import HandS.SortKw
import HandS.WordsDict
import KE.KExcInit
import PyProof.ExcBaseAll.LookupError
import HandS.ExcField
import HandS.ExcIs
import KE.KExcIs
import HandS.ExcBuiltin
import KE.DataAny
import HandS.TupLe
import PySem.Challenge.RW_everychange_k00_errors
set_option Elab.async false
set_option linter.all false
set_option maxRecDepth 100000
set_option maxHeartbeats 4000000
namespace Vi
open PySem PySem.Spec PyProof.Rows L2

abbrev D := PyData
abbrev Mset := Addr → Prop
abbrev St := L2.St

/-- a tuple that stays -/
def TupAt (K : PySem.W.Frag) (H : Hp) (M : Mset) (a : Addr) (xs : List V) : Prop :=
  (Rd H a (.tup xs) ∧ ¬ M a) ∨
    ∃ (o : Obj) (its : Array Value) (n : Nat), K.lookup a = some o ∧ o.cls = .type "tuple" ∧ o.data = .seq its n ∧ its.size ≤ sizeLine ∧ Vals xs its.toList
theorem TupAt.sq {K : PySem.W.Frag} {H : Hp} {M : Mset} {a : Addr} {xs : List V} (h : TupAt K H M a xs) : SqT K H a xs := by
  rcases h with ⟨h, _⟩ | h
  · exact .inl h
  · exact .inr h

/-- a list that stays, of the module's own too (the script) -/
def LstAt (K : PySem.W.Frag) (H : Hp) (M : Mset) (a : Addr) (xs : List V) : Prop :=
  (Rd H a (.lst xs) ∧ ¬ M a) ∨
    ∃ (o : Obj) (its : Array Value) (n : Nat), K.lookup a = some o ∧ o.cls = .type "list" ∧ o.dict = none ∧ o.data = .seq its n ∧ its.size ≤ sizeLine ∧ Vals xs its.toList
theorem LstAt.sq {K : PySem.W.Frag} {H : Hp} {M : Mset} {a : Addr} {xs : List V} (h : LstAt K H M a xs) : SqL K H a xs := by
  rcases h with ⟨h, _⟩ | h
  · exact .inl h
  · exact .inr h

/-- an exception, not the script -/
def isExc : List (D × D) → Bool
  | [(.str _, .bool _)] => true
  | _ => false
mutual
inductive Rep (K : PySem.W.Frag) (H : Hp) (M : Mset) : V → D → Prop
  | non : Rep K H M .non .none
  | bl (b : Bool) : Rep K H M (.bl b) (.bool b)
  | int (i : Int) : Rep K H M (.int i) (.int i)
  | str (x : Str) : Rep K H M (.str x) (.str x)
  | lst {a : Addr} {xs : List V} {ds : List D} : Rd H a (.lst xs) → ¬ M a → Reps K H M xs ds → Rep K H M (.ref a) (.list ds)
  | tup {a : Addr} {xs : List V} {ds : List D} : TupAt K H M a xs → Reps K H M xs ds → Rep K H M (.ref a) (.tuple ds)
  | scr {a : Addr} {xs : List V} {kvs : List (D × D)} : isExc kvs = false → LstAt K H M a xs → Reps K H M xs (kvs.map Prod.fst) → Rep K H M (.ref a) (.dict kvs)
  /-- an exception of one's own class, told by the class' name -/
  | exc {a C : Addr} {od : Option Addr} {nm : Str} : Rd H a (exo a C od) → ¬ M a → (∀ q, od = some q → ∃ fs, Rd H q (exd q fs) ∧ ¬ M q) → PySem.W.nsIn K mainGlobals nm = some (some (.ref C)) → Rep K H M (.ref a) (.dict [(.str nm, .bool true)])
inductive Reps (K : PySem.W.Frag) (H : Hp) (M : Mset) : List V → List D → Prop
  | nil : Reps K H M [] []
  | cons {v : V} {vs : List V} {d : D} {ds : List D} : Rep K H M v d → Reps K H M vs ds → Reps K H M (v :: vs) (d :: ds)
end

section
variable {K : PySem.W.Frag} {H H' : Hp} {M M' : Mset}
mutual
theorem Rep.tr (t : ∀ a u, Rd H a u → ¬ M a → Rd H' a u ∧ ¬ M' a) : ∀ {v : V} {d : D}, Rep K H M v d → Rep K H' M' v d
  | _, _, .non => .non
  | _, _, .bl b => .bl b
  | _, _, .int i => .int i
  | _, _, .str x => .str x
  | _, _, .lst h n r => .lst (t _ _ h n).1 (t _ _ h n).2 (Reps.tr t r)
  | _, _, .tup h r => .tup (by
      rcases h with ⟨h, n⟩ | h
      · exact .inl (t _ _ h n)
      · exact .inr h) (Reps.tr t r)
  | _, _, .scr x h r => .scr x (by
      rcases h with ⟨h, n⟩ | h
      · exact .inl (t _ _ h n)
      · exact .inr h) (Reps.tr t r)
  | _, _, .exc h n f k => .exc (t _ _ h n).1 (t _ _ h n).2 (fun q e => let ⟨fs, h1, h2⟩ := f q e; ⟨fs, (t _ _ h1 h2).1, (t _ _ h1 h2).2⟩) k
theorem Reps.tr (t : ∀ a u, Rd H a u → ¬ M a → Rd H' a u ∧ ¬ M' a) : ∀ {vs : List V} {ds : List D}, Reps K H M vs ds → Reps K H' M' vs ds
  | _, _, .nil => .nil
  | _, _, .cons h r => .cons (Rep.tr t h) (Reps.tr t r)
end
mutual
theorem Rep.dp : ∀ {v : V} {d : D}, Rep K H M v d → d.canLay0 = true → Dp K H v d
  | _, _, .non, _ => .non
  | _, _, .bl b, _ => .bl b
  | _, _, .int i, _ => .int i
  | _, _, .str x, _ => .str x
  | _, _, .lst h n r, c => .lst (.inl h) (Reps.dp r (by simpa [PyData.canLay0] using c))
  | _, _, .tup h r, c => .tup h.sq (Reps.dp r (by simpa [PyData.canLay0] using c))
  | _, _, .scr x h r, c => by simp [PyData.canLay0] at c
  | _, _, .exc _ _ _ _, c => by simp [PyData.canLay0] at c
theorem Reps.dp : ∀ {vs : List V} {ds : List D}, Reps K H M vs ds → PyData.canLayAll0 ds = true → DpAll K H vs ds
  | _, _, .nil, _ => .nil
  | _, _, .cons h r, c => .cons (Rep.dp h (by simp [PyData.canLayAll0] at c; exact c.1)) (Reps.dp r (by simp [PyData.canLayAll0] at c; exact c.2))
end
theorem Rep.smaller (h : ∀ a, M' a → M a) {v : V} {d : D} (r : Rep K H M v d) : Rep K H M' v d := r.tr fun a u q n => ⟨q, fun z => n (h a z)⟩
theorem Reps.smaller (h : ∀ a, M' a → M a) {v : List V} {d : List D} (r : Reps K H M v d) : Reps K H M' v d := r.tr fun a u q n => ⟨q, fun z => n (h a z)⟩
theorem Reps.length : ∀ {vs : List V} {ds : List D}, Reps K H M vs ds → vs.length = ds.length
  | _, _, .nil => rfl
  | _, _, .cons _ r => by rw [List.length_cons, List.length_cons, Reps.length r]
theorem Reps.append : ∀ {vs ws : List V} {ds es : List D}, Reps K H M vs ds → Reps K H M ws es → Reps K H M (vs ++ ws) (ds ++ es)
  | _, _, _, _, .nil, s => s
  | _, _, _, _, .cons h r, s => .cons h (Reps.append r s)
theorem Reps.get : ∀ {vs : List V} {ds : List D} {i : Nat} {d : D}, Reps K H M vs ds → ds[i]? = some d → ∃ v, vs[i]? = some v ∧ Rep K H M v d
  | _, _, _, _, .nil, e => by simp at e
  | _, _, 0, _, .cons h r, e => by simp at e; subst e; exact ⟨_, rfl, h⟩
  | _, _, i + 1, d, .cons h r, e => by
    obtain ⟨v, h1, h2⟩ := Reps.get (i := i) (d := d) r (by simpa using e)
    exact ⟨v, by simpa using h1, h2⟩
theorem Reps.getV : ∀ {vs : List V} {ds : List D} {i : Nat} {v : V}, Reps K H M vs ds → vs[i]? = some v → ∃ d, ds[i]? = some d ∧ Rep K H M v d
  | _, _, _, _, .nil, e => by simp at e
  | _, _, 0, _, .cons h r, e => by simp at e; subst e; exact ⟨_, rfl, h⟩
  | _, _, i + 1, v, .cons h r, e => by
    obtain ⟨d, h1, h2⟩ := Reps.getV (i := i) (v := v) r (by simpa using e)
    exact ⟨d, by simpa using h1, h2⟩
theorem Reps.take : ∀ {vs : List V} {ds : List D} (n : Nat), Reps K H M vs ds → Reps K H M (vs.take n) (ds.take n)
  | _, _, 0, _ => by simp; exact .nil
  | _, _, _ + 1, .nil => .nil
  | _, _, n + 1, .cons h r => .cons h (Reps.take n r)
theorem Reps.drop : ∀ {vs : List V} {ds : List D} (n : Nat), Reps K H M vs ds → Reps K H M (vs.drop n) (ds.drop n)
  | _, _, 0, r => r
  | _, _, _ + 1, .nil => .nil
  | _, _, n + 1, .cons h r => Reps.drop n r
theorem Reps.set : ∀ {vs : List V} {ds : List D} (i : Nat) {v : V} {d : D}, Reps K H M vs ds → Rep K H M v d → Reps K H M (vs.set i v) (ds.set i d)
  | _, _, _, _, _, .nil, _ => .nil
  | _, _, 0, _, _, .cons _ r, q => .cons q r
  | _, _, i + 1, _, _, .cons h r, q => .cons h (Reps.set i r q)
theorem Reps.erase : ∀ {vs : List V} {ds : List D} (i : Nat), Reps K H M vs ds → Reps K H M (vs.eraseIdx i) (ds.eraseIdx i)
  | _, _, _, .nil => .nil
  | _, _, 0, .cons _ r => r
  | _, _, i + 1, .cons h r => .cons h (Reps.erase i r)
theorem Reps.rep {vs : List V} {ds : List D} (h : Reps K H M vs ds) : ∀ k : Nat, Reps K H M (List.replicate k vs).flatten (List.replicate k ds).flatten
  | 0 => .nil
  | k + 1 => by
    rw [List.replicate_succ, List.replicate_succ, List.flatten_cons, List.flatten_cons]
    exact Reps.append h (Reps.rep h k)
end

/-! ### what a def's names hold -/
/-- a local list, a parameter's list, a dict (its keys and values in turn) -/
inductive Kd where
  | loc | par | dic
def Kd.isL : Kd → Bool
  | .dic => false
  | _ => true
inductive Sv where
  | imm (d : D)
  | own (pin : Kd) (ds : List D)
abbrev Fm := List (Option Sv)
/-! the keys that a dict of this layer may have: tuples of whole numbers, and of such tuples -/
mutual
def keyOf : D → NestedKey
  | .int i => .num i
  | .tuple ds => .tup (keysOf ds)
  | _ => .none
def keysOf : List D → List NestedKey
  | [] => []
  | d :: ds => keyOf d :: keysOf ds
end
def keyOkN : Nat → D → Bool
  | _, .int _ => true
  | n + 1, .tuple ds => ds.all (keyOkN n)
  | _, _ => false
def keyOk : D → Bool
  | .tuple ds => keyOkN 8 (.tuple ds)
  | _ => false
/-- the keys -/
def dKeys : List D → List D
  | k :: _ :: r => k :: dKeys r
  | _ => []
/-- keys and values in turn: what stands in the dict's table -/
inductive Ents : List DictEntry → List V → List D → Prop
  | nil : Ents [] [] []
  | cons {e : DictEntry} {es : List DictEntry} {b : Addr} {v : V} {vs : List V} {kd d : D} {ds : List D} : keyOk kd = true → (∀ w, e.hash = (keyOf kd).hash w) → e.key = .ref b → RelV v e.val → Ents es vs ds → Ents (e :: es) (.ref b :: v :: vs) (kd :: d :: ds)
def dicO (a : Addr) (vs : List V) (ds : List D) : HO := .ext fun h => ∃ o es ep, h.get? a = some o ∧ o.ExactDict ∧ o.data = .dict es ep ∧ Ents es.toList vs ds ∧ ((dKeys ds).map keyOf).Nodup ∧ (a == sysModules) = false
/-- a dict whose keys are whole numbers -/
def intHead : List D → Bool
  | .int _ :: _ => true
  | _ => false
def kvO : List V → List D → List (Key × V)
  | _ :: v :: vs, .int i :: _ :: ds => (.inl i, v) :: kvO vs ds
  | _, _ => []
def cell : Kd → Addr → List V → List D → HO
  | .dic, a, vs, ds => if intHead ds = true then .dK (kvO vs ds) else dicO a vs ds
  | _, _, vs, _ => .lst vs

theorem cell_dic {a : Addr} {vs : List V} {ds : List D} (h : intHead ds = false) : cell .dic a vs ds = dicO a vs ds := by
  show (if intHead ds = true then _ else _) = _
  rw [h]; rfl
theorem cell_int {a : Addr} {vs : List V} {ds : List D} (h : intHead ds = true) : cell .dic a vs ds = .dK (kvO vs ds) := by
  show (if intHead ds = true then _ else _) = _
  rw [if_pos h]
theorem cell_lst {b : Kd} (hb : b.isL = true) {a : Addr} {vs : List V} {ds : List D} : cell b a vs ds = .lst vs := by cases b <;> first | rfl | cases hb
/-- from one world to a later one: what is fixed stays -/
structure Ext (O : Mset) (H : Hp) (M : Mset) (H' : Hp) (M' : Mset) : Prop where
  keep : ∀ a o, H a = some o → (O a ∨ ¬ M a) → H' a = some o
  sub : ∀ a, O a → M' a
  new : ∀ a, M' a → M a ∨ H a = none
theorem Ext.trans {O : Mset} {H H1 H2 : Hp} {M M1 M2 : Mset} (a : Ext O H M H1 M1) (b : Ext O H1 M1 H2 M2) : Ext O H M H2 M2 := by
  refine ⟨fun x o e h => ?_, b.sub, fun x h => ?_⟩
  · have e1 := a.keep x o e h
    refine b.keep x o e1 ?_
    rcases h with h | h
    · exact .inl h
    · refine .inr fun z => ?_
      rcases a.new x z with q | q
      · exact h q
      · rw [e] at q; cases q
  · rcases b.new x h with q | q
    · exact a.new x q
    · cases e : H x with
      | none => exact .inr rfl
      | some o =>
        refine .inl (Classical.byContradiction fun n => ?_)
        have := a.keep x o e (.inr n)
        rw [this] at q; cases q
theorem Ext.less {O O' : Mset} {H H1 : Hp} {M M1 : Mset} (a : Ext O H M H1 M1) (h : ∀ x, O' x → O x) : Ext O' H M H1 M1 :=
  ⟨fun x o e q => a.keep x o e (q.imp (h x) id), fun x q => a.sub x (h x q), a.new⟩
theorem Ext.tr {O : Mset} {H H' : Hp} {M M' : Mset} (x : Ext O H M H' M') : ∀ a u, Rd H a u → ¬ M a → Rd H' a u ∧ ¬ M' a := fun a u h n => by
  refine ⟨?_, fun z => ?_⟩
  · rcases h with h | ⟨o, h⟩
    · exact .inl (x.keep a _ h (.inr n))
    · exact .inr ⟨o, x.keep a _ h (.inr n)⟩
  · rcases x.new a z with q | q
    · exact n q
    · rcases h with h | ⟨o, h⟩ <;> (rw [h] at q; cases q)

structure SR (K : PySem.W.Frag) (H : Hp) (M O : Mset) (π : Nat → Option Addr) (ρ : Fm) (σ : St) : Prop where
  len : ρ.length = σ.length
  sub : ∀ a, O a → M a
  live : ∀ a, M a → H a ≠ none
  imm : ∀ (i : Nat) (d : D), ρ[i]? = some (some (.imm d)) → ∃ v, σ[i]? = some (some v) ∧ Rep K H M v d
  own : ∀ (i : Nat) (b : Kd) (ds : List D), ρ[i]? = some (some (.own b ds)) → ∃ a vs, σ[i]? = some (some (.ref a)) ∧ H a = some (cell b a vs ds) ∧ M a ∧ ¬ O a ∧ Reps K H M vs ds ∧ (b = .par → π i = some a)
  uniq : ∀ (i j : Nat) (b c : Kd) (ds es : List D) (a : Addr), i ≠ j → ρ[i]? = some (some (.own b ds)) → ρ[j]? = some (some (.own c es)) → σ[i]? = some (some (.ref a)) → σ[j]? ≠ some (some (.ref a))

theorem Ext.refl {K : PySem.W.Frag} {H : Hp} {M O : Mset} {π : Nat → Option Addr} {ρ : Fm} {σ : St} (h : SR K H M O π ρ σ) : Ext O H M H M := ⟨fun _ _ e _ => e, h.sub, fun _ q => .inl q⟩

section
variable {K : PySem.W.Frag} {H H' : Hp} {M M' O : Mset} {π : Nat → Option Addr} {ρ ρ' : Fm} {σ : St}
/-- a new object, not owned by a name -/
theorem SR.alloc (h : SR K H M O π ρ σ) {p : Addr} {o : HO} (hp : H p = none) : SR K (upd H p o) M O π ρ σ := by
  have ne : ∀ a, M a → a ≠ p := fun a q z => h.live a q (by rw [z]; exact hp)
  have ne2 : ∀ {a : Addr} {u : HO}, H a = some u → a ≠ p := fun e z => by rw [z, hp] at e; cases e
  have t : ∀ a u, Rd H a u → ¬ M a → Rd (upd H p o) a u ∧ ¬ M a := fun a u q n => by
    refine ⟨?_, n⟩
    rcases q with q | ⟨o', q⟩
    · exact .inl (by rw [upd_ne (ne2 q)]; exact q)
    · exact .inr ⟨o', by rw [upd_ne (ne2 q)]; exact q⟩
  refine ⟨h.len, h.sub, fun a q => by rw [upd_ne (ne a q)]; exact h.live a q, fun i d e => ?_, fun i b ds e => ?_, h.uniq⟩
  · obtain ⟨v, e1, r⟩ := h.imm i d e
    exact ⟨v, e1, r.tr t⟩
  · obtain ⟨a, vs, e1, e2, e3, e4, r, e5⟩ := h.own i b ds e
    exact ⟨a, vs, e1, by rw [upd_ne (ne2 e2)]; exact e2, e3, e4, r.tr t, e5⟩
theorem Ext.alloc (h : SR K H M O π ρ σ) {p : Addr} {o : HO} (hp : H p = none) : Ext O H M (upd H p o) M :=
  ⟨fun a u e _ => by rw [upd_ne (fun z => by rw [z, hp] at e; cases e)]; exact e, h.sub, fun _ q => .inl q⟩
/-- M with p -/
def wth (M : Mset) (p : Addr) : Mset := fun a => M a ∨ a = p
/-- M without p -/
def wo (M : Mset) (p : Addr) : Mset := fun a => M a ∧ a ≠ p
theorem SR.allocOwn (h : SR K H M O π ρ σ) {p : Addr} {o : HO} (hp : H p = none) : SR K (upd H p o) (wth M p) O π ρ σ := by
  have ne2 : ∀ {a : Addr} {u : HO}, H a = some u → a ≠ p := fun e z => by rw [z, hp] at e; cases e
  have t : ∀ a u, Rd H a u → ¬ M a → Rd (upd H p o) a u ∧ ¬ wth M p a := fun a u q n => by
    rcases q with q | ⟨o', q⟩
    · exact ⟨.inl (by rw [upd_ne (ne2 q)]; exact q), fun z => z.elim n (ne2 q)⟩
    · exact ⟨.inr ⟨o', by rw [upd_ne (ne2 q)]; exact q⟩, fun z => z.elim n (ne2 q)⟩
  refine ⟨h.len, fun a q => .inl (h.sub a q), fun a q => ?_, fun i d e => ?_, fun i b ds e => ?_, h.uniq⟩
  · rcases q with q | rfl
    · rw [upd_ne (fun z => h.live a q (by rw [z]; exact hp))]; exact h.live a q
    · rw [upd_same]; intro z; cases z
  · obtain ⟨v, e1, r⟩ := h.imm i d e
    exact ⟨v, e1, r.tr t⟩
  · obtain ⟨a, vs, e1, e2, e3, e4, r, e5⟩ := h.own i b ds e
    exact ⟨a, vs, e1, by rw [upd_ne (ne2 e2)]; exact e2, .inl e3, e4, r.tr t, e5⟩
theorem Ext.allocOwn (h : SR K H M O π ρ σ) {p : Addr} {o : HO} (hp : H p = none) : Ext O H M (upd H p o) (wth M p) :=
  ⟨fun a u e _ => by rw [upd_ne (fun z => by rw [z, hp] at e; cases e)]; exact e, fun a q => .inl (h.sub a q), fun a q => q.imp id (fun z => by rw [z]; exact hp)⟩
theorem SR.less (h : SR K H M O π ρ σ) {O' : Mset} (q : ∀ a, O' a → O a) : SR K H M O' π ρ σ :=
  ⟨h.len, fun a z => h.sub a (q a z), h.live, h.imm, fun i b ds e => let ⟨a, vs, e1, e2, e3, e4, r⟩ := h.own i b ds e; ⟨a, vs, e1, e2, e3, fun z => e4 (q a z), r⟩, h.uniq⟩
/-- one more that is held -/
theorem SR.more (h : SR K H M O π ρ σ) {O' : Mset} (q : ∀ a, O' a → M a) (n : ∀ (i : Nat) (b : Kd) (ds : List D) (a : Addr), ρ[i]? = some (some (.own b ds)) → σ[i]? = some (some (.ref a)) → ¬ O' a) : SR K H M O' π ρ σ :=
  ⟨h.len, q, h.live, h.imm, fun i b ds e => let ⟨a, vs, e1, e2, e3, e4, r⟩ := h.own i b ds e; ⟨a, vs, e1, e2, e3, n i b ds a e e1, r⟩, h.uniq⟩
end

/-! ### what an expression hands on -/
inductive PR where
  | val (s : Sv)
  | slot (i : Nat)
def Apart (ρ : Fm) (σ : St) (p : Addr) : Prop := ∀ (i : Nat) (b : Kd) (ds : List D), ρ[i]? = some (some (.own b ds)) → σ[i]? ≠ some (some (.ref p))
def RP (K : PySem.W.Frag) (H : Hp) (M O : Mset) (ρ : Fm) (σ : St) : PR → V → Prop
  | .val (.imm d), v => Rep K H M v d
  | .val (.own b ds), v => ∃ p vs, v = .ref p ∧ H p = some (cell b p vs ds) ∧ M p ∧ ¬ O p ∧ Reps K H M vs ds ∧ Apart ρ σ p
  | .slot i, v => σ[i]? = some (some v)
/-- what is held of it while something else is reckoned -/
def hold (O : Mset) : PR → V → Mset
  | .val (.own _ _), .ref p => wth O p
  | _, _ => O
theorem hold_le (O : Mset) (pr : PR) (v : V) : ∀ a, O a → hold O pr v a := fun a q => by
  unfold hold
  split
  · exact .inl q
  · exact q
section
variable {K : PySem.W.Frag} {H H' : Hp} {M M' O O' : Mset} {π : Nat → Option Addr} {ρ ρ' : Fm} {σ : St} {pr : PR} {v : V}
theorem SR.hold (h : SR K H M O π ρ σ) (r : RP K H M O ρ σ pr v) : SR K H M (hold O pr v) π ρ σ := by
  unfold Vi.hold
  split
  · obtain ⟨p, vs, e, e1, e2, e3, e4, e5⟩ := r
    cases e
    refine h.more (fun a q => ?_) fun i b ds a e6 e7 z => ?_
    · rcases q with q | rfl
      · exact h.sub a q
      · exact e2
    · rcases z with z | rfl
      · obtain ⟨a', _, f1, _, _, f2, _⟩ := h.own i b ds e6
        rw [e7] at f1; cases f1; exact f2 z
      · exact e5 i b ds e6 e7
  · exact h
theorem RP.held (r : RP K H M O ρ σ pr v) (x : Ext (hold O pr v) H M H' M') (h : SR K H' M' (hold O pr v) π ρ' σ) : RP K H' M' O ρ' σ pr v := by
  match pr, v, r with
  | .val (.imm d), v, r => exact Rep.tr x.tr r
  | .slot i, v, r => exact r
  | .val (.own b ds), v, ⟨p, vs, e, e1, e2, e3, e4, e5⟩ =>
    subst e
    refine ⟨p, vs, rfl, x.keep p _ e1 (.inl (.inr rfl)), x.sub p (.inr rfl), e3, Reps.tr x.tr e4, fun i b ds e6 e7 => ?_⟩
    obtain ⟨a, _, f1, _, _, f2, _⟩ := h.own i b ds e6
    rw [e7] at f1; cases f1
    exact f2 (.inr rfl)
theorem RP.less (r : RP K H M O ρ σ pr v) (q : ∀ a, O' a → O a) : RP K H M O' ρ σ pr v := by
  match pr, v, r with
  | .val (.imm d), v, r => exact r
  | .slot i, v, r => exact r
  | .val (.own b ds), v, ⟨p, vs, e, e1, e2, e3, e4, e5⟩ => exact ⟨p, vs, e, e1, e2, fun z => e3 (q p z), e4, e5⟩
end

/-- how a value is looked at -/
def VW (K : PySem.W.Frag) (H : Hp) (M : Mset) (v : V) (d : D) : Prop :=
  match d with
  | .list ds => ∃ a vs, v = .ref a ∧ Rd H a (.lst vs) ∧ Reps K H M vs ds
  | d => Rep K H M v d
def Sv.toD : Sv → D
  | .imm d => d
  | .own _ ds => .list ds
def peek (ρ : Fm) : PR → Option D
  | .val (.own .dic _) => none
  | .val s => some s.toD
  | .slot i => match ρ[i]? with
    | some (some (.own .dic _)) => none
    | some (some s) => some s.toD
    | _ => none
def frz (ρ : Fm) : PR → Option (D × Fm)
  | .val (.own .dic _) => none
  | .val s => some (s.toD, ρ)
  | .slot i => match ρ[i]? with
    | some (some (.imm d)) => some (d, ρ)
    | some (some (.own .loc ds)) => some (.list ds, ρ.set i (some (.imm (.list ds))))
    | _ => none
section
variable {K : PySem.W.Frag} {H H' : Hp} {M M' O O' : Mset} {π : Nat → Option Addr} {ρ ρ' : Fm} {σ : St} {pr : PR} {v : V} {d : D}
theorem VW.of (r : Rep K H M v d) : VW K H M v d := by
  cases r with
  | lst h n r => exact ⟨_, _, rfl, h, r⟩
  | non => exact .non
  | bl b => exact .bl b
  | int i => exact .int i
  | str x => exact .str x
  | tup h r => exact .tup h r
  | scr x h r => exact .scr x h r
  | exc h n f k => exact .exc h n f k
theorem VW.dp (r : VW K H M v d) (c : d.canLay0 = true) : Dp K H v d := by
  unfold VW at r
  split at r
  · obtain ⟨a, vs, rfl, h, r⟩ := r
    exact .lst (.inl h) (r.dp (by simpa [PyData.canLay0] using c))
  · exact r.dp c
theorem VW.lst {a : Addr} {vs : List V} {ds : List D} (h : H a = some (.lst vs)) (r : Reps K H M vs ds) : VW K H M (.ref a) (.list ds) := ⟨a, vs, rfl, .inl h, r⟩
theorem peek_vw (h : SR K H M O π ρ σ) (r : RP K H M O ρ σ pr v) (e : peek ρ pr = some d) : VW K H M v d := by
  match pr, v, r, e with
  | .val (.imm d'), v, r, e => cases e; exact .of r
  | .val (.own b ds), v, ⟨p, vs, e1, e2, _, _, e4, _⟩, e =>
    cases b with
    | dic => cases e
    | loc => cases e; subst e1; exact .lst e2 e4
    | par => cases e; subst e1; exact .lst e2 e4
  | .slot i, v, r, e =>
    have r' : σ[i]? = some (some v) := r
    cases hs : ρ[i]? with
    | none => unfold peek at e; simp only [hs] at e; cases e
    | some o =>
      cases o with
      | none => unfold peek at e; simp only [hs] at e; cases e
      | some s =>
        unfold peek at e
        simp only [hs] at e
        cases s with
        | imm d' =>
          cases e
          obtain ⟨w, f1, f2⟩ := h.imm i d' hs
          rw [r'] at f1; cases f1; exact .of f2
        | own b ds =>
          obtain ⟨a, vs, f1, f2, f3, f4, f5, f6⟩ := h.own i b ds hs
          rw [r'] at f1; cases f1
          cases b with
          | dic => cases e
          | loc => cases e; exact .lst f2 f5
          | par => cases e; exact .lst f2 f5
/-- M loses p, nobody's own -/
theorem SR.forget (h : SR K H M O π ρ σ) {p : Addr} (hp : ¬ O p) (ha : Apart ρ σ p) : SR K H (wo M p) O π ρ σ := by
  have sm : ∀ a, wo M p a → M a := fun a q => q.1
  refine ⟨h.len, fun a q => ⟨h.sub a q, fun z => hp (z ▸ q)⟩, fun a q => h.live a q.1, fun i d e => ?_, fun i b ds e => ?_, h.uniq⟩
  · obtain ⟨v, e1, r⟩ := h.imm i d e
    exact ⟨v, e1, r.smaller sm⟩
  · obtain ⟨a, vs, e1, e2, e3, e4, r, e5⟩ := h.own i b ds e
    exact ⟨a, vs, e1, e2, ⟨e3, fun z => ha i b ds e (z ▸ e1)⟩, e4, r.smaller sm, e5⟩
theorem Ext.forget (h : SR K H M O π ρ σ) {p : Addr} (hp : ¬ O p) : Ext O H M H (wo M p) :=
  ⟨fun _ _ e _ => e, fun a q => ⟨h.sub a q, fun z => hp (z ▸ q)⟩, fun _ q => .inl q.1⟩
theorem get_set {α : Type} {l : List α} {i j : Nat} {x y : α} (h : (l.set i x)[j]? = some y) : (j = i ∧ y = x) ∨ (j ≠ i ∧ l[j]? = some y) := by
  by_cases e : j = i
  · subst e
    rw [List.getElem?_set] at h
    split at h
    · split at h
      · cases h; exact .inl ⟨rfl, rfl⟩
      · cases h
    · exact absurd rfl (by assumption)
  · exact .inr ⟨e, by rw [List.getElem?_set_ne (Ne.symm e)] at h; exact h⟩
/-- a name's own list becomes fixed -/
theorem SR.freeze (h : SR K H M O π ρ σ) {i : Nat} {ds : List D} {a : Addr} {vs : List V} (e : ρ[i]? = some (some (.own .loc ds))) (e1 : σ[i]? = some (some (.ref a))) (e2 : H a = some (.lst vs)) (r : Reps K H M vs ds) (hO : ¬ O a) :
    SR K H (wo M a) O π (ρ.set i (some (.imm (.list ds)))) σ := by
  have sm : ∀ b, wo M a b → M b := fun b q => q.1
  refine ⟨by rw [List.length_set]; exact h.len, fun b q => ⟨h.sub b q, fun z => hO (z ▸ q)⟩, fun b q => h.live b q.1, fun j d f => ?_, fun j b es f => ?_, fun j k b c es fs x hjk f g => ?_⟩
  · rcases get_set f with ⟨hj, g⟩ | ⟨_, f⟩
    · subst hj
      cases g
      exact ⟨.ref a, e1, .lst (.inl e2) (fun z => z.2 rfl) (r.smaller sm)⟩
    · obtain ⟨v, g1, g2⟩ := h.imm j d f
      exact ⟨v, g1, g2.smaller sm⟩
  · rcases get_set f with ⟨_, g⟩ | ⟨hj, f⟩
    · cases g
    · obtain ⟨x, ws, g1, g2, g3, g4, g5, g6⟩ := h.own j b es f
      refine ⟨x, ws, g1, g2, ⟨g3, fun z => ?_⟩, g4, g5.smaller sm, g6⟩
      subst z
      exact h.uniq i j _ _ _ _ x (Ne.symm hj) e f e1 g1
  · rcases get_set f with ⟨_, z⟩ | ⟨_, f⟩
    · cases z
    · rcases get_set g with ⟨_, z⟩ | ⟨_, g⟩
      · cases z
      · exact h.uniq j k b c es fs x hjk f g
theorem frz_ok (h : SR K H M O π ρ σ) (r : RP K H M O ρ σ pr v) (e : frz ρ pr = some (d, ρ')) : ∃ M', Ext O H M H M' ∧ SR K H M' O π ρ' σ ∧ Rep K H M' v d := by
  match pr, v, r, e with
  | .val (.imm d'), v, r, e =>
    unfold frz at e; simp only [Option.some.injEq, Prod.mk.injEq] at e
    obtain ⟨rfl, rfl⟩ := e
    exact ⟨M, .refl h, h, r⟩
  | .val (.own .loc ds), v, ⟨p, vs, e1, e2, e3, e4, e5, e6⟩, e =>
    unfold frz at e; simp only [Option.some.injEq, Prod.mk.injEq] at e
    obtain ⟨rfl, rfl⟩ := e
    subst e1
    exact ⟨_, .forget h e4, h.forget e4 e6, .lst (.inl e2) (fun z => z.2 rfl) (e5.smaller fun a q => q.1)⟩
  | .val (.own .par ds), v, ⟨p, vs, e1, e2, e3, e4, e5, e6⟩, e =>
    unfold frz at e; simp only [Option.some.injEq, Prod.mk.injEq] at e
    obtain ⟨rfl, rfl⟩ := e
    subst e1
    exact ⟨_, .forget h e4, h.forget e4 e6, .lst (.inl e2) (fun z => z.2 rfl) (e5.smaller fun a q => q.1)⟩
  | .val (.own .dic ds), v, _, e => cases e
  | .slot i, v, r, e =>
    have r' : σ[i]? = some (some v) := r
    unfold frz at e
    simp only at e
    split at e
    · rename_i d' hs
      simp only [Option.some.injEq, Prod.mk.injEq] at e
      obtain ⟨rfl, rfl⟩ := e
      obtain ⟨w, f1, f2⟩ := h.imm i _ hs
      rw [r'] at f1; cases f1; exact ⟨M, .refl h, h, f2⟩
    · rename_i ds hs
      simp only [Option.some.injEq, Prod.mk.injEq] at e
      obtain ⟨rfl, rfl⟩ := e
      obtain ⟨a, vs, f1, f2, f3, f4, f5, f6⟩ := h.own i _ ds hs
      rw [r'] at f1; cases f1
      exact ⟨_, .forget h f4, h.freeze hs r' f2 f5 f4, .lst (.inl f2) (fun z => z.2 rfl) (f5.smaller fun a q => q.1)⟩
    · cases e
end

/-! ### expressions -/
abbrev ME := Fm → Option (PR × Fm)
def tE (K : PySem.W.Frag) (m : ME) : TE := fun σ H Q => ∃ ρ M O π pr ρ', SR K H M O π ρ σ ∧ m ρ = some (pr, ρ') ∧ ∀ v H' M', Ext O H M H' M' → SR K H' M' O π ρ' σ → RP K H' M' O ρ' σ pr v → Q v H'
def DE (X : Cx) (e : Expr) (m : ME) : Prop := PE X e (tE X.K m)
theorem _root_.L2.PE.imp {X : Cx} {e : Expr} {t t' : TE} (h : PE X e t) (i : ∀ σ H Q, t' σ H Q → t σ H Q) : PE X e t' := ⟨fun pins s σ H Q I q => h.run pins s σ H Q I (i σ H Q q)⟩
theorem _root_.L2.PT.imp {X : Cx} {e : Expr} {t t' : TT} (h : PT X e t) (i : ∀ σ H Q, t' σ H Q → t σ H Q) : PT X e t' := ⟨fun pins s σ H Q I q => h.run pins s σ H Q I (i σ H Q q)⟩
theorem _root_.L2.PA.imp {X : Cx} {e : List Expr} {t t' : TA} (h : PA X e t) (i : ∀ σ H Q, t' σ H Q → t σ H Q) : PA X e t' := ⟨fun pos pins s σ H Q I q => h.run pos pins s σ H Q I (i σ H Q q)⟩
theorem _root_.L2.PS.imp {X : Cx} {e : Stmt} {t t' : TS} (h : PS X e t) (i : ∀ D σ H, t' D σ H → t D σ H) : PS X e t' := ⟨fun pins s σ H D I q => h.run pins s σ H D I (i D σ H q)⟩
theorem _root_.L2.PSs.imp {X : Cx} {e : List Stmt} {t t' : TS} (h : PSs X e t) (i : ∀ D σ H, t' D σ H → t D σ H) : PSs X e t' := ⟨fun pins s σ H D I q => h.run pins s σ H D I (i D σ H q)⟩

section
variable {X : Cx} {a b : Expr} {ma mb : ME} {pos : Pos}
/-- a name -/
def mVar (i : Nat) : ME := fun ρ => match ρ[i]? with
  | some (some _) => some (.slot i, ρ)
  | _ => none
theorem SR.at {K : PySem.W.Frag} {H : Hp} {M O : Mset} {π : Nat → Option Addr} {ρ : Fm} {σ : St} (h : SR K H M O π ρ σ) {i : Nat} {s : Sv} (e : ρ[i]? = some (some s)) : ∃ v, σ[i]? = some (some v) := by
  cases s with
  | imm d => obtain ⟨v, e1, _⟩ := h.imm i d e; exact ⟨v, e1⟩
  | own b ds => obtain ⟨a, vs, e1, _⟩ := h.own i b ds e; exact ⟨_, e1⟩
theorem de_var {i : Nat} {x : Str} (h : PE X (.Name x pos) (tVar i)) : DE X (.Name x pos) (mVar i) := by
  refine PE.imp h fun σ H Q ⟨ρ, M, O, π, pr, ρ', hs, e, q⟩ => ?_
  unfold mVar at e
  split at e
  · rename_i s hs'
    simp only [Option.some.injEq, Prod.mk.injEq] at e
    obtain ⟨rfl, rfl⟩ := e
    obtain ⟨v, e1⟩ := hs.at hs'
    exact ⟨v, e1, q v H M (.refl hs) hs e1⟩
  · cases e
def mC (d : D) : ME := fun ρ => some (.val (.imm d), ρ)
/-- what is always the same value -/
theorem de_c {v : V} {d : D} {e : Expr} (h : PE X e (tC v)) (r : ∀ H M, Rep X.K H M v d) : DE X e (mC d) := by
  refine PE.imp h fun σ H Q ⟨ρ, M, O, π, pr, ρ', hs, e, q⟩ => ?_
  cases e
  exact q v H M (.refl hs) hs (r H M)
theorem de_int {i : Int} {j} : DE X (.Constant (.int i) j pos) (mC (.int i)) := de_c pe_int fun _ _ => .int i
theorem de_bl {i : Bool} {j} : DE X (.Constant (.bool i) j pos) (mC (.bool i)) := de_c pe_bl fun _ _ => .bl i
theorem de_non {j} : DE X (.Constant .none j pos) (mC .none) := de_c pe_non fun _ _ => .non
theorem de_str {x : Str} {j} : DE X (.Constant (.str x) j pos) (mC (.str x)) := de_c pe_str fun _ _ => .str x

/-! ### two-place and one-place operations -/
def bin (f : D → D → Option Sv) (ma mb : ME) : ME := fun ρ =>
  match ma ρ with
  | some (a, ρ1) => match mb ρ1 with
    | some (b, ρ2) => match peek ρ2 a, peek ρ2 b with
      | some x, some y => match f x y with
        | some r => some (.val r, ρ2)
        | none => none
      | _, _ => none
    | none => none
  | none => none
/-- the operation's rule answers to f -/
def OpS (X : Cx) (r : R2) (f : D → D → Option Sv) : Prop := ∀ {H : Hp} {M O : Mset} {π : Nat → Option Addr} {ρ : Fm} {σ : St} {v1 v2 : V} {d1 d2 : D} {res : Sv} {Q : VK}, SR X.K H M O π ρ σ → VW X.K H M v1 d1 → VW X.K H M v2 d2 → f d1 d2 = some res →
  (∀ v H' M', Ext O H M H' M' → SR X.K H' M' O π ρ σ → RP X.K H' M' O ρ σ (.val res) v → Q v H') → r v1 v2 H Q
theorem tE_bin {K : PySem.W.Frag} {f : D → D → Option Sv} {r : R2} (hs : ∀ {H : Hp} {M O : Mset} {π : Nat → Option Addr} {ρ : Fm} {σ : St} {v1 v2 : V} {d1 d2 : D} {res : Sv} {Q : VK}, SR K H M O π ρ σ → VW K H M v1 d1 → VW K H M v2 d2 → f d1 d2 = some res →
  (∀ v H' M', Ext O H M H' M' → SR K H' M' O π ρ σ → RP K H' M' O ρ σ (.val res) v → Q v H') → r v1 v2 H Q) {σ : St} {H : Hp} {Q : VK} (h : tE K (bin f ma mb) σ H Q) : tOp r (tE K ma) (tE K mb) σ H Q := by
  obtain ⟨ρ, M, O, π, pr, ρ', h0, e, q⟩ := h
  unfold bin at e
  split at e
  · rename_i a ρ1 ea
    split at e
    · rename_i b ρ2 eb
      split at e
      · rename_i x y ex ey
        split at e
        · rename_i res er
          simp only [Option.some.injEq, Prod.mk.injEq] at e
          obtain ⟨rfl, rfl⟩ := e
          refine ⟨ρ, M, O, π, a, ρ1, h0, ea, fun v1 H1 M1 x1 s1 r1 => ?_⟩
          refine ⟨ρ1, M1, Vi.hold O a v1, π, b, ρ2, s1.hold r1, eb, fun v2 H2 M2 x2 s2 r2 => ?_⟩
          have s2' := s2.less (hold_le O a v1)
          exact hs s2' (peek_vw s2' (r1.held x2 s2) ex) (peek_vw s2' (r2.less (hold_le O a v1)) ey) er fun v H' M' x3 s3 r3 => q v H' M' ((x1.trans (x2.less (hold_le O a v1))).trans x3) s3 r3
        · cases e
      · cases e
    · cases e
  · cases e
theorem de_op {op : Operator} {r : R2} {f : D → D → Option Sv} (ho : OpR X (binaryOp op) r) (hs : OpS X r f) (ha : DE X a ma) (hb : DE X b mb) : DE X (.BinOp a op b pos) (bin f ma mb) :=
  PE.imp (pe_op ho ha hb) fun σ H Q h => tE_bin hs h
theorem de_cmp {op : CmpOp} {r : R2} {f : D → D → Option Sv} (ho : OpR X (compareOp op) r) (hs : OpS X r f) (ha : DE X a ma) (hb : DE X b mb) (hm : behindInMarks op b = false) : DE X (.Compare a [op] [b] pos) (bin f ma mb) :=
  PE.imp (pe_cmpR ho ha hb hm) fun σ H Q h => tE_bin hs h
theorem de_ix {r : R2} {f : D → D → Option Sv} (ho : IxR X r) (hs : OpS X r f) (ha : DE X a ma) (hb : DE X b mb) (hp : PlainIx b) : DE X (.Subscript a b pos) (bin f ma mb) :=
  PE.imp (pe_ix ho ha hb hp) fun σ H Q h => tE_bin hs h
def un (f : D → Option Sv) (ma : ME) : ME := fun ρ =>
  match ma ρ with
  | some (a, ρ1) => match peek ρ1 a with
    | some x => match f x with
      | some r => some (.val r, ρ1)
      | none => none
    | none => none
  | none => none
def UnS (X : Cx) (r : V → Hp → VK → Prop) (f : D → Option Sv) : Prop := ∀ {H : Hp} {M O : Mset} {π : Nat → Option Addr} {ρ : Fm} {σ : St} {v1 : V} {d1 : D} {res : Sv} {Q : VK}, SR X.K H M O π ρ σ → VW X.K H M v1 d1 → f d1 = some res →
  (∀ v H' M', Ext O H M H' M' → SR X.K H' M' O π ρ σ → RP X.K H' M' O ρ σ (.val res) v → Q v H') → r v1 H Q
theorem tE_un {f : D → Option Sv} {r : V → Hp → VK → Prop} (hs : UnS X r f) {σ : St} {H : Hp} {Q : VK} (h : tE X.K (un f ma) σ H Q) : tE X.K ma σ H fun v H1 => r v H1 Q := by
  obtain ⟨ρ, M, O, π, pr, ρ', h0, e, q⟩ := h
  unfold un at e
  split at e
  · rename_i a ρ1 ea
    split at e
    · rename_i x ex
      split at e
      · rename_i res er
        simp only [Option.some.injEq, Prod.mk.injEq] at e
        obtain ⟨rfl, rfl⟩ := e
        exact ⟨ρ, M, O, π, a, ρ1, h0, ea, fun v1 H1 M1 x1 s1 r1 => hs s1 (peek_vw s1 r1 ex) er fun v H' M' x3 s3 r3 => q v H' M' (x1.trans x3) s3 r3⟩
      · cases e
    · cases e
  · cases e
theorem de_un {op : UnaryOp} {r : V → Hp → VK → Prop} {f : D → Option Sv} (ho : UnR X (unaryOp op) r) (hs : UnS X r f) (ha : DE X a ma) : DE X (.UnaryOp op a pos) (un f ma) :=
  PE.imp (pe_un ho ha) fun σ H Q h => tE_un hs h
/-- a built-in of one argument, by its name -/
theorem de_call1 {id : String} {x : Str} {p : Pos} {r : List V → Hp → VK → Prop} {f : D → Option Sv} (hc : CallR X (.builtin id) r) (hs : UnS X (fun v H Q => r [v] H Q) f) (hg : Gl X x) (hm : X.mg x = none) (hv : bootBuiltins x = some (.builtin id)) (ha : DE X a ma)
    (hn : x ≠ "__name__" := by decide) (hd : (x == ("__debug__" : Str)) = false := by decide) (he : starEach (a :: []) X.env = (false, eval a X.env) :: starEach [] X.env := by rfl) (hpl : (backTo pos (starEach [] X.env)).any (·.1) = false := by rfl) : DE X (.Call (.Name x p) [a] [] pos) (un f ma) :=
  PE.imp (pe_callB hc hg hm hv (pa_cons ha pa_nil he) hn hd he hpl) fun σ H Q h => tE_un hs h
theorem de_callT1 {T : String} {x : Str} {p : Pos} {r : List V → Hp → VK → Prop} {f : D → Option Sv} (hc : CallR X (.type T) r) (hs : UnS X (fun v H Q => r [v] H Q) f) (hg : Gl X x) (hm : X.mg x = none) (hv : bootBuiltins x = some (.type T)) (ha : DE X a ma)
    (hn : x ≠ "__name__" := by decide) (hd : (x == ("__debug__" : Str)) = false := by decide) (he : starEach (a :: []) X.env = (false, eval a X.env) :: starEach [] X.env := by rfl) (hpl : (backTo pos (starEach [] X.env)).any (·.1) = false := by rfl) : DE X (.Call (.Name x p) [a] [] pos) (un f ma) :=
  PE.imp (pe_callTy hc hg hm hv (pa_cons ha pa_nil he) hn hd he hpl) fun σ H Q h => tE_un hs h
end
end Vi

namespace Vi
open PySem PySem.Spec PyProof.Rows L2

/-! ### what stands behind an operation -/
section
variable {K : PySem.W.Frag} {H : Hp} {M O : Mset} {π : Nat → Option Addr} {ρ : Fm} {σ : St} {v : V} {Q : VK}
theorem alloc_tr (h : SR K H M O π ρ σ) {p : Addr} {o : HO} (hp : H p = none) : ∀ a u, Rd H a u → ¬ M a → Rd (upd H p o) a u ∧ ¬ M a := fun a u q n => by
  have ne2 : ∀ {a : Addr} {u : HO}, H a = some u → a ≠ p := fun e z => by rw [z, hp] at e; cases e
  refine ⟨?_, n⟩
  rcases q with q | ⟨o', q⟩
  · exact .inl (by rw [upd_ne (ne2 q)]; exact q)
  · exact .inr ⟨o', by rw [upd_ne (ne2 q)]; exact q⟩
theorem alloc_tr_own (h : SR K H M O π ρ σ) {p : Addr} {o : HO} (hp : H p = none) : ∀ a u, Rd H a u → ¬ M a → Rd (upd H p o) a u ∧ ¬ wth M p a := fun a u q n => by
  refine ⟨(alloc_tr h hp a u q n).1, fun z => z.elim n fun e => ?_⟩
  rcases q with q | ⟨o', q⟩ <;> (rw [e, hp] at q; cases q)
abbrev Post (K : PySem.W.Frag) (H : Hp) (M O : Mset) (π : Nat → Option Addr) (ρ : Fm) (σ : St) (res : Sv) (Q : VK) : Prop :=
  ∀ v H' M', Ext O H M H' M' → SR K H' M' O π ρ σ → RP K H' M' O ρ σ (.val res) v → Q v H'
theorem Post.now {d : D} (q : Post K H M O π ρ σ (.imm d) Q) (h : SR K H M O π ρ σ) (r : Rep K H M v d) : Q v H := q v H M (.refl h) h r
theorem Post.tup {ds : List D} {vs : List V} (q : Post K H M O π ρ σ (.imm (.tuple ds)) Q) (h : SR K H M O π ρ σ) (r : Reps K H M vs ds) {p : Addr} (hp : H p = none) : Q (.ref p) (upd H p (.tup vs)) :=
  q _ _ M (.alloc h hp) (h.alloc hp) (.tup (.inl ⟨.inl upd_same, fun z => h.live p z hp⟩) (r.tr (alloc_tr h hp)))
theorem Post.lst {ds : List D} {vs : List V} {b : Kd} (q : Post K H M O π ρ σ (.own b ds) Q) (h : SR K H M O π ρ σ) (r : Reps K H M vs ds) {p : Addr} (hp : H p = none) (hb : b.isL = true := by rfl) : Q (.ref p) (upd H p (.lst vs)) := by
  refine q _ _ (wth M p) (.allocOwn h hp) (h.allocOwn hp) ⟨p, vs, rfl, upd_same.trans (congrArg some (cell_lst hb).symm), .inr rfl, fun z => h.live p (h.sub p z) hp, r.tr (alloc_tr_own h hp), fun i b ds e e1 => ?_⟩
  obtain ⟨a, ws, f1, f2, _⟩ := h.own i b ds e
  rw [e1] at f1; cases f1
  rw [hp] at f2; cases f2
theorem VW.inI {i : Int} (r : VW K H M v (.int i)) : v = .int i := by cases (show Rep K H M v (.int i) from r); rfl
theorem VW.inB {i : Bool} (r : VW K H M v (.bool i)) : v = .bl i := by cases (show Rep K H M v (.bool i) from r); rfl
theorem VW.inS {i : Str} (r : VW K H M v (.str i)) : v = .str i := by cases (show Rep K H M v (.str i) from r); rfl
theorem VW.inN (r : VW K H M v .none) : v = .non := by cases (show Rep K H M v .none from r); rfl
theorem VW.inT {ds : List D} (r : VW K H M v (.tuple ds)) : ∃ a vs, v = .ref a ∧ TupAt K H M a vs ∧ Reps K H M vs ds := by
  cases (show Rep K H M v (.tuple ds) from r) with
  | tup h r => exact ⟨_, _, rfl, h, r⟩
theorem VW.inScr {kvs : List (D × D)} (hx : isExc kvs = false) (r : VW K H M v (.dict kvs)) : ∃ a vs, v = .ref a ∧ LstAt K H M a vs ∧ Reps K H M vs (kvs.map Prod.fst) := by
  cases (show Rep K H M v (.dict kvs) from r) with
  | scr _ h r => exact ⟨_, _, rfl, h, r⟩
  | exc _ _ _ _ => cases hx
theorem VW.inL {ds : List D} (r : VW K H M v (.list ds)) : ∃ a vs, v = .ref a ∧ Rd H a (.lst vs) ∧ Reps K H M vs ds := r
/-- a list or a tuple -/
theorem VW.seq {d : D} {ds : List D} (r : VW K H M v d) (e : d = .list ds ∨ d = .tuple ds) : ∃ a vs, v = .ref a ∧ (SqL K H a vs ∨ SqT K H a vs) ∧ Reps K H M vs ds := by
  rcases e with rfl | rfl
  · obtain ⟨a, vs, e, h, r⟩ := r.inL
    exact ⟨a, vs, e, .inl (.inl h), r⟩
  · obtain ⟨a, vs, e, h, r⟩ := r.inT
    exact ⟨a, vs, e, .inr h.sq, r⟩
theorem rep_rep {v : V} {d : D} (r : VW K H M v d) (n : ∀ ds, d ≠ .list ds) : Rep K H M v d := by
  cases d with
  | list ds => exact absurd rfl (n ds)
  | _ => exact r
end

section
variable {X : Cx}
/-! ### + - * // % ** -/
def rCatR : R2 := fun x y H Q => ∃ l b xs zs, x = .ref l ∧ y = .ref b ∧ Rd H l (.lst xs) ∧ Rd H b (.lst zs) ∧ xs.length + zs.length ≤ sizeLine ∧ ∀ p, H p = none → Q (.ref p) (upd H p (.lst (xs ++ zs)))
theorem op_catR : OpR X (binaryOp .Add) rCatR := by
  intro pins s σ H x y v u Q I rx ry h
  obtain ⟨l, b, xs, zs, rfl, rfl, hH, hB, hz, q⟩ := h
  cases rx
  cases ry
  obtain ⟨z, its, n, r, e⟩ := hH.ok I.hok
  obtain ⟨z2, its2, n2, r2, e2⟩ := hB.ok I.hok
  have hl := r.length
  have hl2 := r2.length
  refine PySem.P.add_list e e2 ?_ (by rw [List.size_toArray, List.size_toArray]; omega)
  have ea : its.toArray ++ its2.toArray = (its ++ its2).toArray := by simp
  rw [ea]
  exact ⟨.ref _, _, I.lnew (t' := s.toks) (r.append r2) (by rw [List.length_append]; omega), rfl, q _ I.fresh⟩
def fits (n : Nat) : Bool := decide (n ≤ sizeLine)
theorem fits_le {n : Nat} (h : fits n = true) : n ≤ sizeLine := of_decide_eq_true h
def dAdd : D → D → Option Sv
  | .int i, .int j => some (.imm (.int (i + j)))
  | .tuple xs, .tuple ys => if fits (xs.length + ys.length) = true then some (.imm (.tuple (xs ++ ys))) else none
  | .list xs, .list ys => if fits (xs.length + ys.length) = true then some (.own .loc (xs ++ ys)) else none
  | .str x, .str y => if fits (x.length + y.length) = true then some (.imm (.str (x ++ y))) else none
  | _, _ => none
abbrev rAdd (X : Cx) : R2 := fun x y H Q => rI0 (fun i j => .int (i + j)) x y H Q ∨ rCatA X.K x y H Q ∨ rCatR x y H Q ∨ ∃ i j, x = .str i ∧ y = .str j ∧ i.length + j.length ≤ sizeLine ∧ Q (.str (i ++ j)) H
theorem op_addA : OpR X (binaryOp .Add) (rAdd X) := op_add.or (op_catA.or (op_catR.or op_add_str))
theorem os_add : OpS X (rAdd X) dAdd := by
  intro H M O π ρ σ v1 v2 d1 d2 res Q h r1 r2 e q
  unfold dAdd at e
  split at e
  · cases e
    cases r1.inI; cases r2.inI
    exact .inl ⟨_, _, rfl, rfl, Post.now q h (.int _)⟩
  · split at e
    · rename_i hz
      cases e
      obtain ⟨a, xs, rfl, ta, ra⟩ := r1.inT
      obtain ⟨b, ys, rfl, tb, rb⟩ := r2.inT
      refine .inr (.inl ⟨a, b, xs, ys, rfl, rfl, ta.sq, tb.sq, by rw [ra.length, rb.length]; exact fits_le hz, fun ex => ?_, fun _ ey => ?_, fun _ _ p hp => ?_⟩)
      · subst ex; cases ra; exact Post.now q h r2
      · subst ey; cases rb; exact Post.now q h (by rw [List.append_nil]; exact r1)
      · exact Post.tup q h (ra.append rb) hp
    · cases e
  · split at e
    · rename_i hz
      cases e
      obtain ⟨a, xs, rfl, ta, ra⟩ := r1.inL
      obtain ⟨b, ys, rfl, tb, rb⟩ := r2.inL
      exact .inr (.inr (.inl ⟨a, b, xs, ys, rfl, rfl, ta, tb, by rw [ra.length, rb.length]; exact fits_le hz, fun p hp => Post.lst q h (ra.append rb) hp⟩))
    · cases e
  · split at e
    · rename_i hz
      cases e
      cases r1.inS; cases r2.inS
      exact .inr (.inr (.inr ⟨_, _, rfl, rfl, fits_le hz, Post.now q h (.str _)⟩))
    · cases e
  · cases e
def dSub : D → D → Option Sv
  | .int i, .int j => some (.imm (.int (i - j)))
  | _, _ => none
theorem os_sub : OpS X (rI0 fun i j => .int (i - j)) dSub := by
  intro H M O π ρ σ v1 v2 d1 d2 res Q h r1 r2 e q
  unfold dSub at e
  split at e
  · cases e
    cases r1.inI; cases r2.inI
    exact ⟨_, _, rfl, rfl, Post.now q h (.int _)⟩
  · cases e
/-- how far products go -/
def mulOk (i j : Int) : Bool := decide (-(2 ^ 64) < i ∧ i < 2 ^ 64) || decide (-(2 ^ 64) < j ∧ j < 2 ^ 64) || decide (i.natAbs.log2 + j.natAbs.log2 < 1000000)
def rRepR : R2 := fun x y H Q => ∃ l k xs, x = .ref l ∧ y = .int k ∧ H l = some (.lst xs) ∧ -(2 ^ 63) ≤ k ∧ k < 2 ^ 63 ∧ xs.length * k.toNat ≤ sizeLine ∧
  ∀ p, H p = none → Q (.ref p) (upd H p (.lst (List.replicate k.toNat xs).flatten))
def dMul : D → D → Option Sv
  | .int i, .int j => if mulOk i j = true then some (.imm (.int (i * j))) else none
  | _, _ => none
abbrev rMul : R2 := fun x y H Q => rI CMul (fun i j => .int (i * j)) x y H Q ∨ rI CMulW (fun i j => .int (i * j)) x y H Q
theorem op_mulA : OpR X (binaryOp .Mult) rMul := op_mul.or op_mulW
theorem os_mul : OpS X rMul dMul := by
  intro H M O π ρ σ v1 v2 d1 d2 res Q h r1 r2 e q
  unfold dMul at e
  split at e
  · split at e
    · rename_i hz
      cases e
      cases r1.inI; cases r2.inI
      unfold mulOk at hz
      rw [Bool.or_eq_true, Bool.or_eq_true] at hz
      rcases hz with (hz | hz) | hz
      · exact .inl ⟨_, _, rfl, rfl, .inl (of_decide_eq_true hz), Post.now q h (.int _)⟩
      · exact .inl ⟨_, _, rfl, rfl, .inr (of_decide_eq_true hz), Post.now q h (.int _)⟩
      · exact .inr ⟨_, _, rfl, rfl, (of_decide_eq_true hz : _ < 1000000), Post.now q h (.int _)⟩
    · cases e
  · cases e
def divOk (j : Int) : Bool := decide (0 < j ∧ j.natAbs.log2 < 9000)
def dDiv : D → D → Option Sv
  | .int i, .int j => if divOk j = true then some (.imm (.int (i / j))) else none
  | _, _ => none
theorem os_div : OpS X (rI CDivW fun i j => .int (i / j)) dDiv := by
  intro H M O π ρ σ v1 v2 d1 d2 res Q h r1 r2 e q
  unfold dDiv at e
  split at e
  · split at e
    · rename_i hz
      cases e
      cases r1.inI; cases r2.inI
      unfold divOk at hz
      have hz' := of_decide_eq_true hz
      exact ⟨_, _, rfl, rfl, hz', Post.now q h (.int _)⟩
    · cases e
  · cases e
def dMod : D → D → Option Sv
  | .int i, .int j => if decide (0 < j) = true then some (.imm (.int (i % j))) else none
  | _, _ => none
theorem os_mod : OpS X (rI (fun _ j => 0 < j) fun i j => .int (i % j)) dMod := by
  intro H M O π ρ σ v1 v2 d1 d2 res Q h r1 r2 e q
  unfold dMod at e
  split at e
  · split at e
    · rename_i hz
      cases e
      cases r1.inI; cases r2.inI
      exact ⟨_, _, rfl, rfl, of_decide_eq_true hz, Post.now q h (.int _)⟩
    · cases e
  · cases e
def powOk (i j : Int) : Bool := decide (0 ≤ j ∧ j ≤ 1000000 ∧ i.natAbs < 2 ^ 64)
def dPow : D → D → Option Sv
  | .int i, .int j => if powOk i j = true then some (.imm (.int (i ^ j.toNat))) else none
  | _, _ => none
theorem os_pow : OpS X (rI CPow fun i j => .int (i ^ j.toNat)) dPow := by
  intro H M O π ρ σ v1 v2 d1 d2 res Q h r1 r2 e q
  unfold dPow at e
  split at e
  · split at e
    · rename_i hz
      cases e
      cases r1.inI; cases r2.inI
      unfold powOk at hz
      have hz' := of_decide_eq_true hz
      exact ⟨_, _, rfl, rfl, hz', Post.now q h (.int _)⟩
    · cases e
  · cases e
def dNeg : D → Option Sv
  | .int i => some (.imm (.int (-i)))
  | _ => none
theorem us_neg : UnS X (rU fun i => .int (-i)) dNeg := by
  intro H M O π ρ σ v1 d1 res Q h r1 e q
  unfold dNeg at e
  split at e
  · cases e
    cases r1.inI
    exact ⟨_, rfl, Post.now q h (.int _)⟩
  · cases e

/-! ### comparisons -/
def okD (d : D) : Bool := SeqAt.shaped d
def dEq (a b : D) : Option Sv := if (okD a && okD b) = true then some (.imm (.bool (PyData.eqv a b))) else none
def dNe (a b : D) : Option Sv := if (okD a && okD b) = true then some (.imm (.bool (!PyData.eqv a b))) else none
theorem os_eq : OpS X (rEqD X.K) dEq := by
  intro H M O π ρ σ v1 v2 d1 d2 res Q h r1 r2 e q
  unfold dEq at e
  split at e
  · rename_i hz
    cases e
    rw [Bool.and_eq_true] at hz
    exact ⟨d1, d2, r1.dp (SeqAt.canLay_of_shaped hz.1), r2.dp (SeqAt.canLay_of_shaped hz.2), hz.1, hz.2, Post.now q h (.bl _)⟩
  · cases e
theorem os_ne : OpS X (rNeD X.K) dNe := by
  intro H M O π ρ σ v1 v2 d1 d2 res Q h r1 r2 e q
  unfold dNe at e
  split at e
  · rename_i hz
    cases e
    rw [Bool.and_eq_true] at hz
    exact ⟨d1, d2, r1.dp (SeqAt.canLay_of_shaped hz.1), r2.dp (SeqAt.canLay_of_shaped hz.2), hz.1, hz.2, Post.now q h (.bl _)⟩
  · cases e
def dCmpI (f : Int → Int → Bool) : D → D → Option Sv
  | .int i, .int j => some (.imm (.bool (f i j)))
  | _, _ => none
theorem os_cmpI {f : Int → Int → Bool} : OpS X (rI0 fun i j => .bl (f i j)) (dCmpI f) := by
  intro H M O π ρ σ v1 v2 d1 d2 res Q h r1 r2 e q
  unfold dCmpI at e
  split at e
  · cases e
    cases r1.inI; cases r2.inI
    exact ⟨_, _, rfl, rfl, Post.now q h (.bl _)⟩
  · cases e
abbrev dLt := dCmpI fun i j => decide (i < j)
abbrev dLe := dCmpI fun i j => decide (i ≤ j)
abbrev dGt := dCmpI fun i j => decide (j < i)
abbrev dGe := dCmpI fun i j => decide (j ≤ i)
def isNon : D → Bool
  | .none => true
  | _ => false
theorem VW.non_iff {K : PySem.W.Frag} {H : Hp} {M : Mset} {v : V} {d : D} (r : VW K H M v d) : decide (v = .non) = isNon d := by
  cases d with
  | none => cases r.inN; rfl
  | bool b => cases r.inB; rfl
  | int b => cases r.inI; rfl
  | str b => cases r.inS; rfl
  | list b => obtain ⟨a, vs, rfl, _⟩ := r.inL; rfl
  | tuple b => obtain ⟨a, vs, rfl, _⟩ := r.inT; rfl
  | dict b => cases (show Rep K H M v (.dict b) from r) <;> rfl
def dIs : D → D → Option Sv
  | a, .none => some (.imm (.bool (isNon a)))
  | _, _ => none
def dIsNot : D → D → Option Sv
  | a, .none => some (.imm (.bool (!isNon a)))
  | _, _ => none
theorem os_is : OpS X (fun x y H Q => y = .non ∧ Q (.bl (decide (x = .non))) H) dIs := by
  intro H M O π ρ σ v1 v2 d1 d2 res Q h r1 r2 e q
  unfold dIs at e
  split at e
  · cases e
    cases r2.inN
    refine ⟨rfl, ?_⟩
    rw [r1.non_iff]
    exact Post.now q h (.bl _)
  · cases e
theorem os_isnot : OpS X (fun x y H Q => y = .non ∧ Q (.bl (!decide (x = .non))) H) dIsNot := by
  intro H M O π ρ σ v1 v2 d1 d2 res Q h r1 r2 e q
  unfold dIsNot at e
  split at e
  · cases e
    cases r2.inN
    refine ⟨rfl, ?_⟩
    rw [r1.non_iff]
    exact Post.now q h (.bl _)
  · cases e
def flatD : D → Bool
  | .none | .bool _ | .int _ | .str _ => true
  | _ => false
theorem rep_flat {K : PySem.W.Frag} {H : Hp} {M : Mset} {v : V} {d : D} (r : Rep K H M v d) : flatV v = flatD d := by cases r <;> rfl
theorem rep_eqV {K : PySem.W.Frag} {H : Hp} {M : Mset} {v w : V} {d e : D} (r : Rep K H M v d) (s : Rep K H M w e) (f : flatD d = true) (g : flatD e = true) : eqV v w = PyData.eqv d e := by
  cases r <;> first | (exact absurd (show false = true from f) Bool.false_ne_true) | (cases s <;> first | (exact absurd (show false = true from g) Bool.false_ne_true) | rfl | (simp [eqV, PyData.eqv]))
theorem reps_flat {K : PySem.W.Frag} {H : Hp} {M : Mset} : ∀ {vs : List V} {ds : List D}, Reps K H M vs ds → vs.all flatV = ds.all flatD
  | _, _, .nil => rfl
  | _, _, .cons h r => by rw [List.all_cons, List.all_cons, rep_flat h, reps_flat r]
theorem reps_inV {K : PySem.W.Frag} {H : Hp} {M : Mset} {v : V} {d : D} (s : Rep K H M v d) (g : flatD d = true) : ∀ {vs : List V} {ds : List D}, Reps K H M vs ds → ds.all flatD = true → inV v vs = ds.any fun z => PyData.eqv z d
  | _, _, .nil, _ => rfl
  | _, _, .cons h r, f => by
    rw [List.all_cons, Bool.and_eq_true] at f
    have ih := reps_inV s g r f.2
    unfold inV at ih ⊢
    rw [List.any_cons, List.any_cons, ih, rep_eqV h s f.1 g]
/-- x in ds -/
def hasD (x : D) (ds : List D) : Bool := ds.any fun z => PyData.eqv z x
def dIn (neg : Bool) (x : D) : D → Option Sv
  | .list ds => if (flatD x && ds.all flatD) = true then some (.imm (.bool (if neg then !hasD x ds else hasD x ds))) else if (!neg && okD x && okD (.list ds)) = true then some (.imm (.bool (hasD x ds))) else if (neg && okD x && okD (.list ds)) = true then some (.imm (.bool (!hasD x ds))) else none
  | .tuple ds => if (flatD x && ds.all flatD) = true then some (.imm (.bool (if neg then !hasD x ds else hasD x ds))) else none
  | _ => none
abbrev rInA (X : Cx) (neg : Bool) : R2 := fun x y H Q => rIn X.K neg x y H Q ∨ (if neg then rNotInD X.K x y H Q else rInD X.K x y H Q)
theorem op_inA (hu : X.A.units + 65 < cLine) : OpR X (compareOp .In) (rInA X false) := op_in_seq.or (op_inD hu)
theorem op_notInA (hu : X.A.units + 65 < cLine) : OpR X (compareOp .NotIn) (rInA X true) := op_notIn_seq.or (op_notInD hu)
theorem flat_not {d : D} (f : flatD d = true) (ds : List D) : d ≠ .list ds := fun e => by rw [e] at f; cases f
theorem os_in (neg : Bool) : OpS X (rInA X neg) (dIn neg) := by
  intro H M O π ρ σ v1 v2 d1 d2 res Q h r1 r2 e q
  unfold dIn at e
  split at e
  · rename_i ds
    split at e
    · rename_i hz
      cases e
      rw [Bool.and_eq_true] at hz
      obtain ⟨a, vs, rfl, rd, rs⟩ := r2.inL
      have rp := rep_rep r1 (flat_not hz.1)
      refine .inl ⟨a, vs, rfl, .inl (.inl rd), by rw [rep_flat rp]; exact hz.1, by rw [reps_flat rs]; exact hz.2, ?_⟩
      rw [reps_inV rp hz.1 rs hz.2]
      exact Post.now q h (.bl _)
    · split at e
      · rename_i hz
        cases e
        rw [Bool.and_eq_true, Bool.and_eq_true] at hz
        have hn : neg = false := by simpa using hz.1.1
        subst hn
        exact .inr (show rInD X.K v1 v2 H Q from ⟨d1, ds, r1.dp (SeqAt.canLay_of_shaped hz.1.2), r2.dp (SeqAt.canLay_of_shaped hz.2), hz.1.2, hz.2, Post.now q h (.bl _)⟩)
      · split at e
        · rename_i hz
          cases e
          rw [Bool.and_eq_true, Bool.and_eq_true] at hz
          have hn : neg = true := hz.1.1
          subst hn
          exact .inr (show rNotInD X.K v1 v2 H Q from ⟨d1, ds, r1.dp (SeqAt.canLay_of_shaped hz.1.2), r2.dp (SeqAt.canLay_of_shaped hz.2), hz.1.2, hz.2, Post.now q h (.bl _)⟩)
        · cases e
  · rename_i ds
    split at e
    · rename_i hz
      cases e
      rw [Bool.and_eq_true] at hz
      obtain ⟨a, vs, rfl, rd, rs⟩ := r2.inT
      have rp := rep_rep r1 (flat_not hz.1)
      refine .inl ⟨a, vs, rfl, .inr rd.sq, by rw [rep_flat rp]; exact hz.1, by rw [reps_flat rs]; exact hz.2, ?_⟩
      rw [reps_inV rp hz.1 rs hz.2]
      exact Post.now q h (.bl _)
    · cases e
  · cases e

/-! ### places -/
def dIx : D → D → Option Sv
  | .list ds, .int i => (atI ds i).map .imm
  | .tuple ds, .int i => (atI ds i).map .imm
  | .dict kvs, .int i => if isExc kvs = false then (atI (kvs.map Prod.fst) i).map .imm else none
  | _, _ => none
abbrev rIxA (X : Cx) : R2 := fun x y H Q => rIxL X.K x y H Q ∨ rIxT X.K x y H Q
theorem ix_A : IxR X (rIxA X) := ix_list.or ix_tup
theorem atI_rep {K : PySem.W.Frag} {H : Hp} {M : Mset} {vs : List V} {ds : List D} {i : Int} {d : D} (r : Reps K H M vs ds) (e : atI ds i = some d) : ∃ v, atI vs i = some v ∧ Rep K H M v d := by
  unfold atI at e ⊢
  rw [r.length]
  cases ei : ixN ds.length i with
  | none => rw [ei] at e; cases e
  | some j =>
    rw [ei] at e
    exact r.get e
theorem os_ix : OpS X (rIxA X) dIx := by
  intro H M O π ρ σ v1 v2 d1 d2 res Q h r1 r2 e q
  unfold dIx at e
  split at e
  · obtain ⟨d, ed, er⟩ := Option.map_eq_some_iff.mp e
    subst er
    cases r2.inI
    obtain ⟨a, vs, rfl, rd, rs⟩ := r1.inL
    obtain ⟨v, ev, rv⟩ := atI_rep rs ed
    exact .inl ⟨a, vs, _, v, rfl, rfl, .inl rd, ev, Post.now q h rv⟩
  · obtain ⟨d, ed, er⟩ := Option.map_eq_some_iff.mp e
    subst er
    cases r2.inI
    obtain ⟨a, vs, rfl, rd, rs⟩ := r1.inT
    obtain ⟨v, ev, rv⟩ := atI_rep rs ed
    exact .inr ⟨a, vs, _, v, rfl, rfl, rd.sq, ev, Post.now q h rv⟩
  · split at e
    rotate_left
    · cases e
    rename_i hx
    obtain ⟨d, ed, er⟩ := Option.map_eq_some_iff.mp e
    subst er
    cases r2.inI
    obtain ⟨a, vs, rfl, rd, rs⟩ := r1.inScr hx
    obtain ⟨v, ev, rv⟩ := atI_rep rs ed
    exact .inl ⟨a, vs, _, v, rfl, rfl, rd.sq, ev, Post.now q h rv⟩
  · cases e

/-! ### built-ins of one argument -/
def dLen : D → Option Sv
  | .list ds => some (.imm (.int ds.length))
  | .tuple ds => some (.imm (.int ds.length))
  | .dict kvs => if isExc kvs = false then some (.imm (.int kvs.length)) else none
  | _ => none
theorem us_len : UnS X (fun v H Q => (fun xs H Q => ∃ p ys, xs = [V.ref p] ∧ (SqL X.K H p ys ∨ SqT X.K H p ys) ∧ Q (.int ys.length) H) [v] H Q) dLen := by
  intro H M O π ρ σ v1 d1 res Q h r1 e q
  unfold dLen at e
  split at e
  · cases e
    obtain ⟨a, vs, rfl, rd, rs⟩ := r1.inL
    refine ⟨a, vs, rfl, .inl (.inl rd), ?_⟩
    rw [rs.length]
    exact Post.now q h (.int _)
  · cases e
    obtain ⟨a, vs, rfl, rd, rs⟩ := r1.inT
    refine ⟨a, vs, rfl, .inr rd.sq, ?_⟩
    rw [rs.length]
    exact Post.now q h (.int _)
  · split at e
    rotate_left
    · cases e
    rename_i hx
    cases e
    obtain ⟨a, vs, rfl, rd, rs⟩ := r1.inScr hx
    refine ⟨a, vs, rfl, .inl rd.sq, ?_⟩
    rw [rs.length, List.length_map]
    exact Post.now q h (.int _)
  · cases e
def dList : D → Option Sv
  | .list ds => some (.own .loc ds)
  | .tuple ds => some (.own .loc ds)
  | _ => none
theorem us_list : UnS X (fun v H Q => (fun xs H Q => ∃ p ys, xs = [V.ref p] ∧ (SqL X.K H p ys ∨ SqT X.K H p ys) ∧ ∀ l, H l = none → Q (.ref l) (upd H l (.lst ys))) [v] H Q) dList := by
  intro H M O π ρ σ v1 d1 res Q h r1 e q
  unfold dList at e
  split at e
  · cases e
    obtain ⟨a, vs, rfl, rd, rs⟩ := r1.inL
    exact ⟨a, vs, rfl, .inl (.inl rd), fun p hp => Post.lst q h rs hp⟩
  · cases e
    obtain ⟨a, vs, rfl, rd, rs⟩ := r1.inT
    exact ⟨a, vs, rfl, .inr rd.sq, fun p hp => Post.lst q h rs hp⟩
  · cases e
def dTuple : D → Option Sv
  | .list ds => some (.imm (.tuple ds))
  | .tuple ds => some (.imm (.tuple ds))
  | _ => none
theorem us_tuple : UnS X (fun v H Q => (fun xs H Q => ∃ p ys, xs = [V.ref p] ∧ ((SqL X.K H p ys ∧ ∀ l, H l = none → Q (.ref l) (upd H l (.tup ys))) ∨ (SqT X.K H p ys ∧ Q (.ref p) H))) [v] H Q) dTuple := by
  intro H M O π ρ σ v1 d1 res Q h r1 e q
  unfold dTuple at e
  split at e
  · cases e
    obtain ⟨a, vs, rfl, rd, rs⟩ := r1.inL
    exact ⟨a, vs, rfl, .inl ⟨.inl rd, fun p hp => Post.tup q h rs hp⟩⟩
  · cases e
    have rr := r1
    obtain ⟨a, vs, rfl, rd, rs⟩ := r1.inT
    exact ⟨a, vs, rfl, .inr ⟨rd.sq, Post.now q h rr⟩⟩
  · cases e
def dInt : D → Option Sv
  | .int i => some (.imm (.int i))
  | .bool b => some (.imm (.int (if b then 1 else 0)))
  | _ => none
theorem us_int : UnS X (fun v H Q => (fun xs H Q => (∃ i, xs = [V.int i] ∧ Q (.int i) H) ∨ ∃ k, xs = [V.bl k] ∧ Q (.int (if k then 1 else 0)) H) [v] H Q) dInt := by
  intro H M O π ρ σ v1 d1 res Q h r1 e q
  unfold dInt at e
  split at e
  · cases e
    cases r1.inI
    exact .inl ⟨_, rfl, Post.now q h (.int _)⟩
  · cases e
    cases r1.inB
    exact .inr ⟨_, rfl, Post.now q h (.int _)⟩
  · cases e
def dAbs : D → Option Sv
  | .int i => some (.imm (.int (if i < 0 then -i else i)))
  | _ => none
theorem us_abs : UnS X (fun v H Q => (fun xs H Q => ∃ i, xs = [V.int i] ∧ Q (.int (if i < 0 then -i else i)) H) [v] H Q) dAbs := by
  intro H M O π ρ σ v1 d1 res Q h r1 e q
  unfold dAbs at e
  split at e
  · cases e
    cases r1.inI
    exact ⟨_, rfl, Post.now q h (.int _)⟩
  · cases e
def boolsOf : List D → Option (List Bool)
  | [] => some []
  | .bool b :: r => (boolsOf r).map (b :: ·)
  | _ :: _ => none
theorem bools_reps {K : PySem.W.Frag} {H : Hp} {M : Mset} : ∀ {vs : List V} {ds : List D} {bs : List Bool}, Reps K H M vs ds → boolsOf ds = some bs → vs = bs.map V.bl
  | _, _, _, .nil, e => by cases e; rfl
  | _, _, bs, .cons h r, e => by
    cases h with
    | bl b =>
      obtain ⟨cs, e1, rfl⟩ := Option.map_eq_some_iff.mp (show (boolsOf _).map (b :: ·) = some bs from e)
      rw [bools_reps r e1]; rfl
    | _ => cases e
def dAll : D → Option Sv
  | .list ds => (boolsOf ds).map fun bs => .imm (.bool (bs.all id))
  | _ => none
def dAny : D → Option Sv
  | .list ds => (boolsOf ds).map fun bs => .imm (.bool (bs.any id))
  | _ => none
theorem us_all : UnS X (fun v H Q => rAll X.K [v] H Q) dAll := by
  intro H M O π ρ σ v1 d1 res Q h r1 e q
  unfold dAll at e
  split at e
  · obtain ⟨bs, e1, rfl⟩ := Option.map_eq_some_iff.mp e
    obtain ⟨a, vs, rfl, rd, rs⟩ := r1.inL
    exact ⟨a, bs, rfl, .inl (by rw [← bools_reps rs e1]; exact rd), Post.now q h (.bl _)⟩
  · cases e
theorem us_any : UnS X (fun v H Q => rAny X.K [v] H Q) dAny := by
  intro H M O π ρ σ v1 d1 res Q h r1 e q
  unfold dAny at e
  split at e
  · obtain ⟨bs, e1, rfl⟩ := Option.map_eq_some_iff.mp e
    obtain ⟨a, vs, rfl, rd, rs⟩ := r1.inL
    exact ⟨a, bs, rfl, .inl (by rw [← bools_reps rs e1]; exact rd), Post.now q h (.bl _)⟩
  · cases e
end
end Vi

namespace Vi
open PySem PySem.Spec PyProof.Rows L2

/-! ### lists of expressions, each fixed as it comes -/
abbrev MA := Fm → Option (List D × Fm)
def tA (K : PySem.W.Frag) (m : MA) : TA := fun σ H Q => ∃ ρ M O π ds ρ', SR K H M O π ρ σ ∧ m ρ = some (ds, ρ') ∧ ∀ vs H' M', Ext O H M H' M' → SR K H' M' O π ρ' σ → Reps K H' M' vs ds → Q vs H'
def DA (X : Cx) (es : List Expr) (m : MA) : Prop := PA X es (tA X.K m)
def mNil : MA := fun ρ => some ([], ρ)
def mCons (me : ME) (ma : MA) : MA := fun ρ => match me ρ with
  | some (pr, ρ1) => match frz ρ1 pr with
    | some (d, ρ2) => match ma ρ2 with
      | some (ds, ρ3) => some (d :: ds, ρ3)
      | none => none
    | none => none
  | none => none
section
variable {X : Cx} {a b c e : Expr} {es rest : List Expr} {ma mb me : ME} {mes : MA} {pos : Pos}
theorem da_nil : DA X [] mNil := PA.imp pa_nil fun σ H Q ⟨ρ, M, O, π, ds, ρ', h, e, q⟩ => by
  cases e
  exact q [] H M (.refl h) h .nil
theorem da_cons (he : DE X e me) (hes : DA X es mes) (hs : starEach (e :: es) X.env = (false, eval e X.env) :: starEach es X.env := by rfl) : DA X (e :: es) (mCons me mes) :=
  PA.imp (pa_cons he hes hs) fun σ H Q ⟨ρ, M, O, π, ds, ρ', h, e, q⟩ => by
    unfold mCons at e
    split at e
    · rename_i pr ρ1 e1
      split at e
      · rename_i d ρ2 e2
        split at e
        · rename_i ds' ρ3 e3
          simp only [Option.some.injEq, Prod.mk.injEq] at e
          obtain ⟨rfl, rfl⟩ := e
          refine ⟨ρ, M, O, π, pr, ρ1, h, e1, fun v H1 M1 x1 s1 r1 => ?_⟩
          obtain ⟨M2, x2, s2, r2⟩ := frz_ok s1 r1 e2
          exact ⟨ρ2, M2, O, π, ds', ρ3, s2, e3, fun vs H3 M3 x3 s3 r3 => q (v :: vs) H3 M3 ((x1.trans x2).trans x3) s3 (.cons (r2.tr x3.tr) r3)⟩
        · cases e
      · cases e
    · cases e
def mTup (m : MA) : ME := fun ρ => match m ρ with
  | some (ds, ρ1) => if fits ds.length = true then some (.val (.imm (.tuple ds)), ρ1) else none
  | none => none
def mLst (m : MA) : ME := fun ρ => match m ρ with
  | some (ds, ρ1) => if fits ds.length = true then some (.val (.own .loc ds), ρ1) else none
  | none => none
theorem de_tup {k : Nat} (hes : DA X es mes) : DE X (.Tuple es k pos) (mTup mes) := PE.imp (pe_tup hes) fun σ H Q ⟨ρ, M, O, π, pr, ρ', h, e, q⟩ => by
  unfold mTup at e
  split at e
  · rename_i ds ρ1 e1
    split at e
    · rename_i hz
      simp only [Option.some.injEq, Prod.mk.injEq] at e
      obtain ⟨rfl, rfl⟩ := e
      exact ⟨ρ, M, O, π, ds, ρ1, h, e1, fun vs H1 M1 x1 s1 r1 => ⟨by rw [r1.length]; exact fits_le hz, fun p hp => Post.tup (Q := Q) (fun v H' M' x2 => q v H' M' (x1.trans x2)) s1 r1 hp⟩⟩
    · cases e
  · cases e
theorem de_lst (hes : DA X es mes) : DE X (.List es pos) (mLst mes) := PE.imp (pe_lst hes) fun σ H Q ⟨ρ, M, O, π, pr, ρ', h, e, q⟩ => by
  unfold mLst at e
  split at e
  · rename_i ds ρ1 e1
    split at e
    · rename_i hz
      simp only [Option.some.injEq, Prod.mk.injEq] at e
      obtain ⟨rfl, rfl⟩ := e
      exact ⟨ρ, M, O, π, ds, ρ1, h, e1, fun vs H1 M1 x1 s1 r1 => ⟨by rw [r1.length]; exact fits_le hz, fun p hp => Post.lst (Q := Q) (fun v H' M' x2 => q v H' M' (x1.trans x2)) s1 r1 hp⟩⟩
    · cases e
  · cases e

/-! ### truth, tests -/
def dTru : D → Option Bool
  | .none => some false
  | .bool b => some b
  | .int i => some (i != 0)
  | .str x => if fits x.length = true then some ((x.length : Int) != 0) else none
  | .list ds => some (!ds.isEmpty)
  | .tuple ds => some (!ds.isEmpty)
  | _ => none
theorem reps_empty {K : PySem.W.Frag} {H : Hp} {M : Mset} {vs : List V} {ds : List D} (r : Reps K H M vs ds) : vs.isEmpty = ds.isEmpty := by cases r <;> rfl
theorem tru_vw {K : PySem.W.Frag} {H : Hp} {M : Mset} {v : V} {d : D} {k : Bool} (r : VW K H M v d) (e : dTru d = some k) : TruV K v H k := by
  cases d with
  | none => cases e; cases r.inN; rfl
  | bool b => cases e; cases r.inB; rfl
  | int b => cases e; cases r.inI; rfl
  | str b =>
    unfold dTru at e
    simp only at e
    split at e
    · rename_i hz
      cases e; cases r.inS; exact ⟨fits_le hz, rfl⟩
    · cases e
  | list b =>
    cases e
    obtain ⟨a, vs, rfl, h, rs⟩ := r.inL
    exact .inl ⟨vs, .inl h, by rw [reps_empty rs]⟩
  | tuple b =>
    cases e
    obtain ⟨a, vs, rfl, h, rs⟩ := r.inT
    exact .inr (.inl ⟨vs, h.sq, by rw [reps_empty rs]⟩)
  | dict b => cases e
abbrev MT := Fm → Option (Bool × Fm)
def tT (K : PySem.W.Frag) (m : MT) : TT := fun σ H Q => ∃ ρ M O π b ρ', SR K H M O π ρ σ ∧ m ρ = some (b, ρ') ∧ ∀ H' M', Ext O H M H' M' → SR K H' M' O π ρ' σ → Q b H'
def DT (X : Cx) (e : Expr) (m : MT) : Prop := PT X e (tT X.K m)
def mTru (ma : ME) : MT := fun ρ => match ma ρ with
  | some (pr, ρ1) => match peek ρ1 pr with
    | some d => match dTru d with
      | some b => some (b, ρ1)
      | none => none
    | none => none
  | none => none
/-- a value of any kind as a test -/
theorem dt_tru (ha : DE X a ma) (he : ∀ whole, isTrue a X.env whole = (do let v ← whole; standAt a.pos; holding [v] (truthy v)) := by intro _; rfl) : DT X a (mTru ma) :=
  PT.imp (pt_truth ha he) fun σ H Q ⟨ρ, M, O, π, b, ρ', h, e, q⟩ => by
    unfold mTru at e
    split at e
    · rename_i pr ρ1 e1
      split at e
      · rename_i d e2
        split at e
        · rename_i k e3
          simp only [Option.some.injEq, Prod.mk.injEq] at e
          obtain ⟨rfl, rfl⟩ := e
          exact ⟨ρ, M, O, π, pr, ρ1, h, e1, fun v H1 M1 x1 s1 r1 => ⟨k, tru_vw (peek_vw s1 r1 e2) e3, q H1 M1 x1 s1⟩⟩
        · cases e
      · cases e
    · cases e
def mB (m : ME) : MT := fun ρ => match m ρ with
  | some (.val (.imm (.bool b)), ρ1) => some (b, ρ1)
  | _ => none
theorem tT_B {K : PySem.W.Frag} {m : ME} {σ : St} {H : Hp} {Q : Bool → Hp → Prop} (h : tT K (mB m) σ H Q) : tE K m σ H fun x H' => ∃ k, x = .bl k ∧ Q k H' := by
  obtain ⟨ρ, M, O, π, b, ρ', h, e, q⟩ := h
  unfold mB at e
  split at e
  · rename_i k ρ1 e1
    simp only [Option.some.injEq, Prod.mk.injEq] at e
    obtain ⟨rfl, rfl⟩ := e
    refine ⟨ρ, M, O, π, _, ρ1, h, e1, fun v H1 M1 x1 s1 r1 => ⟨k, ?_, q H1 M1 x1 s1⟩⟩
    cases (show Rep K H1 M1 v (.bool k) from r1)
    rfl
  · cases e
theorem dt_cmp {op : CmpOp} {r : R2} {f : D → D → Option Sv} (ho : OpR X (compareOp op) r) (hs : OpS X r f) (ha : DE X a ma) (hb : DE X b mb) (hm : behindInMarks op b = false) : DT X (.Compare a [op] [b] pos) (mB (bin f ma mb)) :=
  PT.imp (pt_cmpR ho ha hb hm) fun σ H Q h => tE_bin hs (tT_B h)
def mNotT (m : MT) : MT := fun ρ => match m ρ with
  | some (b, ρ1) => some (!b, ρ1)
  | none => none
variable {mt mu : MT}
theorem dt_not (ha : DT X a mt) : DT X (.UnaryOp .Not a pos) (mNotT mt) := PT.imp (pt_not ha) fun σ H Q ⟨ρ, M, O, π, b, ρ', h, e, q⟩ => by
  unfold mNotT at e
  split at e
  · rename_i k ρ1 e1
    simp only [Option.some.injEq, Prod.mk.injEq] at e
    obtain ⟨rfl, rfl⟩ := e
    exact ⟨ρ, M, O, π, k, ρ1, h, e1, q⟩
  · cases e
def DW (X : Cx) (e : Expr) (m : MT) : Prop := PW X e (tT X.K m)
theorem dt_w (h : DW X e mt) : DT X e mt := PW.pt h
theorem dw_and1 (h : DT X a mt) : DW X (.BoolOp .And [a] pos) mt := pw_and1 h
theorem dw_or1 (h : DT X a mt) : DW X (.BoolOp .Or [a] pos) mt := pw_or1 h
def mAndT (m n : MT) : MT := fun ρ => match m ρ with
  | some (true, ρ1) => n ρ1
  | some (false, ρ1) => some (false, ρ1)
  | none => none
def mOrT (m n : MT) : MT := fun ρ => match m ρ with
  | some (false, ρ1) => n ρ1
  | some (true, ρ1) => some (true, ρ1)
  | none => none
theorem _root_.L2.PW.imp {X : Cx} {e : Expr} {t t' : TT} (h : PW X e t) (i : ∀ σ H Q, t' σ H Q → t σ H Q) : PW X e t' := ⟨fun w pins s σ H Q I q => h.run w pins s σ H Q I (i σ H Q q)⟩
theorem dw_and (ha : DT X a mt) (hb : DW X (.BoolOp .And (b :: rest) pos) mu) : DW X (.BoolOp .And (a :: b :: rest) pos) (mAndT mt mu) := PW.imp (pw_and ha hb) fun σ H Q ⟨ρ, M, O, π, r, ρ', h, e, q⟩ => by
  unfold mAndT at e
  split at e
  · rename_i ρ1 e1
    exact ⟨ρ, M, O, π, true, ρ1, h, e1, fun H1 M1 x1 s1 => ⟨ρ1, M1, O, π, r, ρ', s1, e, fun H2 M2 x2 s2 => q H2 M2 (x1.trans x2) s2⟩⟩
  · rename_i ρ1 e1
    simp only [Option.some.injEq, Prod.mk.injEq] at e
    obtain ⟨rfl, rfl⟩ := e
    exact ⟨ρ, M, O, π, false, ρ1, h, e1, fun H1 M1 x1 s1 => q H1 M1 x1 s1⟩
  · cases e
theorem dw_or (ha : DT X a mt) (hb : DW X (.BoolOp .Or (b :: rest) pos) mu) : DW X (.BoolOp .Or (a :: b :: rest) pos) (mOrT mt mu) := PW.imp (pw_or ha hb) fun σ H Q ⟨ρ, M, O, π, r, ρ', h, e, q⟩ => by
  unfold mOrT at e
  split at e
  · rename_i ρ1 e1
    exact ⟨ρ, M, O, π, false, ρ1, h, e1, fun H1 M1 x1 s1 => ⟨ρ1, M1, O, π, r, ρ', s1, e, fun H2 M2 x2 s2 => q H2 M2 (x1.trans x2) s2⟩⟩
  · rename_i ρ1 e1
    simp only [Option.some.injEq, Prod.mk.injEq] at e
    obtain ⟨rfl, rfl⟩ := e
    exact ⟨ρ, M, O, π, true, ρ1, h, e1, fun H1 M1 x1 s1 => q H1 M1 x1 s1⟩
  · cases e

/-! ### a if c else b; and, or, not as values -/
def mIf (c : MT) (ma mb : ME) : ME := fun ρ => match c ρ with
  | some (true, ρ1) => ma ρ1
  | some (false, ρ1) => mb ρ1
  | none => none
theorem de_if (hc : DT X c mt) (ha : DE X a ma) (hb : DE X b mb) : DE X (.IfExp c a b pos) (mIf mt ma mb) := PE.imp (pe_ifExp hc ha hb) fun σ H Q ⟨ρ, M, O, π, r, ρ', h, e, q⟩ => by
  unfold mIf at e
  split at e
  · rename_i ρ1 e1
    exact ⟨ρ, M, O, π, true, ρ1, h, e1, fun H1 M1 x1 s1 => ⟨ρ1, M1, O, π, r, ρ', s1, e, fun v H2 M2 x2 s2 r2 => q v H2 M2 (x1.trans x2) s2 r2⟩⟩
  · rename_i ρ1 e1
    exact ⟨ρ, M, O, π, false, ρ1, h, e1, fun H1 M1 x1 s1 => ⟨ρ1, M1, O, π, r, ρ', s1, e, fun v H2 M2 x2 s2 r2 => q v H2 M2 (x1.trans x2) s2 r2⟩⟩
  · cases e
def mOr (ma mb : ME) : ME := fun ρ => match ma ρ with
  | some (pr, ρ1) => match peek ρ1 pr with
    | some d => match dTru d with
      | some true => some (pr, ρ1)
      | some false => mb ρ1
      | none => none
    | none => none
  | none => none
def mAnd (ma mb : ME) : ME := fun ρ => match ma ρ with
  | some (pr, ρ1) => match peek ρ1 pr with
    | some d => match dTru d with
      | some false => some (pr, ρ1)
      | some true => mb ρ1
      | none => none
    | none => none
  | none => none
theorem de_one {op} (h : DE X a ma) : DE X (.BoolOp op [a] pos) ma := pe_one h
theorem de_or (ha : DE X a ma) (hb : DE X (.BoolOp .Or (b :: rest) pos) mb) : DE X (.BoolOp .Or (a :: b :: rest) pos) (mOr ma mb) := PE.imp (pe_orT ha hb) fun σ H Q ⟨ρ, M, O, π, r, ρ', h, e, q⟩ => by
  unfold mOr at e
  split at e
  · rename_i pr ρ1 e1
    split at e
    · rename_i d e2
      split at e
      · rename_i e3
        simp only [Option.some.injEq, Prod.mk.injEq] at e
        obtain ⟨rfl, rfl⟩ := e
        exact ⟨ρ, M, O, π, pr, ρ1, h, e1, fun v H1 M1 x1 s1 r1 => ⟨true, tru_vw (peek_vw s1 r1 e2) e3, iteT (q v H1 M1 x1 s1 r1)⟩⟩
      · rename_i e3
        exact ⟨ρ, M, O, π, pr, ρ1, h, e1, fun v H1 M1 x1 s1 r1 => ⟨false, tru_vw (peek_vw s1 r1 e2) e3, iteF ⟨ρ1, M1, O, π, r, ρ', s1, e, fun v H2 M2 x2 s2 r2 => q v H2 M2 (x1.trans x2) s2 r2⟩⟩⟩
      · cases e
    · cases e
  · cases e
theorem de_and (ha : DE X a ma) (hb : DE X (.BoolOp .And (b :: rest) pos) mb) : DE X (.BoolOp .And (a :: b :: rest) pos) (mAnd ma mb) := PE.imp (pe_andT ha hb) fun σ H Q ⟨ρ, M, O, π, r, ρ', h, e, q⟩ => by
  unfold mAnd at e
  split at e
  · rename_i pr ρ1 e1
    split at e
    · rename_i d e2
      split at e
      · rename_i e3
        simp only [Option.some.injEq, Prod.mk.injEq] at e
        obtain ⟨rfl, rfl⟩ := e
        exact ⟨ρ, M, O, π, pr, ρ1, h, e1, fun v H1 M1 x1 s1 r1 => ⟨false, tru_vw (peek_vw s1 r1 e2) e3, iteF (q v H1 M1 x1 s1 r1)⟩⟩
      · rename_i e3
        exact ⟨ρ, M, O, π, pr, ρ1, h, e1, fun v H1 M1 x1 s1 r1 => ⟨true, tru_vw (peek_vw s1 r1 e2) e3, iteT ⟨ρ1, M1, O, π, r, ρ', s1, e, fun v H2 M2 x2 s2 r2 => q v H2 M2 (x1.trans x2) s2 r2⟩⟩⟩
      · cases e
    · cases e
  · cases e
def dNot (d : D) : Option Sv := (dTru d).map fun b => .imm (.bool (!b))
theorem de_not (ha : DE X a ma) : DE X (.UnaryOp .Not a pos) (un dNot ma) := PE.imp (pe_notT ha) fun σ H Q h =>
  tE_un (r := fun x H1 Q => ∃ k, TruV X.K x H1 k ∧ Q (.bl (!k)) H1) (by
    intro H M O π ρ σ v1 d1 res Q h r1 e q
    obtain ⟨b, e1, rfl⟩ := Option.map_eq_some_iff.mp e
    exact ⟨b, tru_vw r1 e1, Post.now q h (.bl _)⟩) h

/-! ### slices -/
abbrev MO := Fm → Option (Option Int × Fm)
def tO (K : PySem.W.Frag) (m : MO) : TO := fun σ H Q => ∃ ρ M O π i ρ', SR K H M O π ρ σ ∧ m ρ = some (i, ρ') ∧ ∀ H' M', Ext O H M H' M' → SR K H' M' O π ρ' σ → Q i H'
def DO (X : Cx) (e : Option Expr) (m : MO) : Prop := PO X e (tO X.K m)
theorem _root_.L2.PO.imp {X : Cx} {e : Option Expr} {t t' : TO} (h : PO X e t) (i : ∀ σ H Q, t' σ H Q → t σ H Q) : PO X e t' := ⟨fun pins s σ H Q I q => h.run pins s σ H Q I (i σ H Q q)⟩
def mNoPart : MO := fun ρ => some (none, ρ)
def mPart (ma : ME) : MO := fun ρ => match ma ρ with
  | some (pr, ρ1) => match peek ρ1 pr with
    | some (.int i) => some (some i, ρ1)
    | _ => none
  | none => none
theorem do_none : DO X none mNoPart := PO.imp po_none fun σ H Q ⟨ρ, M, O, π, i, ρ', h, e, q⟩ => by
  cases e
  exact q H M (.refl h) h
theorem do_some (ha : DE X a ma) : DO X (some a) (mPart ma) := PO.imp (po_some ha) fun σ H Q ⟨ρ, M, O, π, r, ρ', h, e, q⟩ => by
  unfold mPart at e
  split at e
  · rename_i pr ρ1 e1
    split at e
    · rename_i i e2
      simp only [Option.some.injEq, Prod.mk.injEq] at e
      obtain ⟨rfl, rfl⟩ := e
      exact ⟨ρ, M, O, π, pr, ρ1, h, e1, fun v H1 M1 x1 s1 r1 => ⟨i, (peek_vw s1 r1 e2).inI, q H1 M1 x1 s1⟩⟩
    · cases e
  · cases e
def cutD (ds : List D) (lo hi : Option Int) : List D := (ds.drop (HT.sIx ds.length 0 lo)).take (HT.sIx ds.length ds.length hi - HT.sIx ds.length 0 lo)
theorem cut_rep {K : PySem.W.Frag} {H : Hp} {M : Mset} {vs : List V} {ds : List D} (r : Reps K H M vs ds) (lo hi : Option Int) : Reps K H M (cutV vs lo hi) (cutD ds lo hi) := by
  unfold cutV cutD
  rw [r.length]
  exact (r.drop _).take _
theorem cutD_whole {ds : List D} {lo hi : Option Int} (h : HT.sIx ds.length 0 lo = 0 ∧ HT.sIx ds.length ds.length hi = ds.length) : cutD ds lo hi = ds := by
  unfold cutD
  rw [h.1, h.2]
  simp
def dCut (lo hi : Option Int) : D → Option Sv
  | .list ds => some (.own .loc (cutD ds lo hi))
  | .tuple ds => some (.imm (.tuple (cutD ds lo hi)))
  | .dict kvs => if isExc kvs = false then some (.own .loc (cutD (kvs.map Prod.fst) lo hi)) else none
  | _ => none
def mSl (me : ME) (ml mh : MO) : ME := fun ρ => match me ρ with
  | some (pr, ρ1) => match ml ρ1 with
    | some (lo, ρ2) => match mh ρ2 with
      | some (hi, ρ3) => match peek ρ3 pr with
        | some d => match dCut lo hi d with
          | some s => some (.val s, ρ3)
          | none => none
        | none => none
      | none => none
    | none => none
  | none => none
theorem de_sl {lo hi : Option Expr} {ml mh : MO} {p2 : Pos} (he : DE X e me) (hl : DO X lo ml) (hh : DO X hi mh) : DE X (.Subscript e (.Slice lo hi none p2) pos) (mSl me ml mh) :=
  PE.imp (pe_slice (sl_list.or sl_tupA) he hl hh) fun σ H Q ⟨ρ, M, O, π, r, ρ', h, e, q⟩ => by
    unfold mSl at e
    split at e
    · rename_i pr ρ1 e1
      split at e
      · rename_i lo ρ2 e2
        split at e
        · rename_i hi ρ3 e3
          split at e
          · rename_i d e4
            split at e
            · rename_i s e5
              simp only [Option.some.injEq, Prod.mk.injEq] at e
              obtain ⟨rfl, rfl⟩ := e
              refine ⟨ρ, M, O, π, pr, ρ1, h, e1, fun v H1 M1 x1 s1 r1 => ⟨ρ1, M1, hold O pr v, π, lo, ρ2, s1.hold r1, e2, fun H2 M2 x2 s2 => ⟨ρ2, M2, hold O pr v, π, hi, ρ3, s2, e3, fun H3 M3 x3 s3 => ?_⟩⟩⟩
              have s3' := s3.less (hold_le O pr v)
              have xx := x2.trans x3
              have vw := peek_vw s3' (r1.held xx s3) e4
              have q' : Post X.K H3 M3 O π ρ3 σ s Q := fun w H' M' x4 => q w H' M' ((x1.trans (xx.less (hold_le O pr v))).trans x4)
              unfold dCut at e5
              split at e5
              · cases e5
                obtain ⟨a, vs, rfl, rd, rs⟩ := vw.inL
                exact .inl ⟨a, vs, rfl, .inl rd, fun p hp => q'.lst s3' (cut_rep rs lo hi) hp⟩
              · cases e5
                have vw' := vw
                obtain ⟨a, vs, rfl, rd, rs⟩ := vw.inT
                refine .inr ⟨a, vs, rfl, rd.sq, fun hw => ?_, fun _ p hp => q'.tup s3' (cut_rep rs lo hi) hp⟩
                rw [rs.length] at hw
                rw [cutD_whole hw] at q'
                exact q'.now s3' vw'
              · split at e5
                rotate_left
                · cases e5
                rename_i hx
                cases e5
                obtain ⟨a, vs, rfl, rd, rs⟩ := vw.inScr hx
                exact .inl ⟨a, vs, rfl, rd.sq, fun p hp => q'.lst s3' (cut_rep rs lo hi) hp⟩
              · cases e5
            · cases e
          · cases e
        · cases e
      · cases e
    · cases e
end
end Vi

namespace Vi
open PySem PySem.Spec PyProof.Rows L2

/-! ### sorted -/
section
variable {prog : Program} {w : World} {A : Around} {E : Value → Shared → Prop} {s : Shared} {β : Type} {vs : List Value} {bs : List β} {enc : β → PyData} {R : Value → β → Prop}
theorem sorted_seq {l : Addr} {T : String} {o : Obj} {n : Nat} {Q : Value → Shared → Prop} (hT : T = "list" ∨ T = "tuple") (ho : s.heap.get? l = some o) (hc : o.cls = .type T) (hd : o.data = .seq vs.toArray n) (e : W.EachIs R vs bs)
    (er : W.EachIs (fun v b => ∃ as, Reads s.heap v (enc b) as) vs bs) (hal : W.AllAlike (bs.map enc)) (hk : W.Sortable (bs.map enc)) (hL : bs.length ≤ sizeLine) (hu : ∀ b, b ∈ bs → A.units + 2 + (enc b).depth < cLine)
    (h : ∀ (h' : Heap) (out : List Value), out.length = bs.length → (∀ b o', s.heap.get? b = some o' → h'.get? b = some o') → W.EachIs R out (bs.mergeSort (W.dataLe false enc)) → Q (.ref h'.objs.size) { s with heap := sortedHeap (h'.push (seqObj "list" vs.toArray 0)) h'.objs.size vs out.toArray }) :
    wpAny (model prog w) A (call (.builtin "sorted") [.ref l]) Q E s := by
  have hlen := e.length
  refine call_function_entry_kw kind_sorted plain_sorted entry_sorted (args_sorted1 _) ?_
  unfold Builtin.«sorted»
  refine wpAny_bind (m := checkCount "sorted" 1 1 _) (wpAny_pure ?_)
  refine wpAny_bind (wpAny_collect_seq l hT ho hc hd (fun h' kp => ?_) (by simp only [List.size_toArray]; omega))
  refine wpAny_bind (wpAny_newList ?_ (by show vs.length ≤ _; omega))
  have at_ : (h'.push (seqObj "list" vs.toArray 0)).get? h'.objs.size = some (seqObj "list" vs.toArray 0) := Heap.get?_push_size _ rfl
  have kp2 : ∀ b o', s.heap.get? b = some o' → (h'.push (seqObj "list" vs.toArray 0)).get? b = some o' := fun b o' q => Heap.get?_push_of_some _ (kp b o' q)
  have ne : ∀ b o', h'.get? b = some o' → b ≠ h'.objs.size := fun b o' q => Nat.ne_of_lt (Heap.lt_size q)
  have er' : W.EachIs (fun v b => ∃ as, Reads (W.sortingHeap (h'.push (seqObj "list" vs.toArray 0)) h'.objs.size vs) v (enc b) as) vs bs :=
    er.mono fun _ _ ⟨as, r⟩ => ⟨as, PyProof.Rows.Reads.keeps (fun b o' q => W.sortingHeap_old (ne b o' (kp b o' q)) (kp2 b o' q)) r⟩
  refine wpAny_bind (wpAny_holding (wpAny_call_entry_kw slot_list_sort ⟨_, at_, rfl⟩ entry_list_sort ?body (args_list_sort _)))
  case body =>
    show wpAny (model prog w) A.in1.in1 (Builtin.«list.sort» ⟨[.ref h'.objs.size], []⟩) _ _ { s with heap := h'.push (seqObj "list" vs.toArray 0) }
    refine wpAny_mono (W.list_sort_vals (κ := W.dataKind (W.sortingHeap (h'.push (seqObj "list" vs.toArray 0)) h'.objs.size vs) (bs.map enc)) (P := fun f s' => f = .done (.ret .none) ∧ Q (.ref h'.objs.size) s') at_ (W.SortsAt.data (s := { s with heap := W.sortingHeap (h'.push (seqObj "list" vs.toArray 0)) h'.objs.size vs }) (W.each_map (R := fun v d => ∃ as, Reads (W.sortingHeap (h'.push (seqObj "list" vs.toArray 0)) h'.objs.size vs) v d as) enc er') hal hk (W.bound_map hu)) (by omega) ⟨rfl, ?_⟩) (fun f s' hf => ?_) fun _ _ e => e
    · exact h h' _ (by rw [W.sortVals_length false rfl]; exact hlen) kp (W.sortVals_data false e er' hal)
    · obtain ⟨rfl, hq⟩ := hf
      exact ⟨_, rfl, wpAny_pure ⟨_, rfl, hq⟩⟩
end

/-- by insertion -/
def ins {β : Type} (le : β → β → Bool) (x : β) : List β → List β
  | [] => [x]
  | y :: ys => if le x y = true then x :: y :: ys else y :: ins le x ys
def isort {β : Type} (le : β → β → Bool) : List β → List β
  | [] => []
  | x :: xs => ins le x (isort le xs)
theorem ins_split {β : Type} {le : β → β → Bool} {x : β} : ∀ {l r : List β}, (∀ b ∈ l, le x b = false) → (∀ b, r.head? = some b → le x b = true) → ins le x (l ++ r) = l ++ x :: r
  | [], [], _, _ => rfl
  | [], y :: r, _, h => by
    show (if le x y = true then x :: y :: r else y :: ins le x r) = x :: y :: r
    rw [if_pos (h y rfl)]
  | b :: l, r, hl, hr => by
    show (if le x b = true then x :: b :: (l ++ r) else b :: ins le x (l ++ r)) = b :: (l ++ x :: r)
    rw [if_neg (by rw [hl b (List.mem_cons_self ..)]; decide), ins_split (fun c hc => hl c (List.mem_cons_of_mem _ hc)) hr]
theorem isort_eq {β : Type} {le : β → β → Bool} (T : W.TotalLe le) : ∀ l : List β, l.mergeSort le = isort le l
  | [] => by rw [List.mergeSort_nil]; rfl
  | x :: l => by
    have tr : ∀ a b c : β, le a b = true → le b c = true → le a c = true := T.trans
    have tt : ∀ a b : β, (le a b || le b a) = true := fun a b => Bool.or_eq_true_iff.mpr (T.total a b)
    obtain ⟨l1, l2, e1, e2, e3⟩ := List.mergeSort_cons (le := le) tr tt x l
    have hs := List.pairwise_mergeSort (le := le) tr tt (x :: l)
    rw [e1] at hs
    rw [e1]
    show l1 ++ x :: l2 = ins le x (isort le l)
    rw [← isort_eq T l, e2]
    refine (ins_split (fun b hb => by simpa using e3 b hb) fun b hb => ?_).symm
    have h2 := (List.pairwise_append.mp hs).2.1
    refine (List.pairwise_cons.mp h2).1 b ?_
    cases l2 with
    | nil => cases hb
    | cons y r => cases hb; exact List.mem_cons_self ..
theorem ins_map {β γ : Type} {le : γ → γ → Bool} (f : β → γ) (x : β) : ∀ l : List β, (ins (fun a b => le (f a) (f b)) x l).map f = ins le (f x) (l.map f)
  | [] => rfl
  | y :: l => by
    show (if le (f x) (f y) = true then x :: y :: l else y :: ins (fun a b => le (f a) (f b)) x l).map f = if le (f x) (f y) = true then f x :: f y :: l.map f else f y :: ins le (f x) (l.map f)
    split
    · rfl
    · rw [List.map_cons, ins_map f x l]
theorem isort_map {β γ : Type} {le : γ → γ → Bool} (f : β → γ) : ∀ l : List β, (isort (fun a b => le (f a) (f b)) l).map f = isort le (l.map f)
  | [] => rfl
  | x :: l => by
    show (ins (fun a b => le (f a) (f b)) x (isort (fun a b => le (f a) (f b)) l)).map f = ins le (f x) (isort le (l.map f))
    rw [ins_map, isort_map f l]
theorem ins_perm {β : Type} {le : β → β → Bool} {x : β} : ∀ l : List β, (ins le x l).Perm (x :: l)
  | [] => .refl _
  | y :: l => by
    show (if le x y = true then x :: y :: l else y :: ins le x l).Perm (x :: y :: l)
    split
    · exact .refl _
    · exact ((ins_perm l).cons y).trans (List.Perm.swap ..)
theorem isort_perm {β : Type} {le : β → β → Bool} : ∀ l : List β, (isort le l).Perm l
  | [] => .refl _
  | x :: l => (ins_perm _).trans ((isort_perm l).cons x)

/-- the order of data -/
def leD : D → D → Bool := W.dataLe false id
def sortD (ds : List D) : List D := isort leD ds
/-- what may be sorted -/
def alikeAllB (ds : List D) : Bool := ds.all fun d => ds.all fun e => W.alike d e
def headB : D → Bool
  | .tuple (_ :: _) => true
  | _ => false
def plainB : D → Bool
  | .none => false
  | .tuple _ => false
  | _ => true
def sortOk (ds : List D) : Bool := alikeAllB ds && (ds.all headB || ds.all plainB) && ds.all okD && fits ds.length
theorem sortOk_al {ds : List D} (h : sortOk ds = true) : W.AllAlike ds := fun d hd e he => by
  unfold sortOk alikeAllB at h
  rw [Bool.and_eq_true, Bool.and_eq_true, Bool.and_eq_true] at h
  exact List.all_eq_true.mp (List.all_eq_true.mp h.1.1.1 d hd) e he
theorem sortOk_so {ds : List D} (h : sortOk ds = true) : W.Sortable ds := by
  unfold sortOk at h
  rw [Bool.and_eq_true, Bool.and_eq_true, Bool.and_eq_true, Bool.or_eq_true] at h
  rcases h.1.1.2 with h | h
  · refine .inl fun d hd => ?_
    have q := List.all_eq_true.mp h d hd
    unfold headB at q
    split at q
    · exact ⟨_, _, rfl⟩
    · cases q
  · refine .inr fun d hd => ?_
    have q := List.all_eq_true.mp h d hd
    unfold plainB at q
    split at q
    · cases q
    · cases q
    · rename_i h1 h2
      exact ⟨fun e => h1 e, fun xs e => h2 xs e⟩
theorem sortOk_dp {ds : List D} (h : sortOk ds = true) : ∀ d ∈ ds, d.depth ≤ 64 := fun d hd => by
  unfold sortOk at h
  rw [Bool.and_eq_true, Bool.and_eq_true, Bool.and_eq_true] at h
  exact SeqAt.depth_of_shaped (List.all_eq_true.mp h.1.2 d hd)
theorem lay_all : ∀ {ds : List D}, (∀ d ∈ ds, d.canLay0 = true) → PyData.canLayAll0 ds = true
  | [], _ => by simp [PyData.canLayAll0]
  | d :: ds, h => by
    rw [PyData.canLayAll0, h d (List.mem_cons_self ..), lay_all fun e he => h e (List.mem_cons_of_mem _ he)]; rfl
theorem sortOk_lay {ds : List D} (h : sortOk ds = true) : PyData.canLayAll0 ds = true := lay_all fun d hd => by
  unfold sortOk at h
  rw [Bool.and_eq_true, Bool.and_eq_true, Bool.and_eq_true] at h
  exact SeqAt.canLay_of_shaped (List.all_eq_true.mp h.1.2 d hd)
theorem sortOk_len {ds : List D} (h : sortOk ds = true) : ds.length ≤ sizeLine := by
  unfold sortOk at h
  rw [Bool.and_eq_true] at h
  exact fits_le h.2
section
variable {X : Cx}
theorem each_zip {R : Value → V × D → Prop} : ∀ {us : List Value} {xs : List V} {ds : List D}, Vals xs us → xs.length = ds.length → (∀ (i : Nat) u x d, us[i]? = some u → xs[i]? = some x → ds[i]? = some d → RelV x u → R u (x, d)) → W.EachIs R us (xs.zip ds)
  | _, _, [], .nil, _, _ => .nil
  | _, _, d :: ds, .cons r t, hl, h => .cons (h 0 _ _ _ rfl rfl rfl r) (each_zip t (by simpa using hl) fun i u x d h1 h2 h3 => h (i + 1) u x d (by simpa using h1) (by simpa using h2) (by simpa using h3))
theorem each_vals : ∀ {us : List Value} {ps : List (V × D)}, W.EachIs (fun u (b : V × D) => RelV b.1 u) us ps → Vals (ps.map Prod.fst) us
  | _, _, .nil => .nil
  | _, _, .cons r t => .cons r (each_vals t)
theorem zip_snd : ∀ {xs : List V} {ds : List D}, xs.length = ds.length → (xs.zip ds).map Prod.snd = ds
  | [], [], _ => rfl
  | x :: xs, d :: ds, h => by rw [List.zip_cons_cons, List.map_cons, zip_snd (by simpa using h)]
theorem readsAll_get {h : Heap} : ∀ {ds : List D} {us : List Value} {as : List Addr} {i : Nat} {u : Value} {d : D}, ReadsAll h us ds as → us[i]? = some u → ds[i]? = some d → ∃ bs, Reads h u d bs
  | [], _, _, i, _, _, r, _, e => by simp at e
  | d :: ds, _, _, 0, _, _, .cons r1 r2, e1, e2 => by
    simp at e1 e2; subst e1; subst e2; exact ⟨_, r1⟩
  | d :: ds, _, _, i + 1, _, _, .cons r1 r2, e1, e2 => readsAll_get r2 (by simpa using e1) (by simpa using e2)
/-- sorted(x) of data: ps, the items with their data, in order -/
def rSortD (K : PySem.W.Frag) : List V → Hp → VK → Prop := fun vs H Q => ∃ (a : Addr) (xs : List V) (ds : List D), vs = [.ref a] ∧ (SqL K H a xs ∨ SqT K H a xs) ∧ xs.length = ds.length ∧ DpAll K H xs ds ∧ sortOk ds = true ∧
  ∀ p, H p = none → Q (.ref p) (upd H p (.lst ((isort (fun a b : V × D => leD a.2 b.2) (xs.zip ds)).map Prod.fst)))
theorem cr_sortD (hu : X.A.units + 70 < cLine) : CallR X (.builtin "sorted") (rSortD X.K) := by
  intro pins s σ H vs us Q I r h
  obtain ⟨a, xs, ds, rfl, hsq, hlen, hdp, hok, q⟩ := h
  rw [Vals.ref1 r]
  have core : ∀ {T : String} {o : Obj} {its : List Value} {n : Nat}, (T = "list" ∨ T = "tuple") → s.heap.get? a = some o → o.cls = .type T → o.data = .seq its.toArray n → Vals xs its → wpAny (model X.prog X.w) X.A (call (.builtin "sorted") [.ref a]) (EP X pins σ Q) X.xe s := by
    intro T o its n hT ho hc hd rv
    obtain ⟨as, hr⟩ := Dp.readsAll I ds xs its hdp rv
    have hzl : (xs.zip ds).length = ds.length := by rw [List.length_zip, hlen, Nat.min_self]
    have e : W.EachIs (fun u (b : V × D) => RelV b.1 u) its (xs.zip ds) := each_zip rv hlen fun i u x d _ _ _ r => r
    have er : W.EachIs (fun u (b : V × D) => ∃ as, Reads s.heap u (id (Prod.snd b)) as) its (xs.zip ds) := each_zip rv hlen fun i u x d h1 _ h3 _ => readsAll_get hr h1 h3
    have em : (xs.zip ds).map (fun b => id (Prod.snd b)) = ds := zip_snd hlen
    refine sorted_seq (enc := fun b : V × D => id b.2) (R := fun u (b : V × D) => RelV b.1 u) hT ho hc hd e er (by rw [em]; exact sortOk_al hok) (by rw [em]; exact sortOk_so hok) (by rw [hzl]; exact sortOk_len hok) (fun b hb => ?_) fun h' out hol kp ho2 => ?_
    · have hm : b.2 ∈ ds := by rw [← em]; exact List.mem_map.mpr ⟨b, hb, rfl⟩
      have := sortOk_dp hok _ hm
      show X.A.units + 2 + b.2.depth < cLine
      omega
    · rw [isort_eq (le := W.dataLe false fun b : V × D => id b.2) (W.sortLe_total _ _ _)] at ho2
      have I1 : Inv X pins σ H { s with heap := h' } := I.kept (t' := s.toks) kp
      have hz : ((isort (fun a b : V × D => leD a.2 b.2) (xs.zip ds)).map Prod.fst).length ≤ sizeLine := by
        rw [List.length_map, (isort_perm _).length_eq, hzl]; exact sortOk_len hok
      have hpush : (h'.push (seqObj "list" its.toArray 0)).get? h'.objs.size = some (seqObj "list" its.toArray 0) := Heap.get?_push_size _ rfl
      obtain ⟨e1, hat⟩ := sortedHeap_at (out := out.toArray) hpush
      refine ⟨.ref h'.objs.size, _, I1.laid (t' := s.toks) (o := .lst ((isort (fun a b : V × D => leD a.2 b.2) (xs.zip ds)).map Prod.fst)) (fun b u eb => ?_) (Nat.le_refl _) ⟨hz, out, e1, each_vals ho2, hat⟩, rfl, q _ I1.fresh⟩
      have hb : b < h'.objs.size := Heap.lt_size eb
      rw [sortedHeap_old (Nat.ne_of_lt hb) (by rw [size_push']; exact Nat.lt_succ_of_lt hb)]
      exact Heap.get?_push_of_some _ eb
  rcases hsq with hsq | hsq
  · obtain ⟨its, rv, ⟨o, n, ho, hc, _, hd⟩, _⟩ := I.list hsq
    exact core (.inl rfl) ho hc hd rv
  · obtain ⟨its, rv, ⟨o, ho, hc, n, hd⟩, _⟩ := I.tuple hsq
    exact core (.inr rfl) ho hc hd rv
def dSort : D → Option Sv
  | .list ds => if sortOk ds = true then some (.own .loc (sortD ds)) else none
  | .tuple ds => if sortOk ds = true then some (.own .loc (sortD ds)) else none
  | _ => none
theorem reps_sort {K : PySem.W.Frag} {H : Hp} {M : Mset} : ∀ {ps : List (V × D)}, (∀ b ∈ ps, Rep K H M b.1 b.2) → Reps K H M (ps.map Prod.fst) (ps.map Prod.snd)
  | [], _ => .nil
  | b :: ps, h => .cons (h b (List.mem_cons_self ..)) (reps_sort fun c hc => h c (List.mem_cons_of_mem _ hc))
theorem reps_zip {K : PySem.W.Frag} {H : Hp} {M : Mset} : ∀ {vs : List V} {ds : List D}, Reps K H M vs ds → ∀ b ∈ vs.zip ds, Rep K H M b.1 b.2
  | _, _, .nil, b, hb => by cases hb
  | _, _, .cons h r, b, hb => by
    rw [List.zip_cons_cons] at hb
    rcases List.mem_cons.mp hb with rfl | hb
    · exact h
    · exact reps_zip r b hb
theorem us_sort : UnS X (fun v H Q => rSortD X.K [v] H Q) dSort := by
  intro H M O π ρ σ v1 d1 res Q h r1 e q
  have fin : ∀ {vs : List V} {ds : List D} {p : Addr}, Reps X.K H M vs ds → Post X.K H M O π ρ σ (.own .loc (sortD ds)) Q → H p = none → Q (.ref p) (upd H p (.lst ((isort (fun a b : V × D => leD a.2 b.2) (vs.zip ds)).map Prod.fst))) := fun {vs ds p} rs q hp => by
    have e2 : sortD ds = (isort (fun a b : V × D => leD a.2 b.2) (vs.zip ds)).map Prod.snd := by
      rw [isort_map (le := leD) Prod.snd, zip_snd rs.length]; rfl
    rw [e2] at q
    exact q.lst h (reps_sort fun b hb => reps_zip rs b ((isort_perm _).mem_iff.mp hb)) hp
  unfold dSort at e
  split at e
  · split at e
    · rename_i hz
      cases e
      obtain ⟨a, vs, rfl, rd, rs⟩ := r1.inL
      exact ⟨a, vs, _, rfl, .inl (.inl rd), rs.length, rs.dp (sortOk_lay hz), hz, fun p hp => fin rs q hp⟩
    · cases e
  · split at e
    · rename_i hz
      cases e
      obtain ⟨a, vs, rfl, rd, rs⟩ := r1.inT
      exact ⟨a, vs, _, rfl, .inr rd.sq, rs.length, rs.dp (sortOk_lay hz), hz, fun p hp => fin rs q hp⟩
    · cases e
  · cases e

/-! ### isinstance -/
inductive Ty where
  | int | bool | str | list | tuple
def Ty.nm : Ty → String
  | .int => "int" | .bool => "bool" | .str => "str" | .list => "list" | .tuple => "tuple"
def tyN : D → Option String
  | .none => some "NoneType" | .bool _ => some "bool" | .int _ => some "int" | .str _ => some "str" | .list _ => some "list" | .tuple _ => some "tuple" | _ => none
def isT : Ty → D → Bool
  | .int, .int _ => true
  | .int, .bool _ => true
  | .bool, .bool _ => true
  | .str, .str _ => true
  | .list, .list _ => true
  | .tuple, .tuple _ => true
  | _, _ => false
theorem kit_is {K : PySem.W.Frag} {d : D} {n : String} (t : Ty) (e : tyN d = some n) : PySem.W.kitOne K (.type n) (.type t.nm) = some (isT t d) := by
  cases d <;> first | cases e | skip
  all_goals (cases t <;> first | exact kit_ty (r := true) (by decide +kernel) | exact kit_ty (r := false) (by decide +kernel))
theorem kit_is2 {K : PySem.W.Frag} {d : D} {n : String} (t u : Ty) (e : tyN d = some n) : PySem.W.kitAny K (.type n) [.type t.nm, .type u.nm] = some (isT t d || isT u d) := by
  cases h : isT t d with
  | true => exact kitAny_cons (kit_is t e) (fun z => by rw [h] at z; cases z) fun _ => rfl
  | false =>
    refine kitAny_cons (kit_is t e) (fun _ => ?_) fun z => by rw [h] at z; cases z
    cases h2 : isT u d with
    | true => exact kitAny_cons (kit_is u e) (fun z => by rw [h2] at z; cases z) fun _ => rfl
    | false => exact kitAny_cons (kit_is u e) (fun _ => kitAny_nil) fun z => by rw [h2] at z; cases z
theorem tyx_of {K : PySem.W.Frag} {H : Hp} {M : Mset} {v : V} {d : D} {n : String} (r : VW K H M v d) (e : tyN d = some n) : TyX K H v (.type n) := by
  cases d with
  | none => cases e; cases r.inN; exact .base .non
  | bool b => cases e; cases r.inB; exact .base (.bl b)
  | int b => cases e; cases r.inI; exact .base (.int b)
  | str b => cases e; cases r.inS; exact .base (.str b)
  | list b =>
    cases e
    obtain ⟨a, vs, rfl, h, rs⟩ := r.inL
    rcases h with h | ⟨o, h⟩
    · exact .base (.lst h)
    · exact .base (.frz h)
  | tuple b =>
    cases e
    obtain ⟨a, vs, rfl, h, rs⟩ := r.inT
    rcases h with ⟨h | ⟨o, h⟩, _⟩ | ⟨o, its, n, h1, h2, _⟩
    · exact .base (.tup h)
    · exact .fTuple h
    · exact .kTuple h1 h2
  | dict b => cases e
def dIsi (t : Ty) (d : D) : Option Sv := (tyN d).map fun _ => .imm (.bool (isT t d))
def dIsi2 (t u : Ty) (d : D) : Option Sv := (tyN d).map fun _ => .imm (.bool (isT t d || isT u d))
variable {a b : Expr} {ma : ME} {pos : Pos}
theorem tC_two {ta : TE} {v : V} {σ : St} {H : Hp} {Q : List V → Hp → Prop} (h : ta σ H fun x H1 => Q [x, v] H1) : tCons ta (tCons (tC v) tNil) σ H Q := h
theorem de_isi {t : Ty} {x : Str} {p : Pos} (hg : Gl X x) (hm : X.mg x = none) (hv : bootBuiltins x = some (.builtin "isinstance")) (ha : DE X a ma) (ht : PE X b (tC (.ty t.nm)))
    (hn : x ≠ "__name__" := by decide) (hd : (x == ("__debug__" : Str)) = false := by decide) (he : starEach [a, b] X.env = (false, eval a X.env) :: starEach [b] X.env := by rfl) (he2 : starEach [b] X.env = (false, eval b X.env) :: starEach [] X.env := by rfl) (hpl : (backTo pos (starEach [b] X.env)).any (·.1) = false := by rfl) :
    DE X (.Call (.Name x p) [a, b] [] pos) (un (dIsi t) ma) :=
  PE.imp (pe_callB call_isi hg hm hv (pa_cons ha (pa_cons ht pa_nil he2) he) hn hd he hpl) fun σ H Q h => tC_two (tE_un (r := fun v H Q => rIsi X.K [v, .ty t.nm] H Q) (by
    intro H M O π ρ σ v1 d1 res Q h r1 e q
    obtain ⟨n, e1, rfl⟩ := Option.map_eq_some_iff.mp e
    exact ⟨_, _, _, _, _, rfl, .ty _, tyx_of r1 e1, kit_is t e1, Post.now q h (.bl _)⟩) h)
/-- isinstance(x, (t, u)): the tuple is laid behind x -/
theorem de_isi2 {t u : Ty} {x : Str} {p p2 : Pos} {b1 b2 : Expr} {k : Nat} (hg : Gl X x) (hm : X.mg x = none) (hv : bootBuiltins x = some (.builtin "isinstance")) (ha : DE X a ma) (h1 : PE X b1 (tC (.ty t.nm))) (h2 : PE X b2 (tC (.ty u.nm)))
    (hn : x ≠ "__name__" := by decide) (hd : (x == ("__debug__" : Str)) = false := by decide) (he : starEach [a, .Tuple [b1, b2] k p2] X.env = (false, eval a X.env) :: starEach [.Tuple [b1, b2] k p2] X.env := by rfl)
    (he2 : starEach [.Tuple [b1, b2] k p2] X.env = (false, eval (.Tuple [b1, b2] k p2) X.env) :: starEach [] X.env := by rfl) (he3 : starEach [b1, b2] X.env = (false, eval b1 X.env) :: starEach [b2] X.env := by rfl) (he4 : starEach [b2] X.env = (false, eval b2 X.env) :: starEach [] X.env := by rfl)
    (hpl : (backTo pos (starEach [.Tuple [b1, b2] k p2] X.env)).any (·.1) = false := by rfl) :
    DE X (.Call (.Name x p) [a, .Tuple [b1, b2] k p2] [] pos) (un (dIsi2 t u) ma) :=
  PE.imp (pe_callB call_isiT hg hm hv (pa_cons ha (pa_cons (pe_tup (pa_cons h1 (pa_cons h2 pa_nil he4) he3)) pa_nil he2) he) hn hd he hpl) fun σ H Q h =>
    tE_un (r := fun v H Q => 2 ≤ sizeLine ∧ ∀ p, H p = none → rIsiT X.K [v, .ref p] (upd H p (.tup [.ty t.nm, .ty u.nm])) Q) (by
      intro H M O π ρ σ v1 d1 res Q h r1 e q
      obtain ⟨n, e1, rfl⟩ := Option.map_eq_some_iff.mp e
      refine ⟨by decide, fun p hp => ?_⟩
      have r1' : VW X.K (upd H p (.tup [.ty t.nm, .ty u.nm])) M v1 d1 := by
        cases d1 with
        | list ds =>
          obtain ⟨a, vs, e, hr, rs⟩ := r1.inL
          refine ⟨a, vs, e, ?_, rs.tr (alloc_tr h hp)⟩
          rcases hr with hr | ⟨o, hr⟩
          · exact .inl (by rw [upd_ne (fun z => by rw [z, hp] at hr; cases hr)]; exact hr)
          · exact .inr ⟨o, by rw [upd_ne (fun z => by rw [z, hp] at hr; cases hr)]; exact hr⟩
        | _ => exact Rep.tr (alloc_tr h hp) r1
      exact ⟨v1, p, _, _, _, _, rfl, upd_same, .cons (.ty _) (.cons (.ty _) .nil), tyx_of r1' e1, kit_is2 t u e1, q _ _ M (.alloc h hp) (h.alloc hp) (.bl _)⟩) h
end
end Vi

namespace Vi
open PySem PySem.Spec PyProof.Rows L2

inductive Fl where
  | next | brk | cont
  | ret (r : Sv)
abbrev MS := Fm → Option (Fl × Fm)
/-- what a def hands back -/
def RV (K : PySem.W.Frag) (H : Hp) (M O : Mset) (ρ : Fm) (σ : St) : Sv → V → Prop
  | .imm d, v => Rep K H M v d
  | .own b ds, v => ∃ p vs, v = .ref p ∧ H p = some (cell b p vs ds) ∧ M p ∧ ¬ O p ∧ Reps K H M vs ds ∧ ∀ (i : Nat) (es : List D), ρ[i]? = some (some (.own .par es)) → σ[i]? ≠ some (some (.ref p))
def SPost (K : PySem.W.Frag) (H : Hp) (M O : Mset) (π : Nat → Option Addr) (D : Ends) (ρ' : Fm) : Fl → Prop
  | .next => ∀ σ' H' M', Ext O H M H' M' → SR K H' M' O π ρ' σ' → D.nx σ' H'
  | .brk => ∀ σ' H' M', Ext O H M H' M' → SR K H' M' O π ρ' σ' → D.bk σ' H'
  | .cont => ∀ σ' H' M', Ext O H M H' M' → SR K H' M' O π ρ' σ' → D.ct σ' H'
  | .ret r => ∀ v σ' H' M', Ext O H M H' M' → SR K H' M' O π ρ' σ' → RV K H' M' O ρ' σ' r v → D.rt v H'
def tS (K : PySem.W.Frag) (m : MS) : TS := fun D σ H => ∃ ρ M O π fl ρ', SR K H M O π ρ σ ∧ m ρ = some (fl, ρ') ∧ SPost K H M O π D ρ' fl
def DS (X : Cx) (s : Stmt) (m : MS) : Prop := PS X s (tS X.K m)
def DSs (X : Cx) (s : List Stmt) (m : MS) : Prop := PSs X s (tS X.K m)
theorem SPost.later {K : PySem.W.Frag} {H H1 : Hp} {M M1 O O1 : Mset} {π : Nat → Option Addr} {D : Ends} {ρ' : Fm} {fl : Fl} (q : SPost K H M O π D ρ' fl) (x : Ext O H M H1 M1) : SPost K H1 M1 O π D ρ' fl := by
  cases fl with
  | next => exact fun σ' H' M' x' => q σ' H' M' (x.trans x')
  | brk => exact fun σ' H' M' x' => q σ' H' M' (x.trans x')
  | cont => exact fun σ' H' M' x' => q σ' H' M' (x.trans x')
  | ret r => exact fun v σ' H' M' x' => q v σ' H' M' (x.trans x')

/-! ### states behind a store -/
section
variable {K : PySem.W.Frag} {H H' : Hp} {M M' O O' : Mset} {π : Nat → Option Addr} {ρ ρ' : Fm} {σ : St} {pr : PR} {v : V} {d : D} {i : Nat}
theorem SR.setImm (h : SR K H M O π ρ σ) (r : Rep K H M v d) : SR K H M O π (ρ.set i (some (.imm d))) (σ.set i (some v)) := by
  refine ⟨by rw [List.length_set, List.length_set]; exact h.len, h.sub, h.live, fun j e f => ?_, fun j b es f => ?_, fun j k b c es fs x hjk f g => ?_⟩
  · rcases get_set f with ⟨hj, g⟩ | ⟨hj, f⟩
    · subst hj
      have hl : j < ρ.length := by
        have := (List.getElem?_eq_some_iff.mp f).1
        rwa [List.length_set] at this
      cases g
      exact ⟨v, by rw [List.getElem?_set_self (by rw [← h.len]; exact hl)], r⟩
    · rw [List.getElem?_set_ne (Ne.symm hj)]; exact h.imm j e f
  · rcases get_set f with ⟨_, g⟩ | ⟨hj, f⟩
    · cases g
    · rw [List.getElem?_set_ne (Ne.symm hj)]; exact h.own j b es f
  · rcases get_set f with ⟨_, z⟩ | ⟨hj, f⟩
    · cases z
    · rcases get_set g with ⟨_, z⟩ | ⟨hk, g⟩
      · cases z
      · rw [List.getElem?_set_ne (Ne.symm hj), List.getElem?_set_ne (Ne.symm hk)]; exact h.uniq j k b c es fs x hjk f g
theorem SR.setOwnC {p : Addr} {vs : List V} {ds : List D} {b : Kd} (h : SR K H M O π ρ σ) (hb : b ≠ .par) (e1 : H p = some (cell b p vs ds)) (e2 : M p) (e3 : ¬ O p) (r : Reps K H M vs ds) (ha : Apart ρ σ p) : SR K H M O π (ρ.set i (some (.own b ds))) (σ.set i (some (.ref p))) := by
  refine ⟨by rw [List.length_set, List.length_set]; exact h.len, h.sub, h.live, fun j e f => ?_, fun j b es f => ?_, fun j k b c es fs x hjk f g => ?_⟩
  · rcases get_set f with ⟨_, g⟩ | ⟨hj, f⟩
    · cases g
    · rw [List.getElem?_set_ne (Ne.symm hj)]; exact h.imm j e f
  · rcases get_set f with ⟨hj, g⟩ | ⟨hj, f⟩
    · subst hj
      have hl : j < ρ.length := by
        have := (List.getElem?_eq_some_iff.mp f).1
        rwa [List.length_set] at this
      cases g
      exact ⟨p, vs, by rw [List.getElem?_set_self (by rw [← h.len]; exact hl)], e1, e2, e3, r, fun z => absurd z hb⟩
    · rw [List.getElem?_set_ne (Ne.symm hj)]; exact h.own j b es f
  · rcases get_set f with ⟨hj, z⟩ | ⟨hj, f'⟩
    · cases z
      rcases get_set g with ⟨hk, z⟩ | ⟨hk, g'⟩
      · exact absurd (hj.trans hk.symm) hjk
      · subst hj
        intro q q2
        have hl : j < ρ.length := by
          have := (List.getElem?_eq_some_iff.mp f).1
          rwa [List.length_set] at this
        rw [List.getElem?_set_self (by rw [← h.len]; exact hl)] at q
        cases q
        rw [List.getElem?_set_ne (Ne.symm hk)] at q2
        exact ha k c fs g' q2
    · rcases get_set g with ⟨hk, z⟩ | ⟨hk, g'⟩
      · cases z
        subst hk
        rw [List.getElem?_set_ne (Ne.symm hj)]
        intro q q2
        have hl : k < ρ.length := by
          have := (List.getElem?_eq_some_iff.mp g).1
          rwa [List.length_set] at this
        rw [List.getElem?_set_self (by rw [← h.len]; exact hl)] at q2
        cases q2
        exact ha j b es f' q
      · rw [List.getElem?_set_ne (Ne.symm hj), List.getElem?_set_ne (Ne.symm hk)]; exact h.uniq j k b c es fs x hjk f' g'
theorem SR.setOwn {p : Addr} {vs : List V} {ds : List D} (h : SR K H M O π ρ σ) (e1 : H p = some (.lst vs)) (e2 : M p) (e3 : ¬ O p) (r : Reps K H M vs ds) (ha : Apart ρ σ p) : SR K H M O π (ρ.set i (some (.own .loc ds))) (σ.set i (some (.ref p))) := h.setOwnC (b := .loc) (fun z => by cases z) e1 e2 e3 r ha
theorem get_set_same {α : Type} {l : List α} {i : Nat} {x y : α} (h : l[i]? = some y) : (l.set i x)[i]? = some x := by
  rw [List.getElem?_set_self (List.getElem?_eq_some_iff.mp h).1]
/-- the list that a name owns is written -/
theorem SR.writeC {a : Addr} {b : Kd} {ws : List V} {ds es : List D} (h : SR K H M O π ρ σ) (e : ρ[i]? = some (some (.own b ds))) (e1 : σ[i]? = some (some (.ref a))) (r : Reps K H M ws es) :
    SR K (upd H a (cell b a ws es)) M O π (ρ.set i (some (.own b es))) σ ∧ Ext O H M (upd H a (cell b a ws es)) M ∧ ∀ x u, Rd H x u → ¬ M x → Rd (upd H a (cell b a ws es)) x u ∧ ¬ M x := by
  obtain ⟨a', vs', f1, f2, f3, f4, f5, f6⟩ := h.own i b ds e
  rw [e1] at f1; cases f1
  have t : ∀ x u, Rd H x u → ¬ M x → Rd (upd H a (cell b a ws es)) x u ∧ ¬ M x := fun x u q n => by
    have ne : x ≠ a := fun z => n (z ▸ f3)
    refine ⟨?_, n⟩
    rcases q with q | ⟨o, q⟩
    · exact .inl (by rw [upd_ne ne]; exact q)
    · exact .inr ⟨o, by rw [upd_ne ne]; exact q⟩
  refine ⟨⟨by rw [List.length_set]; exact h.len, h.sub, fun x q => ?_, fun j d f => ?_, fun j c fs f => ?_, fun j k b' c fs gs x hjk f g => ?_⟩, ⟨fun x o q z => ?_, h.sub, fun x q => .inl q⟩, t⟩
  · by_cases hx : x = a
    · subst hx; rw [upd_same]; intro z; exact absurd z (by simp)
    · rw [upd_ne hx]; exact h.live x q
  · rcases get_set f with ⟨_, z⟩ | ⟨hj, f⟩
    · cases z
    · obtain ⟨w, g1, g2⟩ := h.imm j d f
      exact ⟨w, g1, g2.tr t⟩
  · rcases get_set f with ⟨hj, z⟩ | ⟨hj, f⟩
    · cases z
      subst hj
      exact ⟨a, ws, e1, upd_same, f3, f4, r.tr t, f6⟩
    · obtain ⟨x, us, g1, g2, g3, g4, g5, g6⟩ := h.own j c fs f
      have ne : x ≠ a := fun z => by
        subst z
        exact h.uniq i j _ _ _ _ x (Ne.symm hj) e f e1 g1
      exact ⟨x, us, g1, by rw [upd_ne ne]; exact g2, g3, g4, g5.tr t, g6⟩
  · rcases get_set f with ⟨hj, z⟩ | ⟨hj, f'⟩
    · cases z
      rcases get_set g with ⟨hk, z⟩ | ⟨hk, g'⟩
      · exact absurd (hj.trans hk.symm) hjk
      · subst hj; exact h.uniq j k _ _ _ _ x hjk e g'
    · rcases get_set g with ⟨hk, z⟩ | ⟨hk, g'⟩
      · cases z; subst hk; exact h.uniq j k _ _ _ _ x hjk f' e
      · exact h.uniq j k _ _ _ _ x hjk f' g'
  · refine (upd_ne (fun hx => ?_)).trans q
    subst hx
    exact z.elim f4 fun n => n f3
theorem SR.write {a : Addr} {b : Kd} {ws : List V} {ds es : List D} (h : SR K H M O π ρ σ) (e : ρ[i]? = some (some (.own b ds))) (hb : b.isL = true) (e1 : σ[i]? = some (some (.ref a))) (r : Reps K H M ws es) :
    SR K (upd H a (.lst ws)) M O π (ρ.set i (some (.own b es))) σ ∧ Ext O H M (upd H a (.lst ws)) M ∧ ∀ x u, Rd H x u → ¬ M x → Rd (upd H a (.lst ws)) x u ∧ ¬ M x := by
  have q := h.writeC e e1 r
  rw [cell_lst hb] at q
  exact q
/-- a name's own list -/
theorem isL_of {b : Kd} (h : b = .dic → False) : b.isL = true := by cases b <;> first | rfl | exact absurd rfl h
theorem SR.ownL {b : Kd} {ds : List D} (h : SR K H M O π ρ σ) (e : ρ[i]? = some (some (.own b ds))) (hb : b.isL = true) : ∃ a vs, σ[i]? = some (some (.ref a)) ∧ H a = some (.lst vs) ∧ M a ∧ ¬ O a ∧ Reps K H M vs ds ∧ (b = .par → π i = some a) := by
  have q := h.own i b ds e
  simp only [cell_lst hb] at q
  exact q
/-- a value that a name is to hold -/
def take (ρ : Fm) : PR → Option (Sv × Fm)
  | .val (.imm d) => some (.imm d, ρ)
  | .val (.own .dic ds) => some (.own .dic ds, ρ)
  | .val (.own _ ds) => some (.own .loc ds, ρ)
  | .slot j => match frz ρ (.slot j) with
    | some (d, ρ1) => some (.imm d, ρ1)
    | none => none
def put (i : Nat) (pr : PR) (ρ : Fm) : Option Fm := match take ρ pr with
  | some (sv, ρ1) => some (ρ1.set i (some sv))
  | none => none
theorem put_ok (h : SR K H M O π ρ σ) (r : RP K H M O ρ σ pr v) (e : put i pr ρ = some ρ') : ∃ M', Ext O H M H M' ∧ SR K H M' O π ρ' (σ.set i (some v)) := by
  unfold put at e
  match pr, v, r with
  | .val (.imm d), v, r =>
    cases e
    exact ⟨M, .refl h, h.setImm r⟩
  | .val (.own b ds), v, ⟨p, vs, e1, e2, e3, e4, e5, e6⟩ =>
    subst e1
    cases b with
    | dic => cases e; exact ⟨M, .refl h, h.setOwnC (fun z => by cases z) e2 e3 e4 e5 e6⟩
    | loc => cases e; exact ⟨M, .refl h, h.setOwn e2 e3 e4 e5 e6⟩
    | par => cases e; exact ⟨M, .refl h, h.setOwn e2 e3 e4 e5 e6⟩
  | .slot j, v, r =>
    unfold take at e
    simp only at e
    cases ef : frz ρ (.slot j) with
    | none => rw [ef] at e; cases e
    | some dρ =>
      obtain ⟨d, ρ1⟩ := dρ
      rw [ef] at e
      cases e
      obtain ⟨M', x, s, rr⟩ := frz_ok h r ef
      exact ⟨M', x, s.setImm rr⟩
def give (ρ : Fm) : PR → Option Sv
  | .val s => some s
  | .slot i => match ρ[i]? with
    | some (some (.imm d)) => some (.imm d)
    | some (some (.own .loc ds)) => some (.own .loc ds)
    | some (some (.own .dic ds)) => some (.own .dic ds)
    | _ => none
theorem give_ok {r : Sv} (h : SR K H M O π ρ σ) (q : RP K H M O ρ σ pr v) (e : give ρ pr = some r) : RV K H M O ρ σ r v := by
  match pr, v, q with
  | .val (.imm d), v, q => cases e; exact q
  | .val (.own b ds), v, ⟨p, vs, e1, e2, e3, e4, e5, e6⟩ => cases e; exact ⟨p, vs, e1, e2, e3, e4, e5, fun i es f => e6 i .par es f⟩
  | .slot i, v, q =>
    have q' : σ[i]? = some (some v) := q
    unfold give at e
    simp only at e
    split at e
    · rename_i d hs
      cases e
      obtain ⟨w, f1, f2⟩ := h.imm i _ hs
      rw [q'] at f1; cases f1; exact f2
    · rename_i ds hs
      cases e
      obtain ⟨a, vs, f1, f2, f3, f4, f5, f6⟩ := h.own i _ ds hs
      rw [q'] at f1; cases f1
      exact ⟨a, vs, rfl, f2, f3, f4, f5, fun j es f g => by
        by_cases hij : i = j
        · subst hij; rw [hs] at f; cases f
        · exact h.uniq i j _ _ _ _ a hij hs f q' g⟩
    · rename_i ds hs
      cases e
      obtain ⟨a, vs, f1, f2, f3, f4, f5, f6⟩ := h.own i _ ds hs
      rw [q'] at f1; cases f1
      exact ⟨a, vs, rfl, f2, f3, f4, f5, fun j es f g => by
        by_cases hij : i = j
        · subst hij; rw [hs] at f; cases f
        · exact h.uniq i j _ _ _ _ a hij hs f q' g⟩
    · cases e
end

section
variable {X : Cx} {st : Stmt} {rest sa sb : List Stmt} {e : Expr} {me : ME} {m n : MS} {mt : MT} {pos : Pos}
/-! ### blocks -/
def mNext : MS := fun ρ => some (.next, ρ)
def mSeq (m n : MS) : MS := fun ρ => match m ρ with
  | some (.next, ρ1) => n ρ1
  | some (.brk, ρ1) => some (.brk, ρ1)
  | some (.cont, ρ1) => some (.cont, ρ1)
  | some (.ret r, ρ1) => some (.ret r, ρ1)
  | none => none
theorem dss_nil : DSs X [] mNext := PSs.imp pss_nil fun D σ H ⟨ρ, M, O, π, fl, ρ', h, e, q⟩ => by
  cases e
  exact q σ H M (.refl h) h
theorem dss_one (h : DS X st m) : DSs X [st] m := pss_one h
theorem dss_cons (h1 : DS X st m) (h2 : DSs X rest n) : DSs X (st :: rest) (mSeq m n) := PSs.imp (pss_cons h1 h2) fun D σ H ⟨ρ, M, O, π, fl, ρ', h, e, q⟩ => by
  unfold mSeq at e
  split at e
  · rename_i ρ1 e1
    exact ⟨ρ, M, O, π, .next, ρ1, h, e1, fun σ1 H1 M1 x1 s1 => ⟨ρ1, M1, O, π, fl, ρ', s1, e, q.later (O1 := O) x1⟩⟩
  · rename_i ρ1 e1
    cases e
    exact ⟨ρ, M, O, π, .brk, _, h, e1, q⟩
  · rename_i ρ1 e1
    cases e
    exact ⟨ρ, M, O, π, .cont, _, h, e1, q⟩
  · rename_i r ρ1 e1
    cases e
    exact ⟨ρ, M, O, π, .ret r, _, h, e1, q⟩
  · cases e
def mBrk : MS := fun ρ => some (.brk, ρ)
def mCont : MS := fun ρ => some (.cont, ρ)
theorem ds_pass : DS X (.Pass pos) mNext := PS.imp ps_pass fun D σ H ⟨ρ, M, O, π, fl, ρ', h, e, q⟩ => by
  cases e
  exact q σ H M (.refl h) h
theorem ds_brk : DS X (.Break pos) mBrk := PS.imp ps_break fun D σ H ⟨ρ, M, O, π, fl, ρ', h, e, q⟩ => by
  cases e
  exact q σ H M (.refl h) h
theorem ds_cont : DS X (.Continue pos) mCont := PS.imp ps_continue fun D σ H ⟨ρ, M, O, π, fl, ρ', h, e, q⟩ => by
  cases e
  exact q σ H M (.refl h) h
/-- a raise (or whatever is never come to) -/
def mNever : MS := fun _ => none
theorem ds_never : DS X st mNever := PS.imp ps_never fun D σ H ⟨ρ, M, O, π, fl, ρ', h, e, q⟩ => by cases e
def mIfS (c : MT) (m n : MS) : MS := fun ρ => match c ρ with
  | some (true, ρ1) => m ρ1
  | some (false, ρ1) => n ρ1
  | none => none
theorem ds_if {c : Expr} (hc : DT X c mt) (ha : DSs X sa m) (hb : DSs X sb n) : DS X (.If c sa sb pos) (mIfS mt m n) := PS.imp (ps_if hc ha hb) fun D σ H ⟨ρ, M, O, π, fl, ρ', h, e, q⟩ => by
  unfold mIfS at e
  split at e
  · rename_i ρ1 e1
    exact ⟨ρ, M, O, π, true, ρ1, h, e1, fun H1 M1 x1 s1 => iteT ⟨ρ1, M1, O, π, fl, ρ', s1, e, q.later (O1 := O) x1⟩⟩
  · rename_i ρ1 e1
    exact ⟨ρ, M, O, π, false, ρ1, h, e1, fun H1 M1 x1 s1 => iteF ⟨ρ1, M1, O, π, fl, ρ', s1, e, q.later (O1 := O) x1⟩⟩
  · cases e
def mRet (me : ME) : MS := fun ρ => match me ρ with
  | some (pr, ρ1) => match give ρ1 pr with
    | some r => some (.ret r, ρ1)
    | none => none
  | none => none
theorem ds_ret (he : DE X e me) : DS X (.Return (some e) pos) (mRet me) := PS.imp (ps_ret he) fun D σ H ⟨ρ, M, O, π, fl, ρ', h, e, q⟩ => by
  unfold mRet at e
  split at e
  · rename_i pr ρ1 e1
    split at e
    · rename_i r e2
      cases e
      exact ⟨ρ, M, O, π, pr, _, h, e1, fun v H1 M1 x1 s1 r1 => q v σ H1 M1 x1 s1 (give_ok s1 r1 e2)⟩
    · cases e
  · cases e
def mRetN : MS := fun ρ => some (.ret (.imm .none), ρ)
theorem ds_retN : DS X (.Return none pos) mRetN := PS.imp ps_retN fun D σ H ⟨ρ, M, O, π, fl, ρ', h, e, q⟩ => by
  cases e
  exact q .non σ H M (.refl h) h .non
/-- x = e -/
def mSet (i : Nat) (me : ME) : MS := fun ρ => match me ρ with
  | some (pr, ρ1) => match put i pr ρ1 with
    | some ρ2 => some (.next, ρ2)
    | none => none
  | none => none
theorem ds_set {i : Nat} (h : ∀ te, PE X e te → PS X st (tAsg te (gName i))) (he : DE X e me) : DS X st (mSet i me) := PS.imp (h _ he) fun D σ H ⟨ρ, M, O, π, fl, ρ', h, e, q⟩ => by
  unfold mSet at e
  split at e
  · rename_i pr ρ1 e1
    split at e
    · rename_i ρ2 e2
      cases e
      refine ⟨ρ, M, O, π, pr, ρ1, h, e1, fun v H1 M1 x1 s1 r1 => ?_⟩
      obtain ⟨M2, x2, s2⟩ := put_ok s1 r1 e2
      exact q _ H1 M2 (x1.trans x2) s2
    · cases e
  · cases e
/-- an expression whose value is dropped -/
def mDrop (me : ME) : MS := fun ρ => match me ρ with
  | some (_, ρ1) => some (.next, ρ1)
  | none => none
theorem ds_expr (he : DE X e me) (hs : swapsWith e none pos.line X.env = pure false := by rfl) : DS X (.Expr e pos) (mDrop me) := PS.imp (ps_expr he hs) fun D σ H ⟨ρ, M, O, π, fl, ρ', h, e, q⟩ => by
  unfold mDrop at e
  split at e
  · rename_i pr ρ1 e1
    cases e
    exact ⟨ρ, M, O, π, pr, _, h, e1, fun v H1 M1 x1 s1 r1 => q σ H1 M1 x1 s1⟩
  · cases e
theorem ds_doc {x j pos'} : DS X (.Expr (.Constant (.str x) j pos) pos') mNext := PS.imp ps_doc fun D σ H ⟨ρ, M, O, π, fl, ρ', h, e, q⟩ => by
  cases e
  exact q σ H M (.refl h) h

/-! ### methods that change a name's list -/
/-- x.append(e), as an expression -/
def mApp (i : Nat) (me : ME) : ME := fun ρ => match ρ[i]? with
  | some (some (.own .dic _)) => none
  | some (some (.own _ _)) => match me ρ with
    | some (pr, ρ1) => match frz ρ1 pr with
      | some (d, ρ2) => match ρ2[i]? with
        | some (some (.own .dic _)) => none
        | some (some (.own b ds)) => if fits (ds.length + 1) = true then some (.val (.imm .none), ρ2.set i (some (.own b (ds ++ [d])))) else none
        | _ => none
      | none => none
    | none => none
  | _ => none
theorem de_app {i : Nat} (h : ∀ t, PA X [e] t → PE X st_e (tBM X.K "list" rAppend (tVar i) t)) (he : DE X e me) (hs : starEach (e :: []) X.env = (false, eval e X.env) :: starEach [] X.env := by rfl) : DE X st_e (mApp i me) :=
  PE.imp (h _ (pa_cons he pa_nil hs)) fun σ H Q ⟨ρ, M, O, π, fl, ρ', h, e, q⟩ => by
    unfold mApp at e
    split at e
    · cases e
    · rename_i b0 ds0 hne0 e0
      obtain ⟨a, vs, f1, f2, f3, f4, f5, f6⟩ := h.ownL e0 (isL_of hne0)
      refine ⟨.ref a, f1, .inl ⟨rfl, vs, .inl (.inl f2)⟩, ?_⟩
      split at e
      · rename_i pr ρ1 e1
        split at e
        · rename_i d ρ2 e2
          split at e
          · cases e
          · rename_i b ds hne3 e3
            split at e
            · rename_i hz
              cases e
              refine ⟨ρ, M, O, π, pr, ρ1, h, e1, fun v H1 M1 x1 s1 r1 => ?_⟩
              obtain ⟨M2, x2, s2, r2⟩ := frz_ok s1 r1 e2
              obtain ⟨a', ws, g1, g2, g3, g4, g5, g6⟩ := s2.ownL e3 (isL_of hne3)
              rw [f1] at g1; cases g1
              obtain ⟨s3, x3, t3⟩ := s2.write (ws := ws ++ [v]) (es := ds ++ [d]) e3 (isL_of hne3) f1 (g5.append (.cons r2 .nil))
              exact ⟨a, ws, v, rfl, rfl, g2, by have := fits_le hz; rw [g5.length]; omega, q _ _ M2 ((x1.trans x2).trans x3) s3 .non⟩
            · cases e
          · cases e
        · cases e
      · cases e
    · cases e
/-- x.pop(k) -/
def mPopAt (i : Nat) (me : ME) : ME := fun ρ => match ρ[i]? with
  | some (some (.own .dic _)) => none
  | some (some (.own _ _)) => match me ρ with
    | some (pr, ρ1) => match peek ρ1 pr with
      | some (.int k) => match ρ1[i]? with
        | some (some (.own .dic _)) => none
        | some (some (.own b ds)) => match seqIndex? k ds.length with
          | some j => match ds[j]? with
            | some d => if decide (-(2 ^ 63) ≤ k ∧ k < 2 ^ 63) = true then some (.val (.imm d), ρ1.set i (some (.own b (ds.eraseIdx j)))) else none
            | none => none
          | none => none
        | _ => none
      | _ => none
    | none => none
  | _ => none
theorem de_popAt {i : Nat} (h : ∀ t, PA X [e] t → PE X st_e (tBM X.K "list" rPopAt (tVar i) t)) (he : DE X e me) (hs : starEach (e :: []) X.env = (false, eval e X.env) :: starEach [] X.env := by rfl) : DE X st_e (mPopAt i me) :=
  PE.imp (h _ (pa_cons he pa_nil hs)) fun σ H Q ⟨ρ, M, O, π, fl, ρ', h, e, q⟩ => by
    unfold mPopAt at e
    split at e
    · cases e
    · rename_i b0 ds0 hne0 e0
      obtain ⟨a, vs, f1, f2, f3, f4, f5, f6⟩ := h.ownL e0 (isL_of hne0)
      refine ⟨.ref a, f1, .inl ⟨rfl, vs, .inl (.inl f2)⟩, ?_⟩
      split at e
      · rename_i pr ρ1 e1
        split at e
        · rename_i k e2
          split at e
          · cases e
          · rename_i b ds hne3 e3
            split at e
            · rename_i j ej
              split at e
              · rename_i d ed
                split at e
                · rename_i hz
                  cases e
                  have hz' := of_decide_eq_true hz
                  refine ⟨ρ, M, O, π, pr, ρ1, h, e1, fun v H1 M1 x1 s1 r1 => ?_⟩
                  obtain ⟨a', ws, g1, g2, g3, g4, g5, g6⟩ := s1.ownL e3 (isL_of hne3)
                  rw [f1] at g1; cases g1
                  obtain ⟨w, hw, rw'⟩ := g5.get ed
                  obtain ⟨s3, x3, t3⟩ := s1.write (ws := ws.eraseIdx j) (es := ds.eraseIdx j) e3 (isL_of hne3) f1 (g5.erase j)
                  exact ⟨a, ws, k, j, w, rfl, by rw [(peek_vw s1 r1 e2).inI], g2, hz'.1, hz'.2, by rw [g5.length]; exact ej, hw, q _ _ M1 (x1.trans x3) s3 (rw'.tr t3)⟩
                · cases e
              · cases e
            · cases e
          · cases e
        · cases e
      · cases e
    · cases e
/-- x[k] = e -/
def mStore (i : Nat) (mk me : ME) : MS := fun ρ => match me ρ with
  | some (pr, ρ1) => match frz ρ1 pr with
    | some (d, ρ2) => match ρ2[i]? with
      | some (some (.own .dic _)) => none
      | some (some (.own _ _)) => match mk ρ2 with
        | some (pk, ρ3) => match peek ρ3 pk with
          | some (.int k) => match ρ3[i]? with
            | some (some (.own .dic _)) => none
            | some (some (.own b ds)) => match ixN ds.length k with
              | some j => some (.next, ρ3.set i (some (.own b (ds.set j d))))
              | none => none
            | _ => none
          | _ => none
        | none => none
      | _ => none
    | none => none
  | none => none
theorem ds_store {i : Nat} {k : Expr} {mk : ME} (h : ∀ te tk, PE X e te → PE X k tk → PS X st (tAsg te (gSub (tVar i) tk rSetL))) (he : DE X e me) (hk : DE X k mk) : DS X st (mStore i mk me) :=
  PS.imp (h _ _ he hk) fun D σ H ⟨ρ, M, O, π, fl, ρ', h, e, q⟩ => by
    unfold mStore at e
    split at e
    · rename_i pr ρ1 e1
      split at e
      · rename_i d ρ2 e2
        split at e
        · cases e
        · rename_i b0 ds0 hne0 e0
          split at e
          · rename_i pk ρ3 e3
            split at e
            · rename_i k e4
              split at e
              · cases e
              · rename_i b ds hne5 e5
                split at e
                · rename_i j ej
                  cases e
                  refine ⟨ρ, M, O, π, pr, ρ1, h, e1, fun v H1 M1 x1 s1 r1 => ?_⟩
                  obtain ⟨M2, x2, s2, r2⟩ := frz_ok s1 r1 e2
                  obtain ⟨a, vs, f1, f2, f3, f4, f5, f6⟩ := s2.ownL e0 (isL_of hne0)
                  refine ⟨.ref a, f1, ρ2, M2, O, π, pk, ρ3, s2, e3, fun w H3 M3 x3 s3 r3 => ?_⟩
                  obtain ⟨a', ws, g1, g2, g3, g4, g5, g6⟩ := s3.ownL e5 (isL_of hne5)
                  rw [f1] at g1; cases g1
                  obtain ⟨s4, x4, t4⟩ := s3.write (ws := ws.set j v) (es := ds.set j d) e5 (isL_of hne5) f1 (g5.set j (r2.tr x3.tr))
                  exact ⟨a, ws, k, j, rfl, (peek_vw s3 r3 e4).inI, g2, by rw [g5.length]; exact ej, q _ _ M3 (((x1.trans x2).trans x3).trans x4) s4⟩
                · cases e
              · cases e
            · cases e
          · cases e
        · cases e
      · cases e
    · cases e
end
end Vi

namespace Vi
open PySem PySem.Spec PyProof.Rows L2

/-- what was fixed stays -/
abbrev Lat (H0 : Hp) (M0 : Mset) (H : Hp) (M : Mset) : Prop := ∀ a u, Rd H0 a u → ¬ M0 a → Rd H a u ∧ ¬ M a
theorem Lat.trans {H0 H1 H2 : Hp} {M0 M1 M2 : Mset} (a : Lat H0 M0 H1 M1) (b : Lat H1 M1 H2 M2) : Lat H0 M0 H2 M2 := fun x u h n => b x u (a x u h n).1 (a x u h n).2

/-! ### targets -/
abbrev MG := D → Fm → Option Fm
def tG (K : PySem.W.Frag) (m : MG) (ts : List Nat) : TG := fun v σ H Q => ∃ ρ M O π d ρ', SR K H M O π ρ σ ∧ Rep K H M v d ∧ m d ρ = some ρ' ∧ ∀ σ', SR K H M O π ρ' σ' → (∀ j, j ∉ ts → σ'[j]? = σ[j]?) → σ'.length = σ.length → Q σ' H
def DG (X : Cx) (tg : Expr) (m : MG) (ts : List Nat) : Prop := PG X tg (tG X.K m ts)
theorem _root_.L2.PG.imp {X : Cx} {e : Expr} {t t' : TG} (h : PG X e t) (i : ∀ v σ H Q, t' v σ H Q → t v σ H Q) : PG X e t' := ⟨fun pins s σ H v u Q I r q => h.run pins s σ H v u Q I r (i v σ H Q q)⟩
theorem _root_.L2.PGs.imp {X : Cx} {e : List Expr} {t t' : TGs} (h : PGs X e t) (i : ∀ v σ H Q, t' v σ H Q → t v σ H Q) : PGs X e t' := ⟨fun pins s σ H v u Q I r q => h.run pins s σ H v u Q I r (i v σ H Q q)⟩
def mN (i : Nat) : MG := fun d ρ => some (ρ.set i (some (.imm d)))
section
variable {X : Cx} {tg e : Expr} {es : List Expr} {pos : Pos}
theorem dg_name {i : Nat} (h : PG X e (gName i)) : DG X e (mN i) [i] := PG.imp h fun v σ H Q ⟨ρ, M, O, π, d, ρ', hs, r, e, q⟩ => by
  cases e
  exact q _ (hs.setImm r) (fun j hj => List.getElem?_set_ne (fun z => hj (by simp [z]))) (List.length_set ..)
abbrev MGs := List D → Fm → Option Fm
def tGs (K : PySem.W.Frag) (m : MGs) (ts : List Nat) : TGs := fun vs σ H Q => ∃ ρ M O π ds ρ', SR K H M O π ρ σ ∧ Reps K H M vs ds ∧ m ds ρ = some ρ' ∧ ∀ σ', SR K H M O π ρ' σ' → (∀ j, j ∉ ts → σ'[j]? = σ[j]?) → σ'.length = σ.length → Q σ' H
def DGs (X : Cx) (tg : List Expr) (m : MGs) (ts : List Nat) : Prop := PGs X tg (tGs X.K m ts)
def mGnil : MGs := fun ds ρ => match ds with
  | [] => some ρ
  | _ :: _ => none
def mGcons (m : MG) (n : MGs) : MGs := fun ds ρ => match ds with
  | [] => none
  | d :: ds => match m d ρ with
    | some ρ1 => n ds ρ1
    | none => none
theorem dgs_nil : DGs X [] mGnil [] := PGs.imp pgs_nil fun vs σ H Q ⟨ρ, M, O, π, ds, ρ', hs, r, e, q⟩ => by
  unfold mGnil at e
  split at e
  · cases e
    cases r
    exact ⟨rfl, q σ hs (fun _ _ => rfl) rfl⟩
  · cases e
theorem dgs_cons {m : MG} {n : MGs} {ts us : List Nat} (h1 : DG X e m ts) (h2 : DGs X es n us) (hs : (assignEach (e :: es) X.env).map (·.2) = assign e X.env :: (assignEach es X.env).map (·.2) := by rfl) : DGs X (e :: es) (mGcons m n) (ts ++ us) :=
  PGs.imp (pgs_cons h1 h2 hs) fun vs σ H Q ⟨ρ, M, O, π, ds, ρ', hs, r, e, q⟩ => by
    unfold mGcons at e
    split at e
    · cases e
    · rename_i d ds
      cases r with
      | @cons v vs d ds rv rr =>
        split at e
        · rename_i ρ1 e1
          refine ⟨v, vs, rfl, ρ, M, O, π, d, ρ1, hs, rv, e1, fun σ1 s1 f1 l1 => ⟨ρ1, M, O, π, ds, ρ', s1, rr, e, fun σ2 s2 f2 l2 => q σ2 s2 (fun j hj => ?_) (l2.trans l1)⟩⟩
          rw [List.mem_append, not_or] at hj
          rw [f2 j hj.2, f1 j hj.1]
        · cases e
def mGtup (k : Nat) (n : MGs) : MG := fun d ρ => match d with
  | .tuple ds => if ds.length = k then n ds ρ else none
  | _ => none
theorem dg_tup {k : Nat} {n : MGs} {ts : List Nat} {kk : Nat} (hc : X.calm = true) (h : DGs X es n ts) (hn : (assignEach es X.env).length = k := by rfl) (hst : (assignEach es X.env).findIdx? (·.1) = none := by rfl) : DG X (.Tuple es kk pos) (mGtup k n) ts :=
  PG.imp (pg_tup hc h hn hst) fun v σ H Q ⟨ρ, M, O, π, d, ρ', hs, r, e, q⟩ => by
    unfold mGtup at e
    split at e
    · rename_i ds
      split at e
      · rename_i hl
        cases r with
        | tup ht rr => exact ⟨_, _, rfl, ht.sq, by rw [rr.length]; exact hl, ρ, M, O, π, ds, ρ', hs, rr, e, q⟩
      · cases e
    · cases e

/-! ### what is walked -/
def YD (K : PySem.W.Frag) (H : Hp) (M : Mset) (x : V) (H' : Hp) (d : D) : Prop :=
  (H' = H ∧ Rep K H M x d) ∨ ∃ T vs es, x = .ref T ∧ H T = none ∧ H' = upd H T (.tup vs) ∧ d = .tuple es ∧ Reps K H M vs es
structure Src (K : PySem.W.Frag) (J : It) (ds : List D) (H0 : Hp) (M0 : Mset) : Prop where
  go : ∀ H M, Lat H0 M0 H M → ∀ i, i < ds.length → J.go i H
  stop : ∀ H M, Lat H0 M0 H M → J.stop ds.length H
  yld : ∀ H M, Lat H0 M0 H M → ∀ (i : Nat) d x H', ds[i]? = some d → J.yld i H x H' → YD K H M x H' d
theorem YD.ok {K : PySem.W.Frag} {H : Hp} {M O : Mset} {π : Nat → Option Addr} {ρ : Fm} {σ : St} {x : V} {H' : Hp} {d : D} (y : YD K H M x H' d) (h : SR K H M O π ρ σ) : SR K H' M O π ρ σ ∧ Ext O H M H' M ∧ Rep K H' M x d := by
  rcases y with ⟨rfl, r⟩ | ⟨T, vs, es, rfl, hT, rfl, rfl, r⟩
  · exact ⟨h, .refl h, r⟩
  · exact ⟨h.alloc hT, .alloc h hT, .tup (.inl ⟨.inl upd_same, fun z => h.live T z hT⟩) (r.tr (alloc_tr h hT))⟩
abbrev MI := Fm → Option (List D × Fm)
def tI (K : PySem.W.Frag) (m : MI) : TI := fun σ H R => ∃ ρ M O π ds ρ', SR K H M O π ρ σ ∧ m ρ = some (ds, ρ') ∧ ∀ J H' M', Ext O H M H' M' → SR K H' M' O π ρ' σ → Src K J ds H' M' → R J H'
def DI (X : Cx) (tg iter : Expr) (m : MI) : Prop := PI X tg iter (tI X.K m)
theorem _root_.L2.PI.imp {X : Cx} {tg e : Expr} {t t' : TI} (h : PI X tg e t) (i : ∀ σ H Q, t' σ H Q → t σ H Q) : PI X tg e t' := ⟨fun pins s σ H Q I q => h.run pins s σ H Q I (i σ H Q q)⟩
def iSeq (K : PySem.W.Frag) (tl : TE) : TI := fun σ H R => tl σ H fun x H1 => ∃ a, x = .ref a ∧ (((∃ xs, SqL K H1 a xs) ∧ R (Itl K a) H1) ∨ ((∃ xs, SqT K H1 a xs) ∧ R (Itt K a) H1))
theorem pi_seq {l : Expr} {tl : TE} (hl : PE X l tl) : PI X tg l (iSeq X.K tl) := by
  refine ⟨fun pins s σ H R I h => ?_⟩
  refine thn (hl.run pins s σ H _ I h) fun v s1 ⟨x, H1, I1, r1, q1⟩ => ?_
  obtain ⟨a, e, q1⟩ := q1
  subst e
  cases r1
  rcases q1 with ⟨⟨xs, hq⟩, q⟩ | ⟨⟨xs, hq⟩, q⟩
  · obtain ⟨its, rv, p, hz⟩ := I1.list hq
    refine wpAny_pyIter_list p.isList ?_
    refine ⟨s1.heap.objs.size, [s1.heap.objs.size], _, _, H1, rfl, I1.kept (t' := s1.toks) fun b o e => Heap.get?_push_of_some _ e, turn_list a _, ⟨_, Heap.get?_push_size _ rfl, rfl, rfl⟩, fun b hb => ?_, q⟩
    have e : b = s1.heap.objs.size := by simpa using hb
    subst e
    exact I1.fpOk (Nat.le_refl _) (I1.hok.fresh (Nat.le_refl _))
  · obtain ⟨its, rv, p, hz⟩ := I1.tuple hq
    refine wpAny_pyIter_tuple (show s1.heap.IsTuple a its.toArray from p) ?_
    refine ⟨s1.heap.objs.size, [s1.heap.objs.size], _, _, H1, rfl, I1.kept (t' := s1.toks) fun b o e => Heap.get?_push_of_some _ e, turn_tuple a _, ⟨_, Heap.get?_push_size _ rfl, rfl, rfl⟩, fun b hb => ?_, q⟩
    have e : b = s1.heap.objs.size := by simpa using hb
    subst e
    exact I1.fpOk (Nat.le_refl _) (I1.hok.fresh (Nat.le_refl _))
theorem src_list {K : PySem.W.Frag} {H0 : Hp} {M0 : Mset} {a : Addr} {vs : List V} {ds : List D} (h : Rd H0 a (.lst vs)) (n : ¬ M0 a) (r : Reps K H0 M0 vs ds) : Src K (Itl K a) ds H0 M0 where
  go := fun H M l i hi => walk_list.goes i H (by rw [r.length]; exact hi) (.inl (l a _ h n).1)
  stop := fun H M l => by rw [← r.length]; exact walk_list.stops H (.inl (l a _ h n).1)
  yld := fun H M l i d x H' ed y => by
    obtain ⟨v, hv, rv⟩ := r.get ed
    obtain ⟨e1, e2⟩ := walk_list.yields i H x H' (by rw [r.length]; exact (List.getElem?_eq_some_iff.mp ed).1) (.inl (l a _ h n).1) y
    rw [hv] at e2; cases e2
    exact .inl ⟨e1, rv.tr l⟩
theorem tupAt_lat {K : PySem.W.Frag} {H0 H : Hp} {M0 M : Mset} {a : Addr} {vs : List V} (h : TupAt K H0 M0 a vs) (l : Lat H0 M0 H M) : SqT K H a vs := by
  rcases h with ⟨h, n⟩ | h
  · exact .inl (l a _ h n).1
  · exact .inr h
theorem src_tup {K : PySem.W.Frag} {H0 : Hp} {M0 : Mset} {a : Addr} {vs : List V} {ds : List D} (h : TupAt K H0 M0 a vs) (r : Reps K H0 M0 vs ds) : Src K (Itt K a) ds H0 M0 where
  go := fun H M l i hi => walk_tup.goes i H (by rw [r.length]; exact hi) (tupAt_lat h l)
  stop := fun H M l => by rw [← r.length]; exact walk_tup.stops H (tupAt_lat h l)
  yld := fun H M l i d x H' ed y => by
    obtain ⟨v, hv, rv⟩ := r.get ed
    obtain ⟨e1, e2⟩ := walk_tup.yields i H x H' (by rw [r.length]; exact (List.getElem?_eq_some_iff.mp ed).1) (tupAt_lat h l) y
    rw [hv] at e2; cases e2
    exact .inl ⟨e1, rv.tr l⟩
def itemsOf : D → Option (List D)
  | .list ds => some ds
  | .tuple ds => some ds
  | _ => none
def mISeq (me : ME) : MI := fun ρ => match me ρ with
  | some (pr, ρ1) => match frz ρ1 pr with
    | some (d, ρ2) => match itemsOf d with
      | some ds => some (ds, ρ2)
      | none => none
    | none => none
  | none => none
theorem di_seq {me : ME} (he : DE X e me) : DI X tg e (mISeq me) := PI.imp (pi_seq he) fun σ H R ⟨ρ, M, O, π, ds, ρ', h, e, q⟩ => by
  unfold mISeq at e
  split at e
  · rename_i pr ρ1 e1
    split at e
    · rename_i d ρ2 e2
      split at e
      · rename_i ds' e3
        cases e
        refine ⟨ρ, M, O, π, pr, ρ1, h, e1, fun v H1 M1 x1 s1 r1 => ?_⟩
        obtain ⟨M2, x2, s2, r2⟩ := frz_ok s1 r1 e2
        unfold itemsOf at e3
        split at e3
        · cases e3
          cases r2 with
          | lst hr n rr => exact ⟨_, rfl, .inl ⟨⟨_, .inl hr⟩, q _ H1 M2 (x1.trans x2) s2 (src_list hr n rr)⟩⟩
        · cases e3
          cases r2 with
          | tup ht rr => exact ⟨_, rfl, .inr ⟨⟨_, ht.sq⟩, q _ H1 M2 (x1.trans x2) s2 (src_tup ht rr)⟩⟩
        · cases e3
      · cases e
    · cases e
  · cases e
/-- range -/
def rngD (lo : Int) (n : Nat) : List D := (List.range n).map fun k => .int (lo + (k : Nat))
theorem rngD_len (lo : Int) (n : Nat) : (rngD lo n).length = n := by unfold rngD; simp
theorem src_rng {K : PySem.W.Frag} {H0 : Hp} {M0 : Mset} {lo : Int} {n : Nat} : Src K (Itr lo n) (rngD lo n) H0 M0 where
  go := fun H M l i hi => by rw [rngD_len] at hi; exact hi
  stop := fun H M l => by rw [rngD_len]; exact Nat.le_refl _
  yld := fun H M l i d x H' ed y => by
    obtain ⟨e1, e2⟩ := y
    subst e2
    refine .inl ⟨e1, ?_⟩
    unfold rngD at ed
    rw [List.getElem?_map] at ed
    obtain ⟨k, ek, rfl⟩ := Option.map_eq_some_iff.mp ed
    have hk : k = i := by
      obtain ⟨h1, h2⟩ := List.getElem?_eq_some_iff.mp ek
      simpa using h2.symm
    subst hk
    exact .int _
def rngOk (i : Int) : Bool := decide (-(2 ^ 62) ≤ i ∧ i < 2 ^ 62)
def mIRng1 (ma : MA) : MI := fun ρ => match ma ρ with
  | some ([.int j], ρ1) => if rngOk j = true then some (rngD 0 j.toNat, ρ1) else none
  | _ => none
def mIRng2 (ma : MA) : MI := fun ρ => match ma ρ with
  | some ([.int i, .int j], ρ1) => if (rngOk i && rngOk j) = true then some (rngD i (j - i).toNat, ρ1) else none
  | _ => none
theorem di_rng1 {a : Expr} {ma : MA} {p : Pos} (hg : Gl X "range") (hm : X.mg "range" = none) (ha : DA X [a] ma) (hs : starEach [a] X.env = [(false, eval a X.env)] := by rfl) : DI X tg (.Call (.Name "range" p) [a] [] pos) (mIRng1 ma) :=
  PI.imp (pi_range1 hg hm ha hs) fun σ H R ⟨ρ, M, O, π, ds, ρ', h, e, q⟩ => by
    unfold mIRng1 at e
    split at e
    · rename_i j ρ1 e1
      split at e
      · rename_i hz
        cases e
        have hz' := of_decide_eq_true hz
        refine ⟨ρ, M, O, π, _, _, h, e1, fun vs H1 M1 x1 s1 r1 => ?_⟩
        cases r1 with
        | cons rv rr =>
          cases rr
          cases rv
          exact ⟨j, rfl, hz'.1, hz'.2, q _ H1 M1 x1 s1 src_rng⟩
      · cases e
    · cases e
theorem di_rng2 {a b : Expr} {ma : MA} {p : Pos} (hg : Gl X "range") (hm : X.mg "range" = none) (ha : DA X [a, b] ma) (hs : starEach [a, b] X.env = [(false, eval a X.env), (false, eval b X.env)] := by rfl) (hs2 : starEach [b] X.env = [(false, eval b X.env)] := by rfl) : DI X tg (.Call (.Name "range" p) [a, b] [] pos) (mIRng2 ma) :=
  PI.imp (pi_range2 hg hm ha hs hs2) fun σ H R ⟨ρ, M, O, π, ds, ρ', h, e, q⟩ => by
    unfold mIRng2 at e
    split at e
    · rename_i i j ρ1 e1
      split at e
      · rename_i hz
        cases e
        rw [Bool.and_eq_true] at hz
        have hz1 := of_decide_eq_true hz.1
        have hz2 := of_decide_eq_true hz.2
        refine ⟨ρ, M, O, π, _, _, h, e1, fun vs H1 M1 x1 s1 r1 => ?_⟩
        cases r1 with
        | cons rv rr =>
          cases rr with
          | cons rw' rr =>
            cases rr
            cases rv
            cases rw'
            exact ⟨i, j, rfl, ⟨hz1.1, hz1.2, hz2.1, hz2.2⟩, q _ H1 M1 x1 s1 src_rng⟩
      · cases e
    · cases e
/-- zip, enumerate -/
def zipD : List D → List D → List D
  | x :: xs, y :: ys => .tuple [x, y] :: zipD xs ys
  | _, _ => []
theorem zipD_len : ∀ xs ys : List D, (zipD xs ys).length = min xs.length ys.length
  | [], _ => by simp [zipD]
  | _ :: _, [] => by simp [zipD]
  | x :: xs, y :: ys => by
    show (zipD xs ys).length + 1 = min (xs.length + 1) (ys.length + 1)
    rw [zipD_len xs ys]; omega
theorem zipD_get : ∀ {xs ys : List D} {i : Nat} {d : D}, (zipD xs ys)[i]? = some d → ∃ x y, xs[i]? = some x ∧ ys[i]? = some y ∧ d = .tuple [x, y]
  | [], _, _, _, h => by simp [zipD] at h
  | _ :: _, [], _, _, h => by simp [zipD] at h
  | x :: xs, y :: ys, 0, d, h => ⟨x, y, rfl, rfl, (Option.some.inj (show some (PyData.tuple [x, y]) = some d from h)).symm⟩
  | x :: xs, y :: ys, i + 1, d, h => by
    obtain ⟨a, b, h1, h2, h3⟩ := zipD_get (xs := xs) (ys := ys) (i := i) (d := d) (by simpa [zipD] using h)
    exact ⟨a, b, by simpa using h1, by simpa using h2, h3⟩
theorem yd_pair {K : PySem.W.Frag} {H : Hp} {M : Mset} {x : V} {H' : Hp} {f g : Nat → Option V} {i : Nat} {a b : D} {va vb : V} (y : YPair f g i H x H') (ha : f i = some va) (hb : g i = some vb) (ra : Rep K H M va a) (rb : Rep K H M vb b) : YD K H M x H' (.tuple [a, b]) := by
  obtain ⟨T, p, q, rfl, hT, rfl, h1, h2⟩ := y
  rw [ha] at h1; cases h1
  rw [hb] at h2; cases h2
  exact .inr ⟨T, _, _, rfl, hT, rfl, rfl, .cons ra (.cons rb .nil)⟩
theorem src_zipL {K : PySem.W.Frag} {H0 : Hp} {M0 : Mset} {a b : Addr} {vs ws : List V} {xs ys : List D} (h : Rd H0 a (.lst vs)) (n : ¬ M0 a) (r : Reps K H0 M0 vs xs) (h2 : Rd H0 b (.lst ws)) (n2 : ¬ M0 b) (r2 : Reps K H0 M0 ws ys) : Src K (Itz K a b) (zipD xs ys) H0 M0 := by
  have W := walk_zip (K := K) (a := a) (b := b) (xs := vs) (ys := ws) rfl
  have G : ∀ {H : Hp} {M : Mset}, Lat H0 M0 H M → SqL K H a vs ∧ SqL K H b ws := fun l => ⟨.inl (l a _ h n).1, .inl (l b _ h2 n2).1⟩
  refine ⟨fun H M l i hi => W.goes i H (by rw [r.length, r2.length, ← zipD_len]; exact hi) (G l), fun H M l => by rw [zipD_len, ← r.length, ← r2.length]; exact W.stops H (G l), fun H M l i d x H' ed y => ?_⟩
  obtain ⟨p, q, e1, e2, rfl⟩ := zipD_get ed
  obtain ⟨v, hv, rv⟩ := r.get e1
  obtain ⟨w, hw, rw'⟩ := r2.get e2
  exact yd_pair (W.yields i H x H' (by rw [r.length, r2.length, ← zipD_len]; exact (List.getElem?_eq_some_iff.mp ed).1) (G l) y) hv hw (rv.tr l) (rw'.tr l)
theorem src_zipT {K : PySem.W.Frag} {H0 : Hp} {M0 : Mset} {a b : Addr} {vs ws : List V} {xs ys : List D} (h : TupAt K H0 M0 a vs) (r : Reps K H0 M0 vs xs) (h2 : TupAt K H0 M0 b ws) (r2 : Reps K H0 M0 ws ys) : Src K (RZ.ItzT K a b) (zipD xs ys) H0 M0 := by
  refine ⟨fun H M l i hi => ?_, fun H M l => ⟨vs, ws, tupAt_lat h l, tupAt_lat h2 l, ?_⟩, fun H M l i d x H' ed y => ?_⟩
  · rw [zipD_len, ← r.length, ← r2.length] at hi
    have h1 : i < vs.length := by omega
    have h3 : i < ws.length := by omega
    exact ⟨vs, ws, vs[i], ws[i], tupAt_lat h l, tupAt_lat h2 l, by simp [h1], by simp [h3]⟩
  · rw [zipD_len, ← r.length, ← r2.length]; omega
  · obtain ⟨p, q, e1, e2, rfl⟩ := zipD_get ed
    obtain ⟨v, hv, rv⟩ := r.get e1
    obtain ⟨w, hw, rw'⟩ := r2.get e2
    obtain ⟨T, vx, vy, rfl, hT, rfl, f1, f2⟩ := y
    have g1 := f1 vs (tupAt_lat h l)
    have g2 := f2 ws (tupAt_lat h2 l)
    rw [hv] at g1; cases g1
    rw [hw] at g2; cases g2
    exact .inr ⟨T, _, _, rfl, hT, rfl, rfl, .cons (rv.tr l) (.cons (rw'.tr l) .nil)⟩
def mIZip (ma : MA) : MI := fun ρ => match ma ρ with
  | some ([.list xs, .list ys], ρ1) => some (zipD xs ys, ρ1)
  | some ([.tuple xs, .tuple ys], ρ1) => some (zipD xs ys, ρ1)
  | _ => none
theorem di_zip {a b : Expr} {ma : MA} {p tpos : Pos} {elts : List Expr} {kk : Nat} (hg : Gl X "zip") (hm : X.mg "zip" = none) (ha : DA X [a, b] ma)
    (hs : starEach [a, b] X.env = (false, eval a X.env) :: starEach [b] X.env := by rfl) (hpl : (backTo pos (starEach [b] X.env)).any (·.1) = false := by rfl) : DI X (.Tuple elts kk tpos) (.Call (.Name "zip" p) [a, b] [] pos) (mIZip ma) :=
  PI.imp (RZ.pi_zipA hg hm ha hs hpl) fun σ H R ⟨ρ, M, O, π, ds, ρ', h, e, q⟩ => by
    unfold mIZip at e
    split at e
    · rename_i xs ys ρ1 e1
      cases e
      refine ⟨ρ, M, O, π, _, _, h, e1, fun vs H1 M1 x1 s1 r1 => ?_⟩
      cases r1 with
      | cons rv rr =>
        cases rr with
        | cons rw' rr =>
          cases rr
          cases rv with
          | lst hr n rr => cases rw' with
            | lst hr2 n2 rr2 => exact ⟨_, _, _, _, rfl, .inl ⟨.inl hr, .inl hr2, q _ H1 M1 x1 s1 (src_zipL hr n rr hr2 n2 rr2)⟩⟩
    · rename_i xs ys ρ1 e1
      cases e
      refine ⟨ρ, M, O, π, _, _, h, e1, fun vs H1 M1 x1 s1 r1 => ?_⟩
      cases r1 with
      | cons rv rr =>
        cases rr with
        | cons rw' rr =>
          cases rr
          cases rv with
          | tup hr rr => cases rw' with
            | tup hr2 rr2 => exact ⟨_, _, _, _, rfl, .inr ⟨hr.sq, hr2.sq, q _ H1 M1 x1 s1 (src_zipT hr rr hr2 rr2)⟩⟩
    · cases e
def enumD (k : Nat) : List D → List D
  | [] => []
  | x :: xs => .tuple [.int (k : Nat), x] :: enumD (k + 1) xs
theorem enumD_len : ∀ (k : Nat) (xs : List D), (enumD k xs).length = xs.length
  | _, [] => rfl
  | k, x :: xs => by show (enumD (k + 1) xs).length + 1 = _; rw [enumD_len (k + 1) xs]; rfl
theorem enumD_get : ∀ {k : Nat} {xs : List D} {i : Nat} {d : D}, (enumD k xs)[i]? = some d → ∃ x, xs[i]? = some x ∧ d = .tuple [.int ((k + i : Nat) : Int), x]
  | _, [], _, _, h => by simp [enumD] at h
  | k, x :: xs, 0, d, h => ⟨x, rfl, (Option.some.inj (show some (PyData.tuple [.int (k : Nat), x]) = some d from h)).symm⟩
  | k, x :: xs, i + 1, d, h => by
    obtain ⟨a, h1, h2⟩ := enumD_get (k := k + 1) (xs := xs) (i := i) (d := d) (by simpa [enumD] using h)
    exact ⟨a, by simpa using h1, by rw [h2, show k + 1 + i = k + (i + 1) by omega]⟩
theorem src_enumL {K : PySem.W.Frag} {H0 : Hp} {M0 : Mset} {a : Addr} {vs : List V} {xs : List D} (h : Rd H0 a (.lst vs)) (n : ¬ M0 a) (r : Reps K H0 M0 vs xs) : Src K (Ite K a) (enumD 0 xs) H0 M0 := by
  have W := walk_enum (K := K) (a := a) (xs := vs)
  refine ⟨fun H M l i hi => W.goes i H (by rw [r.length, ← enumD_len 0]; exact hi) (.inl (l a _ h n).1), fun H M l => by rw [enumD_len, ← r.length]; exact W.stops H (.inl (l a _ h n).1), fun H M l i d x H' ed y => ?_⟩
  obtain ⟨p, e1, rfl⟩ := enumD_get ed
  obtain ⟨v, hv, rv⟩ := r.get e1
  rw [Nat.zero_add]
  exact yd_pair (W.yields i H x H' (by rw [r.length, ← enumD_len 0]; exact (List.getElem?_eq_some_iff.mp ed).1) (.inl (l a _ h n).1) y) rfl hv (.int _) (rv.tr l)
end

/-! ### for, while -/
section
variable {X : Cx} {tg iter c : Expr} {body : List Stmt} {pos : Pos} {mi : MI} {mg : MG} {mb : MS} {mt : MT} {ts : List Nat}
def loop (mg : MG) (mb : MS) : List D → Fm → Option (Fl × Fm)
  | [], ρ => some (.next, ρ)
  | d :: ds, ρ => match mg d ρ with
    | some ρ1 => match mb ρ1 with
      | some (.next, ρ2) => loop mg mb ds ρ2
      | some (.cont, ρ2) => loop mg mb ds ρ2
      | some (.brk, ρ2) => some (.next, ρ2)
      | some (.ret r, ρ2) => some (.ret r, ρ2)
      | none => none
    | none => none
def mFor (mi : MI) (mg : MG) (mb : MS) : MS := fun ρ => match mi ρ with
  | some (ds, ρ1) => loop mg mb ds ρ1
  | none => none
theorem ds_for (hp : PassesOwn (model X.prog X.w) X.A X.env X.xe) (hc : X.calm = true) (hi : DI X tg iter mi) (hg : DG X tg mg ts) (hb : DSs X body mb) (hs : ∀ x, foldedSetIterable iter X.env x = pure x := by intro _; rfl) : DS X (.For tg iter body [] pos) (mFor mi mg mb) :=
  PS.imp (ps_for hp hc hi hg hb hs) fun D σ H ⟨ρ, M, O, π, fl, ρ', h, e, q⟩ => by
    unfold mFor at e
    split at e
    · rename_i ds ρ1 e1
      refine ⟨ρ, M, O, π, ds, ρ1, h, e1, fun J H1 M1 x1 s1 src => ?_⟩
      have q1 := q.later (O1 := O) x1
      refine ⟨fun i m σ2 H2 => m = ds.length - i ∧ i ≤ ds.length ∧ ∃ ρ2 M2, SR X.K H2 M2 O π ρ2 σ2 ∧ Ext O H1 M1 H2 M2 ∧ loop mg mb (ds.drop i) ρ2 = some (fl, ρ'), ⟨_, rfl, Nat.zero_le _, ρ1, M1, s1, .refl s1, e⟩, ?_⟩
      rintro i m σ2 H2 ⟨rfl, hi2, ρ2, M2, s2, x2, e2⟩
      by_cases hlt : i < ds.length
      · rw [List.drop_eq_getElem_cons hlt] at e2
        have hd : ds[i]? = some ds[i] := List.getElem?_eq_getElem hlt
        refine .inr ⟨src.go H2 M2 x2.tr i hlt, fun σ3 H3 => ds.length - (i + 1) = ds.length - (i + 1) ∧ i + 1 ≤ ds.length ∧ ∃ ρ3 M3, SR X.K H3 M3 O π ρ3 σ3 ∧ Ext O H1 M1 H3 M3 ∧ loop mg mb (ds.drop (i + 1)) ρ3 = some (fl, ρ'), fun σ3 H3 w => ⟨_, by omega, w⟩, fun x H3 y => ?_⟩
        obtain ⟨s3, x3, r3⟩ := (src.yld H2 M2 x2.tr i _ x H3 hd y).ok s2
        unfold loop at e2
        split at e2
        · rename_i ρ3 e3
          refine ⟨ρ2, M2, O, π, _, ρ3, s3, r3, e3, fun σ4 s4 _ _ => ?_⟩
          have x23 := x2.trans x3
          split at e2
          · rename_i ρ5 e5
            exact ⟨ρ3, M2, O, π, .next, ρ5, s4, e5, fun σ5 H5 M5 x5 s5 => ⟨rfl, hlt, ρ5, M5, s5, x23.trans x5, e2⟩⟩
          · rename_i ρ5 e5
            exact ⟨ρ3, M2, O, π, .cont, ρ5, s4, e5, fun σ5 H5 M5 x5 s5 => ⟨rfl, hlt, ρ5, M5, s5, x23.trans x5, e2⟩⟩
          · rename_i ρ5 e5
            cases e2
            exact ⟨ρ3, M2, O, π, .brk, _, s4, e5, fun σ5 H5 M5 x5 s5 => q1 σ5 H5 M5 (x23.trans x5) s5⟩
          · rename_i r ρ5 e5
            cases e2
            exact ⟨ρ3, M2, O, π, .ret r, _, s4, e5, fun v σ5 H5 M5 x5 s5 rv => q1 v σ5 H5 M5 (x23.trans x5) s5 rv⟩
          · cases e2
        · cases e2
      · have ei : i = ds.length := by omega
        subst ei
        rw [List.drop_length] at e2
        cases e2
        exact .inl ⟨src.stop H2 M2 x2.tr, q1 σ2 H2 M2 x2 s2⟩
    · cases e
def whl (mt : MT) (mb : MS) : Nat → Fm → Option (Fl × Fm)
  | 0, _ => none
  | n + 1, ρ => match mt ρ with
    | some (false, ρ1) => some (.next, ρ1)
    | some (true, ρ1) => match mb ρ1 with
      | some (.next, ρ2) => whl mt mb n ρ2
      | some (.cont, ρ2) => whl mt mb n ρ2
      | some (.brk, ρ2) => some (.next, ρ2)
      | some (.ret r, ρ2) => some (.ret r, ρ2)
      | none => none
    | none => none
theorem ds_while {n : Nat} (hp : PassesOwn (model X.prog X.w) X.A X.env X.xe) (hc : DT X c mt) (hb : DSs X body mb) : DS X (.While c body [] pos) (whl mt mb n) :=
  PS.imp (ps_while hp hc hb) fun D σ H ⟨ρ, M, O, π, fl, ρ', h, e, q⟩ => by
    refine ⟨fun m σ2 H2 => ∃ ρ2 M2, SR X.K H2 M2 O π ρ2 σ2 ∧ Ext O H M H2 M2 ∧ whl mt mb m ρ2 = some (fl, ρ'), ⟨n, ρ, M, h, .refl h, e⟩, ?_⟩
    rintro m σ2 H2 ⟨ρ2, M2, s2, x2, e2⟩
    cases m with
    | zero => cases e2
    | succ m =>
      unfold whl at e2
      split at e2
      · rename_i ρ3 e3
        cases e2
        exact ⟨ρ2, M2, O, π, false, _, s2, e3, fun H3 M3 x3 s3 => iteF (q σ2 H3 M3 (x2.trans x3) s3)⟩
      · rename_i ρ3 e3
        refine ⟨ρ2, M2, O, π, true, ρ3, s2, e3, fun H3 M3 x3 s3 => iteT ?_⟩
        have x23 := x2.trans x3
        refine ⟨fun σ5 H5 => ∃ ρ5 M5, SR X.K H5 M5 O π ρ5 σ5 ∧ Ext O H M H5 M5 ∧ whl mt mb m ρ5 = some (fl, ρ'), fun σ5 H5 w => ⟨m, Nat.lt_succ_self m, w⟩, ?_⟩
        split at e2
        · rename_i ρ5 e5
          exact ⟨ρ3, M3, O, π, .next, ρ5, s3, e5, fun σ5 H5 M5 x5 s5 => ⟨ρ5, M5, s5, x23.trans x5, e2⟩⟩
        · rename_i ρ5 e5
          exact ⟨ρ3, M3, O, π, .cont, ρ5, s3, e5, fun σ5 H5 M5 x5 s5 => ⟨ρ5, M5, s5, x23.trans x5, e2⟩⟩
        · rename_i ρ5 e5
          cases e2
          exact ⟨ρ3, M3, O, π, .brk, _, s3, e5, fun σ5 H5 M5 x5 s5 => q σ5 H5 M5 (x23.trans x5) s5⟩
        · rename_i r ρ5 e5
          cases e2
          exact ⟨ρ3, M3, O, π, .ret r, _, s3, e5, fun v σ5 H5 M5 x5 s5 rv => q v σ5 H5 M5 (x23.trans x5) s5 rv⟩
        · cases e2
      · cases e2
end
end Vi

namespace Vi
open PySem PySem.Spec PyProof.Rows L2

/-! ### slots forgotten and brought back -/
section
variable {α : Type}
def wipeA (l : List (Option α)) : List Nat → List (Option α)
  | [] => l
  | v :: vs => (wipeA l vs).set v none
theorem wipeA_len (l : List (Option α)) : ∀ vs, (wipeA l vs).length = l.length
  | [] => rfl
  | v :: vs => by unfold wipeA; rw [List.length_set, wipeA_len l vs]
theorem wipeA_out {l : List (Option α)} {i : Nat} : ∀ {vs : List Nat}, i ∉ vs → (wipeA l vs)[i]? = l[i]?
  | [], _ => rfl
  | v :: vs, h => by
    rw [List.mem_cons, not_or] at h
    unfold wipeA
    rw [List.getElem?_set_ne (Ne.symm h.1), wipeA_out h.2]
theorem wipeA_in {l : List (Option α)} {i : Nat} : ∀ {vs : List Nat}, i ∈ vs → i < l.length → (wipeA l vs)[i]? = some none
  | [], h, _ => by cases h
  | v :: vs, h, hl => by
    unfold wipeA
    by_cases e : v = i
    · subst e
      rw [List.getElem?_set_self (by rw [wipeA_len]; exact hl)]
    · rw [List.getElem?_set_ne e]
      rcases List.mem_cons.mp h with z | z
      · exact absurd z.symm e
      · exact wipeA_in z hl
theorem wipeA_some {l : List (Option α)} {i : Nat} {x : α} {vs : List Nat} (h : (wipeA l vs)[i]? = some (some x)) : l[i]? = some (some x) ∧ i ∉ vs := by
  by_cases hi : i ∈ vs
  · by_cases hl : i < l.length
    · rw [wipeA_in hi hl] at h; cases h
    · rw [List.getElem?_eq_none (by rw [wipeA_len]; omega)] at h; cases h
  · rw [wipeA_out hi] at h; exact ⟨h, hi⟩
theorem wipeA_ext {l l' : List (Option α)} {vs : List Nat} (h : ∀ j, j ∉ vs → l[j]? = l'[j]?) (hl : l.length = l'.length) : wipeA l vs = wipeA l' vs := by
  apply List.ext_getElem?
  intro i
  by_cases hi : i ∈ vs
  · by_cases hn : i < l.length
    · rw [wipeA_in hi hn, wipeA_in hi (by omega)]
    · rw [List.getElem?_eq_none (by rw [wipeA_len]; omega), List.getElem?_eq_none (by rw [wipeA_len]; omega)]
  · rw [wipeA_out hi, wipeA_out hi, h i hi]
theorem wipe_eq (σ : St) : ∀ vs, wipe σ vs = wipeA σ vs
  | [] => rfl
  | v :: vs => by unfold wipe wipeA; rw [wipe_eq σ vs]
def restA (l l1 : List (Option α)) : List Nat → List (Option α)
  | [] => l
  | v :: vs => (restA l l1 vs).set v ((l1[v]?).getD none)
theorem restA_len (l l1 : List (Option α)) : ∀ vs, (restA l l1 vs).length = l.length
  | [] => rfl
  | v :: vs => by unfold restA; rw [List.length_set, restA_len l l1 vs]
theorem restA_out {l l1 : List (Option α)} {i : Nat} : ∀ {vs : List Nat}, i ∉ vs → (restA l l1 vs)[i]? = l[i]?
  | [], _ => rfl
  | v :: vs, h => by
    rw [List.mem_cons, not_or] at h
    unfold restA
    rw [List.getElem?_set_ne (Ne.symm h.1), restA_out h.2]
theorem restA_in {l l1 : List (Option α)} {i : Nat} : ∀ {vs : List Nat}, i ∈ vs → i < l.length → (restA l l1 vs)[i]? = some ((l1[i]?).getD none)
  | [], h, _ => by cases h
  | v :: vs, h, hl => by
    unfold restA
    by_cases e : v = i
    · subst e
      rw [List.getElem?_set_self (by rw [restA_len]; exact hl)]
    · rw [List.getElem?_set_ne e]
      rcases List.mem_cons.mp h with z | z
      · exact absurd z.symm e
      · exact restA_in z hl
end
section
variable {K : PySem.W.Frag} {H H' H1 : Hp} {M M' M1 O O' : Mset} {π : Nat → Option Addr} {ρ ρ1 ρ2 : Fm} {σ : St} {vs : List Nat} {p : Addr}
theorem SR.wipe (h : SR K H M O π ρ σ) (vs : List Nat) : SR K H M O π (wipeA ρ vs) (wipeA σ vs) := by
  refine ⟨by rw [wipeA_len, wipeA_len]; exact h.len, h.sub, h.live, fun i d e => ?_, fun i b ds e => ?_, fun i j b c ds es a hij e f g => ?_⟩
  · obtain ⟨e1, n⟩ := wipeA_some e
    rw [wipeA_out n]; exact h.imm i d e1
  · obtain ⟨e1, n⟩ := wipeA_some e
    rw [wipeA_out n]; exact h.own i b ds e1
  · obtain ⟨e1, n⟩ := wipeA_some e
    obtain ⟨f1, n2⟩ := wipeA_some f
    rw [wipeA_out n] at g
    rw [wipeA_out n2]; exact h.uniq i j b c ds es a hij e1 f1 g
def vsOk (ρ : Fm) (vs : List Nat) : Bool := vs.all fun i => match ρ[i]? with
  | some (some (.own _ _)) => false
  | _ => true
theorem vsOk_own (h : vsOk ρ vs = true) {i : Nat} (hi : i ∈ vs) {b : Kd} {ds : List D} (e : ρ[i]? = some (some (.own b ds))) : False := by
  have := List.all_eq_true.mp h i hi
  rw [e] at this
  cases this
theorem SR.unwipe (h1 : SR K H1 M1 O π ρ1 σ) (ok : vsOk ρ1 vs = true) (h2 : SR K H M O π ρ2 (wipeA σ vs)) (l : Lat H1 M1 H M) : SR K H M O π (restA ρ2 ρ1 vs) σ := by
  have len : ρ2.length = σ.length := by rw [h2.len, wipeA_len]
  have get : ∀ {i : Nat} {s : Sv}, (restA ρ2 ρ1 vs)[i]? = some (some s) → (i ∈ vs ∧ ρ1[i]? = some (some s)) ∨ (i ∉ vs ∧ ρ2[i]? = some (some s)) := fun {i s} e => by
    by_cases hi : i ∈ vs
    · by_cases hl : i < ρ2.length
      · rw [restA_in hi hl] at e
        refine .inl ⟨hi, ?_⟩
        cases q : ρ1[i]? with
        | none => rw [q] at e; cases e
        | some x => rw [q] at e; exact e
      · rw [List.getElem?_eq_none (by rw [restA_len]; omega)] at e; cases e
    · rw [restA_out hi] at e; exact .inr ⟨hi, e⟩
  refine ⟨by rw [restA_len]; exact len, h2.sub, h2.live, fun i d e => ?_, fun i b ds e => ?_, fun i j b c ds es a hij e f g => ?_⟩
  · rcases get e with ⟨hi, e⟩ | ⟨hi, e⟩
    · obtain ⟨v, f1, f2⟩ := h1.imm i d e
      exact ⟨v, f1, f2.tr l⟩
    · obtain ⟨v, f1, f2⟩ := h2.imm i d e
      rw [wipeA_out hi] at f1
      exact ⟨v, f1, f2⟩
  · rcases get e with ⟨hi, e⟩ | ⟨hi, e⟩
    · exact (vsOk_own ok hi e).elim
    · obtain ⟨x, vs', f1, f2⟩ := h2.own i b ds e
      rw [wipeA_out hi] at f1
      exact ⟨x, vs', f1, f2⟩
  · rcases get e with ⟨hi, e⟩ | ⟨hi, e⟩
    · exact (vsOk_own ok hi e).elim
    · rcases get f with ⟨hj, f⟩ | ⟨hj, f⟩
      · exact (vsOk_own ok hj f).elim
      · have := h2.uniq i j b c ds es a hij e f (by rw [wipeA_out hi]; exact g)
        rw [wipeA_out hj] at this
        exact this
/-- a held list is written -/
theorem upd_lat {o : HO} (hM : M p) : Lat H M (upd H p o) M := fun a u q n => by
  have ne : a ≠ p := fun z => n (z ▸ hM)
  refine ⟨?_, n⟩
  rcases q with q | ⟨o', q⟩
  · exact .inl (by rw [upd_ne ne]; exact q)
  · exact .inr ⟨o', by rw [upd_ne ne]; exact q⟩
theorem SR.writeO {o : HO} (h : SR K H M O π ρ σ) (hM : M p) (hO : O p) : SR K (upd H p o) M O π ρ σ := by
  refine ⟨h.len, h.sub, fun a q => ?_, fun i d e => ?_, fun i b ds e => ?_, h.uniq⟩
  · by_cases ha : a = p
    · subst ha; rw [upd_same]; intro z; cases z
    · rw [upd_ne ha]; exact h.live a q
  · obtain ⟨v, e1, r⟩ := h.imm i d e
    exact ⟨v, e1, r.tr (upd_lat hM)⟩
  · obtain ⟨a, ws, e1, e2, e3, e4, r, e5⟩ := h.own i b ds e
    exact ⟨a, ws, e1, by rw [upd_ne (fun z => e4 (by rw [z]; exact hO))]; exact e2, e3, e4, r.tr (upd_lat hM), e5⟩
theorem Ext.updM {o : HO} (x : Ext O H1 M1 H M) (hM : M1 p) (hO : ¬ O p) : Ext O H1 M1 (upd H p o) M :=
  ⟨fun a u e q => by rw [upd_ne (fun z => by subst z; exact q.elim hO fun n => n hM)]; exact x.keep a u e q, x.sub, x.new⟩
end

/-! ### comprehensions -/
section
variable {mg : MG} {mt : MT} {me : ME} {vs ts : List Nat}
def cloop (mg : MG) (mt : MT) (me : ME) (vs : List Nat) : List D → Fm → Option (List D × Fm)
  | [], ρ => some ([], ρ)
  | d :: ds, ρ => match mg d ρ with
    | some ρ1 => match mt ρ1 with
      | some (true, ρ2) => match me ρ2 with
        | some (pr, ρ3) => match frz ρ3 pr with
          | some (e, ρ4) => match cloop mg mt me vs ds (wipeA ρ4 vs) with
            | some (es, ρ5) => some (e :: es, ρ5)
            | none => none
          | none => none
        | none => none
      | some (false, ρ2) => cloop mg mt me vs ds (wipeA ρ2 vs)
      | none => none
    | none => none
theorem cread {K : PySem.W.Frag} (hts : ∀ i ∈ ts, i ∈ vs) {J : It} {ds : List D} {H0 Hs : Hp} {M0 Ms O : Mset} {π : Nat → Option Addr} {σ : St} {Dd : Addr} {ρa ρ2 : Fm} {es ea : List D} {acc : List V} {Qd : Hp → Prop}
    (src : Src K J ds H0 M0) (l : Lat H0 M0 Hs Ms) (s : SR K Hs Ms (wth O Dd) π ρa (wipeA σ vs)) (hO : ¬ O Dd) (hA : Hs Dd = some (.lst acc)) (hR : Reps K Hs Ms acc ea) (hz : ea.length + es.length ≤ sizeLine)
    (e : cloop mg mt me vs ds ρa = some (es, ρ2)) (hq : ∀ H M acc', Ext O Hs Ms H M → SR K H M (wth O Dd) π ρ2 (wipeA σ vs) → H Dd = some (.lst acc') → Reps K H M acc' (ea ++ es) → Qd H) :
    ∃ W : Nat → Nat → Hp → Prop, (∃ m, W 0 m Hs) ∧ ∀ i m H, W i m H →
      (J.stop i H ∧ Qd H) ∨ (J.go i H ∧ ∃ Nx : Hp → Prop, (∀ H', Nx H' → ∃ m', m' < m ∧ W (i + 1) m' H') ∧ ∀ x H', J.yld i H x H' → tG K mg ts x (wipe σ vs) H' fun σ2 H2 => wipe σ2 vs = wipe σ vs ∧ tT K mt σ2 H2 fun b H3 =>
        if b = true then tE K me σ2 H3 fun y H4 => ∃ acc, H4 Dd = some (.lst acc) ∧ acc.length < sizeLine ∧ Nx (upd H4 Dd (.lst (acc ++ [y]))) else Nx H3) := by
  have hMs : Ms Dd := s.sub Dd (.inr rfl)
  have less : ∀ a, O a → wth O Dd a := fun a q => .inl q
  refine ⟨fun i m H => m = ds.length - i ∧ i ≤ ds.length ∧ ∃ ρb M acc' eb es', SR K H M (wth O Dd) π ρb (wipeA σ vs) ∧ Ext O Hs Ms H M ∧ H Dd = some (.lst acc') ∧ Reps K H M acc' eb ∧ cloop mg mt me vs (ds.drop i) ρb = some (es', ρ2) ∧ ea ++ es = eb ++ es',
    ⟨_, rfl, Nat.zero_le _, ρa, Ms, acc, ea, es, s, .refl (s.less less), hA, hR, e, rfl⟩, ?_⟩
  rintro i m H ⟨rfl, hi, ρb, M, acc', eb, es', sb, xb, hAb, hRb, eb', eq⟩
  have lb : Lat H0 M0 H M := l.trans xb.tr
  by_cases hlt : i < ds.length
  · rw [List.drop_eq_getElem_cons hlt] at eb'
    have hd : ds[i]? = some ds[i] := List.getElem?_eq_getElem hlt
    refine .inr ⟨src.go H M lb i hlt, fun H' => ds.length - (i + 1) = ds.length - (i + 1) ∧ i + 1 ≤ ds.length ∧ ∃ ρb M acc' eb es', SR K H' M (wth O Dd) π ρb (wipeA σ vs) ∧ Ext O Hs Ms H' M ∧ H' Dd = some (.lst acc') ∧ Reps K H' M acc' eb ∧ cloop mg mt me vs (ds.drop (i + 1)) ρb = some (es', ρ2) ∧ ea ++ es = eb ++ es', fun H' w => ⟨_, by omega, w⟩, fun x H3 y => ?_⟩
    obtain ⟨s3, x3, r3⟩ := (src.yld H M lb i _ x H3 hd y).ok sb
    unfold cloop at eb'
    split at eb'
    · rename_i ρ3 e3
      rw [wipe_eq]
      refine ⟨ρb, M, wth O Dd, π, _, ρ3, s3, r3, e3, fun σ4 s4 fr ln => ?_⟩
      have hw : wipeA σ4 vs = wipeA σ vs := wipeA_ext (fun j hj => by rw [fr j (fun z => hj (hts j z)), wipeA_out hj]) (by rw [ln, wipeA_len])
      refine ⟨by rw [wipe_eq]; exact hw, ?_⟩
      split at eb'
      · rename_i ρ4 e4
        refine ⟨ρ3, M, wth O Dd, π, true, ρ4, s4, e4, fun H5 M5 x5 s5 => iteT ?_⟩
        split at eb'
        · rename_i pr ρ5 e5
          split at eb'
          · rename_i ee ρ6 e6
            split at eb'
            · rename_i es2 ρ7 e7
              cases eb'
              refine ⟨ρ4, M5, wth O Dd, π, pr, ρ5, s5, e5, fun v H6 M6 x6 s6 r6 => ?_⟩
              obtain ⟨M7, x7, s7, r7⟩ := frz_ok s6 r6 e6
              have xx : Ext (wth O Dd) H M H6 M7 := ((x3.trans x5).trans x6).trans x7
              have hA6 : H6 Dd = some (.lst acc') := xx.keep Dd _ hAb (.inl (.inr rfl))
              have hM7 : M7 Dd := s7.sub Dd (.inr rfl)
              have hl : acc'.length < sizeLine := by
                rw [hRb.length]
                have := congrArg List.length eq
                rw [List.length_append, List.length_append, List.length_cons] at this
                omega
              refine ⟨acc', hA6, hl, rfl, hlt, wipeA ρ6 vs, M7, acc' ++ [v], eb ++ [ee], es2, ?_, (xb.trans (xx.less less)).updM hMs hO, upd_same, ((hRb.tr xx.tr).append (.cons r7 .nil)).tr (upd_lat hM7), e7, ?_⟩
              · rw [← hw]; exact (s7.writeO hM7 (.inr rfl)).wipe vs
              · rw [eq, List.append_assoc]; rfl
            · cases eb'
          · cases eb'
        · cases eb'
      · rename_i ρ4 e4
        refine ⟨ρ3, M, wth O Dd, π, false, ρ4, s4, e4, fun H5 M5 x5 s5 => iteF ?_⟩
        have xx : Ext (wth O Dd) H M H5 M5 := x3.trans x5
        refine ⟨rfl, hlt, wipeA ρ4 vs, M5, acc', eb, es', ?_, xb.trans (xx.less less), xx.keep Dd _ hAb (.inl (.inr rfl)), hRb.tr xx.tr, eb', eq⟩
        rw [← hw]; exact s5.wipe vs
      · cases eb'
    · cases eb'
  · have ei : i = ds.length := by omega
    subst ei
    rw [List.drop_length] at eb'
    cases eb'
    rw [List.append_nil] at eq
    exact .inl ⟨src.stop H M lb, hq H M acc' xb sb hAb (by rw [eq]; exact hRb)⟩
def mComp (mi : MI) (mg : MG) (mt : MT) (me : ME) (vs : List Nat) : ME := fun ρ => match mi ρ with
  | some (ds, ρ1) => if vsOk ρ1 vs = true then match cloop mg mt me vs ds (wipeA ρ1 vs) with
    | some (es, ρ2) => if fits es.length = true then some (.val (.own .loc es), restA ρ2 ρ1 vs) else none
    | none => none
    else none
  | none => none
theorem comp_start {K : PySem.W.Frag} {H1 : Hp} {M1 O : Mset} {π : Nat → Option Addr} {ρ1 : Fm} {σ : St} {Dd : Addr} (s1 : SR K H1 M1 O π ρ1 σ) (hD : H1 Dd = none) (vs : List Nat) : SR K (upd H1 Dd (.lst [])) (wth M1 Dd) (wth O Dd) π (wipeA ρ1 vs) (wipeA σ vs) := by
  refine ((s1.allocOwn hD).wipe vs).more (fun a q => q.elim (fun z => .inl (s1.sub a z)) fun z => .inr z) fun i b ds a e1 e2 z => ?_
  obtain ⟨e3, hn⟩ := wipeA_some e1
  rw [wipeA_out hn] at e2
  obtain ⟨a', ws, f1, f2, f3, f4, _⟩ := s1.own i b ds e3
  rw [e2] at f1; cases f1
  rcases z with z | z
  · exact f4 z
  · rw [z, hD] at f2; cases f2
theorem comp_end {K : PySem.W.Frag} {H1 H : Hp} {M1 M O : Mset} {π : Nat → Option Addr} {ρ1 ρ2 : Fm} {σ : St} {Dd : Addr} {acc : List V} {es : List D} (s1 : SR K H1 M1 O π ρ1 σ) (hD : H1 Dd = none) (ok : vsOk ρ1 vs = true) (x : Ext O (upd H1 Dd (.lst [])) (wth M1 Dd) H M) (s : SR K H M (wth O Dd) π ρ2 (wipeA σ vs))
    (hA : H Dd = some (.lst acc)) (hR : Reps K H M acc es) : Ext O H1 M1 H M ∧ SR K H M O π (restA ρ2 ρ1 vs) σ ∧ RP K H M O (restA ρ2 ρ1 vs) σ (.val (.own .loc es)) (.ref Dd) := by
  have less : ∀ a, O a → wth O Dd a := fun a q => .inl q
  have x1 : Ext O H1 M1 H M := (Ext.allocOwn s1 hD).trans x
  have hO : ¬ O Dd := fun z => s1.live Dd (s1.sub Dd z) hD
  refine ⟨x1, s1.unwipe ok (s.less less) x1.tr, Dd, acc, rfl, hA, s.sub Dd (.inr rfl), hO, hR, fun i b ds e1 e2 => ?_⟩
  by_cases hi : i ∈ vs
  · by_cases hl : i < ρ2.length
    · rw [restA_in hi hl] at e1
      cases q : ρ1[i]? with
      | none => rw [q] at e1; cases e1
      | some z => rw [q] at e1; exact vsOk_own ok hi (q.trans e1)
    · rw [List.getElem?_eq_none (by rw [restA_len]; omega)] at e1; cases e1
  · rw [restA_out hi] at e1
    obtain ⟨a', ws, f1, f2, f3, f4, _⟩ := s.own i b ds e1
    rw [wipeA_out hi, e2] at f1; cases f1
    exact f4 (.inr rfl)
theorem lc_read {K : PySem.W.Frag} {mi : MI} (hts : ∀ i ∈ ts, i ∈ vs) {σ : St} {H : Hp} {Q : VK} (h : tE K (mComp mi mg mt me vs) σ H Q) : tLc (tI K mi) (tG K mg ts) (tT K mt) (tE K me) vs σ H Q := by
  obtain ⟨ρ, M, O, π, pr, ρ', h, e, q⟩ := h
  unfold mComp at e
  split at e
  · rename_i ds ρ1 e1
    split at e
    · rename_i ok
      split at e
      · rename_i es ρ2 e2
        split at e
        · rename_i hz
          cases e
          refine ⟨ρ, M, O, π, ds, ρ1, h, e1, fun J H1 M1 x1 s1 src Dd hD => ?_⟩
          have hO : ¬ O Dd := fun z => s1.live Dd (s1.sub Dd z) hD
          refine cread (ea := []) hts src (alloc_tr_own s1 hD) (comp_start s1 hD vs) hO upd_same .nil (by have := fits_le hz; simpa using this) e2 fun H2 M2 acc x2 s2 hA hR => ?_
          obtain ⟨y1, y2, y3⟩ := comp_end s1 hD ok x2 s2 hA hR
          exact q _ H2 M2 (x1.trans y1) y2 y3
        · cases e
      · cases e
    · cases e
  · cases e
/-! two clauses -/
variable {mi1 : MI} {mg1 : MG} {mt1 : MT} {vs1 ts1 : List Nat}
def c2loop (mg : MG) (mt : MT) (mi1 : MI) (mg1 : MG) (mt1 : MT) (me : ME) (vs vs1 : List Nat) : List D → Fm → Option (List D × Fm)
  | [], ρ => some ([], ρ)
  | d :: ds, ρ => match mg d ρ with
    | some ρ1 => match mt ρ1 with
      | some (true, ρ2) => match mi1 ρ2 with
        | some (ds1, ρ3) => match cloop mg1 mt1 me vs1 ds1 (wipeA ρ3 vs1) with
          | some (es1, ρ4) => match c2loop mg mt mi1 mg1 mt1 me vs vs1 ds (wipeA ρ4 vs) with
            | some (es, ρ5) => some (es1 ++ es, ρ5)
            | none => none
          | none => none
        | none => none
      | some (false, ρ2) => c2loop mg mt mi1 mg1 mt1 me vs vs1 ds (wipeA ρ2 vs)
      | none => none
    | none => none
def mComp2 (mi : MI) (mg : MG) (mt : MT) (mi1 : MI) (mg1 : MG) (mt1 : MT) (me : ME) (vs vs1 : List Nat) : ME := fun ρ => match mi ρ with
  | some (ds, ρ1) => if vsOk ρ1 vs = true then match c2loop mg mt mi1 mg1 mt1 me vs vs1 ds (wipeA ρ1 vs) with
    | some (es, ρ2) => if fits es.length = true then some (.val (.own .loc es), restA ρ2 ρ1 vs) else none
    | none => none
    else none
  | none => none
theorem lc2_read {K : PySem.W.Frag} {mi : MI} (hts : ∀ i ∈ ts, i ∈ vs) (hts1 : ∀ i ∈ ts1, i ∈ vs1) (hv : ∀ i ∈ vs1, i ∈ vs) {σ : St} {H : Hp} {Q : VK} (h : tE K (mComp2 mi mg mt mi1 mg1 mt1 me vs vs1) σ H Q) :
    tLc2 (tI K mi) (tG K mg ts) (tT K mt) (tI K mi1) (tG K mg1 ts1) (tT K mt1) (tE K me) vs vs1 σ H Q := by
  obtain ⟨ρ, M, O, π, pr, ρ', h, e, q⟩ := h
  unfold mComp2 at e
  split at e
  · rename_i ds ρ1 e1
    split at e
    · rename_i ok
      split at e
      · rename_i es ρ2 e2
        split at e
        · rename_i hz
          cases e
          refine ⟨ρ, M, O, π, ds, ρ1, h, e1, fun J H1 M1 x1 s1 src Dd hD => ?_⟩
          have hO : ¬ O Dd := fun z => s1.live Dd (s1.sub Dd z) hD
          have less : ∀ a, O a → wth O Dd a := fun a q => .inl q
          have s := comp_start s1 hD vs
          have hMs : wth M1 Dd Dd := .inr rfl
          refine ⟨fun i m H => m = ds.length - i ∧ i ≤ ds.length ∧ ∃ ρb M acc' eb es', SR K H M (wth O Dd) π ρb (wipeA σ vs) ∧ Ext O (upd H1 Dd (.lst [])) (wth M1 Dd) H M ∧ H Dd = some (.lst acc') ∧ Reps K H M acc' eb ∧ c2loop mg mt mi1 mg1 mt1 me vs vs1 (ds.drop i) ρb = some (es', ρ2) ∧ es = eb ++ es',
            ⟨_, rfl, Nat.zero_le _, _, _, [], [], es, s, .refl (s.less less), upd_same, .nil, e2, rfl⟩, ?_⟩
          rintro i m H ⟨rfl, hi, ρb, M, acc', eb, es', sb, xb, hAb, hRb, eb', eq⟩
          have lb : Lat H1 M1 H M := Lat.trans (alloc_tr_own s1 hD) xb.tr
          by_cases hlt : i < ds.length
          · rw [List.drop_eq_getElem_cons hlt] at eb'
            have hd : ds[i]? = some ds[i] := List.getElem?_eq_getElem hlt
            refine .inr ⟨src.go H M lb i hlt, fun H' => ds.length - (i + 1) = ds.length - (i + 1) ∧ i + 1 ≤ ds.length ∧ ∃ ρb M acc' eb es', SR K H' M (wth O Dd) π ρb (wipeA σ vs) ∧ Ext O (upd H1 Dd (.lst [])) (wth M1 Dd) H' M ∧ H' Dd = some (.lst acc') ∧ Reps K H' M acc' eb ∧ c2loop mg mt mi1 mg1 mt1 me vs vs1 (ds.drop (i + 1)) ρb = some (es', ρ2) ∧ es = eb ++ es', fun H' w => ⟨_, by omega, w⟩, fun x H3 y => ?_⟩
            obtain ⟨s3, x3, r3⟩ := (src.yld H M lb i _ x H3 hd y).ok sb
            unfold c2loop at eb'
            split at eb'
            · rename_i ρ3 e3
              rw [wipe_eq]
              refine ⟨ρb, M, wth O Dd, π, _, ρ3, s3, r3, e3, fun σ4 s4 fr ln => ?_⟩
              have hw : wipeA σ4 vs = wipeA σ vs := wipeA_ext (fun j hj => by rw [fr j (fun z => hj (hts j z)), wipeA_out hj]) (by rw [ln, wipeA_len])
              refine ⟨by rw [wipe_eq]; exact hw, ?_⟩
              split at eb'
              · rename_i ρ4 e4
                refine ⟨ρ3, M, wth O Dd, π, true, ρ4, s4, e4, fun H5 M5 x5 s5 => iteT ?_⟩
                split at eb'
                · rename_i ds1 ρ5 e5
                  split at eb'
                  · rename_i es1 ρ6 e6
                    split at eb'
                    · rename_i es2 ρ7 e7
                      cases eb'
                      refine ⟨ρ4, M5, wth O Dd, π, ds1, ρ5, s5, e5, fun J1 H6 M6 x6 s6 src1 => ?_⟩
                      have xx : Ext (wth O Dd) H M H6 M6 := (x3.trans x5).trans x6
                      have hA6 : H6 Dd = some (.lst acc') := xx.keep Dd _ hAb (.inl (.inr rfl))
                      have hl : eb.length + es1.length ≤ sizeLine := by
                        have h1 := fits_le hz
                        have := congrArg List.length eq
                        rw [List.length_append, List.length_append] at this
                        omega
                      refine cread hts1 src1 (fun _ _ h n => ⟨h, n⟩) (s6.wipe vs1) hO hA6 (hRb.tr xx.tr) hl e6 fun H8 M8 acc8 x8 s8 hA8 hR8 => ?_
                      refine ⟨rfl, hlt, wipeA ρ6 vs, M8, acc8, eb ++ es1, es2, ?_, (xb.trans (xx.less less)).trans x8, hA8, hR8, e7, by rw [eq, List.append_assoc]⟩
                      have hw2 : wipeA (wipeA σ4 vs1) vs = wipeA σ vs := by
                        rw [← hw]
                        exact wipeA_ext (fun j hj => wipeA_out fun z => hj (hv j z)) (wipeA_len _ _)
                      rw [← hw2]
                      exact s8.wipe vs
                    · cases eb'
                  · cases eb'
                · cases eb'
              · rename_i ρ4 e4
                refine ⟨ρ3, M, wth O Dd, π, false, ρ4, s4, e4, fun H5 M5 x5 s5 => iteF ?_⟩
                have xx : Ext (wth O Dd) H M H5 M5 := x3.trans x5
                refine ⟨rfl, hlt, wipeA ρ4 vs, M5, acc', eb, es', ?_, xb.trans (xx.less less), xx.keep Dd _ hAb (.inl (.inr rfl)), hRb.tr xx.tr, eb', eq⟩
                rw [← hw]; exact s5.wipe vs
              · cases eb'
            · cases eb'
          · have ei : i = ds.length := by omega
            subst ei
            rw [List.drop_length] at eb'
            cases eb'
            rw [List.append_nil] at eq
            obtain ⟨y1, y2, y3⟩ := comp_end s1 hD ok xb sb hAb (by rw [← eq] at hRb; exact hRb)
            exact .inl ⟨src.stop H M lb, q _ H M (x1.trans y1) y2 y3⟩
        · cases e
      · cases e
    · cases e
  · cases e
end
section
variable {X : Cx} {elt tg iter tg1 iter1 : Expr} {ifs ifs1 : List Expr} {scope : Scope} {own : List (Str × Nat)} {pos : Pos} {mi mi1 : MI} {mg mg1 : MG} {mt mt1 : MT} {me : ME} {ts ts1 vs1 : List Nat}
def DTs (X : Cx) (es : List Expr) (m : MT) : Prop := PTs X es (tT X.K m)
def mYes : MT := fun ρ => some (true, ρ)
theorem dts_nil : DTs X [] mYes := ⟨fun pins s σ H Q I ⟨ρ, M, O, π, b, ρ', h, e, q⟩ => by
  cases e
  exact pts_nil.run pins s σ H Q I (q H M (.refl h) h)⟩
theorem dts_one {c : Expr} (h : DT X c mt) : DTs X [c] mt := pts_one h
/-- a block's context -/
abbrev Bk (X : Cx) (scope : Scope) (P : Cx → Prop) : Prop := ∀ (s : Shared) (H : Hp) (C : Addr) (cl : List (Str × Addr)) (fp : List Addr), P (X.blk s H scope (compEnvC scope cl C X.env) fp)
theorem de_lc (hc : X.calm = true) (hN : X.N.Nodup) (hi : DI X tg iter mi) (ok : BlkOk X.N X.env.scope scope own) (hg : Bk X scope fun Y => DG Y tg mg ts) (ht : Bk X scope fun Y => DTs Y ifs mt) (he : Bk X scope fun Y => DE Y elt me)
    (hts : ∀ i ∈ ts, i ∈ own.map (·.2)) (hs : ∀ x, foldedSetIterable iter X.env x = pure x := by intro _; rfl) : DE X (.ListComp elt [⟨tg, iter, ifs, 0⟩] scope pos) (mComp mi mg mt me (own.map (·.2))) :=
  PE.imp (pe_lc (wi := tI X.K mi) (g := tG X.K mg ts) (tt := tT X.K mt) (te := tE X.K me) hc hN hi ok hg ht he hs) fun σ H Q h => lc_read hts h
theorem ds_setLc {i : Nat} {y : Str} {py spos : Pos} (hc : X.calm = true) (hN : X.N.Nodup) (hy : X.N[i]? = some y) (hyl : X.env.scope.names.lookup y = some .local)
    (hsw : swapsWith (.ListComp elt [⟨tg, iter, ifs, 0⟩] scope pos) (some (.Name y py)) spos.line X.env = pure true) (hi : DI X tg iter mi) (ok : BlkOk X.N X.env.scope scope own) (hg : Bk X scope fun Y => DG Y tg mg ts) (ht : Bk X scope fun Y => DTs Y ifs mt) (he : Bk X scope fun Y => DE Y elt me)
    (hts : ∀ i ∈ ts, i ∈ own.map (·.2)) (hs : ∀ x, foldedSetIterable iter X.env x = pure x := by intro _; rfl) : DS X (.Assign [.Name y py] (.ListComp elt [⟨tg, iter, ifs, 0⟩] scope pos) spos) (mSet i (mComp mi mg mt me (own.map (·.2)))) :=
  PS.imp (ps_setLc (wi := tI X.K mi) (g := tG X.K mg ts) (tt := tT X.K mt) (te := tE X.K me) hc hN hy hyl hsw hi ok hg ht he hs) fun D σ H ⟨ρ, M, O, π, fl, ρ', h, e, q⟩ => by
    unfold mSet at e
    split at e
    · rename_i pr ρ1 e1
      split at e
      · rename_i ρ2 e2
        cases e
        refine lc_read (K := X.K) hts ⟨ρ, M, O, π, pr, ρ1, h, e1, fun v H1 M1 x1 s1 r1 => ?_⟩
        obtain ⟨M2, x2, s2⟩ := put_ok s1 r1 e2
        exact q _ H1 M2 (x1.trans x2) s2
      · cases e
    · cases e
theorem de_lc2 (hc : X.calm = true) (hN : X.N.Nodup) (hi : DI X tg iter mi) (ok : BlkOk X.N X.env.scope scope own) (hv : ∀ i ∈ vs1, i ∈ own.map (·.2)) (hg : Bk X scope fun Y => DG Y tg mg ts) (ht : Bk X scope fun Y => DTs Y ifs mt) (hi1 : Bk X scope fun Y => DI Y tg1 iter1 mi1) (hg1 : Bk X scope fun Y => DG Y tg1 mg1 ts1) (ht1 : Bk X scope fun Y => DTs Y ifs1 mt1) (he : Bk X scope fun Y => DE Y elt me)
    (hts : ∀ i ∈ ts, i ∈ own.map (·.2)) (hts1 : ∀ i ∈ ts1, i ∈ vs1) (hs : ∀ x, foldedSetIterable iter X.env x = pure x := by intro _; rfl) (hs1 : ∀ env x, foldedSetIterable iter1 env x = pure x := by intro _ _; rfl) :
    DE X (.ListComp elt [⟨tg, iter, ifs, 0⟩, ⟨tg1, iter1, ifs1, 0⟩] scope pos) (mComp2 mi mg mt mi1 mg1 mt1 me (own.map (·.2)) vs1) :=
  PE.imp (pe_lc2 (wi := tI X.K mi) (g := tG X.K mg ts) (tt := tT X.K mt) (wi1 := tI X.K mi1) (g1 := tG X.K mg1 ts1) (tt1 := tT X.K mt1) (te := tE X.K me) hc hN hi ok hv hg ht hi1 hg1 ht1 he hs hs1) fun σ H Q h => lc2_read hts hts1 hv h
theorem ds_setLc2 {i : Nat} {y : Str} {py spos : Pos} (hc : X.calm = true) (hN : X.N.Nodup) (hy : X.N[i]? = some y) (hyl : X.env.scope.names.lookup y = some .local)
    (hsw : swapsWith (.ListComp elt [⟨tg, iter, ifs, 0⟩, ⟨tg1, iter1, ifs1, 0⟩] scope pos) (some (.Name y py)) spos.line X.env = pure true) (hi : DI X tg iter mi) (ok : BlkOk X.N X.env.scope scope own) (hv : ∀ i ∈ vs1, i ∈ own.map (·.2)) (hg : Bk X scope fun Y => DG Y tg mg ts) (ht : Bk X scope fun Y => DTs Y ifs mt) (hi1 : Bk X scope fun Y => DI Y tg1 iter1 mi1) (hg1 : Bk X scope fun Y => DG Y tg1 mg1 ts1) (ht1 : Bk X scope fun Y => DTs Y ifs1 mt1) (he : Bk X scope fun Y => DE Y elt me)
    (hts : ∀ i ∈ ts, i ∈ own.map (·.2)) (hts1 : ∀ i ∈ ts1, i ∈ vs1) (hs : ∀ x, foldedSetIterable iter X.env x = pure x := by intro _; rfl) (hs1 : ∀ env x, foldedSetIterable iter1 env x = pure x := by intro _ _; rfl) :
    DS X (.Assign [.Name y py] (.ListComp elt [⟨tg, iter, ifs, 0⟩, ⟨tg1, iter1, ifs1, 0⟩] scope pos) spos) (mSet i (mComp2 mi mg mt mi1 mg1 mt1 me (own.map (·.2)) vs1)) :=
  PS.imp (ps_setLc2 (wi := tI X.K mi) (g := tG X.K mg ts) (tt := tT X.K mt) (wi1 := tI X.K mi1) (g1 := tG X.K mg1 ts1) (tt1 := tT X.K mt1) (te := tE X.K me) hc hN hy hyl hsw hi ok hv hg ht hi1 hg1 ht1 he hs hs1) fun D σ H ⟨ρ, M, O, π, fl, ρ', h, e, q⟩ => by
    unfold mSet at e
    split at e
    · rename_i pr ρ1 e1
      split at e
      · rename_i ρ2 e2
        cases e
        refine lc2_read (K := X.K) hts hts1 hv ⟨ρ, M, O, π, pr, ρ1, h, e1, fun v H1 M1 x1 s1 r1 => ?_⟩
        obtain ⟨M2, x2, s2⟩ := put_ok s1 r1 e2
        exact q _ H1 M2 (x1.trans x2) s2
      · cases e
    · cases e
end
end Vi

namespace Vi
open PySem PySem.Spec PyProof.Rows L2

/-! ### what a def does, over data -/
/-- the names' values, what is handed back and the lists that were handed in to be changed -/
abbrev Out := Sv × List (Option (List D))
abbrev Fn := List Sv → Option Out
def outsOf : List Sv → Fm → Option (List (Option (List D)))
  | [], _ => some []
  | .imm _ :: as, _ :: ρ => match outsOf as ρ with
    | some os => some (none :: os)
    | none => none
  | .own _ _ :: as, some (.own .par ds) :: ρ => match outsOf as ρ with
    | some os => some (some ds :: os)
    | none => none
  | _, _ => none
def pinned : List Sv → Bool
  | [] => true
  | .imm _ :: as => pinned as
  | .own .par _ :: as => pinned as
  | .own _ _ :: _ => false
/-- nN: how many names, np: how many parameters -/
def mFn (nN np : Nat) (body : MS) : Fn := fun args =>
  if args.length = np then match body (args.map some ++ List.replicate (nN - np) none) with
    | some (.ret r, ρ) => match outsOf args ρ with
      | some os => some (r, os)
      | none => none
    | some (.next, ρ) => match outsOf args ρ with
      | some os => some (.imm .none, os)
      | none => none
    | _ => none
  else none
def OutR (K : PySem.W.Frag) (H : Hp) (M : Mset) (π : Nat → Option Addr) (os : List (Option (List D))) : Prop :=
  ∀ (i : Nat) (ds : List D), os[i]? = some (some ds) → ∃ a ws, π i = some a ∧ H a = some (.lst ws) ∧ M a ∧ Reps K H M ws ds
def RetR (K : PySem.W.Frag) (H : Hp) (M O : Mset) (π : Nat → Option Addr) (os : List (Option (List D))) : Sv → V → Prop
  | .imm d, v => Rep K H M v d
  | .own b ds, v => ∃ p vs, v = .ref p ∧ H p = some (cell b p vs ds) ∧ M p ∧ ¬ O p ∧ Reps K H M vs ds ∧ ∀ (i : Nat) (es : List D), os[i]? = some (some es) → π i ≠ some p
def spD (K : PySem.W.Frag) (n : Nat) (f : Fn) : Sp := fun vs H Q _ => ∃ M O π args r os, vs.length = n ∧ SR K H M O π (args.map some) (vs.map some) ∧ f args = some (r, os) ∧
  ∀ v H' M', (∀ a, M' a → H' a ≠ none) → Ext O H M H' M' → OutR K H' M' π os → RetR K H' M' O π os r v → Q v H'
theorem outs_len : ∀ {as : List Sv} {ρ : Fm} {os : List (Option (List D))}, outsOf as ρ = some os → os.length = as.length
  | [], _, _, e => by cases e; rfl
  | .imm _ :: as, [], _, e => by cases e
  | .imm d :: as, x :: ρ, os, e => by
    unfold outsOf at e
    split at e
    · rename_i o e1
      cases e
      rw [List.length_cons, List.length_cons, outs_len e1]
    · cases e
  | .own _ _ :: as, [], _, e => by cases e
  | .own _ _ :: as, none :: ρ, _, e => by cases e
  | .own _ _ :: as, some (.imm _) :: ρ, _, e => by cases e
  | .own _ _ :: as, some (.own .loc _) :: ρ, _, e => by cases e
  | .own _ _ :: as, some (.own .par ds) :: ρ, os, e => by
    unfold outsOf at e
    split at e
    · rename_i o e1
      cases e
      rw [List.length_cons, List.length_cons, outs_len e1]
    · cases e
theorem outs_get : ∀ {as : List Sv} {ρ : Fm} {os : List (Option (List D))} {i : Nat} {ds : List D}, outsOf as ρ = some os → os[i]? = some (some ds) → ρ[i]? = some (some (.own .par ds)) ∧ ∃ b es, as[i]? = some (.own b es)
  | [], _, _, _, _, e, h => by cases e; simp at h
  | .imm _ :: as, [], _, _, _, e, h => by cases e
  | .imm d :: as, x :: ρ, os, i, ds, e, h => by
    unfold outsOf at e
    split at e
    · rename_i o e1
      cases e
      cases i with
      | zero => simp at h
      | succ i =>
        obtain ⟨h1, h2⟩ := outs_get e1 (by simpa using h)
        exact ⟨by simpa using h1, by simpa using h2⟩
    · cases e
  | .own _ _ :: as, [], _, _, _, e, h => by cases e
  | .own _ _ :: as, none :: ρ, _, _, _, e, h => by cases e
  | .own _ _ :: as, some (.imm _) :: ρ, _, _, _, e, h => by cases e
  | .own _ _ :: as, some (.own .loc _) :: ρ, _, _, _, e, h => by cases e
  | .own b es :: as, some (.own .par ds') :: ρ, os, i, ds, e, h => by
    unfold outsOf at e
    split at e
    · rename_i o e1
      cases e
      cases i with
      | zero =>
        simp at h
        subst h
        exact ⟨rfl, b, es, rfl⟩
      | succ i =>
        obtain ⟨h1, h2⟩ := outs_get e1 (by simpa using h)
        exact ⟨by simpa using h1, by simpa using h2⟩
    · cases e
/-- an own parameter is handed out -/
theorem outs_own : ∀ {as : List Sv} {ρ : Fm} {os : List (Option (List D))} {i : Nat} {b : Kd} {es : List D}, outsOf as ρ = some os → as[i]? = some (.own b es) → ∃ ds, os[i]? = some (some ds)
  | [], _, _, _, _, _, e, h => by simp at h
  | .imm _ :: as, [], _, _, _, _, e, h => by cases e
  | .imm d :: as, x :: ρ, os, i, _, _, e, h => by
    unfold outsOf at e
    split at e
    · rename_i o e1
      cases e
      cases i with
      | zero => simp at h
      | succ i => obtain ⟨ds, h1⟩ := outs_own e1 (by simpa using h); exact ⟨ds, by simpa using h1⟩
    · cases e
  | .own _ _ :: as, [], _, _, _, _, e, h => by cases e
  | .own _ _ :: as, none :: ρ, _, _, _, _, e, h => by cases e
  | .own _ _ :: as, some (.imm _) :: ρ, _, _, _, _, e, h => by cases e
  | .own _ _ :: as, some (.own .loc _) :: ρ, _, _, _, _, e, h => by cases e
  | .own b es :: as, some (.own .par ds') :: ρ, os, i, _, _, e, h => by
    unfold outsOf at e
    split at e
    · rename_i o e1
      cases e
      cases i with
      | zero => exact ⟨ds', rfl⟩
      | succ i => obtain ⟨ds, h1⟩ := outs_own e1 (by simpa using h); exact ⟨ds, by simpa using h1⟩
    · cases e

section
variable {P : Program} {w : World} {K : PySem.W.Frag} {mg : Str → Option Value} {base : Heap}
theorem SR.pad {H : Hp} {M O : Mset} {π : Nat → Option Addr} {as : List Sv} {vs : List V} (h : SR K H M O π (as.map some) (vs.map some)) (n : Nat) : SR K H M O π (as.map some ++ List.replicate n none) (vs.map some ++ List.replicate n none) := by
  have len : as.length = vs.length := by have := h.len; simpa using this
  have get : ∀ {i : Nat} {s : Sv}, (as.map some ++ List.replicate n none)[i]? = some (some s) → (as.map some)[i]? = some (some s) ∧ i < vs.length := fun {i s} e => by
    by_cases hi : i < as.length
    · rw [List.getElem?_append_left (by simpa using hi)] at e
      exact ⟨e, by omega⟩
    · rw [List.getElem?_append_right (by simpa using hi), List.getElem?_replicate] at e
      split at e <;> cases e
  have up : ∀ {i : Nat}, i < vs.length → (vs.map some ++ List.replicate n none)[i]? = (vs.map some)[i]? := fun {i} hi => List.getElem?_append_left (by simpa using hi)
  refine ⟨by rw [List.length_append, List.length_append, h.len]; simp, h.sub, h.live, fun i d e => ?_, fun i b ds e => ?_, fun i j b c ds es a hij e f g => ?_⟩
  · obtain ⟨e1, hi⟩ := get e
    rw [up hi]; exact h.imm i d e1
  · obtain ⟨e1, hi⟩ := get e
    rw [up hi]; exact h.own i b ds e1
  · obtain ⟨e1, hi⟩ := get e
    obtain ⟨f1, hj⟩ := get f
    rw [up hi] at g
    rw [up hj]; exact h.uniq i j b c ds es a hij e1 f1 g
/-- THE RULE for a def -/
theorem fn_ok {x qual : Str} {st : Stmt} {f : Addr} {fd : FuncData} {N ps : List Str} {k : Nat} {body : MS} (F : Fun K x qual st f fd) (S : FnScope N ps (defScope st))
    (hb : ∀ (cdv : Value) (A : Around) (outer : List Env) (s : Shared) (H : Hp) (E : XK), Room k (A.deeper (envOfC qual (defScope st) s.heap.objs.size f cdv)) → DSs (cxOf CX0 P w K mg base N qual (defScope st) f cdv A outer s H E).nox (defBody st) body) :
    FnOk P w K mg base CX0 (k + 1) f fd ps (spD K ps.length (mFn N.length ps.length body)) := by
  refine F.ok S (fun vs H Q E h => ?_) (fun cdv A outer s H vs Q E hr h => ?_)
  · obtain ⟨M, O, π, args, r, os, hl, _⟩ := h
    exact hl
  · obtain ⟨M, O, π, args, r, os, hl, hs, e, q⟩ := h
    have hal : args.length = vs.length := by have := hs.len; simpa using this
    refine ⟨_, hb cdv A outer s H E hr, ?_⟩
    unfold mFn at e
    have start_eq : L2.start N vs = vs.map some ++ List.replicate (N.length - ps.length) none := by unfold L2.start; rw [hl]
    have fin : ∀ {σ' : St} {ρ' : Fm} {H' : Hp} {M' : Mset} {rr : Sv} {v : V}, Ext O H M H' M' → SR K H' M' O π ρ' σ' → RV K H' M' O ρ' σ' rr v → outsOf args ρ' = some os → rr = r → Q v H' := fun {σ' ρ' H' M' rr v} x s r1 eo er => by
      subst er
      refine q v H' M' s.live x (fun i ds ei => ?_) ?_
      · obtain ⟨e1, _⟩ := outs_get eo ei
        obtain ⟨a, ws, f1, f2, f3, f4, f5, f6⟩ := s.own i .par ds e1
        exact ⟨a, ws, f6 rfl, f2, f3, f5⟩
      · cases rr with
        | imm d => exact r1
        | own b ds =>
          obtain ⟨p, ws, g1, g2, g3, g4, g5, g6⟩ := r1
          refine ⟨p, ws, g1, g2, g3, g4, g5, fun i es ei hp => ?_⟩
          obtain ⟨e1, _⟩ := outs_get eo ei
          obtain ⟨a, us, f1, f2, f3, f4, f5, f6⟩ := s.own i .par es e1
          rw [f6 rfl] at hp; cases hp
          exact g6 i es e1 f1
    split at e
    · rename_i hn
      split at e
      · rename_i r' ρ' e1
        split at e
        · rename_i os' e2
          cases e
          refine ⟨_, M, O, π, .ret r, ρ', by rw [start_eq]; exact hs.pad _, e1, fun v σ' H' M' x s r1 => fin x s r1 e2 rfl⟩
        · cases e
      · rename_i ρ' e1
        split at e
        · rename_i os' e2
          cases e
          refine ⟨_, M, O, π, .next, ρ', by rw [start_eq]; exact hs.pad _, e1, fun σ' H' M' x s => fin (rr := .imm .none) x s .non e2 rfl⟩
        · cases e
      · cases e
    · cases e
end

/-! ### calls -/
/-- an argument: a value, or a name's own list that the callee may change -/
inductive AR where
  | v (d : D)
  | s (i : Nat)
abbrev MR := Fm → Option (List AR × Fm)
def ARep (K : PySem.W.Frag) (H : Hp) (M : Mset) (σ : St) : AR → V → Prop
  | .v d, v => Rep K H M v d
  | .s i, v => σ[i]? = some (some v)
abbrev AReps (K : PySem.W.Frag) (H : Hp) (M : Mset) (σ : St) : List V → List AR → Prop := Paired fun v a => ARep K H M σ a v
def tR (K : PySem.W.Frag) (m : MR) : TA := fun σ H Q => ∃ ρ M O π as ρ', SR K H M O π ρ σ ∧ m ρ = some (as, ρ') ∧ ∀ vs H' M', Ext O H M H' M' → SR K H' M' O π ρ' σ → AReps K H' M' σ vs as → Q vs H'
def DR (X : Cx) (es : List Expr) (m : MR) : Prop := PA X es (tR X.K m)
def rNil : MR := fun ρ => some ([], ρ)
def rVal (me : ME) (n : MR) : MR := fun ρ => match me ρ with
  | some (pr, ρ1) => match frz ρ1 pr with
    | some (d, ρ2) => match n ρ2 with
      | some (as, ρ3) => some (.v d :: as, ρ3)
      | none => none
    | none => none
  | none => none
def rSlot (i : Nat) (n : MR) : MR := fun ρ => match ρ[i]? with
  | some (some (.own _ _)) => match n ρ with
    | some (as, ρ3) => some (.s i :: as, ρ3)
    | none => none
  | _ => none
section
variable {X : Cx} {e : Expr} {es : List Expr} {me : ME} {n : MR}
theorem ARep.tr {K : PySem.W.Frag} {H H' : Hp} {M M' : Mset} {σ : St} {a : AR} {v : V} (l : Lat H M H' M') (r : ARep K H M σ a v) : ARep K H' M' σ a v := by
  cases a with
  | v d => exact Rep.tr l r
  | s i => exact r
theorem dr_nil : DR X [] rNil := PA.imp pa_nil fun σ H Q ⟨ρ, M, O, π, ds, ρ', h, e, q⟩ => by
  cases e
  exact q [] H M (.refl h) h .nil
theorem dr_val (he : DE X e me) (hes : DR X es n) (hs : starEach (e :: es) X.env = (false, eval e X.env) :: starEach es X.env := by rfl) : DR X (e :: es) (rVal me n) :=
  PA.imp (pa_cons he hes hs) fun σ H Q ⟨ρ, M, O, π, ds, ρ', h, e, q⟩ => by
    unfold rVal at e
    split at e
    · rename_i pr ρ1 e1
      split at e
      · rename_i d ρ2 e2
        split at e
        · rename_i as ρ3 e3
          cases e
          refine ⟨ρ, M, O, π, pr, ρ1, h, e1, fun v H1 M1 x1 s1 r1 => ?_⟩
          obtain ⟨M2, x2, s2, r2⟩ := frz_ok s1 r1 e2
          exact ⟨ρ2, M2, O, π, as, _, s2, e3, fun vs H3 M3 x3 s3 r3 => q (v :: vs) H3 M3 ((x1.trans x2).trans x3) s3 (.cons (r2.tr x3.tr) r3)⟩
        · cases e
      · cases e
    · cases e
theorem dr_slot {i : Nat} (he : PE X e (tVar i)) (hes : DR X es n) (hs : starEach (e :: es) X.env = (false, eval e X.env) :: starEach es X.env := by rfl) : DR X (e :: es) (rSlot i n) :=
  PA.imp (pa_cons he hes hs) fun σ H Q ⟨ρ, M, O, π, ds, ρ', h, e, q⟩ => by
    unfold rSlot at e
    split at e
    · rename_i b0 ds0 e0
      split at e
      · rename_i as ρ3 e3
        cases e
        obtain ⟨a, vs, f1, _⟩ := h.own i b0 ds0 e0
        exact ⟨_, f1, ρ, M, O, π, as, _, h, e3, fun vs H3 M3 x3 s3 r3 => q _ H3 M3 x3 s3 (.cons f1 r3)⟩
      · cases e
    · cases e
/-- the arguments as the callee sees them -/
def argsOf (ρ : Fm) : List AR → Option (List Sv)
  | [] => some []
  | .v d :: as => match argsOf ρ as with
    | some xs => some (.imm d :: xs)
    | none => none
  | .s i :: as => match ρ[i]? with
    | some (some (.own .dic _)) => none
    | some (some (.own _ ds)) => match argsOf ρ as with
      | some xs => some (.own .par ds :: xs)
      | none => none
    | _ => none
def slotsOf : List AR → List Nat
  | [] => []
  | .v _ :: as => slotsOf as
  | .s i :: as => i :: slotsOf as
def nodupB : List Nat → Bool
  | [] => true
  | i :: is => !is.contains i && nodupB is
/-- the callee's changes -/
def backTo (ρ : Fm) : List AR → List (Option (List D)) → Option Fm
  | [], [] => some ρ
  | .v _ :: as, _ :: os => backTo ρ as os
  | .s i :: as, some ds :: os => match ρ[i]? with
    | some (some (.own .dic _)) => none
    | some (some (.own b _)) => backTo (ρ.set i (some (.own b ds))) as os
    | _ => none
  | _, _ => none
def mCall (f : Fn) (mr : MR) : ME := fun ρ => match mr ρ with
  | some (as, ρ1) => if nodupB (slotsOf as) = true then match argsOf ρ1 as with
    | some args => match f args with
      | some (r, os) => match backTo ρ1 as os with
        | some ρ2 => some (.val r, ρ2)
        | none => none
      | none => none
    | none => none
    else none
  | none => none
end
section
variable {K : PySem.W.Frag} {H H' : Hp} {M M' O : Mset} {π : Nat → Option Addr} {ρ ρ' : Fm} {σ : St} {as : List AR} {vs : List V} {args : List Sv} {os : List (Option (List D))}
theorem args_len : ∀ {as : List AR} {args : List Sv}, argsOf ρ as = some args → args.length = as.length
  | [], _, e => by cases e; rfl
  | .v d :: as, _, e => by
    unfold argsOf at e
    split at e
    · rename_i xs e1
      cases e; rw [List.length_cons, List.length_cons, args_len e1]
    · cases e
  | .s i :: as, _, e => by
    unfold argsOf at e
    split at e
    · cases e
    · split at e
      · rename_i xs e1
        cases e; rw [List.length_cons, List.length_cons, args_len e1]
      · cases e
    · cases e
theorem args_get : ∀ {as : List AR} {args : List Sv} {j : Nat} {s : Sv}, argsOf ρ as = some args → args[j]? = some s → (∃ d, as[j]? = some (.v d) ∧ s = .imm d) ∨ ∃ i b ds, as[j]? = some (.s i) ∧ ρ[i]? = some (some (.own b ds)) ∧ b.isL = true ∧ s = .own .par ds
  | [], _, _, _, e, h => by cases e; simp at h
  | .v d :: as, _, j, s, e, h => by
    unfold argsOf at e
    split at e
    · rename_i xs e1
      cases e
      cases j with
      | zero => simp at h; exact .inl ⟨d, rfl, h.symm⟩
      | succ j => simpa using args_get e1 (by simpa using h)
    · cases e
  | .s i :: as, _, j, s, e, h => by
    unfold argsOf at e
    split at e
    · cases e
    · rename_i b ds hbn hb
      split at e
      · rename_i xs e1
        cases e
        cases j with
        | zero => simp at h; exact .inr ⟨i, b, ds, rfl, hb, isL_of hbn, h.symm⟩
        | succ j => simpa using args_get e1 (by simpa using h)
      · cases e
    · cases e
theorem slots_mem : ∀ {as : List AR} {j i : Nat}, as[j]? = some (.s i) → i ∈ slotsOf as
  | [], _, _, h => by simp at h
  | .v _ :: as, 0, _, h => by simp at h
  | .v _ :: as, j + 1, i, h => slots_mem (as := as) (j := j) (by simpa using h)
  | .s k :: as, 0, i, h => by simp at h; subst h; exact List.mem_cons_self ..
  | .s k :: as, j + 1, i, h => List.mem_cons_of_mem _ (slots_mem (as := as) (j := j) (by simpa using h))
theorem slots_at : ∀ {as : List AR} {i : Nat}, i ∈ slotsOf as → ∃ (j : Nat), as[j]? = some (AR.s i)
  | [], _, h => by cases h
  | .v _ :: as, i, h => by obtain ⟨j, e⟩ := slots_at (as := as) h; exact ⟨j + 1, by simpa using e⟩
  | .s k :: as, i, h => by
    rcases List.mem_cons.mp h with rfl | h
    · exact ⟨0, rfl⟩
    · obtain ⟨j, e⟩ := slots_at (as := as) h; exact ⟨j + 1, by simpa using e⟩
theorem slots_inj : ∀ {as : List AR} {j k i : Nat}, nodupB (slotsOf as) = true → as[j]? = some (.s i) → as[k]? = some (.s i) → j = k
  | [], _, _, _, _, h, _ => by simp at h
  | .v _ :: as, 0, _, _, _, h, _ => by simp at h
  | .v _ :: as, _ + 1, 0, _, _, _, h => by simp at h
  | .v _ :: as, j + 1, k + 1, i, n, h, g => by rw [slots_inj (as := as) (j := j) (k := k) n (by simpa using h) (by simpa using g)]
  | .s m :: as, 0, 0, _, _, _, _ => rfl
  | .s m :: as, 0, k + 1, i, n, h, g => by
    simp at h; subst h
    have : m ∈ slotsOf as := slots_mem (j := k) (by simpa using g)
    unfold slotsOf nodupB at n
    rw [Bool.and_eq_true] at n
    simp [this] at n
  | .s m :: as, j + 1, 0, i, n, h, g => by
    simp at g; subst g
    have : m ∈ slotsOf as := slots_mem (j := j) (by simpa using h)
    unfold slotsOf nodupB at n
    rw [Bool.and_eq_true] at n
    simp [this] at n
  | .s m :: as, j + 1, k + 1, i, n, h, g => by
    unfold slotsOf nodupB at n
    rw [Bool.and_eq_true] at n
    rw [slots_inj (as := as) (j := j) (k := k) n.2 (by simpa using h) (by simpa using g)]
theorem paired_get {α β : Type} {F : α → β → Prop} : ∀ {xs : List α} {ys : List β} {i : Nat} {y : β}, Paired F xs ys → ys[i]? = some y → ∃ x, xs[i]? = some x ∧ F x y
  | _, _, _, _, .nil, e => by simp at e
  | _, _, 0, y, .cons r _, e => by simp at e; subst e; exact ⟨_, rfl, r⟩
  | _, _, i + 1, y, .cons _ t, e => by
    obtain ⟨x, h1, h2⟩ := paired_get (i := i) t (by simpa using e)
    exact ⟨x, by simpa using h1, h2⟩
/-- what the callee may not touch -/
def calO (M : Mset) (σ : St) (is : List Nat) : Mset := fun a => M a ∧ ∀ i ∈ is, σ[i]? ≠ some (some (.ref a))
def calP (vs : List V) : Nat → Option Addr := fun j => match vs[j]? with
  | some (.ref a) => some a
  | _ => none
theorem call_start (h : SR K H M O π ρ σ) (r : AReps K H M σ vs as) (n : nodupB (slotsOf as) = true) (e : argsOf ρ as = some args) : SR K H M (calO M σ (slotsOf as)) (calP vs) (args.map some) (vs.map some) := by
  have hl : args.length = vs.length := by rw [args_len e]; exact (Paired.length r).symm
  have get : ∀ {j : Nat} {s : Sv}, (args.map some)[j]? = some (some s) → args[j]? = some s := fun {j s} q => by
    rw [List.getElem?_map] at q
    obtain ⟨x, h1, h2⟩ := Option.map_eq_some_iff.mp q
    cases h2; exact h1
  have own : ∀ {j : Nat} {c : Kd} {ds : List D}, (args.map some)[j]? = some (some (.own c ds)) → ∃ i b a ws, as[j]? = some (.s i) ∧ ρ[i]? = some (some (.own b ds)) ∧ c = .par ∧ vs[j]? = some (.ref a) ∧ σ[i]? = some (some (.ref a)) ∧ H a = some (.lst ws) ∧ M a ∧ ¬ O a ∧ Reps K H M ws ds := fun {j c ds} q => by
    rcases args_get e (get q) with ⟨d, _, z⟩ | ⟨i, b, ds', e1, e2, hL, z⟩
    · cases z
    · cases z
      obtain ⟨v, e3, e4⟩ := paired_get r e1
      obtain ⟨a, ws, f1, f2, f3, f4, f5, _⟩ := h.ownL e2 hL
      have e4' : σ[i]? = some (some v) := e4
      rw [f1] at e4'; cases e4'
      exact ⟨i, b, a, ws, e1, e2, rfl, e3, f1, f2, f3, f4, f5⟩
  have up : ∀ {j : Nat} {v : V}, vs[j]? = some v → (vs.map some)[j]? = some (some v) := fun q => by rw [List.getElem?_map, q]; rfl
  refine ⟨by rw [List.length_map, List.length_map, hl], fun a q => q.1, h.live, fun j d q => ?_, fun j c ds q => ?_, fun j k c c' ds es a hjk q q2 q3 q4 => ?_⟩
  · rcases args_get e (get q) with ⟨d', e1, z⟩ | ⟨i, b, ds', e1, e2, hL, z⟩
    · cases z
      obtain ⟨v, e3, e4⟩ := paired_get r e1
      exact ⟨v, up e3, e4⟩
    · cases z
  · obtain ⟨i, b, a, ws, e1, e2, e3, e4, f1, f2, f3, f4, f5⟩ := own q
    subst e3
    refine ⟨a, ws, up e4, f2, f3, fun z => z.2 i (slots_mem e1) f1, f5, fun _ => ?_⟩
    unfold calP
    rw [e4]
  · obtain ⟨i, b, a1, ws, e1, e2, e3, e4, f1, f2, f3, f4, f5⟩ := own q
    obtain ⟨i', b', a2, ws', e1', e2', e3', e4', f1', f2', f3', f4', f5'⟩ := own q2
    rw [up e4] at q3; cases q3
    rw [up e4'] at q4; cases q4
    have hi : i ≠ i' := fun z => by
      subst z
      exact hjk (slots_inj n e1 e1')
    exact h.uniq i i' b b' ds es a hi e2 e2' f1 f1'
/-- the names behind the callee's changes -/
theorem back_get : ∀ {as : List AR} {os : List (Option (List D))} {ρ ρ' : Fm}, nodupB (slotsOf as) = true → backTo ρ as os = some ρ' → ρ'.length = ρ.length ∧ (∀ (i : Nat), i ∉ slotsOf as → ρ'[i]? = ρ[i]?) ∧
    ∀ (i : Nat), i ∈ slotsOf as → ∃ (j : Nat) (b : Kd) (ds es : List D), as[j]? = some (AR.s i) ∧ os[j]? = some (some ds) ∧ ρ[i]? = some (some (.own b es)) ∧ ρ'[i]? = some (some (.own b ds)) ∧ b.isL = true
  | [], [], ρ, ρ', _, e => by
    cases e
    exact ⟨rfl, fun _ _ => rfl, fun i hi => by cases hi⟩
  | [], _ :: _, _, _, _, e => by cases e
  | .v _ :: as, [], _, _, _, e => by cases e
  | .v _ :: as, o :: os, ρ, ρ', n, e => by
    obtain ⟨h1, h2, h3⟩ := back_get (as := as) (os := os) n e
    refine ⟨h1, h2, fun i hi => ?_⟩
    obtain ⟨j, b, ds, es, g1, g2, g3, g4⟩ := h3 i hi
    exact ⟨j + 1, b, ds, es, by simpa using g1, by simpa using g2, g3, g4⟩
  | .s _ :: as, [], _, _, _, e => by cases e
  | .s _ :: as, none :: os, _, _, _, e => by cases e
  | .s m :: as, some ds :: os, ρ, ρ', n, e => by
    unfold backTo at e
    split at e
    · cases e
    · rename_i b es hbn hb
      unfold slotsOf nodupB at n
      rw [Bool.and_eq_true] at n
      have nm : m ∉ slotsOf as := fun z => by have := n.1; simp [z] at this
      obtain ⟨h1, h2, h3⟩ := back_get (as := as) (os := os) n.2 e
      refine ⟨by rw [h1, List.length_set], fun i hi => ?_, fun i hi => ?_⟩
      · unfold slotsOf at hi
        rw [List.mem_cons, not_or] at hi
        rw [h2 i hi.2, List.getElem?_set_ne (Ne.symm hi.1)]
      · unfold slotsOf at hi
        rcases List.mem_cons.mp hi with rfl | hi
        · exact ⟨0, b, ds, es, rfl, rfl, hb, by rw [h2 i nm]; exact get_set_same hb, isL_of hbn⟩
        · obtain ⟨j, b', ds', es', g1, g2, g3, g4, gL⟩ := h3 i hi
          have hne : i ≠ m := fun z => nm (z ▸ hi)
          rw [List.getElem?_set_ne (Ne.symm hne)] at g3
          exact ⟨j + 1, b', ds', es', by simpa using g1, by simpa using g2, g3, g4, gL⟩
    · cases e
theorem call_end (h : SR K H M O π ρ σ) (r : AReps K H M σ vs as) (n : nodupB (slotsOf as) = true) (eb : backTo ρ as os = some ρ') (lv : ∀ a, M' a → H' a ≠ none) (x : Ext (calO M σ (slotsOf as)) H M H' M') (ho : OutR K H' M' (calP vs) os) :
    Ext O H M H' M' ∧ SR K H' M' O π ρ' σ := by
  obtain ⟨b1, b2, b3⟩ := back_get n eb
  have sub : ∀ a, O a → calO M σ (slotsOf as) a := fun a q => ⟨h.sub a q, fun i hi z => by
    obtain ⟨j, b, ds, es, g1, g2, g3, g4, gL⟩ := b3 i hi
    obtain ⟨a', ws, f1, f2, f3, f4, _⟩ := h.own i b es g3
    rw [z] at f1; cases f1
    exact f4 q⟩
  have same : ∀ {i : Nat} {s : Sv}, ρ'[i]? = some (some s) → i ∉ slotsOf as → ρ[i]? = some (some s) := fun e hi => by rw [b2 _ hi] at e; exact e
  have ow : ∀ {i : Nat} {b : Kd} {ds : List D}, ρ'[i]? = some (some (.own b ds)) → ∃ es, ρ[i]? = some (some (.own b es)) := fun {i b ds} e => by
    by_cases hi : i ∈ slotsOf as
    · obtain ⟨j, b', ds', es, g1, g2, g3, g4, gL⟩ := b3 i hi
      rw [e] at g4; cases g4
      exact ⟨es, g3⟩
    · exact ⟨ds, same e hi⟩
  refine ⟨x.less sub, ⟨by rw [b1]; exact h.len, fun a q => x.sub a (sub a q), lv, fun i d e => ?_, fun i b ds e => ?_, fun i j b c ds es a hij e f g => ?_⟩⟩
  · by_cases hi : i ∈ slotsOf as
    · obtain ⟨j, b', ds', es, g1, g2, g3, g4, gL⟩ := b3 i hi
      rw [e] at g4; cases g4
    · obtain ⟨v, e1, rr⟩ := h.imm i d (same e hi)
      exact ⟨v, e1, rr.tr x.tr⟩
  · by_cases hi : i ∈ slotsOf as
    · obtain ⟨j, b', ds', es, g1, g2, g3, g4, gL⟩ := b3 i hi
      rw [e] at g4; cases g4
      obtain ⟨a, ws, f1, f2, f3, f4, f5, f6⟩ := h.ownL g3 gL
      obtain ⟨v, e3, e4⟩ := paired_get r g1
      have e4' : σ[i]? = some (some v) := e4
      rw [f1] at e4'; cases e4'
      obtain ⟨a', us, p1, p2, p3, p4⟩ := ho j ds g2
      unfold calP at p1
      rw [e3] at p1
      cases p1
      exact ⟨a, us, f1, p2.trans (congrArg some (cell_lst gL).symm), p3, f4, p4, f6⟩
    · have e0 := same e hi
      obtain ⟨a, ws, f1, f2, f3, f4, f5, f6⟩ := h.own i b ds e0
      have ha : calO M σ (slotsOf as) a := ⟨f3, fun k hk z => by
        obtain ⟨j, b', ds', es, g1, g2, g3, g4, gL⟩ := b3 k hk
        exact h.uniq i k _ _ _ _ a (fun q => hi (q ▸ hk)) e0 g3 f1 z⟩
      exact ⟨a, ws, f1, x.keep a _ f2 (.inl ha), x.sub a ha, f4, f5.tr x.tr, f6⟩
  · obtain ⟨ds', e1⟩ := ow e
    obtain ⟨es', f1⟩ := ow f
    exact h.uniq i j b c ds' es' a hij e1 f1 g
/-- what comes back -/
theorem call_ret {rr : Sv} {v : V} (h : SR K H M O π ρ σ) (r : AReps K H M σ vs as) (n : nodupB (slotsOf as) = true) (eb : backTo ρ as os = some ρ') (x : Ext (calO M σ (slotsOf as)) H M H' M') (ho : OutR K H' M' (calP vs) os) (q : RetR K H' M' (calO M σ (slotsOf as)) (calP vs) os rr v) :
    RP K H' M' O ρ' σ (.val rr) v := by
  cases rr with
  | imm d => exact q
  | own b0 ds0 =>
    obtain ⟨p, ws, e1, e2, e3, e4, e5, e6⟩ := q
    obtain ⟨b1, b2, b3⟩ := back_get n eb
    refine ⟨p, ws, e1, e2, e3, fun z => e4 ⟨h.sub p z, fun i hi y => ?_⟩, e5, fun i b ds e y => ?_⟩
    · obtain ⟨j, b, ds, es, g1, g2, g3, g4, gL⟩ := b3 i hi
      obtain ⟨a', ws', f1, f2, f3, f4, _⟩ := h.own i b es g3
      rw [y] at f1; cases f1
      exact f4 z
    · by_cases hi : i ∈ slotsOf as
      · obtain ⟨j, b', ds', es, g1, g2, g3, g4, gL⟩ := b3 i hi
        obtain ⟨v', e7, e8⟩ := paired_get r g1
        have e8' : σ[i]? = some (some v') := e8
        rw [y] at e8'; cases e8'
        exact e6 j ds' g2 (by unfold calP; rw [e7])
      · rw [b2 i hi] at e
        obtain ⟨a, us, f1, f2, f3, f4, f5, f6⟩ := h.own i b ds e
        rw [y] at f1; cases f1
        exact e4 ⟨f3, fun k hk z => by
          obtain ⟨j, b', ds', es, g1, g2, g3, g4, gL⟩ := b3 k hk
          exact h.uniq i k _ _ _ _ p (fun q => hi (q ▸ hk)) e g3 y z⟩
end
section
variable {X : Cx} {e : Expr} {es : List Expr} {me : ME} {mr : MR} {k np : Nat} {f : Addr} {fd : FuncData} {ps : List Str} {g : Fn} {x : Str} {p pos : Pos}
theorem tR_call {σ : St} {H : Hp} {Q : VK} (hn : ∀ ρ as ρ', mr ρ = some (as, ρ') → as.length = np) (h : tE X.K (mCall g mr) σ H Q) : tR X.K mr σ H fun vs H1 => spD X.K np g vs H1 Q E0 := by
  obtain ⟨ρ, M, O, π, pr, ρ', h, e, q⟩ := h
  unfold mCall at e
  split at e
  · rename_i as ρ1 e1
    split at e
    · rename_i n
      split at e
      · rename_i args e2
        split at e
        · rename_i r os e3
          split at e
          · rename_i ρ2 e4
            cases e
            refine ⟨ρ, M, O, π, as, ρ1, h, e1, fun vs H1 M1 x1 s1 r1 => ?_⟩
            refine ⟨M1, _, _, args, r, os, by rw [Paired.length r1]; exact hn _ _ _ e1, call_start s1 r1 n e2, e3, fun v H2 M2 lv x2 ho rr => ?_⟩
            obtain ⟨x3, s3⟩ := call_end s1 r1 n e4 lv x2 ho
            exact q v H2 M2 (x1.trans x3) s3 (call_ret s1 r1 n e4 x2 ho rr)
          · cases e
        · cases e
      · cases e
    · cases e
  · cases e
/-- f(e, ..) -/
theorem de_call (F : FnOk X.prog X.w X.K X.mg X.base CX0 k f fd ps (spD X.K ps.length g)) (hr : Room k X.A) (hg : Gl X x) (hm : X.mg x = some (.ref f)) (hk : PySem.W.keepIn X.K (.ref f) = true) (hb : Binds X.K fd ps [])
    (ha : DR X (e :: es) mr) (hn : ∀ ρ as ρ', mr ρ = some (as, ρ') → as.length = ps.length) (hdb : (x == ("__debug__" : Str)) = false := by decide) (he : starEach (e :: es) X.env = (false, eval e X.env) :: starEach es X.env := by rfl) (hpl : (PySem.backTo pos (starEach es X.env)).any (·.1) = false := by rfl) :
    DE X (.Call (.Name x p) (e :: es) [] pos) (mCall g mr) :=
  PE.imp (pe_call F hr hg hm hk hb .nil pass0 ha hdb he hpl) fun σ H Q h => by
    have := tR_call (X := X) hn h
    obtain ⟨ρ, M, O, π, as, ρ', h, e, q⟩ := this
    exact ⟨ρ, M, O, π, as, ρ', h, e, fun vs H' M' x s r => by show spD X.K ps.length g (vs ++ []) H' Q E0; rw [List.append_nil]; exact q vs H' M' x s r⟩
theorem de_call0 (F : FnOk X.prog X.w X.K X.mg X.base CX0 k f fd [] (spD X.K 0 g)) (hr : Room k X.A) (hg : Gl X x) (hm : X.mg x = some (.ref f)) (hk : PySem.W.keepIn X.K (.ref f) = true) (hb : Binds X.K fd [] []) (hdb : (x == ("__debug__" : Str)) = false := by decide) :
    DE X (.Call (.Name x p) [] [] pos) (mCall g rNil) :=
  PE.imp (pe_call0 (dvs := []) F hr hg hm hk hb .nil pass0 hdb) fun σ H Q h => by
    obtain ⟨ρ, M, O, π, as, ρ', h, e, q⟩ := tR_call (X := X) (np := 0) (fun ρ as ρ' e => by cases e; rfl) h
    cases e
    exact q [] H M (.refl h) h .nil
end
end Vi

namespace PySem
open Sem (wp)
open AutoSeq1 (wpAny_loadPart')
theorem vi_meets_enumerate_newT (l : Addr) (items : Array Value) (n : Nat) (dct : Option Addr) (sl : Array (Option Value)) :
    Meets (Builtin.«enumerate.__new__» ⟨[.type "enumerate", .ref l], []⟩) (fun _ R s => s.heap.get? l = some { cls := .type "tuple", dict := dct, data := .seq items n, slots := sl } ∧
      R (.ok (.ret (.ref (s.heap.push { cls := .type "tuple_iterator", data := .fields #[.ref l, .int 0 0] }).objs.size)))
        { s with heap := (s.heap.push { cls := .type "tuple_iterator", data := .fields #[.ref l, .int 0 0] }).push { cls := .type "enumerate", data := .fields #[.none, .bool false, .ref s.heap.objs.size, rawInt 0, .none, .none] } }) :=
  .of_wp fun prog w A R s h => by
    obtain ⟨hp, g, d, tk, os⟩ := s; obtain ⟨hl, h⟩ := h
    have hsub := sub_enumerate
    have hL : Heap.IsTuple (Shared.heap ⟨hp, g, d, tk, os⟩) l items := ⟨_, hl, rfl, n, rfl⟩
    wp_walk using wpAny_loadPart' hl
    refine wpAny_stack_any fun st => wpAny_pure ?_
    split
    · rename_i c _ _ _ _ _
      cases (c == Value.type "enumerate")
      · wp_walk using wpAny_loadPart' hl, wpAny_pyIter_tuple hL
        exact ⟨_, rfl, h⟩
      · wp_walk using wpAny_loadPart' hl, wpAny_pyIter_tuple hL
        exact ⟨_, rfl, h⟩
    · wp_walk using wpAny_loadPart' hl, wpAny_pyIter_tuple hL
      exact ⟨_, rfl, h⟩
theorem vi_call_enumerate_tuple {prog : Program} {w : World} {A : Around} {E : Value → Shared → Prop} {s : Shared} {l : Addr} {items : Array Value} {Q : Value → Shared → Prop} (hL : s.heap.IsTuple l items)
    (h : ∀ h', IsEnum h' (s.heap.objs.size + 1) s.heap.objs.size 0 .none → h'.IsTupleIter s.heap.objs.size l 0 → h'.objs.size = s.heap.objs.size + 2 →
      (∀ b o, s.heap.get? b = some o → h'.get? b = some o) → Q (.ref (s.heap.objs.size + 1)) { s with heap := h' }) :
    wpAny (model prog w) A (call (.type "enumerate") [.ref l]) Q E s := by
  obtain ⟨⟨c, dct, dt, sl⟩, hl, hc, n, hd⟩ := hL
  replace hc : c = .type "tuple" := hc
  replace hd : dt = .seq items n := hd
  subst hc hd
  refine callType_new F.called_enumerate (by decide) (F.typeCall_enumerate_1 _) (F.newCall_enumerate_1 _) (fun obj => F.args_object_init_2 obj _) F.entry_enumerate_new
    (vi_meets_enumerate_newT l items n dct sl) ⟨hl, ?_⟩
  have hz : (s.heap.push { cls := .type "tuple_iterator", data := .fields #[.ref l, .int 0 0] }).objs.size = s.heap.objs.size + 1 := Heap.size_push ..
  show _ ∧ _
  rw [hz]
  have he : IsEnum ((s.heap.push { cls := .type "tuple_iterator", data := .fields #[.ref l, .int 0 0] }).push
      { cls := .type "enumerate", data := .fields #[.none, .bool false, .ref s.heap.objs.size, rawInt 0, .none, .none] }) (s.heap.objs.size + 1) s.heap.objs.size 0 .none := by
    have := Heap.get?_push_size (s.heap.push { cls := .type "tuple_iterator", data := .fields #[.ref l, .int 0 0] })
      (o := { cls := .type "enumerate", data := .fields #[.none, .bool false, .ref s.heap.objs.size, rawInt 0, .none, .none] }) rfl
    rw [hz] at this; exact this
  refine ⟨⟨_, he, rfl⟩, h _ he ⟨_, Heap.get?_push_of_some _ (Heap.get?_push_size _ rfl), rfl, rfl⟩ (by rw [Heap.size_push, hz]) fun b o x => Heap.get?_push_of_some _ (Heap.get?_push_of_some _ x)⟩
end PySem
namespace Vi
open PySem PySem.Spec PyProof.Rows L2
/-! ### enumerate of a tuple -/
def IteT (K : PySem.W.Frag) (a : Addr) : It :=
  ⟨fun i H => ∃ (xs : List V) (x : V), SqT K H a xs ∧ xs[i]? = some x, fun i H v H' => ∃ T x, v = .ref T ∧ H T = none ∧ H' = upd H T (.tup [.int (i : Nat), x]) ∧ ∀ xs, SqT K H a xs → xs[i]? = some x, fun i H => ∃ xs : List V, SqT K H a xs ∧ xs.length ≤ i⟩
theorem turn_enumT {P : Program} {w : World} {K : PySem.W.Frag} {elts : List Expr} {kk : Nat} {tpos : Pos} (a e it : Addr) (hai : a ≠ it) (hae : a ≠ e) :
    Turn P w K (.Tuple elts kk tpos) (IteT K a) [e, it] e (fun i h => (∃ old, IsEnum h e it ((i : Nat) : Int) old) ∧ h.IsTupleIter it a i ∧ e ≠ it) where
  mem := by simp
  obj := fun i h st b hb => by
    obtain ⟨⟨old, he⟩, ⟨o, ho, hc, hd⟩, _⟩ := st
    have e' : b = e ∨ b = it := by simpa using hb
    rcases e' with z | z
    · rw [z]; exact ⟨_, he, fun v q => nomatch q⟩
    · rw [z]; exact ⟨o, ho, fun v q => by rw [hd] at q; cases q⟩
  keep := fun i h h' st k => let ⟨⟨old, he⟩, hi, hne⟩ := st; ⟨⟨old, k e (by simp) _ he⟩, hi.at fun o q => k it (by simp) o q, hne⟩
  item := by
    intro X hP hw hK hc i pins s σ H E I hf st hg
    subst hP hw hK
    obtain ⟨⟨old, he⟩, hit, hne⟩ := st
    obtain ⟨xs, x, hq, hx⟩ := hg
    obtain ⟨its, rv, p, hz⟩ := I.tuple hq
    obtain ⟨u, hu, ru⟩ := rv.get hx
    have hel : e < s.heap.objs.size := Heap.lt_size he
    have hil : it < s.heap.objs.size := by obtain ⟨_, q, _⟩ := hit; exact Heap.lt_size q
    have hlt : i < its.toArray.size := by simpa using (List.getElem?_eq_some_iff.mp hu).1
    refine wpAny_pyNext_enum_itemD (Draws.tuple (A := X.A.in1) (I.ok.hd hc) it a hai its.toArray) he ⟨hit, p⟩ hlt hne (by simp; exact ⟨hne, fun z => hae z.symm⟩) fun y h' tk py ho ⟨hit', _⟩ hT hsz hk => ?_
    have ey : y = u := by
      have h1 : its.toArray[i]? = some y := py
      have h2 : its.toArray[i]? = some u := by simpa using hu
      rw [h2] at h1; exact (Option.some.inj h1).symm
    subst ey
    refine ⟨_, rfl, wpAny_letOwnedTupleGo_enum (s := { s with heap := h', toks := tk + 1 }) ho fun h'' he' sb => ?_⟩
    have hT2 : h''.get? s.heap.objs.size = some { cls := .type "tuple", data := .seq #[.int i tk, y] } := (sb.2 _ (Nat.ne_of_gt hel)).trans hT
    have new : ObjOk X.prog X.w (upd H s.heap.objs.size (.tup [.int (i : Nat), x])) h'' s.heap.objs.size (.tup [.int (i : Nat), x]) :=
      ⟨by show 2 ≤ sizeLine; decide, [.int i tk, y], .cons ⟨_, rfl⟩ (.cons ru .nil), ⟨_, hT2, rfl, _, rfl⟩⟩
    have I1 : Inv X pins σ (upd H s.heap.objs.size (.tup [.int (i : Nat), x])) { s with heap := h'', toks := tk + 1 } :=
      I.turnedNew (ch := [e, it]) (fun b ob hb q => (sb.2 b (fun z => hb (by simp [z]))).trans (hk b ob (fun z => hb (by simp [z])) (fun z => hb (by simp [z])) q)) hf (Nat.le_refl _) new
    refine ⟨.ref s.heap.objs.size, _, I1, rfl, ⟨_, x, rfl, I.hok.fresh (Nat.le_refl _), rfl, fun ys hy => by rw [I.tuple_inj hy hq]; exact hx⟩, ⟨⟨y, ?_⟩, hit'.at fun o q => (sb.2 it (Ne.symm hne)).trans q, hne⟩, fun b hb => ?_⟩
    · have e1 : ((i + 1 : Nat) : Int) = (i : Int) + 1 := by omega
      rw [e1]; exact he'
    · have hb' : b < s.heap.objs.size := by
        have e' : b = e ∨ b = it := by simpa using hb
        rcases e' with z | z
        · rw [z]; exact hel
        · rw [z]; exact hil
      rw [upd_ne (Nat.ne_of_lt hb')]
      exact (hf b hb).1
  done := by
    intro X hP hw hK hc i pins s σ H E I hf st hg
    subst hP hw hK
    obtain ⟨⟨old, he⟩, hit, hne⟩ := st
    obtain ⟨xs, hq, hx⟩ := hg
    obtain ⟨its, rv, p, hz⟩ := I.tuple hq
    obtain ⟨f0, f1, f2, f3, f4, f5⟩ := hf it (by simp)
    have hl := rv.length
    have hT : s.TypeIs (.ref e) "enumerate" := ⟨_, he, rfl⟩
    unfold pyNext
    refine wpAny_bind (wpAny_attempt (wpAny_callSpecial?_slot (name := Str.ofString "__next__") hT F.slot_enumerate_next
      (wpAny_call_entry F.slot_enumerate_next hT F.entry_enumerate_next ?_ (F.args_enumerate_next_1 _))))
    show wpAny _ _ (field (.ref e) 2 >>= _) _ _ _
    refine wpAny_bind (wpAny_field he rfl (x := .ref it) rfl ?_)
    refine wpAny_bind (wpAny_nextOf_tuple_end (I.ok.hd hc) hit p (by simp; omega) fun h' x he' hx' => ?_)
    obtain ⟨o, ho, hc⟩ := hx'
    refine wpAny_bind (wpAny_isInstance (T := "StopIteration") (b := true) ⟨o, ho, hc⟩ isSubtype_stop ?_)
    exact wpAny_pure ⟨rfl, I.turned (t' := s.toks) (fun b o hb q => he' b o hb q) f0 f1 f3 f4 f5⟩
  self := fun A i s Q E st h => let ⟨⟨_, he⟩, _⟩ := st; wpAny_pyIter_enum he h
section
variable {X : Cx}
def iEnumA (K : PySem.W.Frag) (ta : TA) : TI := fun σ H R => ta σ H fun vs H1 => ∃ a xs, vs = [.ref a] ∧ ((SqL K H1 a xs ∧ R (Ite K a) H1) ∨ (SqT K H1 a xs ∧ R (IteT K a) H1))
theorem pi_enumA {e : Expr} {ta : TA} {p pos tpos : Pos} {elts : List Expr} {kk : Nat} (hg : Gl X "enumerate") (hm : X.mg "enumerate" = none) (ha : PA X [e] ta) (hs : starEach [e] X.env = [(false, eval e X.env)] := by rfl) :
    PI X (.Tuple elts kk tpos) (.Call (.Name "enumerate" p) [e] [] pos) (iEnumA X.K ta) := by
  refine ⟨fun pins s σ H R I h => ?_⟩
  refine Call_ (ld_blt I hg hm boot_enumerate (PyProof.Rows.callWith_type1 (thn (ha.run pos pins s σ H _ I h) fun us s1 ⟨vs, H1, I1, r1, q1⟩ => ?_) hs rfl))
  obtain ⟨a, xs, ex, q1⟩ := q1
  subst ex
  cases r1 with
  | cons r rr =>
    cases rr
    cases r
    rcases q1 with ⟨hq, q⟩ | ⟨hq, q⟩
    · obtain ⟨its, rv, p', hz⟩ := I1.list hq
      refine call_enumerate_list p'.isList fun h' he hit hsz hk => wpAny_pyIter_enum he ?_
      have I2 : Inv X pins σ H1 { s1 with heap := h' } := I1.kept (t' := s1.toks) hk
      refine ⟨s1.heap.objs.size + 1, [s1.heap.objs.size + 1, s1.heap.objs.size], _, _, H1, rfl, I2, turn_enum a (s1.heap.objs.size + 1) s1.heap.objs.size, ⟨⟨.none, he⟩, hit, Nat.succ_ne_self _⟩, fun b hb => ?_, q⟩
      have e' : b = s1.heap.objs.size + 1 ∨ b = s1.heap.objs.size := by simpa using hb
      have hle : s1.heap.objs.size ≤ b := by
        rcases e' with z | z
        · rw [z]; exact Nat.le_add_right _ _
        · rw [z]; exact Nat.le_refl _
      exact I1.fpOk hle (I1.hok.fresh hle)
    · obtain ⟨its, rv, p', hz⟩ := I1.tuple hq
      have hat : a < s1.heap.objs.size := p'.lt
      refine vi_call_enumerate_tuple p' fun h' he hit hsz hk => wpAny_pyIter_enum he ?_
      have I2 : Inv X pins σ H1 { s1 with heap := h' } := I1.kept (t' := s1.toks) hk
      refine ⟨s1.heap.objs.size + 1, [s1.heap.objs.size + 1, s1.heap.objs.size], _, _, H1, rfl, I2, turn_enumT a (s1.heap.objs.size + 1) s1.heap.objs.size (Nat.ne_of_lt hat) (Nat.ne_of_lt (Nat.lt_succ_of_lt hat)), ⟨⟨.none, he⟩, hit, Nat.succ_ne_self _⟩, fun b hb => ?_, q⟩
      have e' : b = s1.heap.objs.size + 1 ∨ b = s1.heap.objs.size := by simpa using hb
      have hle : s1.heap.objs.size ≤ b := by
        rcases e' with z | z
        · rw [z]; exact Nat.le_add_right _ _
        · rw [z]; exact Nat.le_refl _
      exact I1.fpOk hle (I1.hok.fresh hle)
theorem src_enumT {K : PySem.W.Frag} {H0 : Hp} {M0 : Mset} {a : Addr} {vs : List V} {xs : List D} (h : TupAt K H0 M0 a vs) (r : Reps K H0 M0 vs xs) : Src K (IteT K a) (enumD 0 xs) H0 M0 := by
  refine ⟨fun H M l i hi => ?_, fun H M l => ⟨vs, tupAt_lat h l, by rw [enumD_len, r.length]; exact Nat.le_refl _⟩, fun H M l i d x H' ed y => ?_⟩
  · rw [enumD_len, ← r.length] at hi
    exact ⟨vs, vs[i], tupAt_lat h l, by simp [hi]⟩
  · obtain ⟨p, e1, rfl⟩ := enumD_get ed
    obtain ⟨v, hv, rv⟩ := r.get e1
    obtain ⟨T, vx, rfl, hT, rfl, f1⟩ := y
    have g1 := f1 vs (tupAt_lat h l)
    rw [hv] at g1; cases g1
    rw [Nat.zero_add]
    exact .inr ⟨T, _, _, rfl, hT, rfl, rfl, .cons (.int _) (.cons (rv.tr l) .nil)⟩
def mIEnum (ma : MA) : MI := fun ρ => match ma ρ with
  | some ([.list xs], ρ1) => some (enumD 0 xs, ρ1)
  | some ([.tuple xs], ρ1) => some (enumD 0 xs, ρ1)
  | _ => none
theorem di_enum {e : Expr} {ma : MA} {p pos tpos : Pos} {elts : List Expr} {kk : Nat} (hg : Gl X "enumerate") (hm : X.mg "enumerate" = none) (ha : DA X [e] ma) (hs : starEach [e] X.env = [(false, eval e X.env)] := by rfl) :
    DI X (.Tuple elts kk tpos) (.Call (.Name "enumerate" p) [e] [] pos) (mIEnum ma) :=
  PI.imp (pi_enumA hg hm ha hs) fun σ H R ⟨ρ, M, O, π, ds, ρ', h, e, q⟩ => by
    unfold mIEnum at e
    split at e
    · rename_i xs ρ1 e1
      cases e
      refine ⟨ρ, M, O, π, _, _, h, e1, fun vs H1 M1 x1 s1 r1 => ?_⟩
      cases r1 with
      | cons rv rr =>
        cases rr
        cases rv with
        | lst hr n rr => exact ⟨_, _, rfl, .inl ⟨.inl hr, q _ H1 M1 x1 s1 (src_enumL hr n rr)⟩⟩
    · rename_i xs ρ1 e1
      cases e
      refine ⟨ρ, M, O, π, _, _, h, e1, fun vs H1 M1 x1 s1 r1 => ?_⟩
      cases r1 with
      | cons rv rr =>
        cases rr
        cases rv with
        | tup hr rr => exact ⟨_, _, rfl, .inr ⟨hr.sq, q _ H1 M1 x1 s1 (src_enumT hr rr)⟩⟩
    · cases e

/-! ### a, b = x, y -/
theorem take_ok {K : PySem.W.Frag} {H : Hp} {M O : Mset} {π : Nat → Option Addr} {ρ ρ' : Fm} {σ : St} {pr : PR} {v : V} {sv : Sv} (h : SR K H M O π ρ σ) (r : RP K H M O ρ σ pr v) (e : take ρ pr = some (sv, ρ')) : ∃ M', Ext O H M H M' ∧ SR K H M' O π ρ' σ ∧ RP K H M' O ρ' σ (.val sv) v := by
  match pr, v, r with
  | .val (.imm d), v, r => cases e; exact ⟨M, .refl h, h, r⟩
  | .val (.own b ds), v, ⟨p, vs, e1, e2, e3, e4, e5, e6⟩ =>
    cases b with
    | dic => cases e; exact ⟨M, .refl h, h, p, vs, e1, e2, e3, e4, e5, e6⟩
    | loc => cases e; exact ⟨M, .refl h, h, p, vs, e1, e2, e3, e4, e5, e6⟩
    | par => cases e; exact ⟨M, .refl h, h, p, vs, e1, e2, e3, e4, e5, e6⟩
  | .slot j, v, r =>
    unfold take at e
    simp only at e
    cases ef : frz ρ (.slot j) with
    | none => rw [ef] at e; cases e
    | some dρ =>
      obtain ⟨d, ρ1⟩ := dρ
      rw [ef] at e
      cases e
      obtain ⟨M', x, s, rr⟩ := frz_ok h r ef
      exact ⟨M', x, s, rr⟩
theorem SR.setVal {K : PySem.W.Frag} {H : Hp} {M O : Mset} {π : Nat → Option Addr} {ρ : Fm} {σ : St} {v : V} {sv : Sv} (h : SR K H M O π ρ σ) (r : RP K H M O ρ σ (.val sv) v) (hp : ∀ ds, sv ≠ .own .par ds) (i : Nat) : SR K H M O π (ρ.set i (some sv)) (σ.set i (some v)) := by
  cases sv with
  | imm d => exact h.setImm r
  | own b ds =>
    obtain ⟨p, vs, rfl, e2, e3, e4, e5, e6⟩ := r
    cases b with
    | par => exact absurd rfl (hp ds)
    | loc => exact h.setOwn e2 e3 e4 e5 e6
    | dic => exact h.setOwnC (fun z => by cases z) e2 e3 e4 e5 e6
theorem RP.set {K : PySem.W.Frag} {H : Hp} {M O : Mset} {ρ : Fm} {σ : St} {v1 v2 : V} {s1 s2 : Sv} {i : Nat} (r1 : RP K H M O ρ σ (.val s1) v1) (r2 : RP K H M (hold O (.val s1) v1) ρ σ (.val s2) v2) (hl : ρ.length = σ.length) : RP K H M O (ρ.set i (some s1)) (σ.set i (some v1)) (.val s2) v2 := by
  cases s2 with
  | imm d => exact r2
  | own b ds =>
    obtain ⟨p, vs, rfl, e2, e3, e4, e5, e6⟩ := r2
    refine ⟨p, vs, rfl, e2, e3, fun z => e4 (hold_le O _ v1 p z), e5, fun j c es f g => ?_⟩
    rcases get_set f with ⟨hj, z⟩ | ⟨hj, f'⟩
    · have hz : s1 = .own c es := (Option.some.inj z).symm
      subst hz
      have hlt : i < ρ.length := by
        subst hj
        have := (List.getElem?_eq_some_iff.mp f).1
        rwa [List.length_set] at this
      obtain ⟨q, ws, e1, _⟩ := r1
      subst e1
      subst hj
      rw [List.getElem?_set_self (by rw [← hl]; exact hlt)] at g
      cases g
      exact e4 (.inr rfl)
    · rw [List.getElem?_set_ne (Ne.symm hj)] at g
      exact e6 j c es f' g
def fine : Sv → Bool
  | .own .par _ => false
  | _ => true
theorem fine_ne {s : Sv} (h : fine s = true) : ∀ ds, s ≠ .own .par ds := fun ds e => by subst e; cases h
def mPar (i j : Nat) (ma mb : ME) : MS := fun ρ => match ma ρ with
  | some (p1, ρ1) => match take ρ1 p1 with
    | some (s1, ρ2) => match mb ρ2 with
      | some (p2, ρ3) => match take ρ3 p2 with
        | some (s2, ρ4) => if (fine s1 && fine s2) = true then some (.next, (ρ4.set i (some s1)).set j (some s2)) else none
        | none => none
      | none => none
    | none => none
  | none => none
theorem ds_par {st : Stmt} {a b : Expr} {ma mb : ME} {i j : Nat} (h : ∀ ta, PA X [a, b] ta → PS X st (tPar i j ta)) (ha : DE X a ma) (hb : DE X b mb) (hs : starEach [a, b] X.env = (false, eval a X.env) :: starEach [b] X.env := by rfl) (hs2 : starEach [b] X.env = (false, eval b X.env) :: starEach [] X.env := by rfl) : DS X st (mPar i j ma mb) :=
  PS.imp (h _ (pa_cons ha (pa_cons hb pa_nil hs2) hs)) fun D σ H ⟨ρ, M, O, π, fl, ρ', h, e, q⟩ => by
    unfold mPar at e
    split at e
    · rename_i p1 ρ1 e1
      split at e
      · rename_i s1 ρ2 e2
        split at e
        · rename_i p2 ρ3 e3
          split at e
          · rename_i s2 ρ4 e4
            split at e
            · rename_i hz
              cases e
              rw [Bool.and_eq_true] at hz
              refine ⟨ρ, M, O, π, p1, ρ1, h, e1, fun v1 H1 M1 x1 t1 r1 => ?_⟩
              obtain ⟨M2, x2, t2, r2⟩ := take_ok t1 r1 e2
              refine ⟨ρ2, M2, Vi.hold O (.val s1) v1, π, p2, ρ3, t2.hold r2, e3, fun v2 H3 M3 x3 t3 r3 => ⟨v1, v2, rfl, ?_⟩⟩
              obtain ⟨M4, x4, t4, r4⟩ := take_ok t3 r3 e4
              have le := hold_le O (.val s1) v1
              have r1' := r2.held (x3.trans x4) t4
              have t5 := (t4.less le).setVal r1' (fine_ne hz.1) i
              have r5 := RP.set (i := i) r1' r4 t4.len
              exact q _ H3 M4 ((x1.trans x2).trans ((x3.trans x4).less le)) (t5.setVal r5 (fine_ne hz.2) j)
            · cases e
          · cases e
        · cases e
      · cases e
    · cases e
/-- targets of a value that is a tuple -/
def mAsgG (me : ME) (mg : MG) : MS := fun ρ => match me ρ with
  | some (pr, ρ1) => match frz ρ1 pr with
    | some (d, ρ2) => match mg d ρ2 with
      | some ρ3 => some (.next, ρ3)
      | none => none
    | none => none
  | none => none
theorem ds_asgG {st : Stmt} {e tg : Expr} {me : ME} {mg : MG} {ts : List Nat} (h : ∀ te g, PE X e te → PG X tg g → PS X st (tAsg te g)) (he : DE X e me) (hg : DG X tg mg ts) : DS X st (mAsgG me mg) :=
  PS.imp (h _ _ he hg) fun D σ H ⟨ρ, M, O, π, fl, ρ', h, e, q⟩ => by
    unfold mAsgG at e
    split at e
    · rename_i pr ρ1 e1
      split at e
      · rename_i d ρ2 e2
        split at e
        · rename_i ρ3 e3
          cases e
          refine ⟨ρ, M, O, π, pr, ρ1, h, e1, fun v H1 M1 x1 s1 r1 => ?_⟩
          obtain ⟨M2, x2, s2, r2⟩ := frz_ok s1 r1 e2
          exact ⟨ρ2, M2, O, π, d, _, s2, r2, e3, fun σ' s3 _ _ => q σ' H1 M2 (x1.trans x2) s3⟩
        · cases e
      · cases e
    · cases e

/-! ### calls by keyword -/
theorem pe_callK0 {CX : CXT} {k : Nat} {f : Addr} {fd : FuncData} {ps ks : List Str} {sp : Sp} {E : XK} {x : Str} {p pos : Pos} {kws : List Keyword} {tk : TA} {g : List Value → List Value → List Value} {gV : List V → List V → List V}
    (F : FnOk X.prog X.w X.K X.mg X.base CX k f fd ps sp) (hr : Room k X.A) (hg : Gl X x) (hm : X.mg x = some (.ref f)) (hk : PySem.W.keepIn X.K (.ref f) = true) (hb : KBinds X.K fd ps ks g gV) (hx : Passes CX X E)
    (hkw : PK X kws tk) (hall : (backToKw pos (keywordEach kws X.env)).all (·.1.isSome) = true := by rfl) (hks : (backToKw pos (keywordEach kws X.env)).filterMap (·.1) = ks := by rfl)
    (hdb : (x == ("__debug__" : Str)) = false := by decide) (hpl : ((PySem.backTo pos (starEach [] X.env)).any (·.1) || (backToKw pos (keywordEach kws X.env)).any (·.1.isNone)) = false := by rfl) :
    PE X (.Call (.Name x p) [] kws pos) (tCallK sp gV E tNil tk) := by
  refine ⟨fun pins s σ H Q I h => ?_⟩
  refine wpAny_Call_Name_kw (ld_glob I hg hm ?_ hdb)
  refine PySem.W.callWith_KW0 (h₀ := X.base) I.ok.mod.kin hk hall (thn (hkw.run pos pins s σ H _ I h) fun ws s2 ⟨zs, H2, I2, rz, q2⟩ => ⟨I2.kIn, ?_⟩) hpl
  rw [hks]
  exact run_fnk (us := []) (vs := []) F hr hb hx I2 .nil rz q2
/-- the arguments in the parameters' order -/
def perm {α : Type} (n1 n2 : Nat) (is : List Nat) (us ws : List α) : List α := if us.length = n1 ∧ ws.length = n2 then is.filterMap fun i => (us ++ ws)[i]? else []
theorem perm_rel {α β : Type} {F : α → β → Prop} (n1 n2 : Nat) (is : List Nat) {vs : List α} {us : List β} {zs : List α} {ws : List β} (r : Paired F vs us) (s : Paired F zs ws) : Paired F (perm n1 n2 is vs zs) (perm n1 n2 is us ws) := by
  have ap : ∀ {vs : List α} {us : List β} {zs : List α} {ws : List β}, Paired F vs us → Paired F zs ws → Paired F (vs ++ zs) (us ++ ws) := fun {vs us zs ws} r s => by
    induction r with
    | nil => exact s
    | cons h t ih => exact .cons h ih
  have get : ∀ {xs : List α} {ys : List β} (i : Nat), Paired F xs ys → (xs[i]? = none ∧ ys[i]? = none) ∨ ∃ x y, xs[i]? = some x ∧ ys[i]? = some y ∧ F x y := fun {xs ys} i r => by
    induction r generalizing i with
    | nil => exact .inl ⟨by simp, by simp⟩
    | cons h t ih =>
      cases i with
      | zero => exact .inr ⟨_, _, rfl, rfl, h⟩
      | succ i => simpa using ih i
  unfold perm
  rw [Paired.length r, Paired.length s]
  split
  · have all := ap r s
    induction is with
    | nil => exact .nil
    | cons i is ih =>
      rcases get i all with ⟨e1, e2⟩ | ⟨x, y, e1, e2, f⟩
      · rw [List.filterMap_cons, List.filterMap_cons, e1, e2]; exact ih
      · rw [List.filterMap_cons, List.filterMap_cons, e1, e2]; exact .cons f ih
  · exact .nil
theorem _root_.L2.Fun.kbinds {K : PySem.W.Frag} {x qual : Str} {st : Stmt} {f : Addr} {fd : FuncData} {ps ks : List Str} {n1 n2 : Nat} {is : List Nat} (F : Fun K x qual st f fd) (hp : ps ≠ [])
    (h : ∀ (kV doc pm : Value) (an : Option Addr) (cdv ct : Value) (us ws : List Value), us.length = n1 → ws.length = n2 → bindArgs (PySem.W.fnOf x qual (defArgs st) (defBody st) (defScope st) .none kV doc pm an cdv ct) ⟨us, ks.zip ws⟩ = pure (ps.zip (is.filterMap fun i => (us ++ ws)[i]?))) : KBinds K fd ps ks (perm n1 n2 is) (perm n1 n2 is) := by
  obtain ⟨oc, od, kV, doc, pm, an, cdv, ct, osl, rfl, lk, hcd⟩ := F.ex
  refine ⟨fun s us ws _ hl => ?_, fun r s => perm_rel n1 n2 is r s⟩
  by_cases hc : us.length = n1 ∧ ws.length = n2
  · refine .of_eq ?_
    unfold perm
    rw [if_pos hc]
    exact h kV doc pm an cdv ct us ws hc.1 hc.2
  · unfold perm at hl
    rw [if_neg hc] at hl
    cases ps with
    | nil => exact absurd rfl hp
    | cons a b => cases hl
/-- keywords' values -/
def DK (X : Cx) (kws : List Keyword) (m : MR) : Prop := PK X kws (tR X.K m)
theorem _root_.L2.PK.imp {kws : List Keyword} {t t' : TA} (h : PK X kws t) (i : ∀ σ H Q, t' σ H Q → t σ H Q) : PK X kws t' := ⟨fun pos pins s σ H Q I q => h.run pos pins s σ H Q I (i σ H Q q)⟩
theorem dk_nil : DK X [] rNil := PK.imp pk_nil fun σ H Q ⟨ρ, M, O, π, ds, ρ', h, e, q⟩ => by
  cases e
  exact q [] H M (.refl h) h .nil
theorem dk_val {nm : Option Str} {e : Expr} {kpos : Pos} {kws : List Keyword} {me : ME} {n : MR} (he : DE X e me) (hes : DK X kws n) : DK X (⟨nm, e, kpos⟩ :: kws) (rVal me n) :=
  PK.imp (pk_cons he hes) fun σ H Q ⟨ρ, M, O, π, ds, ρ', h, e, q⟩ => by
    unfold rVal at e
    split at e
    · rename_i pr ρ1 e1
      split at e
      · rename_i d ρ2 e2
        split at e
        · rename_i as ρ3 e3
          cases e
          refine ⟨ρ, M, O, π, pr, ρ1, h, e1, fun v H1 M1 x1 s1 r1 => ?_⟩
          obtain ⟨M2, x2, s2, r2⟩ := frz_ok s1 r1 e2
          exact ⟨ρ2, M2, O, π, as, _, s2, e3, fun vs H3 M3 x3 s3 r3 => q (v :: vs) H3 M3 ((x1.trans x2).trans x3) s3 (.cons (r2.tr x3.tr) r3)⟩
        · cases e
      · cases e
    · cases e
def rPerm (n1 n2 : Nat) (is : List Nat) (mr mk : MR) : MR := fun ρ => match mr ρ with
  | some (as, ρ1) => match mk ρ1 with
    | some (bs, ρ2) => some (perm n1 n2 is as bs, ρ2)
    | none => none
  | none => none
theorem AReps.tr {K : PySem.W.Frag} {H H' : Hp} {M M' : Mset} {σ : St} (l : Lat H M H' M') : ∀ {vs : List V} {as : List AR}, AReps K H M σ vs as → AReps K H' M' σ vs as
  | _, _, .nil => .nil
  | _, _, .cons h t => .cons (ARep.tr l h) (AReps.tr l t)
theorem tR_perm {mr mk : MR} {n1 n2 : Nat} {is : List Nat} {σ : St} {H : Hp} {Q : List V → Hp → Prop} (h : tR X.K (rPerm n1 n2 is mr mk) σ H Q) : tR X.K mr σ H fun vs H1 => tR X.K mk σ H1 fun zs H2 => Q (perm n1 n2 is vs zs) H2 := by
  obtain ⟨ρ, M, O, π, as, ρ', h, e, q⟩ := h
  unfold rPerm at e
  split at e
  · rename_i as ρ1 e1
    split at e
    · rename_i bs ρ2 e2
      cases e
      refine ⟨ρ, M, O, π, as, ρ1, h, e1, fun vs H1 M1 x1 s1 r1 => ⟨ρ1, M1, O, π, bs, _, s1, e2, fun zs H2 M2 x2 s2 r2 => q _ H2 M2 (x1.trans x2) s2 ?_⟩⟩
      exact perm_rel n1 n2 is (AReps.tr x2.tr r1) r2
    · cases e
  · cases e
theorem de_callK0 {k : Nat} {f : Addr} {fd : FuncData} {ps ks : List Str} {g : Fn} {x : Str} {p pos : Pos} {kws : List Keyword} {mk : MR} {n1 n2 : Nat} {is : List Nat} (F : FnOk X.prog X.w X.K X.mg X.base CX0 k f fd ps (spD X.K ps.length g)) (hr : Room k X.A) (hg : Gl X x) (hm : X.mg x = some (.ref f)) (hk : PySem.W.keepIn X.K (.ref f) = true) (hb : KBinds X.K fd ps ks (perm n1 n2 is) (perm n1 n2 is))
    (hkw : DK X kws mk) (hn : ∀ ρ as ρ', rPerm n1 n2 is rNil mk ρ = some (as, ρ') → as.length = ps.length) (hall : (backToKw pos (keywordEach kws X.env)).all (·.1.isSome) = true := by rfl) (hks : (backToKw pos (keywordEach kws X.env)).filterMap (·.1) = ks := by rfl)
    (hdb : (x == ("__debug__" : Str)) = false := by decide) (hpl : ((PySem.backTo pos (starEach [] X.env)).any (·.1) || (backToKw pos (keywordEach kws X.env)).any (·.1.isNone)) = false := by rfl) :
    DE X (.Call (.Name x p) [] kws pos) (mCall g (rPerm n1 n2 is rNil mk)) :=
  PE.imp (pe_callK0 F hr hg hm hk hb pass0 hkw hall hks hdb hpl) fun σ H Q h => by
    obtain ⟨ρ, M, O, π, as, ρ', h, e, q⟩ := tR_perm (tR_call (X := X) hn h)
    cases e
    exact q [] H M (.refl h) h .nil
theorem de_callK {k : Nat} {f : Addr} {fd : FuncData} {ps ks : List Str} {g : Fn} {x : Str} {p pos : Pos} {e : Expr} {es : List Expr} {kws : List Keyword} {mr mk : MR} {n1 n2 : Nat} {is : List Nat} (F : FnOk X.prog X.w X.K X.mg X.base CX0 k f fd ps (spD X.K ps.length g)) (hr : Room k X.A) (hg : Gl X x) (hm : X.mg x = some (.ref f)) (hk : PySem.W.keepIn X.K (.ref f) = true) (hb : KBinds X.K fd ps ks (perm n1 n2 is) (perm n1 n2 is))
    (ha : DR X (e :: es) mr) (hkw : DK X kws mk) (hn : ∀ ρ as ρ', rPerm n1 n2 is mr mk ρ = some (as, ρ') → as.length = ps.length) (hall : (backToKw pos (keywordEach kws X.env)).all (·.1.isSome) = true := by rfl) (hks : (backToKw pos (keywordEach kws X.env)).filterMap (·.1) = ks := by rfl)
    (hdb : (x == ("__debug__" : Str)) = false := by decide) (he : starEach (e :: es) X.env = (false, eval e X.env) :: starEach es X.env := by rfl) (hpl : ((PySem.backTo pos (starEach (e :: es) X.env)).any (·.1) || (backToKw pos (keywordEach kws X.env)).any (·.1.isNone)) = false := by rfl) :
    DE X (.Call (.Name x p) (e :: es) kws pos) (mCall g (rPerm n1 n2 is mr mk)) :=
  PE.imp (pe_callK F hr hg hm hk hb pass0 ha hkw hall hks hdb he hpl) fun σ H Q h => tR_perm (tR_call (X := X) hn h)
/-! how many arguments -/
theorem rl_nil {n : Nat} (hn : n = 0) : ∀ ρ as ρ', rNil ρ = some (as, ρ') → as.length = n := fun ρ as ρ' e => by cases e; exact hn.symm
theorem rl_val {me : ME} {n : MR} {k : Nat} (h : ∀ ρ as ρ', n ρ = some (as, ρ') → as.length = k) : ∀ ρ as ρ', rVal me n ρ = some (as, ρ') → as.length = k + 1 := fun ρ as ρ' e => by
  unfold rVal at e
  split at e
  · split at e
    · split at e
      · rename_i e3
        cases e
        rw [List.length_cons, h _ _ _ e3]
      · cases e
    · cases e
  · cases e
theorem rl_slot {i : Nat} {n : MR} {k : Nat} (h : ∀ ρ as ρ', n ρ = some (as, ρ') → as.length = k) : ∀ ρ as ρ', rSlot i n ρ = some (as, ρ') → as.length = k + 1 := fun ρ as ρ' e => by
  unfold rSlot at e
  split at e
  · split at e
    · rename_i e3
      cases e
      rw [List.length_cons, h _ _ _ e3]
    · cases e
  · cases e
theorem rl_perm {mr mk : MR} {n1 n2 : Nat} {is : List Nat} (h1 : ∀ ρ as ρ', mr ρ = some (as, ρ') → as.length = n1) (h2 : ∀ ρ as ρ', mk ρ = some (as, ρ') → as.length = n2) (hi : is.all (fun i => decide (i < n1 + n2)) = true) : ∀ ρ as ρ', rPerm n1 n2 is mr mk ρ = some (as, ρ') → as.length = is.length := fun ρ as ρ' e => by
  unfold rPerm at e
  split at e
  · rename_i as1 ρ1 e1
    split at e
    · rename_i bs ρ2 e2
      cases e
      unfold perm
      rw [if_pos ⟨h1 _ _ _ e1, h2 _ _ _ e2⟩]
      have hl : (as1 ++ bs).length = n1 + n2 := by rw [List.length_append, h1 _ _ _ e1, h2 _ _ _ e2]
      clear e1 e2
      induction is with
      | nil => rfl
      | cons i is ih =>
        rw [List.all_cons, Bool.and_eq_true] at hi
        have hi1 : i < (as1 ++ bs).length := by rw [hl]; exact of_decide_eq_true hi.1
        rw [List.filterMap_cons, List.getElem?_eq_getElem hi1, List.length_cons, List.length_cons, ih hi.2]
    · cases e
  · cases e
/-! ### room -/
theorem room70 {A : Around} {k : Nat} (r : Room k A) : A.units + 70 < cLine := by have := r.un; omega
theorem room65 {A : Around} {k : Nat} (r : Room k A) : A.units + 65 < cLine := by have := r.un; omega
theorem room64 {A : Around} {k : Nat} (r : Room k A) : A.units + 64 < cLine := by have := r.un; omega
end
/-- a def that nothing is promised of -/
theorem fn_zero {P : Program} {w : World} {K : PySem.W.Frag} {mg : Str → Option Value} {base : Heap} {f : Addr} {fd : FuncData} {ps : List Str} {k : Nat} : FnOk P w K mg base CX0 k f fd ps (spD K ps.length fun _ => none) :=
  ⟨fun vs H Q E ⟨M, O, π, args, r, os, hl, _⟩ => hl, fun A outer s H args us vs Q E _ _ _ _ ⟨M, O, π, as, r, os, _, _, e, _⟩ => by cases e⟩
theorem isExc_ns : ∀ ns : List Int, isExc (ns.map fun n => ((.int n : D), (.none : D))) = false
  | [] => rfl
  | [_] => rfl
  | _ :: _ :: _ => rfl
/-- the law's promise -/
theorem law_sp {K : PySem.W.Frag} {g : Fn} {H : Hp} {a : Addr} {ns : List Int} (hS : SqL K H a (ns.map V.int)) (e : ∃ os, g [.imm (.dict (ns.map fun n => (.int n, .none)))] = some (.imm (.bool true), os)) : spD K 1 g [.ref a] H (fun v _ => v = .bl true) fun _ _ _ => False := by
  obtain ⟨os, e⟩ := e
  have rs : Reps K H (fun _ => False) (ns.map V.int) ((ns.map fun n => ((.int n : D), (.none : D))).map Prod.fst) := by
    induction ns with
    | nil => exact .nil
    | cons n ns ih => exact .cons (.int n) (by
        clear ih e hS
        induction ns with
        | nil => exact .nil
        | cons m ns ih => exact .cons (.int m) ih)
  refine ⟨fun _ => False, fun _ => False, fun _ => none, _, _, os, rfl, ⟨rfl, fun _ z => z, fun _ z => z.elim, fun i d h => ?_, fun i b ds h => ?_, fun i j b c ds es x _ h => ?_⟩, e, fun v H' M' _ _ _ r => ?_⟩
  · cases i with
    | zero =>
      cases h
      exact ⟨.ref a, rfl, .scr (isExc_ns ns) (by
        rcases hS with h | h
        · exact .inl ⟨h, fun z => z⟩
        · exact .inr h) rs⟩
    | succ i => simp at h
  · cases i with
    | zero => cases h
    | succ i => simp at h
  · cases i with
    | zero => cases h
    | succ i => simp at h
  · cases (show Rep K H' M' v (.bool true) from r)
    rfl
end Vi

namespace Vi
open PySem PySem.Spec PyProof.Rows L2
section
variable {K : PySem.W.Frag} {H H' : Hp} {M M' O O' : Mset} {π : Nat → Option Addr} {ρ ρ' : Fm} {σ : St} {v : V}
theorem last_get {α : Type} {l : List α} {x y : α} {i : Nat} (h : (l ++ [x])[i]? = some y) : l[i]? = some y ∨ (i = l.length ∧ y = x) := by
  by_cases hi : i < l.length
  · rw [List.getElem?_append_left hi] at h; exact .inl h
  · rw [List.getElem?_append_right (by omega)] at h
    by_cases hz : i - l.length = 0
    · rw [hz] at h; cases h; exact .inr ⟨by omega, rfl⟩
    · obtain ⟨m, hm⟩ : ∃ m, i - l.length = m + 1 := ⟨i - l.length - 1, by omega⟩
      rw [hm] at h; simp at h
theorem lt_of_get {α : Type} {l : List α} {i : Nat} {y : α} (h : l[i]? = some y) : i < l.length := by
  rcases Nat.lt_or_ge i l.length with q | q
  · exact q
  · rw [List.getElem?_eq_none q] at h; cases h
/-- a hidden name for a fresh list -/
theorem SR.snoc (h : SR K H M O π ρ σ) {b : Kd} {ds : List D} {p : Addr} (hb : b.isL = true) (r : RP K H M O ρ σ (.val (.own b ds)) (.ref p)) : SR K H M O π (ρ ++ [some (.own .loc ds)]) (σ ++ [some (.ref p)]) := by
  obtain ⟨p', vs, e0, e1, e2, e3, e4, e5⟩ := r
  cases e0
  have up : ∀ {i : Nat}, i < σ.length → (σ ++ [some (V.ref p)])[i]? = σ[i]? := fun {i} hi => List.getElem?_append_left hi
  have lastσ : (σ ++ [some (V.ref p)])[ρ.length]? = some (some (.ref p)) := by rw [h.len, List.getElem?_append_right (Nat.le_refl _), Nat.sub_self]; rfl
  refine ⟨by rw [List.length_append, List.length_append, h.len]; rfl, h.sub, h.live, fun i d e => ?_, fun i c es e => ?_, fun i j c c' es fs x hij e f g => ?_⟩
  · rcases last_get e with e | ⟨_, e⟩
    · obtain ⟨v, f1, f2⟩ := h.imm i d e
      exact ⟨v, by rw [up (lt_of_get f1)]; exact f1, f2⟩
    · cases e
  · rcases last_get e with e | ⟨rfl, e2⟩
    · obtain ⟨a, ws, f1, f2⟩ := h.own i c es e
      exact ⟨a, ws, by rw [up (lt_of_get f1)]; exact f1, f2⟩
    · cases e2
      exact ⟨p, vs, lastσ, e1.trans (congrArg some (cell_lst hb)), e2, e3, e4, fun z => by cases z⟩
  · rcases last_get e with e | ⟨rfl, _⟩
    · have hi := lt_of_get e
      rw [up (by rw [← h.len]; exact hi)] at g
      rcases last_get f with f | ⟨rfl, _⟩
      · have hj := lt_of_get f
        rw [up (by rw [← h.len]; exact hj)]
        exact h.uniq i j c c' es fs x hij e f g
      · rw [lastσ]
        intro z; cases z
        exact e5 i c es e g
    · rw [lastσ] at g
      cases g
      rcases last_get f with f | ⟨rfl, _⟩
      · have hj := lt_of_get f
        rw [up (by rw [← h.len]; exact hj)]
        exact e5 j c' fs f
      · exact absurd rfl hij
theorem SR.unsnoc {x : Option Sv} {y : Option V} (h : SR K H M O π (ρ ++ [x]) (σ ++ [y])) : SR K H M O π ρ σ := by
  have hl : ρ.length = σ.length := by have := h.len; simpa using this
  have up : ∀ {i : Nat} {s : Option Sv}, ρ[i]? = some s → (ρ ++ [x])[i]? = some s ∧ (σ ++ [y])[i]? = σ[i]? := fun {i s} e => by
    have hi := lt_of_get e
    exact ⟨by rw [List.getElem?_append_left hi]; exact e, List.getElem?_append_left (by omega)⟩
  refine ⟨hl, h.sub, h.live, fun i d e => ?_, fun i c es e => ?_, fun i j c c' es fs a hij e f g => ?_⟩
  · obtain ⟨e1, e2⟩ := up e
    rw [← e2]; exact h.imm i d e1
  · obtain ⟨e1, e2⟩ := up e
    rw [← e2]; exact h.own i c es e1
  · obtain ⟨e1, e2⟩ := up e
    obtain ⟨f1, f2⟩ := up f
    rw [← f2]; exact h.uniq i j c c' es fs a hij e1 f1 (by rw [e2]; exact g)
theorem RP.unsnoc {x : Option Sv} {y : Option V} {s : Sv} (hl : ρ.length = σ.length) (h : RP K H M O (ρ ++ [x]) (σ ++ [y]) (.val s) v) : RP K H M O ρ σ (.val s) v := by
  cases s with
  | imm d => exact h
  | own b ds =>
    obtain ⟨p, vs, e0, e1, e2, e3, e4, e5⟩ := h
    refine ⟨p, vs, e0, e1, e2, e3, e4, fun i c es e => ?_⟩
    have hi := lt_of_get e
    have := e5 i c es (by rw [List.getElem?_append_left hi]; exact e)
    rw [List.getElem?_append_left (by omega)] at this
    exact this
end
/-- f(e), e a fresh list that f may change -/
def mCallO (f : Fn) (me : ME) : ME := fun ρ => match me ρ with
  | some (.val (.own .dic _), _) => none
  | some (.val (.own _ ds), ρ1) => match f [.own .par ds] with
    | some (r, [some _]) => some (.val r, ρ1)
    | _ => none
  | _ => none
section
variable {X : Cx} {e : Expr} {me : ME} {k : Nat} {f : Addr} {fd : FuncData} {ps : List Str} {g : Fn} {x : Str} {p pos : Pos}
theorem de_callO (F : FnOk X.prog X.w X.K X.mg X.base CX0 k f fd ps (spD X.K ps.length g)) (hr : Room k X.A) (hg : Gl X x) (hm : X.mg x = some (.ref f)) (hk : PySem.W.keepIn X.K (.ref f) = true) (hb : Binds X.K fd ps [])
    (ha : DE X e me) (hp : ps.length = 1) (hdb : (x == ("__debug__" : Str)) = false := by decide) (he : starEach [e] X.env = (false, eval e X.env) :: starEach [] X.env := by rfl) (hpl : (PySem.backTo pos (starEach [] X.env)).any (·.1) = false := by rfl) :
    DE X (.Call (.Name x p) [e] [] pos) (mCallO g me) :=
  PE.imp (pe_call F hr hg hm hk hb .nil pass0 (pa_cons ha pa_nil he) hdb he hpl) fun σ H Q ⟨ρ, M, O, π, pr, ρ', h, e, q⟩ => by
    unfold mCallO at e
    split at e
    · cases e
    · rename_i b ds ρ1 hnb e1
      split at e
      · rename_i r ds' e2
        cases e
        refine ⟨ρ, M, O, π, _, _, h, e1, fun v H1 M1 x1 s1 r1 => ?_⟩
        obtain ⟨a, vs, rfl, r2⟩ := (show ∃ a vs, v = .ref a ∧ _ from r1)
        have s2 := s1.snoc (isL_of hnb) r1
        have as2 : AReps X.K H1 M1 (σ ++ [some (V.ref a)]) [.ref a] [AR.s ρ'.length] := .cons (show (σ ++ [some (V.ref a)])[ρ'.length]? = some (some (.ref a)) by rw [s1.len, List.getElem?_append_right (Nat.le_refl _), Nat.sub_self]; rfl) .nil
        have gt : (ρ' ++ [some (Sv.own .loc ds)])[ρ'.length]? = some (some (.own .loc ds)) := by rw [List.getElem?_append_right (Nat.le_refl _), Nat.sub_self]; rfl
        have ea : argsOf (ρ' ++ [some (Sv.own .loc ds)]) [AR.s ρ'.length] = some [.own .par ds] := by
          unfold argsOf; rw [gt]; rfl
        have eb : backTo (ρ' ++ [some (Sv.own .loc ds)]) [AR.s ρ'.length] [some ds'] = some (ρ' ++ [some (Sv.own .loc ds')]) := by
          unfold backTo; rw [gt]
          show some ((ρ' ++ [some (Sv.own .loc ds)]).set ρ'.length (some (.own .loc ds'))) = _
          rw [List.set_append_right _ _ (Nat.le_refl _), Nat.sub_self]; rfl
        show spD X.K ps.length g ([V.ref a] ++ []) H1 Q E0
        refine ⟨M1, _, _, [.own .par ds], r, [some ds'], by rw [hp]; rfl, call_start s2 as2 rfl ea, e2, fun v H2 M2 lv x2 ho rr => ?_⟩
        obtain ⟨x3, s3⟩ := call_end s2 as2 rfl eb lv x2 ho
        have r3 := call_ret s2 as2 rfl eb x2 ho rr
        have s4 := s3.unsnoc
        exact q v H2 M2 (x1.trans x3) s4 (r3.unsnoc s4.len)
      · cases e
    · cases e
end
end Vi

namespace Vi
open PySem PySem.Spec PyProof.Rows L2
section
variable {X : Cx}
/-! ### < and the like of any data -/
def rCmpD (K : PySem.W.Frag) (f : D → D → Bool) : R2 := fun x y H Q => ∃ d e, Dp K H x d ∧ Dp K H y e ∧ SeqAt.shaped d = true ∧ SeqAt.shaped e = true ∧ W.alike d e = true ∧ d ≠ .none ∧ Q (.bl (f d e)) H
theorem room_cmp {A : Around} {d e : D} (h : SeqAt.shaped d = true) (hu : A.units + 64 < cLine) : A.units + min d.depth e.depth < cLine := by
  have h1 := SeqAt.depth_of_shaped h
  have h2 : min d.depth e.depth ≤ d.depth := Nat.min_le_left _ _
  omega
theorem op_ltDD (hu : X.A.units + 64 < cLine) : OpR X (compareOp .Lt) (rCmpD X.K fun d e => W.dataLt d e) := by
  intro pins s σ H x y v u Q I rx ry h
  obtain ⟨d, e, hd, he, sd, se, al, hn, q⟩ := h
  obtain ⟨as, r1⟩ := Dp.reads I d x v hd rx
  obtain ⟨bs, r2⟩ := Dp.reads I e y u he ry
  exact W.lt_data r1 r2 al hn (room_cmp sd hu) ⟨.bl _, H, I, rfl, q⟩
theorem op_gtDD (hu : X.A.units + 64 < cLine) : OpR X (compareOp .Gt) (rCmpD X.K fun d e => W.dataLt e d) := by
  intro pins s σ H x y v u Q I rx ry h
  obtain ⟨d, e, hd, he, sd, se, al, hn, q⟩ := h
  obtain ⟨as, r1⟩ := Dp.reads I d x v hd rx
  obtain ⟨bs, r2⟩ := Dp.reads I e y u he ry
  exact W.gt_data r1 r2 al hn (room_cmp sd hu) ⟨.bl _, H, I, rfl, q⟩
theorem op_leDD (hu : X.A.units + 64 < cLine) : OpR X (compareOp .LtE) (rCmpD X.K fun d e => !W.dataLt e d) := by
  intro pins s σ H x y v u Q I rx ry h
  obtain ⟨d, e, hd, he, sd, se, al, hn, q⟩ := h
  obtain ⟨as, r1⟩ := Dp.reads I d x v hd rx
  obtain ⟨bs, r2⟩ := Dp.reads I e y u he ry
  exact W.le_data r1 r2 al hn (room_cmp sd hu) ⟨.bl _, H, I, rfl, q⟩
theorem op_geDD (hu : X.A.units + 64 < cLine) : OpR X (compareOp .GtE) (rCmpD X.K fun d e => !W.dataLt d e) := by
  intro pins s σ H x y v u Q I rx ry h
  obtain ⟨d, e, hd, he, sd, se, al, hn, q⟩ := h
  obtain ⟨as, r1⟩ := Dp.reads I d x v hd rx
  obtain ⟨bs, r2⟩ := Dp.reads I e y u he ry
  exact W.ge_data r1 r2 al hn (room_cmp sd hu) ⟨.bl _, H, I, rfl, q⟩
def dCmpD (g : Int → Int → Bool) (f : D → D → Bool) : D → D → Option Sv
  | .int i, .int j => some (.imm (.bool (g i j)))
  | a, b => if (okD a && okD b && W.alike a b && !isNon a) = true then some (.imm (.bool (f a b))) else none
theorem os_cmpD {g : Int → Int → Bool} {f : D → D → Bool} : OpS X (fun x y H Q => rI0 (fun i j => .bl (g i j)) x y H Q ∨ rCmpD X.K f x y H Q) (dCmpD g f) := by
  intro H M O π ρ σ v1 v2 d1 d2 res Q h r1 r2 e q
  unfold dCmpD at e
  split at e
  · cases e
    cases r1.inI; cases r2.inI
    exact .inl ⟨_, _, rfl, rfl, Post.now q h (.bl _)⟩
  · split at e
    · rename_i hz
      cases e
      rw [Bool.and_eq_true, Bool.and_eq_true, Bool.and_eq_true] at hz
      exact .inr ⟨d1, d2, r1.dp (SeqAt.canLay_of_shaped hz.1.1.1), r2.dp (SeqAt.canLay_of_shaped hz.1.1.2), hz.1.1.1, hz.1.1.2, hz.1.2, fun z => by rw [z] at hz; exact absurd hz.2 (by decide), Post.now q h (.bl _)⟩
    · cases e
theorem op_ltA (hu : X.A.units + 64 < cLine) : OpR X (compareOp .Lt) (fun x y H Q => rI0 (fun i j => .bl (decide (i < j))) x y H Q ∨ rCmpD X.K (fun d e => W.dataLt d e) x y H Q) := op_lt.or (op_ltDD hu)
theorem op_leA (hu : X.A.units + 64 < cLine) : OpR X (compareOp .LtE) (fun x y H Q => rI0 (fun i j => .bl (decide (i ≤ j))) x y H Q ∨ rCmpD X.K (fun d e => !W.dataLt e d) x y H Q) := op_le.or (op_leDD hu)
theorem op_gtA (hu : X.A.units + 64 < cLine) : OpR X (compareOp .Gt) (fun x y H Q => rI0 (fun i j => .bl (decide (j < i))) x y H Q ∨ rCmpD X.K (fun d e => W.dataLt e d) x y H Q) := op_gt.or (op_gtDD hu)
theorem op_geA (hu : X.A.units + 64 < cLine) : OpR X (compareOp .GtE) (fun x y H Q => rI0 (fun i j => .bl (decide (j ≤ i))) x y H Q ∨ rCmpD X.K (fun d e => !W.dataLt d e) x y H Q) := op_ge.or (op_geDD hu)
abbrev dLtA := dCmpD (fun i j => decide (i < j)) fun d e => W.dataLt d e
abbrev dLeA := dCmpD (fun i j => decide (i ≤ j)) fun d e => !W.dataLt e d
abbrev dGtA := dCmpD (fun i j => decide (j < i)) fun d e => W.dataLt e d
abbrev dGeA := dCmpD (fun i j => decide (j ≤ i)) fun d e => !W.dataLt d e
/-! ### sum, str, list times a number -/
def intsOf : List D → Option (List Int)
  | [] => some []
  | .int i :: r => (intsOf r).map (i :: ·)
  | _ :: _ => none
theorem ints_reps {K : PySem.W.Frag} {H : Hp} {M : Mset} : ∀ {vs : List V} {ds : List D} {bs : List Int}, Reps K H M vs ds → intsOf ds = some bs → vs = bs.map V.int
  | _, _, _, .nil, e => by cases e; rfl
  | _, _, bs, .cons h r, e => by
    cases h with
    | int b =>
      obtain ⟨cs, e1, rfl⟩ := Option.map_eq_some_iff.mp (show (intsOf _).map (b :: ·) = some bs from e)
      rw [ints_reps r e1]; rfl
    | _ => cases e
def dSum : D → Option Sv
  | .list ds => (intsOf ds).map fun ns => .imm (.int ns.sum)
  | _ => none
theorem us_sum : UnS X (fun v H Q => rSum X.K [v] H Q) dSum := by
  intro H M O π ρ σ v1 d1 res Q h r1 e q
  unfold dSum at e
  split at e
  · obtain ⟨bs, e1, rfl⟩ := Option.map_eq_some_iff.mp e
    obtain ⟨a, vs, rfl, rd, rs⟩ := r1.inL
    exact ⟨a, bs, rfl, .inl (by rw [← ints_reps rs e1]; exact rd), Post.now q h (.int _)⟩
  · cases e
def dStr : D → Option Sv
  | .int i => if decide (i.natAbs.log2 < 1920) = true then some (.imm (.str (toString i))) else none
  | _ => none
theorem us_str : UnS X (fun v H Q => (fun xs H Q => ∃ i, xs = [V.int i] ∧ i.natAbs.log2 < 1920 ∧ Q (.str (toString i)) H) [v] H Q) dStr := by
  intro H M O π ρ σ v1 d1 res Q h r1 e q
  unfold dStr at e
  split at e
  · split at e
    · rename_i hz
      cases e
      cases r1.inI
      exact ⟨_, rfl, of_decide_eq_true hz, Post.now q h (.str _)⟩
    · cases e
  · cases e
variable {a b e : Expr} {ma mb me : ME} {mes : MA} {es : List Expr} {pos : Pos}
/-- a fresh list * k -/
def mRep (ma mb : ME) : ME := fun ρ => match ma ρ with
  | some (.val (.own .dic _), _) => none
  | some (.val (.own _ xs), ρ1) => match mb ρ1 with
    | some (pk, ρ2) => match peek ρ2 pk with
      | some (.int k) => if decide (-(2 ^ 63) ≤ k ∧ k < 2 ^ 63 ∧ xs.length * k.toNat ≤ sizeLine) = true then some (.val (.own .loc (List.replicate k.toNat xs).flatten), ρ2) else none
      | _ => none
    | none => none
  | _ => none
theorem de_rep (ha : DE X a ma) (hb : DE X b mb) : DE X (.BinOp a .Mult b pos) (mRep ma mb) := PE.imp (pe_op op_rep ha hb) fun σ H Q ⟨ρ, M, O, π, pr, ρ', h, e, q⟩ => by
  unfold mRep at e
  split at e
  · cases e
  · rename_i b0 xs ρ1 hnb e1
    split at e
    · rename_i pk ρ2 e2
      split at e
      · rename_i k ek
        split at e
        · rename_i hz
          cases e
          have hz' := of_decide_eq_true hz
          refine ⟨ρ, M, O, π, _, ρ1, h, e1, fun v1 H1 M1 x1 s1 r1 => ?_⟩
          refine ⟨ρ1, M1, Vi.hold O _ v1, π, pk, _, s1.hold r1, e2, fun v2 H2 M2 x2 s2 r2 => ?_⟩
          have s2' := s2.less (hold_le O (.val (.own b0 xs)) v1)
          obtain ⟨p, vs, e3, e4', e5, e6, e7, e8⟩ := r1.held x2 s2
          have e4 := e4'.trans (congrArg some (cell_lst (isL_of hnb)))
          have ev := (peek_vw s2' (r2.less (hold_le O (.val (.own b0 xs)) v1)) ek).inI
          subst e3 ev
          exact ⟨p, k, vs, rfl, rfl, e4, hz'.1, hz'.2.1, by rw [e7.length]; exact hz'.2.2, fun p' hp' => Post.lst (Q := Q) (fun v H' M' x3 s3 r3 => q v H' M' ((x1.trans (x2.less (hold_le O (.val (.own b0 xs)) (.ref p)))).trans x3) s3 r3) s2' (e7.rep k.toNat) hp'⟩
        · cases e
      · cases e
    · cases e
  · cases e
/-! ### built-ins of several values -/
def mA (f : List D → Option Sv) (m : MA) : ME := fun ρ => match m ρ with
  | some (ds, ρ1) => match f ds with
    | some r => some (.val r, ρ1)
    | none => none
  | none => none
def AS (X : Cx) (r : List V → Hp → VK → Prop) (f : List D → Option Sv) : Prop := ∀ {H : Hp} {M O : Mset} {π : Nat → Option Addr} {ρ : Fm} {σ : St} {vs : List V} {ds : List D} {res : Sv} {Q : VK}, SR X.K H M O π ρ σ → Reps X.K H M vs ds → f ds = some res →
  (∀ v H' M', Ext O H M H' M' → SR X.K H' M' O π ρ σ → RP X.K H' M' O ρ σ (.val res) v → Q v H') → r vs H Q
theorem de_callA {id : String} {x : Str} {p : Pos} {r : List V → Hp → VK → Prop} {f : List D → Option Sv} (hc : CallR X (.builtin id) r) (hs : AS X r f) (hg : Gl X x) (hm : X.mg x = none) (hv : bootBuiltins x = some (.builtin id)) (ha : DA X (e :: es) mes)
    (hn : x ≠ "__name__" := by decide) (hd : (x == ("__debug__" : Str)) = false := by decide) (he : starEach (e :: es) X.env = (false, eval e X.env) :: starEach es X.env := by rfl) (hpl : (PySem.backTo pos (starEach es X.env)).any (·.1) = false := by rfl) : DE X (.Call (.Name x p) (e :: es) [] pos) (mA f mes) :=
  PE.imp (pe_callB hc hg hm hv ha hn hd he hpl) fun σ H Q ⟨ρ, M, O, π, pr, ρ', h, e, q⟩ => by
    unfold mA at e
    split at e
    · rename_i ds ρ1 e1
      split at e
      · rename_i r er
        cases e
        exact ⟨ρ, M, O, π, ds, _, h, e1, fun vs H1 M1 x1 s1 r1 => hs s1 r1 er fun v H' M' x3 s3 r3 => q v H' M' (x1.trans x3) s3 r3⟩
      · cases e
    · cases e
def dMin2 : List D → Option Sv
  | [.int i, .int j] => some (.imm (.int (if j < i then j else i)))
  | _ => none
def dMax2 : List D → Option Sv
  | [.int i, .int j] => some (.imm (.int (if j > i then j else i)))
  | _ => none
theorem as_min2 : AS X (fun xs H Q => ∃ i j, xs = [V.int i, V.int j] ∧ Q (.int (if j < i then j else i)) H) dMin2 := by
  intro H M O π ρ σ vs ds res Q h r e q
  unfold dMin2 at e
  split at e
  · cases e
    cases r with
    | cons r1 r2 => cases r2 with
      | cons r2 r3 =>
        cases r3; cases r1; cases r2
        exact ⟨_, _, rfl, Post.now q h (.int _)⟩
  · cases e
theorem as_max2 : AS X (fun xs H Q => ∃ i j, xs = [V.int i, V.int j] ∧ Q (.int (if j > i then j else i)) H) dMax2 := by
  intro H M O π ρ σ vs ds res Q h r e q
  unfold dMax2 at e
  split at e
  · cases e
    cases r with
    | cons r1 r2 => cases r2 with
      | cons r2 r3 =>
        cases r3; cases r1; cases r2
        exact ⟨_, _, rfl, Post.now q h (.int _)⟩
  · cases e
/-! ### x.pop(), x.extend(e) -/
def mPop (i : Nat) : ME := fun ρ => match ρ[i]? with
  | some (some (.own .dic _)) => none
  | some (some (.own b ds)) => match ds[ds.length - 1]? with
    | some d => some (.val (.imm d), ρ.set i (some (.own b ds.dropLast)))
    | none => none
  | _ => none
theorem Reps.dropLast {K : PySem.W.Frag} {H : Hp} {M : Mset} {vs : List V} {ds : List D} (h : Reps K H M vs ds) : Reps K H M vs.dropLast ds.dropLast := by
  rw [List.dropLast_eq_take, List.dropLast_eq_take, h.length]; exact h.take _
theorem de_pop {i : Nat} {st_e : Expr} (h : PE X st_e (tBM0 X.K "list" rPop (tVar i))) : DE X st_e (mPop i) :=
  PE.imp h fun σ H Q ⟨ρ, M, O, π, fl, ρ', h, e, q⟩ => by
    unfold mPop at e
    split at e
    · cases e
    · rename_i b ds hne0 e0
      obtain ⟨a, vs, f1, f2, f3, f4, f5, f6⟩ := h.ownL e0 (isL_of hne0)
      split at e
      · rename_i d ed
        cases e
        obtain ⟨w, hw, rw'⟩ := f5.get ed
        obtain ⟨s3, x3, t3⟩ := h.write (ws := vs.dropLast) (es := ds.dropLast) e0 (isL_of hne0) f1 f5.dropLast
        exact ⟨.ref a, f1, .inl ⟨rfl, vs, .inl (.inl f2)⟩, a, vs, w, rfl, rfl, f2, by rw [f5.length]; exact hw, q _ _ M x3 s3 (rw'.tr t3)⟩
      · cases e
    · cases e
def ownD (ρ : Fm) : PR → Option (List D)
  | .val (.own .dic _) => none
  | .val (.own _ ds) => some ds
  | .slot j => match ρ[j]? with
    | some (some (.own .dic _)) => none
    | some (some (.own _ ds)) => some ds
    | _ => none
  | _ => none
theorem ownD_ok {K : PySem.W.Frag} {H : Hp} {M O : Mset} {π : Nat → Option Addr} {ρ : Fm} {σ : St} {pr : PR} {v : V} {ds : List D} (h : SR K H M O π ρ σ) (r : RP K H M O ρ σ pr v) (e : ownD ρ pr = some ds) : ∃ p vs, v = .ref p ∧ H p = some (.lst vs) ∧ Reps K H M vs ds := by
  match pr, v, r, e with
  | .val (.own b ds'), v, ⟨p, vs, e1, e2, _, _, e4, _⟩, e =>
    cases b with
    | dic => cases e
    | loc => cases e; exact ⟨p, vs, e1, e2, e4⟩
    | par => cases e; exact ⟨p, vs, e1, e2, e4⟩
  | .slot j, v, r, e =>
    have r' : σ[j]? = some (some v) := r
    unfold ownD at e
    simp only at e
    split at e
    · cases e
    · rename_i b ds' hnb hs
      cases e
      obtain ⟨a, vs, f1, f2, f3, f4, f5, f6⟩ := h.ownL hs (isL_of hnb)
      rw [r'] at f1; cases f1
      exact ⟨a, vs, rfl, f2, f5⟩
    · cases e
/-- x.extend(e), e a list of nobody else's -/
def mExt (i : Nat) (me : ME) : ME := fun ρ => match ρ[i]? with
  | some (some (.own .dic _)) => none
  | some (some (.own _ _)) => match me ρ with
    | some (pr, ρ1) => match ownD ρ1 pr with
      | some es => match ρ1[i]? with
        | some (some (.own .dic _)) => none
        | some (some (.own b ds)) => if fits (ds.length + es.length) = true then some (.val (.imm .none), ρ1.set i (some (.own b (ds ++ es)))) else none
        | _ => none
      | none => none
    | none => none
  | _ => none
theorem de_ext {i : Nat} {st_e : Expr} (h : ∀ t, PA X [e] t → PE X st_e (tBM X.K "list" rExtend (tVar i) t)) (he : DE X e me) (hs : starEach (e :: []) X.env = (false, eval e X.env) :: starEach [] X.env := by rfl) : DE X st_e (mExt i me) :=
  PE.imp (h _ (pa_cons he pa_nil hs)) fun σ H Q ⟨ρ, M, O, π, fl, ρ', h, e, q⟩ => by
    unfold mExt at e
    split at e
    · cases e
    · rename_i b0 ds0 hne0 e0
      obtain ⟨a, vs, f1, f2, f3, f4, f5, f6⟩ := h.ownL e0 (isL_of hne0)
      refine ⟨.ref a, f1, .inl ⟨rfl, vs, .inl (.inl f2)⟩, ?_⟩
      split at e
      · rename_i pr ρ1 e1
        split at e
        · rename_i es e2
          split at e
          · cases e
          · rename_i b ds hne3 e3
            split at e
            · rename_i hz
              cases e
              refine ⟨ρ, M, O, π, pr, ρ1, h, e1, fun v H1 M1 x1 s1 r1 => ?_⟩
              obtain ⟨a', ws, g1, g2, g3, g4, g5, g6⟩ := s1.ownL e3 (isL_of hne3)
              rw [f1] at g1; cases g1
              obtain ⟨p, zs, rfl, g7, g8⟩ := ownD_ok s1 r1 e2
              obtain ⟨s3, x3, t3⟩ := s1.write (ws := ws ++ zs) (es := ds ++ es) e3 (isL_of hne3) f1 (g5.append g8)
              exact ⟨a, p, ws, zs, rfl, rfl, g2, g7, by have := fits_le hz; rw [g5.length, g8.length]; omega, q _ _ M1 (x1.trans x3) s3 .non⟩
            · cases e
          · cases e
        · cases e
      · cases e
    · cases e
end
end Vi

namespace HT
open PySem PyProof.Rows PySem.Spec
section
variable {prog : Program} {w : World} {A : Around} {E : Value → Shared → Prop} {s : Shared}
theorem vi_applied_rev {sl : Addr} {vs : Value} {n : Nat} {Q : Int × Int × Nat → Shared → Prop} (hs : s.heap.IsSliceOf sl .none .none vs) (ps : IsPart vs (some (-1)))
    (h : Q ((n : Int) - 1, -1, n) s) : wpAny (model prog w) A (Builtin.Slice.sliceApplied (.ref sl) (pure (n : Int))) Q E s := by
  obtain ⟨os, hos, hcs, hds⟩ := id hs
  unfold Builtin.Slice.sliceApplied Builtin.Slice.sliceFields
  refine wpAny_bind (wpAny_bind (wpAny_field hos hds (x := Value.none) rfl (wpAny_bind (wpAny_field hos hds (x := Value.none) rfl (wpAny_bind (wpAny_field hos hds (x := vs) rfl (wpAny_pure ?_)))))))
  refine wpAny_bind (slicePart_ ps ?_)
  show wpAny _ _ (if ((-1 : Int) == 0) = true then _ else _) _ _ s
  rw [if_neg (by decide)]
  refine wpAny_bind (slicePart_none (wpAny_bind (slicePart_none (wpAny_bind (wpAny_pure ?_)))))
  show wpAny _ _ (pure ((n : Int) - 1, (-1 : Int), Builtin.Slice.slicePlaces ((n : Int) - 1) (-1) (-1))) _ _ s
  have e : Builtin.Slice.slicePlaces ((n : Int) - 1) (-1) (-1) = n := by
    unfold Builtin.Slice.slicePlaces
    rw [if_neg (by decide)]
    by_cases hn : (n : Int) - 1 > -1
    · rw [if_pos hn, show (-(-1) : Int) = 1 by decide, Int.ediv_one]; omega
    · rw [if_neg hn]; omega
  rw [e]
  exact wpAny_pure h
theorem vi_fm_congr {α β : Type} {f g : α → Option β} : ∀ {l : List α}, (∀ x ∈ l, f x = g x) → l.filterMap f = l.filterMap g
  | [], _ => rfl
  | x :: l, h => by rw [List.filterMap_cons, List.filterMap_cons, h x (List.mem_cons_self ..), vi_fm_congr fun y hy => h y (List.mem_cons_of_mem _ hy)]
theorem vi_fm_all {α : Type} : ∀ l : List α, (List.range l.length).filterMap (fun m => l[m]?) = l
  | [] => rfl
  | x :: l => by
    rw [List.length_cons, List.range_succ_eq_map, List.filterMap_cons, List.filterMap_map]
    show x :: (List.range l.length).filterMap (fun m => l[m]?) = _
    rw [vi_fm_all l]
theorem vi_pick_rev (xs : Array Value) : ((List.range xs.size).filterMap fun (m : Nat) => xs[(((xs.size : Int) - 1) + (m : Int) * (-1)).toNat]?).toArray = xs.toList.reverse.toArray := by
  have e : ∀ m ∈ List.range xs.size, (fun (m : Nat) => xs[(((xs.size : Int) - 1) + (m : Int) * (-1)).toNat]?) m = xs.toList.reverse[m]? := fun m hm => by
    have hm' := List.mem_range.mp hm
    show xs[(((xs.size : Int) - 1) + (m : Int) * (-1)).toNat]? = _
    rw [List.getElem?_reverse (by simpa using hm'), show (((xs.size : Int) - 1) + (m : Int) * (-1)).toNat = xs.toList.length - 1 - m by rw [Array.length_toList]; omega]
    simp
  rw [vi_fm_congr e]
  have := vi_fm_all xs.toList.reverse
  rw [List.length_reverse, Array.length_toList] at this
  rw [this]
theorem vi_tuple_rev {t sl : Addr} {items : Array Value} {vs : Value} {Q : Value → Shared → Prop} (ht : IsTup s.heap t items) (hs : s.heap.IsSliceOf sl .none .none vs) (ps : IsPart vs (some (-1)))
    (h : Q (.ref s.heap.objs.size) { s with heap := s.heap.push { cls := .type "tuple", data := .seq items.toList.reverse.toArray } })
    (hsz : items.size ≤ sizeLine) : wpAny (model prog w) A (getItem (.ref t) (.ref sl)) Q E s := by
  have htake : sizeOk (.seq items.toList.reverse.toArray) := by
    show items.toList.reverse.toArray.size ≤ sizeLine
    rw [List.size_toArray, List.length_reverse, Array.length_toList]
    exact hsz
  obtain ⟨os, hos, hcs, hds⟩ := id hs
  have hTs : s.TypeIs (.ref sl) "slice" := ⟨os, hos, hcs⟩
  unfold getItem
  try with_reducible refine wpAny_holding ?_
  first | refine wpAny_bind (wpAny_pure ?_) | skip
  refine wpAny_bind (wpAny_sequenceKey ht.typeIs (by decide) ?_)
  refine wpAny_bind (wpAny_callSpecial?_slot (name := Str.ofString "__getitem__") ht.typeIs PyProof.Rows.slot_tuple_getitem
    (wpAny_call_entry PyProof.Rows.slot_tuple_getitem ht.typeIs entry_tuple_getitem ?_ (args_tuple_getitem _ _)))
  show wpAny _ _ (Builtin.Tuple.tupleItemsOf (.ref t) >>= _) _ _ s
  refine wpAny_bind (tupleItemsOf_ ht ?_)
  refine wpAny_bind (wpAny_typeOf hTs ?_)
  rw [if_pos (by decide)]
  refine wpAny_bind (vi_applied_rev hs ps ?_)
  show wpAny _ _ (if ((((items.size : Int) - 1)) == 0 && (-1 : Int) == 1 && items.size == items.size) = true then _ else _) _ _ s
  rw [if_neg (by simp), vi_pick_rev]
  first
    | exact wpAny_bind (m := Builtin.Tuple.tupleExact _) (wpAny_newObj_type (wpAny_pure ⟨_, rfl, wpAny_pure h⟩) htake)
    | exact wpAny_bind (m := Builtin.Tuple.tupleExact _) (wpAny_newObj_type (wpAny_bind (wpAny_pure (wpAny_pure ⟨_, rfl, wpAny_pure h⟩))) htake)
    | exact wpAny_bind (wpAny_bind (m := Builtin.Tuple.tupleExact _) (wpAny_newObj_type (wpAny_pure (wpAny_pure ⟨_, rfl, wpAny_pure h⟩)) htake))
    | exact wpAny_bind (wpAny_bind (m := Builtin.Tuple.tupleExact _) (wpAny_newObj_type (wpAny_pure ⟨_, rfl, wpAny_pure h⟩) htake))
end
end HT
namespace Vi
open PySem PySem.Spec PyProof.Rows L2 HT
section
variable {X : Cx} {e : Expr} {te : TE} {me : ME}
def tRevT (K : PySem.W.Frag) (te : TE) : TE := fun σ H Q => te σ H fun x H1 => ∃ a xs, x = .ref a ∧ SqT K H1 a xs ∧ ∀ p, H1 p = none → Q (.ref p) (upd H1 p (.tup xs.reverse))
theorem pe_revT {k : Nat} {p1 p2 p3 pos : Pos} (he : PE X e te) : PE X (.Subscript e (.Slice none none (some (.UnaryOp .USub (.Constant (.int 1) k p1) p2)) p3) pos) (tRevT X.K te) := by
  refine ⟨fun pins s σ H Q I h => ?_⟩
  refine Subscript_ (thn (he.run pins s σ H _ I h) fun v s1 ⟨x, H1, I1, r1, q1⟩ => ?_)
  obtain ⟨a, xs, ex, hx, q⟩ := q1
  subst ex
  cases r1
  have hst : PO X (some (.UnaryOp .USub (.Constant (.int 1) k p1) p2)) (tPart (tUn (rU fun i => .int (-i)) (tC (.int 1)))) := po_some (pe_un un_neg pe_int)
  refine wpAny_Slice (thn (po_none.run pins s1 σ H1 (fun o H2 => o = none ∧ H2 = H1) I1 ⟨rfl, rfl⟩) fun vl s2 ⟨l, H2, I2, pl, el, e2⟩ => ?_)
  subst el e2
  refine thn (po_none.run pins s2 σ H2 (fun o H3 => o = none ∧ H3 = H2) I2 ⟨rfl, rfl⟩) fun vu s3 ⟨u, H3, I3, pu, eu, e3⟩ => ?_
  subst eu e3
  refine thn (hst.run pins s3 σ H3 (fun o H4 => o = some (-1) ∧ H4 = H3) I3 ⟨1, rfl, -1, rfl, rfl, rfl⟩) fun vs s4 ⟨o, H4, I4, ps, eo, e4⟩ => ?_
  subst eo e4
  have I5 : Inv X pins σ H4 { s4 with heap := s4.heap.push { cls := .type "slice", data := .fields #[vl, vu, vs] } } := I4.kept (t' := s4.toks) fun b ob q => Heap.get?_push_of_some _ q
  obtain ⟨its, r, ht, hz⟩ := I5.tuple hx
  have hlen := r.length
  cases pl
  cases pu
  show wpAny (model X.prog X.w) X.A (subscriptTail e (.Slice none none (some (.UnaryOp .USub (.Constant (.int 1) k p1) p2)) p3) (.ref a) (.ref s4.heap.objs.size)) (EP X pins σ Q) X.xe { s4 with heap := s4.heap.push { cls := .type "slice", data := .fields #[.none, .none, vs] } }
  refine tail_any (ops := [.ref a, .ref s4.heap.objs.size]) ht.typeIs (PyProof.Rows.slot_tuple_getitem.lookup) ?_ (by with_unfolding_all rfl)
  refine vi_tuple_rev ht (Heap.IsSliceOf.new _ .none .none vs) ps ?_ (by rw [List.size_toArray]; omega)
  refine ⟨.ref _, _, I5.laid (t' := s4.toks) (o := .tup xs.reverse) (fun b ob q => Heap.get?_push_of_some _ q) (Nat.le_refl _) ?_, rfl, q _ (I5.hok.fresh (Nat.le_refl _))⟩
  exact ⟨by rw [List.length_reverse]; exact hz, _, r.reverse, ⟨_, Heap.get?_push_size _ rfl, rfl, 0, rfl⟩⟩
theorem pe_either {e : Expr} {t u : TE} (h1 : PE X e t) (h2 : PE X e u) : PE X e fun σ H Q => t σ H Q ∨ u σ H Q := ⟨fun pins s σ H Q I h => h.elim (fun z => h1.run pins s σ H Q I z) fun z => h2.run pins s σ H Q I z⟩
theorem Reps.reverse {K : PySem.W.Frag} {H : Hp} {M : Mset} : ∀ {vs : List V} {ds : List D}, Reps K H M vs ds → Reps K H M vs.reverse ds.reverse
  | _, _, .nil => .nil
  | _, _, .cons h r => by
    rw [List.reverse_cons, List.reverse_cons]
    exact (Reps.reverse r).append (.cons h .nil)
def dRev : D → Option Sv
  | .list ds => some (.own .loc ds.reverse)
  | .tuple ds => some (.imm (.tuple ds.reverse))
  | _ => none
/-- e[::-1] -/
theorem de_rev {k : Nat} {p1 p2 p3 pos : Pos} (he : DE X e me) : DE X (.Subscript e (.Slice none none (some (.UnaryOp .USub (.Constant (.int 1) k p1) p2)) p3) pos) (un dRev me) :=
  PE.imp (pe_either (pe_revL he) (pe_revT he)) fun σ H Q h => by
    obtain ⟨ρ, M, O, π, pr, ρ', h0, e, q⟩ := h
    unfold un at e
    split at e
    · rename_i a ρ1 ea
      split at e
      · rename_i x ex
        split at e
        · rename_i res er
          simp only [Option.some.injEq, Prod.mk.injEq] at e
          obtain ⟨rfl, rfl⟩ := e
          cases x with
          | list ds =>
            cases er
            refine .inl ⟨ρ, M, O, π, a, ρ1, h0, ea, fun v1 H1 M1 x1 s1 r1 => ?_⟩
            obtain ⟨a', vs, rfl, rd, rs⟩ := (peek_vw s1 r1 ex).inL
            exact ⟨a', vs, rfl, .inl rd, fun p hp => Post.lst (Q := Q) (fun v H' M' x3 s3 r3 => q v H' M' (x1.trans x3) s3 r3) s1 rs.reverse hp⟩
          | tuple ds =>
            cases er
            refine .inr ⟨ρ, M, O, π, a, ρ1, h0, ea, fun v1 H1 M1 x1 s1 r1 => ?_⟩
            obtain ⟨a', vs, rfl, rd, rs⟩ := (peek_vw s1 r1 ex).inT
            exact ⟨a', vs, rfl, rd.sq, fun p hp => Post.tup (Q := Q) (fun v H' M' x3 s3 r3 => q v H' M' (x1.trans x3) s3 r3) s1 rs.reverse hp⟩
          | _ => cases er
        · cases e
      · cases e
    · cases e
end
end Vi

namespace Vi
open PySem PySem.Spec PyProof.Rows L2
section
variable {X : Cx} {pos : Pos} {me mk : ME} {e k : Expr}
/-! ### op= -/
theorem pget_list : PGet X (rIxL X.K) := by
  intro pins s σ H x y v u Q I rx ry h
  obtain ⟨p, xs, i, z, rfl, rfl, hq, he, q⟩ := h
  cases rx
  obtain ⟨t, rfl⟩ := ry
  obtain ⟨its, r, pl, hz⟩ := I.list hq
  obtain ⟨j, h1, h2, h3, h4, h5⟩ := atI_get he
  obtain ⟨w, ew, rw'⟩ := r.get h2
  have hl := r.length
  have hn := line63
  have fin : EP X pins σ Q w s := ⟨z, H, I, rw', q⟩
  by_cases h0 : 0 ≤ i
  · have hj : i.toNat = j := by
      rw [seqIndex_of h0 h5] at h1
      exact Option.some.inj h1
    exact wpAny_getItem_list pl.isList h0 (by omega) (by rw [hj]; simpa using ew) fin
  · have hj : (i + (its.toArray.size : Int)).toNat = j := by
      rw [seqIndex_neg (by omega) h4] at h1
      rw [List.size_toArray, ← hl]
      exact Option.some.inj h1
    exact wpAny_getItem_list_neg pl.isList (by omega) (by rw [List.size_toArray] <;> omega) (by omega) (by rw [hj]; simpa using ew) fin
/-- x[k] op= e, of ints -/
def mAugS (f : Int → Int → Int) (i : Nat) (mk me : ME) : MS := fun ρ => match ρ[i]? with
  | some (some (.own .dic _)) => none
  | some (some (.own _ _)) => match mk ρ with
    | some (pk, ρ1) => match peek ρ1 pk with
      | some (.int k) => match ρ1[i]? with
        | some (some (.own .dic _)) => none
        | some (some (.own _ ds)) => match atI ds k with
          | some (.int x) => match me ρ1 with
            | some (pr, ρ2) => match peek ρ2 pr with
              | some (.int y) => match ρ2[i]? with
                | some (some (.own .dic _)) => none
                | some (some (.own b ds)) => match ixN ds.length k with
                  | some j => some (.next, ρ2.set i (some (.own b (ds.set j (.int (f x y))))))
                  | none => none
                | _ => none
              | _ => none
            | none => none
          | _ => none
        | _ => none
      | _ => none
    | none => none
  | _ => none
theorem ds_augS {st : Stmt} {f : Int → Int → Int} {i : Nat} (h : ∀ te tk, PE X e te → PE X k tk → PS X st (tAugS (tVar i) tk te (rIxL X.K) (ipI f) rSetL)) (he : DE X e me) (hk : DE X k mk) : DS X st (mAugS f i mk me) :=
  PS.imp (h _ _ he hk) fun D σ H ⟨ρ, M, O, π, fl, ρ', h, e, q⟩ => by
    unfold mAugS at e
    split at e
    · cases e
    · rename_i b0 ds0 hne0 e0
      split at e
      · rename_i pk ρ1 e1
        split at e
        · rename_i k e2
          split at e
          · cases e
          · rename_i b1 ds1 hne3 e3
            split at e
            · rename_i x e4
              split at e
              · rename_i pr ρ2 e5
                split at e
                · rename_i y e6
                  split at e
                  · cases e
                  · rename_i b ds hne7 e7
                    split at e
                    · rename_i j ej
                      cases e
                      obtain ⟨a, vs, f1, f2, f3, f4, f5, f6⟩ := h.ownL e0 (isL_of hne0)
                      refine ⟨.ref a, f1, ρ, M, O, π, pk, ρ1, h, e1, fun v H1 M1 x1 s1 r1 => ?_⟩
                      obtain ⟨a', ws, g1, g2, g3, g4, g5, g6⟩ := s1.ownL e3 (isL_of hne3)
                      rw [f1] at g1; cases g1
                      have hk := (peek_vw s1 r1 e2).inI
                      subst hk
                      obtain ⟨w, ew, rw'⟩ := atI_rep g5 e4
                      cases rw'
                      refine ⟨a, ws, k, .int x, rfl, rfl, .inl (.inl g2), ew, ?_⟩
                      refine ⟨ρ1, M1, O, π, pr, ρ2, s1, e5, fun w H2 M2 x2 s2 r2 => ?_⟩
                      have hy := (peek_vw s2 r2 e6).inI
                      subst hy
                      obtain ⟨a'', us, k1, k2, k3, k4, k5, k6⟩ := s2.ownL e7 (isL_of hne7)
                      rw [f1] at k1; cases k1
                      refine ⟨x, y, rfl, rfl, ?_⟩
                      obtain ⟨s4, x4, t4⟩ := s2.write (ws := us.set j (.int (f x y))) (es := ds.set j (.int (f x y))) e7 (isL_of hne7) f1 (k5.set j (.int _))
                      exact ⟨a, us, k, j, rfl, rfl, k2, by rw [k5.length]; exact ej, q _ _ M2 ((x1.trans x2).trans x4) s4⟩
                    · cases e
                  · cases e
                · cases e
              · cases e
            · cases e
          · cases e
        · cases e
      · cases e
    · cases e
/-- x op= e, of ints -/
def mAugN (f : Int → Int → Int) (i : Nat) (me : ME) : MS := fun ρ => match ρ[i]? with
  | some (some (.imm (.int x))) => match me ρ with
    | some (pr, ρ1) => match peek ρ1 pr with
      | some (.int y) => match put i (.val (.imm (.int (f x y)))) ρ1 with
        | some ρ2 => some (.next, ρ2)
        | none => none
      | _ => none
    | none => none
  | _ => none
theorem ds_augN {st : Stmt} {f : Int → Int → Int} {i : Nat} (h : ∀ te, PE X e te → PS X st (tAug i te (ipI f))) (he : DE X e me) : DS X st (mAugN f i me) :=
  PS.imp (h _ he) fun D σ H ⟨ρ, M, O, π, fl, ρ', h, e, q⟩ => by
    unfold mAugN at e
    split at e
    · rename_i x e0
      split at e
      · rename_i pr ρ1 e1
        split at e
        · rename_i y e2
          split at e
          · rename_i ρ2 e3
            cases e
            obtain ⟨v, f1, f2⟩ := h.imm i _ e0
            cases f2
            refine ⟨.int x, f1, ρ, M, O, π, pr, ρ1, h, e1, fun w H1 M1 x1 s1 r1 => ?_⟩
            have hy := (peek_vw s1 r1 e2).inI
            subst hy
            refine ⟨x, y, rfl, rfl, ?_⟩
            obtain ⟨M2, x2, s2⟩ := put_ok s1 (show RP X.K H1 M1 O ρ1 σ (.val (.imm (.int (f x y)))) (.int (f x y)) from .int _) e3
            exact q _ H1 M2 (x1.trans x2) s2
          · cases e
        · cases e
      · cases e
    · cases e
/-- a, b = x, y with names that comprehensions read -/
theorem ds_parC {st : Stmt} {a b : Expr} {ma mb : ME} {i j : Nat} (h : ∀ ta, PA X [a, b] ta → PS X st (tAsg (tTup ta) (gTup X.K 2 (gCons (gName i) (gCons (gName j) gNil))))) (ha : DE X a ma) (hb : DE X b mb) (hs : starEach [a, b] X.env = (false, eval a X.env) :: starEach [b] X.env := by rfl) (hs2 : starEach [b] X.env = (false, eval b X.env) :: starEach [] X.env := by rfl) : DS X st (mPar i j ma mb) :=
  PS.imp (h _ (pa_cons ha (pa_cons hb pa_nil hs2) hs)) fun D σ H ⟨ρ, M, O, π, fl, ρ', h, e, q⟩ => by
    unfold mPar at e
    split at e
    · rename_i p1 ρ1 e1
      split at e
      · rename_i s1 ρ2 e2
        split at e
        · rename_i p2 ρ3 e3
          split at e
          · rename_i s2 ρ4 e4
            split at e
            · rename_i hz
              cases e
              rw [Bool.and_eq_true] at hz
              refine ⟨ρ, M, O, π, p1, ρ1, h, e1, fun v1 H1 M1 x1 t1 r1 => ?_⟩
              obtain ⟨M2, x2, t2, r2⟩ := take_ok t1 r1 e2
              refine ⟨ρ2, M2, Vi.hold O (.val s1) v1, π, p2, ρ3, t2.hold r2, e3, fun v2 H3 M3 x3 t3 r3 => ⟨by show 2 ≤ sizeLine; decide, fun p hp => ⟨p, [v1, v2], rfl, .inl (.inl upd_same), rfl, v1, [v2], rfl, v2, [], rfl, rfl, ?_⟩⟩⟩
              obtain ⟨M4, x4, t4, r4⟩ := take_ok t3 r3 e4
              have le := hold_le O (.val s1) v1
              have y1 : Ext (Vi.hold (Vi.hold O (.val s1) v1) (.val s2) v2) H3 M4 (upd H3 p (.tup [v1, v2])) M4 := .alloc (t4.hold r4) hp
              have u4 := (t4.hold r4).alloc (o := .tup [v1, v2]) hp
              have le2 := hold_le (Vi.hold O (.val s1) v1) (.val s2) v2
              have r4' := r4.held y1 u4
              have r1' := r2.held ((x3.trans x4).trans (y1.less le2)) (u4.less le2)
              have t5 := ((u4.less le2).less le).setVal r1' (fine_ne hz.1) i
              have r5 := RP.set (i := i) r1' r4' u4.len
              exact q _ _ M4 ((x1.trans x2).trans (((x3.trans x4).trans (y1.less le2)).less le)) (t5.setVal r5 (fine_ne hz.2) j)
            · cases e
          · cases e
        · cases e
      · cases e
    · cases e
end
end Vi

namespace Vi
open PySem PySem.Spec PyProof.Rows L2
section
variable {ρ ρ0 ρ1 ρ2 ρ3 : Fm} {me ma mb : ME} {m n : MS} {mt : MT} {mi : MI} {mg : MG} {d s t : D} {r sv : Sv} {ds es : List D} {pr p1 p2 : PR} {i : Nat} {os : List (Option (List D))} {fl : Fl}
theorem c_fits {n : Nat} (h : n ≤ 10000) : fits n = true := decide_eq_true (by unfold sizeLine; omega)
theorem c_rng {i : Int} (h : -1000000 ≤ i ∧ i ≤ 1000000) : rngOk i = true := decide_eq_true (by constructor <;> omega)
theorem c_call {f : Fn} {mr : MR} {as : List AR} {args : List Sv} (h1 : mr ρ = some (as, ρ1)) (h2 : nodupB (slotsOf as) = true) (h3 : argsOf ρ1 as = some args) (h4 : f args = some (r, os)) (h5 : Vi.backTo ρ1 as os = some ρ2) : mCall f mr ρ = some (.val r, ρ2) := by
  unfold mCall
  rw [h1]
  simp only [h2, h3, h4, h5, if_true]
theorem c_set (h1 : me ρ = some (pr, ρ1)) (h2 : put i pr ρ1 = some ρ2) : mSet i me ρ = some (.next, ρ2) := by
  unfold mSet
  rw [h1]
  simp only [h2]
theorem c_ret (h1 : me ρ = some (pr, ρ1)) (h2 : give ρ1 pr = some r) : mRet me ρ = some (.ret r, ρ1) := by
  unfold mRet
  rw [h1]
  simp only [h2]
theorem c_drop (h1 : me ρ = some (pr, ρ1)) : mDrop me ρ = some (.next, ρ1) := by
  unfold mDrop
  rw [h1]
theorem c_bin {f : D → D → Option Sv} (h1 : ma ρ = some (p1, ρ1)) (h2 : mb ρ1 = some (p2, ρ2)) (h3 : peek ρ2 p1 = some s) (h4 : peek ρ2 p2 = some t) (h5 : f s t = some r) : bin f ma mb ρ = some (.val r, ρ2) := by
  unfold bin
  rw [h1]
  simp only [h2, h3, h4, h5]
theorem c_un {f : D → Option Sv} (h1 : ma ρ = some (p1, ρ1)) (h3 : peek ρ1 p1 = some s) (h5 : f s = some r) : un f ma ρ = some (.val r, ρ1) := by
  unfold un
  rw [h1]
  simp only [h3, h5]
theorem c_seq {x : Option (Fl × Fm)} (h : m ρ = some (.next, ρ1)) (h2 : n ρ1 = x) : mSeq m n ρ = x := by unfold mSeq; rw [h]; exact h2
theorem c_for {x : Option (Fl × Fm)} (h : mi ρ = some (ds, ρ1)) (h2 : loop mg m ds ρ1 = x) : mFor mi mg m ρ = x := by unfold mFor; rw [h]; exact h2
theorem c_nil : loop mg m [] ρ = some (.next, ρ) := rfl
theorem c_cons {x : Option (Fl × Fm)} (h1 : mg d ρ = some ρ1) (h2 : m ρ1 = some (.next, ρ2)) (h3 : loop mg m ds ρ2 = x) : loop mg m (d :: ds) ρ = x := by
  rw [loop, h1]
  simp only [h2]
  exact h3
theorem c_cons_cont {x : Option (Fl × Fm)} (h1 : mg d ρ = some ρ1) (h2 : m ρ1 = some (.cont, ρ2)) (h3 : loop mg m ds ρ2 = x) : loop mg m (d :: ds) ρ = x := by
  rw [loop, h1]
  simp only [h2]
  exact h3
theorem c_ifT {x : Option (Fl × Fm)} (h : mt ρ = some (true, ρ1)) (h2 : m ρ1 = x) : mIfS mt m n ρ = x := by unfold mIfS; rw [h]; exact h2
theorem c_ifF {x : Option (Fl × Fm)} (h : mt ρ = some (false, ρ1)) (h2 : n ρ1 = x) : mIfS mt m n ρ = x := by unfold mIfS; rw [h]; exact h2
theorem c_tru {b : Bool} (h1 : me ρ = some (pr, ρ1)) (h2 : peek ρ1 pr = some d) (h3 : dTru d = some b) : mTru me ρ = some (b, ρ1) := by
  unfold mTru
  rw [h1]
  simp only [h2, h3]
theorem c_andT {x : Option (PR × Fm)} (h1 : ma ρ = some (pr, ρ1)) (h2 : peek ρ1 pr = some d) (h3 : dTru d = some true) (h4 : mb ρ1 = x) : mAnd ma mb ρ = x := by
  unfold mAnd
  rw [h1]
  simp only [h2, h3]
  exact h4
theorem c_andF (h1 : ma ρ = some (pr, ρ1)) (h2 : peek ρ1 pr = some d) (h3 : dTru d = some false) : mAnd ma mb ρ = some (pr, ρ1) := by
  unfold mAnd
  rw [h1]
  simp only [h2, h3]
/-- a and b, of bools -/
theorem c_andB {a b : Bool} (h1 : ma ρ = some (.val (.imm (.bool a)), ρ)) (h2 : a = true → mb ρ = some (.val (.imm (.bool b)), ρ)) : mAnd ma mb ρ = some (.val (.imm (.bool (a && b))), ρ) := by
  cases a
  · exact c_andF h1 rfl rfl
  · exact c_andT h1 rfl rfl (h2 rfl)
theorem c_comp {mg : MG} {mt : MT} {me : ME} {vs : List Nat} (h1 : mi ρ = some (ds, ρ1)) (h2 : vsOk ρ1 vs = true) (h3 : cloop mg mt me vs ds (wipeA ρ1 vs) = some (es, ρ2)) (h4 : fits es.length = true) (h5 : restA ρ2 ρ1 vs = ρ3) : mComp mi mg mt me vs ρ = some (.val (.own .loc es), ρ3) := by
  show (match mi ρ with
    | some (ds, ρ1) => if vsOk ρ1 vs = true then match cloop mg mt me vs ds (wipeA ρ1 vs) with
      | some (es, ρ2) => if fits es.length = true then some (PR.val (.own .loc es), restA ρ2 ρ1 vs) else none
      | none => none
      else none
    | none => none) = _
  rw [h1]
  show (if vsOk ρ1 vs = true then _ else _) = _
  rw [if_pos h2, h3]
  show (if fits es.length = true then _ else _) = _
  rw [if_pos h4, h5]
theorem c_cnil {vs : List Nat} : cloop mg mt me vs [] ρ = some ([], ρ) := rfl
theorem c_ccons {vs : List Nat} {ρ4 ρ5 : Fm} {e : D} (h1 : mg d ρ = some ρ1) (h2 : mt ρ1 = some (true, ρ2)) (h3 : me ρ2 = some (pr, ρ3)) (h4 : frz ρ3 pr = some (e, ρ4)) (h5 : cloop mg mt me vs ds (wipeA ρ4 vs) = some (es, ρ5)) : cloop mg mt me vs (d :: ds) ρ = some (e :: es, ρ5) := by
  rw [cloop, h1]
  simp only [h2, h3, h4, h5]
theorem c_cskip {vs : List Nat} {x : Option (List D × Fm)} (h1 : mg d ρ = some ρ1) (h2 : mt ρ1 = some (false, ρ2)) (h5 : cloop mg mt me vs ds (wipeA ρ2 vs) = x) : cloop mg mt me vs (d :: ds) ρ = x := by
  rw [cloop, h1]
  simp only [h2, h5]
theorem c_fn {nN np : Nat} {ms : MS} {us : List Sv} (hn : us.length = np) (h0 : us.map some ++ List.replicate (nN - np) none = ρ0) (h : ms ρ0 = some (.ret r, ρ)) (ho : outsOf us ρ = some os) : mFn nN np ms us = some (r, os) := by
  unfold mFn
  rw [if_pos hn, h0, h]
  simp only [ho]
theorem c_rng1 {ma : MA} {n : Nat} (h : ma ρ = some ([.int (n : Int)], ρ1)) (hn : n ≤ 1000000) : mIRng1 ma ρ = some (rngD 0 n, ρ1) := by
  have r1 : rngOk (n : Int) = true := c_rng (by omega)
  unfold mIRng1
  rw [h]
  simp only [r1, if_true, Int.toNat_natCast]
theorem c_rng2 {ma : MA} {i j : Int} {n : Nat} (h : ma ρ = some ([.int i, .int j], ρ1)) (hi : -1000000 ≤ i ∧ i ≤ 1000000) (hj : -1000000 ≤ j ∧ j ≤ 1000000) (hn : (j - i).toNat = n) : mIRng2 ma ρ = some (rngD i n, ρ1) := by
  have r1 : rngOk i = true := c_rng hi
  have r2 : rngOk j = true := c_rng hj
  unfold mIRng2
  rw [h]
  simp only [r1, r2, Bool.and_self, if_true, hn]
theorem c_addL (h : ds.length + es.length ≤ 10000) : dAdd (.list ds) (.list es) = some (.own .loc (ds ++ es)) := by
  have hf : fits (ds.length + es.length) = true := c_fits h
  unfold dAdd
  simp only [hf, if_true]
theorem c_addT (h : ds.length + es.length ≤ 10000) : dAdd (.tuple ds) (.tuple es) = some (.imm (.tuple (ds ++ es))) := by
  have hf : fits (ds.length + es.length) = true := c_fits h
  unfold dAdd
  simp only [hf, if_true]
theorem c_mul {i j : Int} (h : -(2 ^ 64) < j ∧ j < 2 ^ 64) : mulOk i j = true := by
  unfold mulOk; rw [Bool.or_eq_true, Bool.or_eq_true]; exact .inl (.inr (decide_eq_true h))
theorem c_mul' {i j : Int} (h : -(2 ^ 64) < i ∧ i < 2 ^ 64) : mulOk i j = true := by
  unfold mulOk; rw [Bool.or_eq_true, Bool.or_eq_true]; exact .inl (.inl (decide_eq_true h))
end
end Vi

namespace Vi
open PySem PySem.Spec PyProof.Rows L2 RT
section
variable {X : Cx} {pos : Pos} {e : Expr} {es : List Expr} {me : ME} {mes : MA} {tg : Expr}
/-! ### a function that a module's name holds -/
theorem de_callF {id : String} {x : Str} {p : Pos} {r : List V → Hp → VK → Prop} {f : List D → Option Sv} (hc : CallR X (.builtin id) r) (hs : AS X r f) (hg : Gl X x) (hm : X.mg x = some (.builtin id)) (ha : DA X (e :: es) mes)
    (hd : (x == ("__debug__" : Str)) = false := by decide) (he : starEach (e :: es) X.env = (false, eval e X.env) :: starEach es X.env := by rfl) (hpl : (PySem.backTo pos (starEach es X.env)).any (·.1) = false := by rfl) : DE X (.Call (.Name x p) (e :: es) [] pos) (mA f mes) :=
  PE.imp (pe_callBfun hc hg hm ha hd he hpl) fun σ H Q ⟨ρ, M, O, π, pr, ρ', h, e, q⟩ => by
    unfold mA at e
    split at e
    · rename_i ds ρ1 e1
      split at e
      · rename_i r er
        cases e
        exact ⟨ρ, M, O, π, ds, _, h, e1, fun vs H1 M1 x1 s1 r1 => hs s1 r1 er fun v H' M' x3 s3 r3 => q v H' M' (x1.trans x3) s3 r3⟩
      · cases e
    · cases e
def dGcd : List D → Option Sv
  | [.int i, .int j] => some (.imm (.int ((Nat.gcd i.natAbs j.natAbs : Nat) : Int)))
  | _ => none
theorem as_gcd : AS X rGcd dGcd := by
  intro H M O π ρ σ vs ds res Q h r e q
  unfold dGcd at e
  split at e
  · cases e
    cases r with
    | cons r1 r2 => cases r2 with
      | cons r2 r3 =>
        cases r3; cases r1; cases r2
        exact ⟨_, _, rfl, Post.now q h (.int _)⟩
  · cases e
/-! ### a module's tuple of whole numbers -/
def ConstT (K : PySem.W.Frag) (mg : Str → Option Value) (x : Str) (is : List Int) : Prop :=
  ∃ (z : Addr) (o : Obj) (its : Array Value) (n : Nat), mg x = some (.ref z) ∧ K.lookup z = some o ∧ o.cls = .type "tuple" ∧ o.data = .seq its n ∧ its.size ≤ sizeLine ∧ Vals (is.map V.int) its.toList
theorem reps_ints {K : PySem.W.Frag} {H : Hp} {M : Mset} : ∀ is : List Int, Reps K H M (is.map V.int) (is.map PyData.int)
  | [] => .nil
  | i :: is => .cons (.int i) (reps_ints is)
theorem de_const {x : Str} {is : List Int} (hg : Gl X x) (hc : ConstT X.K X.mg x is) (hd : (x == ("__debug__" : Str)) = false := by decide) : DE X (.Name x pos) (mC (.tuple (is.map .int))) := by
  obtain ⟨z, o, its, n, h1, h2, h3, h4, h5, h6⟩ := hc
  exact de_c (v := .ref z) (pe_glob hg h1 rfl hd) fun H M => .tup (.inr ⟨o, its, n, h2, h3, h4, h5, h6⟩) (reps_ints is)
/-! ### reversed -/
theorem src_revL {K : PySem.W.Frag} {H0 : Hp} {M0 : Mset} {a : Addr} {vs : List V} {ds : List D} (h : Rd H0 a (.lst vs)) (n : ¬ M0 a) (r : Reps K H0 M0 vs ds) : Src K (Itv K a vs.length) ds.reverse H0 M0 := by
  refine ⟨fun H M l i hi => ?_, fun H M l => by show vs.length ≤ ds.reverse.length; rw [List.length_reverse, r.length]; exact Nat.le_refl _, fun H M l i d x H' ed y => ?_⟩
  · rw [List.length_reverse, ← r.length] at hi
    exact ⟨hi, vs, vs[vs.length - 1 - i]'(by omega), .inl (l a _ h n).1, List.getElem?_eq_getElem _⟩
  · have hi : i < ds.length := by
      have := (List.getElem?_eq_some_iff.mp ed).1
      rwa [List.length_reverse] at this
    rw [List.getElem?_reverse hi] at ed
    obtain ⟨v, hv, rv⟩ := r.get ed
    obtain ⟨e1, e2⟩ := y
    have e3 := e2 vs (.inl (l a _ h n).1)
    rw [r.length, hv] at e3; cases e3
    exact .inl ⟨e1, rv.tr l⟩
theorem src_revT {K : PySem.W.Frag} {H0 : Hp} {M0 : Mset} {a : Addr} {vs : List V} {ds : List D} (h : TupAt K H0 M0 a vs) (r : Reps K H0 M0 vs ds) : Src K (ItvT K a vs.length) ds.reverse H0 M0 := by
  refine ⟨fun H M l i hi => ?_, fun H M l => by show vs.length ≤ ds.reverse.length; rw [List.length_reverse, r.length]; exact Nat.le_refl _, fun H M l i d x H' ed y => ?_⟩
  · rw [List.length_reverse, ← r.length] at hi
    exact ⟨hi, vs, vs[vs.length - 1 - i]'(by omega), tupAt_lat h l, List.getElem?_eq_getElem _⟩
  · have hi : i < ds.length := by
      have := (List.getElem?_eq_some_iff.mp ed).1
      rwa [List.length_reverse] at this
    rw [List.getElem?_reverse hi] at ed
    obtain ⟨v, hv, rv⟩ := r.get ed
    obtain ⟨e1, e2⟩ := y
    have e3 := e2 vs (tupAt_lat h l)
    rw [r.length, hv] at e3; cases e3
    exact .inl ⟨e1, rv.tr l⟩
def mIRev (me : ME) : MI := fun ρ => match me ρ with
  | some (pr, ρ1) => match frz ρ1 pr with
    | some (d, ρ2) => match itemsOf d with
      | some ds => some (ds.reverse, ρ2)
      | none => none
    | none => none
  | none => none
theorem di_rev {p : Pos} (hg : Gl X "reversed") (hm : X.mg "reversed" = none) (he : DE X e me) (hs : starEach [e] X.env = (false, eval e X.env) :: starEach [] X.env := by rfl) : DI X tg (.Call (.Name "reversed" p) [e] [] pos) (mIRev me) := PI.imp (pi_revA hg hm he hs) fun σ H R ⟨ρ, M, O, π, ds, ρ', h, e, q⟩ => by
  unfold mIRev at e
  split at e
  · rename_i pr ρ1 e1
    split at e
    · rename_i d ρ2 e2
      split at e
      · rename_i ds' e3
        cases e
        refine ⟨ρ, M, O, π, pr, ρ1, h, e1, fun v H1 M1 x1 s1 r1 => ?_⟩
        obtain ⟨M2, x2, s2, r2⟩ := frz_ok s1 r1 e2
        unfold itemsOf at e3
        split at e3
        · cases e3
          cases r2 with
          | lst hr n rr => exact ⟨_, _, rfl, .inl ⟨.inl hr, q _ H1 M2 (x1.trans x2) s2 (src_revL hr n rr)⟩⟩
        · cases e3
          cases r2 with
          | tup ht rr => exact ⟨_, _, rfl, .inr ⟨ht.sq, q _ H1 M2 (x1.trans x2) s2 (src_revT ht rr)⟩⟩
        · cases e3
      · cases e
    · cases e
  · cases e
/-! ### range(i, j, -1) -/
def downD (lo : Int) (n : Nat) : List D := (List.range n).map fun k => .int (lo + (k : Nat) * (-1))
theorem src_down {K : PySem.W.Frag} {H0 : Hp} {M0 : Mset} {lo : Int} {n : Nat} : Src K (Itc lo (-1) n) (downD lo n) H0 M0 where
  go := fun H M l i hi => by unfold downD at hi; rw [List.length_map, List.length_range] at hi; exact hi
  stop := fun H M l => by unfold downD; rw [List.length_map, List.length_range]; exact Nat.le_refl _
  yld := fun H M l i d x H' ed y => by
    obtain ⟨e1, e2⟩ := y
    subst e2
    refine .inl ⟨e1, ?_⟩
    unfold downD at ed
    rw [List.getElem?_map] at ed
    obtain ⟨k, ek, rfl⟩ := Option.map_eq_some_iff.mp ed
    have hk : k = i := by
      obtain ⟨h1, h2⟩ := List.getElem?_eq_some_iff.mp ek
      rw [List.getElem_range] at h2
      exact h2.symm
    subst hk
    exact .int _
def mIDown (ma : MA) : MI := fun ρ => match ma ρ with
  | some ([.int i, .int j, .int (-1)], ρ1) => if (rngOk i && rngOk j) = true then some (downD i (i - j).toNat, ρ1) else none
  | _ => none
theorem di_down {a b c : Expr} {ma : MA} {p : Pos} (hg : Gl X "range") (hm : X.mg "range" = none) (ha : DA X [a, b, c] ma)
    (hs : starEach [a, b, c] X.env = (false, eval a X.env) :: starEach [b, c] X.env := by rfl) (hpl : (PySem.backTo pos (starEach [b, c] X.env)).any (·.1) = false := by rfl) : DI X tg (.Call (.Name "range" p) [a, b, c] [] pos) (mIDown ma) :=
  PI.imp (pi_range3 hg hm ha hs hpl) fun σ H R ⟨ρ, M, O, π, ds, ρ', h, e, q⟩ => by
    unfold mIDown at e
    split at e
    · rename_i i j ρ1 e1
      split at e
      · rename_i hz
        cases e
        rw [Bool.and_eq_true] at hz
        have hz1 := of_decide_eq_true hz.1
        have hz2 := of_decide_eq_true hz.2
        refine ⟨ρ, M, O, π, _, _, h, e1, fun vs H1 M1 x1 s1 r1 => ?_⟩
        cases r1 with
        | cons rv rr =>
          cases rr with
          | cons rw' rr =>
            cases rr with
            | cons rz rr =>
              cases rr
              cases rv
              cases rw'
              cases rz
              exact ⟨i, j, -1, _, rfl, RgC.neg (by omega) (by omega) (by omega) (by omega), q _ H1 M1 x1 s1 src_down⟩
      · cases e
    · cases e
end
end Vi

namespace Vi
open PySem PySem.Spec PyProof.Rows L2
section
variable {X : Cx}
/-! ### min(a list of data), max -/
def notNone : D → Bool
  | .none => false
  | _ => true
def minOk (ds : List D) : Bool := alikeAllB ds && ds.all notNone && ds.all okD && decide (PyData.depthAll ds ≤ 64)
theorem minOk_al {ds : List D} (h : minOk ds = true) : W.AlikeAll ds := by
  unfold minOk alikeAllB at h
  rw [Bool.and_eq_true, Bool.and_eq_true, Bool.and_eq_true] at h
  refine ⟨fun d hd e he => List.all_eq_true.mp (List.all_eq_true.mp h.1.1.1 d hd) e he, fun d hd z => ?_⟩
  have := List.all_eq_true.mp h.1.1.2 d hd
  rw [z] at this; cases this
theorem minOk_lay {ds : List D} (h : minOk ds = true) : PyData.canLayAll0 ds = true := lay_all fun d hd => by
  unfold minOk at h
  rw [Bool.and_eq_true, Bool.and_eq_true, Bool.and_eq_true] at h
  exact SeqAt.canLay_of_shaped (List.all_eq_true.mp h.1.2 d hd)
theorem minOk_dep {ds : List D} (h : minOk ds = true) : PyData.depthAll ds ≤ 64 := by
  unfold minOk at h
  rw [Bool.and_eq_true] at h
  exact of_decide_eq_true h.2
theorem readsAll_i {h : Heap} : ∀ {ds : List D} {us : List Value} {as : List Addr} {i : Nat} {u : Value}, ReadsAll h us ds as → us[i]? = some u → ∃ d bs, ds[i]? = some d ∧ Reads h u d bs
  | [], _, _, i, _, r, e => by cases r; simp at e
  | d :: ds, _, _, 0, _, .cons r1 r2, e1 => by
    simp at e1; subst e1; exact ⟨_, _, rfl, r1⟩
  | d :: ds, _, _, i + 1, _, .cons r1 r2, e1 => by
    obtain ⟨d', bs, h1, h2⟩ := readsAll_i r2 (i := i) (by simpa using e1)
    exact ⟨d', bs, by simpa using h1, h2⟩
def rMinD (K : PySem.W.Frag) : List V → Hp → VK → Prop := fun vs H Q => ∃ (a : Addr) (xs : List V) (d : D) (ds : List D), vs = [.ref a] ∧ SqL K H a xs ∧ DpAll K H xs (d :: ds) ∧ minOk (d :: ds) = true ∧ ∀ (i : Nat) (x : V), xs[i]? = some x → (d :: ds)[i]? = some (W.minD d ds) → Q x H
theorem cr_minD (hc : X.calm = true) (hu : X.A.units + 70 < cLine) : CallR X (.builtin "min") (rMinD X.K) := by
  intro pins s σ H vs us Q I r h
  obtain ⟨a, xs, d, ds, rfl, hsq, hdp, hok, q⟩ := h
  rw [Vals.ref1 r]
  obtain ⟨its, rv, pl, hz⟩ := I.list hsq
  obtain ⟨as, hr⟩ := Dp.readsAll I (d :: ds) xs its hdp rv
  have hdep := minOk_dep hok
  refine W.min_list_data (I.ok.hd hc) pl.isList (show ReadsAll s.heap its.toArray.toList (d :: ds) as by simpa using hr) (minOk_al hok) (by omega) fun i v h' tk bs hv rd kp => ?_
  have hv' : its[i]? = some v := by simpa using hv
  obtain ⟨e, bs2, he, re⟩ := readsAll_i hr hv'
  have e1 := (Reads.unique (Reads.keeps kp re) _ _ rd).1
  subst e1
  have hl := rv.length
  have hi : i < xs.length := by
    have := (List.getElem?_eq_some_iff.mp hv').1
    omega
  obtain ⟨w, ew, rw'⟩ := rv.get (List.getElem?_eq_getElem hi)
  rw [hv'] at ew; cases ew
  exact ⟨_, H, I.kept (t' := tk) kp, rw', q i _ (List.getElem?_eq_getElem hi) he⟩
def dMinL : D → Option Sv
  | .list (d :: ds) => if minOk (d :: ds) = true then some (.imm (W.minD d ds)) else none
  | _ => none
theorem us_minL : UnS X (fun v H Q => rMinD X.K [v] H Q) dMinL := by
  intro H M O π ρ σ v1 d1 res Q h r1 e q
  unfold dMinL at e
  split at e
  · split at e
    · rename_i hz
      cases e
      obtain ⟨a, vs, rfl, rd, rs⟩ := r1.inL
      refine ⟨a, vs, _, _, rfl, .inl rd, rs.dp (minOk_lay hz), hz, fun i x hx hd => ?_⟩
      obtain ⟨y, hy, ry⟩ := rs.get hd
      rw [hx] at hy; cases hy
      exact Post.now q h ry
    · cases e
  · cases e
end
end Vi

namespace Vi
open PySem PySem.Spec PyProof.Rows L2
section
variable {prog : Program} {w : World} {A : Around} {E : Value → Shared → Prop} {s : Shared}
theorem draw_list {it t : Addr} {items : Array Value} (hne : t ≠ it) : ∀ (n i : Nat) (s : Shared) (Q : List Value → Shared → Prop), s.heap.IsListIter it t i → s.heap.IsList t items → i + n ≤ items.size →
    (∀ h', h'.IsListIter it t (i + n) → Heap.SameBut it s.heap h' → Q ((items.toList.drop i).take n) { s with heap := h' }) → wpAny (model prog w) A (draw (.ref it) n) Q E s
  | 0, i, s, Q, hit, _, _, hQ => by
    show wpAny _ _ (pure []) Q E s
    exact wpAny_pure (by simpa using hQ s.heap hit (Heap.SameBut.refl ..))
  | n + 1, i, s, Q, hit, ht, hle, hQ => by
    have hlt : i < items.size := by omega
    show wpAny _ _ (pyNext (.ref it) >>= _) Q E s
    refine wpAny_bind (wpAny_pyNext_list_item hit ht (x := items[i]) (by simp [hlt]) fun h₁ hit₁ hs₁ => ?_)
    refine wpAny_bind (wpAny_holding (draw_list hne n (i + 1) _ _ hit₁ (ht.extBut hs₁.extBut hne) (by omega) fun h₂ hit₂ hs₂ => wpAny_pure ?_))
    have hd : items.toList.drop i = items[i] :: items.toList.drop (i + 1) := by simp [List.drop_eq_getElem_cons, hlt]
    have := hQ h₂ (by rw [show i + (n + 1) = i + 1 + n by omega]; exact hit₂) (hs₁.trans hs₂)
    rw [hd, List.take_succ_cons] at this
    exact this
theorem isList_push {h : Heap} {t : Addr} {items : Array Value} (o : Obj) (x : h.IsList t items) : (h.push o).IsList t items := let ⟨o', ho, r⟩ := x; ⟨o', Heap.get?_push_of_some _ ho, r⟩
theorem unpackItems_list {t : Addr} {items : Array Value} {Q : List Value → Shared → Prop} (hh : A.handled = none) (ht : s.heap.IsList t items)
    (hQ : ∀ h', Heap.ExtBut s.heap.objs.size s.heap h' → Q items.toList { s with heap := h' }) : wpAny (model prog w) A (unpackItems (.ref t) items.size none) Q E s := by
  have hlt : t ≠ s.heap.objs.size := by obtain ⟨o, ho, _⟩ := ht; exact Nat.ne_of_lt (Heap.lt_size ho)
  unfold unpackItems
  refine wpAny_bind ?_
  · unfold notIterableAtAll
    refine wpAny_bind (wpAny_specialOf ht.typeIs slot_list_iter.lookup ?_)
    refine wpAny_pure ?_
    simp only [Bool.false_eq_true, if_false]
    refine wpAny_bind (wpAny_holding (wpAny_pyIter_list ht ?_))
    refine wpAny_bind (wpAny_holding (draw_list hlt items.size 0 _ _ ⟨_, Heap.get?_push_size _ rfl, rfl, rfl⟩ (isList_push _ ht) (by omega) fun h₁ hit₁ hs₁ => ?_))
    have hall : List.take items.size (List.drop 0 items.toList) = items.toList := by
      rw [List.drop_zero]; exact List.take_of_length_le (by simp)
    rw [hall]
    rw [if_neg (by simp)]
    have ht₁ : h₁.IsList t items := (isList_push _ ht).extBut hs₁.extBut hlt
    refine wpAny_bind (wpAny_holding (wpAny_pyNext_list_end hh hit₁ ht₁ (by simp) fun h₂ he₂ => ?_))
    simp only [Option.isSome_none, Bool.false_eq_true, if_false]
    refine wpAny_pure (hQ h₂ fun b o hb e => he₂ b o hb (hs₁.extBut b o hb (Heap.get?_push_of_some _ e)))
theorem assign_Tuple_list {env : Env} {elts : List Expr} {x1} {pos : Pos} {t : Addr} {items : Array Value} {Q : Unit → Shared → Prop} (hh : A.handled = none) (ht : s.heap.IsList t items)
    (hn : (assignEach elts env).length = items.size) (hstar : (assignEach elts env).findIdx? (·.1) = none)
    (h : ∀ h', Heap.ExtBut s.heap.objs.size s.heap h' → wpAny (model prog w) A (assignInOrder ((assignEach elts env).map (·.2)) items.toList) Q E { s with heap := h' }) :
    wpAny (model prog w) A (assign (.Tuple elts x1 pos) env (.ref t)) Q E s := by
  rw [assign_Tuple]
  refine wpAny_bind (wpAny_standAt ?_)
  unfold unpack
  rw [hn, hstar]
  exact wpAny_bind (wpAny_holding (unpackItems_list hh ht h))
end
section
variable {X : Cx} {pos : Pos}
/-- (a, b, ..) = a tuple or a list of that length -/
def gSeq (K : PySem.W.Frag) (n : Nat) (t : TGs) : TG := fun v σ H Q => ∃ a xs, v = .ref a ∧ (SqT K H a xs ∨ SqL K H a xs) ∧ xs.length = n ∧ t xs σ H Q
theorem pg_seq {es : List Expr} {k : Nat} {t : TGs} {n : Nat} (hc : X.calm = true) (h : PGs X es t)
    (hn : (assignEach es X.env).length = n := by rfl) (hst : (assignEach es X.env).findIdx? (·.1) = none := by rfl) : PG X (.Tuple es k pos) (gSeq X.K n t) := by
  refine ⟨fun pins s σ H v u Q I r hw => ?_⟩
  obtain ⟨a, xs, e1, hq, hl, hw⟩ := hw
  subst e1
  cases r
  rcases hq with hq | hq
  · obtain ⟨its, rv, ht, hz⟩ := I.tuple hq
    refine assign_Tuple_tuple (I.ok.hd hc) ht (by simp [hn, ← hl, rv.length]) hst fun h' hx => ?_
    have I1 : Inv X pins σ H { s with heap := h' } := I.kept (t' := s.toks) fun b o e => hx b o (Nat.ne_of_lt (Heap.lt_size e)) e
    exact h.run pins _ σ H xs _ Q I1 (by simpa using rv) hw
  · obtain ⟨its, rv, ht, hz⟩ := I.list hq
    refine assign_Tuple_list (I.ok.hd hc) ht.isList (by simp [hn, ← hl, rv.length]) hst fun h' hx => ?_
    have I1 : Inv X pins σ H { s with heap := h' } := I.kept (t' := s.toks) fun b o e => hx b o (Nat.ne_of_lt (Heap.lt_size e)) e
    exact h.run pins _ σ H xs _ Q I1 (by simpa using rv) hw
variable {es : List Expr}
def mGseq (k : Nat) (n : MGs) : MG := fun d ρ => match d with
  | .tuple ds => if ds.length = k then n ds ρ else none
  | .list ds => if ds.length = k then n ds ρ else none
  | _ => none
theorem dg_seq {k : Nat} {n : MGs} {ts : List Nat} {kk : Nat} (hc : X.calm = true) (h : DGs X es n ts) (hn : (assignEach es X.env).length = k := by rfl) (hst : (assignEach es X.env).findIdx? (·.1) = none := by rfl) : DG X (.Tuple es kk pos) (mGseq k n) ts :=
  PG.imp (pg_seq hc h hn hst) fun v σ H Q ⟨ρ, M, O, π, d, ρ', hs, r, e, q⟩ => by
    unfold mGseq at e
    split at e
    · rename_i ds
      split at e
      · rename_i hl
        cases r with
        | tup ht rr => exact ⟨_, _, rfl, .inl ht.sq, by rw [rr.length]; exact hl, ρ, M, O, π, ds, ρ', hs, rr, e, q⟩
      · cases e
    · rename_i ds
      split at e
      · rename_i hl
        cases r with
        | lst hr n rr => exact ⟨_, _, rfl, .inr (.inl hr), by rw [rr.length]; exact hl, ρ, M, O, π, ds, ρ', hs, rr, e, q⟩
      · cases e
    · cases e
end
end Vi

namespace Vi
open PySem PySem.Spec PyProof.Rows L2
section
variable {X : Cx} {pos p2 : Pos}
/-- o[a:c] = v -/
def gSlc (to : TE) (ta tc : TO) : TG := fun v σ H Q => to σ H fun o H1 => ta σ H1 fun a H2 => tc σ H2 fun c H3 =>
  ∃ (l b : Addr) (xs ys : List V) (i j : Int), o = .ref l ∧ v = .ref b ∧ a = some i ∧ c = some j ∧ H3 l = some (.lst xs) ∧ H3 b = some (.lst ys) ∧ l ≠ b ∧ 0 ≤ i ∧ i ≤ j ∧ j ≤ xs.length ∧ xs.length + ys.length ≤ sizeLine ∧ Q σ (upd H3 l (.lst (xs.take i.toNat ++ ys ++ xs.drop j.toNat)))
theorem pg_slc {o ea ec : Expr} {to : TE} {ta tc : TO} (ho : PE X o to) (h1 : PO X (some ea) ta) (h2 : PO X (some ec) tc)
    (ha : ∀ v, assign (.Subscript o (.Slice (some ea) (some ec) none p2) pos) X.env v = (do
      let ov ← holding [v] (eval o X.env)
      let iv ← holding [v, ov] (eval (.Slice (some ea) (some ec) none p2) X.env)
      standAt pos
      holding [v, ov, iv] (setItem ov iv v)
      release [iv, v, ov] []) := by intro _; rfl) : PG X (.Subscript o (.Slice (some ea) (some ec) none p2) pos) (gSlc to ta tc) := by
  refine ⟨fun pins s σ H v u Q I r h => ?_⟩
  rw [ha]
  refine wpAny_bind (wpAny_holding (thn (ho.run pins s σ H _ I h) fun ov s1 ⟨x, H1, I1, r1, q1⟩ => ?_))
  refine wpAny_bind (wpAny_holding (wpAny_Slice (thn (h1.run pins s1 σ H1 _ I1 q1) fun vl s2 ⟨l', H2, I2, pl, q2⟩ => thn (h2.run pins s2 σ H2 _ I2 q2) fun vu s3 ⟨u', H3, I3, pu, q3⟩ => ?_)))
  rw [evalPart_none]
  refine wpAny_pure ?_
  obtain ⟨l, b, xs, ys, i, j, rfl, rfl, rfl, rfl, hl, hb, hne, h0, hij, hj, hz, q⟩ := q3
  have I4 : Inv X pins σ H3 { s3 with heap := s3.heap.push { cls := .type "slice", data := .fields #[vl, vu, .none] } } := I3.kept (t' := s3.toks) fun b ob q => Heap.get?_push_of_some _ q
  obtain rfl : ov = Value.ref l := r1
  obtain rfl : u = Value.ref b := r
  have ra : RelV (.int i) vl := by cases pl; exact ⟨_, rfl⟩
  have rc : RelV (.int j) vu := by cases pu; exact ⟨_, rfl⟩
  refine wpAny_bind (wpAny_standAt (wpAny_bind (wpAny_holding (set_slice I4 hl hb hne (Heap.IsSliceOf.new ..) ra rc h0 hij hj hz fun s5 I5 => ?_))))
  exact wpAny_release ⟨σ, _, I5, q⟩
variable {me : ME} {mk mk2 : MO} {e ka kc : Expr}
/-- x[a:c] = a fresh list -/
def mSlice (i : Nat) (ma mc : MO) (me : ME) : MS := fun ρ => match me ρ with
  | some (.val (.own .dic _), _) => none
  | some (.val (.own _ ys), ρ1) => match ρ1[i]? with
    | some (some (.own .dic _)) => none
    | some (some (.own _ _)) => match ma ρ1 with
      | some (some a, ρ2) => match mc ρ2 with
        | some (some c, ρ3) => match ρ3[i]? with
          | some (some (.own .dic _)) => none
          | some (some (.own b ds)) => if (decide (0 ≤ a) && decide (a ≤ c) && decide (c ≤ ds.length) && fits (ds.length + ys.length)) = true then some (.next, ρ3.set i (some (.own b (ds.take a.toNat ++ ys ++ ds.drop c.toNat)))) else none
          | _ => none
        | _ => none
      | _ => none
    | _ => none
  | _ => none
theorem ds_slice {st : Stmt} {i : Nat} (h : ∀ te ta tc, PE X e te → PO X (some ka) ta → PO X (some kc) tc → PS X st (tAsg te (gSlc (tVar i) ta tc))) (he : DE X e me) (h1 : DO X (some ka) mk) (h2 : DO X (some kc) mk2) : DS X st (mSlice i mk mk2 me) :=
  PS.imp (h _ _ _ he h1 h2) fun D σ H ⟨ρ, M, O, π, fl, ρ', h, e, q⟩ => by
    unfold mSlice at e
    split at e
    · cases e
    · rename_i b0 ys ρ1 hnb e1
      split at e
      · cases e
      · rename_i b1 ds1 hne2 e2
        split at e
        · rename_i a ρ2 e3
          split at e
          · rename_i c ρ3 e4
            split at e
            · cases e
            · rename_i b ds hne5 e5
              split at e
              · rename_i hz
                cases e
                rw [Bool.and_eq_true, Bool.and_eq_true, Bool.and_eq_true] at hz
                have z1 := of_decide_eq_true hz.1.1.1
                have z2 := of_decide_eq_true hz.1.1.2
                have z3 := of_decide_eq_true hz.1.2
                have z4 := fits_le hz.2
                refine ⟨ρ, M, O, π, .val (.own b0 ys), ρ1, h, e1, fun v H1 M1 x1 s1 r1 => ?_⟩
                obtain ⟨l, vs, f1, f2, f3, f4, f5, f6⟩ := s1.ownL e2 (isL_of hne2)
                refine ⟨.ref l, f1, ρ1, M1, Vi.hold O (.val (.own b0 ys)) v, π, some a, ρ2, s1.hold r1, e3, fun H2 M2 x2 s2 => ?_⟩
                refine ⟨ρ2, M2, Vi.hold O (.val (.own b0 ys)) v, π, some c, ρ3, s2, e4, fun H3 M3 x3 s3 => ?_⟩
                have le := hold_le O (.val (.own b0 ys)) v
                obtain ⟨p, ws, k1, k2', k3, k4, k5, k6⟩ := r1.held (x2.trans x3) s3
                have k2 := k2'.trans (congrArg some (cell_lst (isL_of hnb)))
                subst k1
                have s3' := s3.less le
                obtain ⟨l', us, g1, g2, g3, g4, g5, g6⟩ := s3'.ownL e5 (isL_of hne5)
                rw [f1] at g1; cases g1
                have hne : l ≠ p := fun z => k6 i b ds e5 (by rw [f1, z])
                obtain ⟨s4, x4, t4⟩ := s3'.write (ws := us.take a.toNat ++ ws ++ us.drop c.toNat) (es := ds.take a.toNat ++ ys ++ ds.drop c.toNat) e5 (isL_of hne5) f1 (((g5.take _).append k5).append (g5.drop _))
                exact ⟨l, p, us, ws, a, c, rfl, rfl, rfl, rfl, g2, k2, hne, z1, z2, by rw [g5.length]; exact z3, by rw [g5.length, k5.length]; exact z4, q _ _ M3 ((x1.trans ((x2.trans x3).less le)).trans x4) s4⟩
              · cases e
            · cases e
          · cases e
        · cases e
      · cases e
    · cases e
end
end Vi

namespace Vi
open PySem PySem.Spec PyProof.Rows L2
section
variable {X : Cx} {pos p p2 pos2 : Pos} {e : Expr} {me : ME}
/-- list(range(e)) -/
def mLRng (me : ME) : ME := fun ρ => match me ρ with
  | some (pr, ρ1) => match peek ρ1 pr with
    | some (.int j) => if (rngOk j && decide (j ≤ 16777216)) = true then some (.val (.own .loc (rngD 0 j.toNat)), ρ1) else none
    | _ => none
  | none => none
theorem reps_rng {K : PySem.W.Frag} {H : Hp} {M : Mset} (lo : Int) : ∀ l : List Nat, Reps K H M (l.map fun i => V.int (lo + (i : Nat))) (l.map fun i => PyData.int (lo + (i : Nat)))
  | [] => .nil
  | i :: l => .cons (.int _) (reps_rng lo l)
theorem de_lrng (hc : X.calm = true) (hg : Gl X "list") (hm : X.mg "list" = none) (hg2 : Gl X "range") (hm2 : X.mg "range" = none) (he : DE X e me) (na : starEach [e] X.env = (false, eval e X.env) :: starEach [] X.env := by rfl)
    (na2 : starEach [.Call (.Name "range" p2) [e] [] pos2] X.env = (false, eval (.Call (.Name "range" p2) [e] [] pos2) X.env) :: starEach [] X.env := by rfl) : DE X (.Call (.Name "list" p) [.Call (.Name "range" p2) [e] [] pos2] [] pos) (mLRng me) :=
  PE.imp (pe_listRg hc hg hm (prg_1 hg2 hm2 he na) na2) fun σ H Q ⟨ρ, M, O, π, pr, ρ', h, e, q⟩ => by
    unfold mLRng at e
    split at e
    · rename_i pr1 ρ1 e1
      split at e
      · rename_i j e2
        split at e
        · rename_i hz
          cases e
          rw [Bool.and_eq_true] at hz
          have z1 := of_decide_eq_true hz.1
          have z2 := of_decide_eq_true hz.2
          refine ⟨ρ, M, O, π, pr1, _, h, e1, fun v H1 M1 x1 s1 r1 => ?_⟩
          have ev := (peek_vw s1 r1 e2).inI
          subst ev
          refine ⟨j, rfl, ⟨by omega, by omega, by omega, by omega, by omega⟩, fun a ha => ?_⟩
          have hr : Reps X.K H1 M1 (rgV 0 j) (rngD 0 j.toNat) := by
            unfold rgV rngD
            rw [show j - 0 = j by omega]
            exact reps_rng 0 _
          exact Post.lst (Q := Q) (fun v H' M' x3 s3 r3 => q v H' M' (x1.trans x3) s3 r3) s1 hr ha
        · cases e
      · cases e
    · cases e
end
end Vi

namespace Vi
open PySem PySem.Spec PyProof.Rows L2
section
variable {X : Cx} {pos : Pos}
def tPar3 (i j k : Nat) (ta : TA) : TS := fun D σ H => ta σ H fun vs H1 => ∃ u v w, vs = [u, v, w] ∧ D.nx (((σ.set i (some u)).set j (some v)).set k (some w)) H1
theorem set3 {α : Type} (l : List α) {i j k : Nat} (a b c : α) (h1 : i ≠ j) (h2 : i ≠ k) (h3 : j ≠ k) : ((l.set k c).set j b).set i a = ((l.set i a).set j b).set k c := by
  rw [List.set_comm c b (Ne.symm h3), List.set_comm c a (Ne.symm h2), List.set_comm b a (Ne.symm h1)]
theorem ps_par3 {i j k : Nat} {x y z : Str} {a b c : Expr} {ta : TA} {px py pz pt : Pos} {kt k2 pt2} (hc : X.calm = true) (hN : X.N.Nodup) (hi : X.N[i]? = some x) (hj : X.N[j]? = some y) (hk : X.N[k]? = some z) (hij : i ≠ j) (hik : i ≠ k) (hjk : j ≠ k)
    (hx : X.env.scope.names.lookup x = some .local) (hy : X.env.scope.names.lookup y = some .local) (hz : X.env.scope.names.lookup z = some .local) (ha : PA X [a, b, c] ta)
    (hw : swappedStores [.Tuple [.Name x px, .Name y py, .Name z pz] kt pt] (.Tuple [a, b, c] k2 pt2) X.env = pure (some [x, y, z]))
    (hs : swapsWithSole [.Tuple [.Name x px, .Name y py, .Name z pz] kt pt] (.Tuple [a, b, c] k2 pt2) pos.line X.env = pure false := by rfl) :
    PS X (.Assign [.Tuple [.Name x px, .Name y py, .Name z pz] kt pt] (.Tuple [a, b, c] k2 pt2) pos) (tPar3 i j k ta) := by
  refine ⟨fun pins s σ H D I h => ?_⟩
  rw [exec_Assign_arm]
  refine wpAny_bind (wpAny_standAt ?_)
  rw [hs]
  refine wpAny_bind (wpAny_pure ?_)
  rw [if_neg (by decide)]
  refine wpAny_bind (Tuple_ (thn (ha.run _ pins s σ H _ I h) fun us s1 ⟨vs, H1, I1, r1, q1⟩ => ?_))
  obtain ⟨u, v, w, e1, q1⟩ := q1
  subst e1
  obtain ⟨u1, u2, u3, rfl, rv, rw', rz⟩ : ∃ u1 u2 u3, us = [u1, u2, u3] ∧ RelV u u1 ∧ RelV v u2 ∧ RelV w u3 := by
    cases r1 with
    | cons p q =>
      cases q with
      | cons p' q' =>
        cases q' with
        | cons p'' q'' =>
          cases q''
          exact ⟨_, _, _, rfl, p, p', p''⟩
  refine wpAny_newObj_type ?_ (by show 3 ≤ sizeLine; decide)
  have I2 : Inv X pins σ H1 { s1 with heap := s1.heap.push { cls := .type "tuple", data := .seq [u1, u2, u3].toArray } } := I1.kept (t' := s1.toks) fun b o e => Heap.get?_push_of_some _ e
  rw [hw]
  refine wpAny_bind (wpAny_pure ?_)
  show wpAny (model X.prog X.w) X.A (do rule "assign.swapped-stores"; let items ← unpackItems (.ref s1.heap.objs.size) 3 none; assignInOrder [fun v => bindName X.env z v, fun v => bindName X.env y v, fun v => bindName X.env x v] items.reverse; pure Flow.next) _ _ _
  refine wpAny_bind (wpAny_rule (wpAny_bind (unpackItems_tuple (items := #[u1, u2, u3]) (I.ok.hd hc) (IsTup.new s1.heap _) fun h' hx' => ?_)))
  have I3 := I2.kept (h' := h') (t' := s1.toks) fun b o e => hx' b o (Nat.ne_of_lt (Heap.lt_size e)) e
  show wpAny _ _ (assignInOrder [fun v => bindName X.env z v, fun v => bindName X.env y v, fun v => bindName X.env x v] [u3, u2, u1] >>= fun _ => pure Flow.next) _ _ _
  refine wpAny_bind (assignInOrder_cons (wpAny_bindName (store_ok I3 hN hk (.inl hz) rz (fun s2 I4 => ?_) (.inr hz))))
  refine assignInOrder_cons (wpAny_bindName (store_ok I4 hN hj (.inl hy) rw' (fun s3 I5 => ?_) (.inr hy)))
  refine assignInOrder_cons (wpAny_bindName (store_ok I5 hN hi (.inl hx) rv (fun s4 I6 => assignInOrder_nil (wpAny_pure ?_)) (.inr hx)))
  rw [set3 _ _ _ _ hij hik hjk] at I6
  exact ⟨_, H1, I6, q1⟩
/-- a, b, c = x, y, z -/
def mPar3 (i j k : Nat) (ma mb mc : ME) : MS := fun ρ => match ma ρ with
  | some (p1, ρ1) => match frz ρ1 p1 with
    | some (d1, ρ2) => match mb ρ2 with
      | some (p2, ρ3) => match frz ρ3 p2 with
        | some (d2, ρ4) => match mc ρ4 with
          | some (p3, ρ5) => match frz ρ5 p3 with
            | some (d3, ρ6) => some (.next, ((ρ6.set i (some (.imm d1))).set j (some (.imm d2))).set k (some (.imm d3)))
            | none => none
          | none => none
        | none => none
      | none => none
    | none => none
  | none => none
theorem ds_par3 {st : Stmt} {a b c : Expr} {ma mb mc : ME} {i j k : Nat} (h : ∀ ta, PA X [a, b, c] ta → PS X st (tPar3 i j k ta)) (ha : DE X a ma) (hb : DE X b mb) (hcc : DE X c mc) (hs : starEach [a, b, c] X.env = (false, eval a X.env) :: starEach [b, c] X.env := by rfl) (hs2 : starEach [b, c] X.env = (false, eval b X.env) :: starEach [c] X.env := by rfl) (hs3 : starEach [c] X.env = (false, eval c X.env) :: starEach [] X.env := by rfl) : DS X st (mPar3 i j k ma mb mc) :=
  PS.imp (h _ (pa_cons ha (pa_cons hb (pa_cons hcc pa_nil hs3) hs2) hs)) fun D σ H ⟨ρ, M, O, π, fl, ρ', h, e, q⟩ => by
    unfold mPar3 at e
    split at e
    · rename_i p1 ρ1 e1
      split at e
      · rename_i d1 ρ2 e2
        split at e
        · rename_i p2 ρ3 e3
          split at e
          · rename_i d2 ρ4 e4
            split at e
            · rename_i p3 ρ5 e5
              split at e
              · rename_i d3 ρ6 e6
                cases e
                refine ⟨ρ, M, O, π, p1, ρ1, h, e1, fun v1 H1 M1 x1 t1 r1 => ?_⟩
                obtain ⟨M2, x2, t2, r2⟩ := frz_ok t1 r1 e2
                refine ⟨ρ2, M2, O, π, p2, ρ3, t2, e3, fun v2 H3 M3 x3 t3 r3 => ?_⟩
                obtain ⟨M4, x4, t4, r4⟩ := frz_ok t3 r3 e4
                refine ⟨ρ4, M4, O, π, p3, ρ5, t4, e5, fun v3 H5 M5 x5 t5 r5 => ⟨v1, v2, v3, rfl, ?_⟩⟩
                obtain ⟨M6, x6, t6, r6⟩ := frz_ok t5 r5 e6
                have y1 := r2.tr (((x3.trans x4).trans x5).trans x6).tr
                have y2 := r4.tr (x5.trans x6).tr
                exact q _ H5 M6 ((((((x1.trans x2).trans x3).trans x4).trans x5).trans x6)) (((t6.setImm y1).setImm y2).setImm r6)
              · cases e
            · cases e
          · cases e
        · cases e
      · cases e
    · cases e
end
end Vi

namespace Vi
open PySem PySem.Spec PyProof.Rows L2
section
variable {ρ ρ0 ρ1 ρ2 ρ3 : Fm} {me ma mb : ME} {m n : MS} {mt : MT} {mi : MI} {mg : MG} {d s t : D} {r sv : Sv} {ds es : List D} {pr p1 p2 : PR} {i : Nat} {as : MA}
theorem c_lst (h : as ρ = some (ds, ρ1)) (hf : fits ds.length = true) : mLst as ρ = some (.val (.own .loc ds), ρ1) := by
  unfold mLst
  rw [h]
  simp only [hf, if_true]
theorem c_tup (h : as ρ = some (ds, ρ1)) (hf : fits ds.length = true) : mTup as ρ = some (.val (.imm (.tuple ds)), ρ1) := by
  unfold mTup
  rw [h]
  simp only [hf, if_true]
theorem c_acons (h1 : me ρ = some (pr, ρ1)) (h2 : frz ρ1 pr = some (d, ρ2)) (h3 : as ρ2 = some (ds, ρ3)) : mCons me as ρ = some (d :: ds, ρ3) := by
  unfold mCons
  rw [h1]
  simp only [h2, h3]
theorem c_anil : mNil ρ = some ([], ρ) := rfl
theorem c_rval {mr : MR} {ars : List AR} (h1 : me ρ = some (pr, ρ1)) (h2 : frz ρ1 pr = some (d, ρ2)) (h3 : mr ρ2 = some (ars, ρ3)) : rVal me mr ρ = some (.v d :: ars, ρ3) := by
  unfold rVal
  rw [h1]
  simp only [h2, h3]
theorem c_b {b : Bool} (h : me ρ = some (.val (.imm (.bool b)), ρ1)) : mB me ρ = some (b, ρ1) := by
  unfold mB
  rw [h]
theorem c_not {b : Bool} (h : mt ρ = some (b, ρ1)) : mNotT mt ρ = some (!b, ρ1) := by
  unfold mNotT
  rw [h]
theorem c_seqA {a b : MS} {x : Option (Fl × Fm)} (h : mSeq (mSeq a b) n ρ = x) : mSeq a (mSeq b n) ρ = x := by
  rw [← h]
  unfold mSeq
  cases a ρ with
  | none => rfl
  | some r => obtain ⟨f, ρ1⟩ := r; cases f <;> rfl
theorem c_whF {k : Nat} (h : mt ρ = some (false, ρ1)) : whl mt m (k + 1) ρ = some (.next, ρ1) := by
  rw [whl, h]
theorem c_whT {k : Nat} {x : Option (Fl × Fm)} (h : mt ρ = some (true, ρ1)) (h2 : m ρ1 = some (.next, ρ2)) (h3 : whl mt m k ρ2 = x) : whl mt m (k + 1) ρ = x := by
  rw [whl, h]
  simp only [h2]
  exact h3
theorem c_par {i j : Nat} {s1 s2 : Sv} (h1 : ma ρ = some (p1, ρ1)) (h2 : take ρ1 p1 = some (s1, ρ2)) (h3 : mb ρ2 = some (p2, ρ3)) {ρ4 : Fm} (h4 : take ρ3 p2 = some (s2, ρ4)) (h5 : (fine s1 && fine s2) = true) : mPar i j ma mb ρ = some (.next, (ρ4.set i (some s1)).set j (some s2)) := by
  unfold mPar
  rw [h1]
  simp only [h2, h3, h4, h5, if_true]
theorem c_app {i : Nat} {b b2 : Kd} {ys : List D} (h0 : ρ[i]? = some (some (.own b2 ys))) (h1 : me ρ = some (pr, ρ1)) (h2 : frz ρ1 pr = some (d, ρ2)) (h3 : ρ2[i]? = some (some (.own b ds))) (h4 : fits (ds.length + 1) = true) (hb : b.isL = true := by rfl) (hb2 : b2.isL = true := by rfl) : mApp i me ρ = some (.val (.imm .none), ρ2.set i (some (.own b (ds ++ [d])))) := by
  unfold mApp
  cases b <;> cases b2 <;> first | (exact absurd hb (by decide)) | (exact absurd hb2 (by decide)) | (rw [h0]; simp only [h1, h2, h3, h4, if_true])
end
end Vi

namespace Vi
open PySem PySem.Spec PyProof.Rows L2
section
variable {X : Cx}
/-! ### in, of any data in a tuple -/
def rInT (K : PySem.W.Frag) (neg : Bool) : R2 := fun x y H Q => ∃ d ds, Dp K H x d ∧ Dp K H y (.tuple ds) ∧ SeqAt.shaped d = true ∧ SeqAt.shaped (.tuple ds) = true ∧ Q (.bl (if neg then !hasD d ds else hasD d ds)) H
theorem op_inT (hu : X.A.units + 65 < cLine) : OpR X (compareOp .In) (rInT X.K false) := by
  intro pins s σ H x y v u Q I rx ry h
  obtain ⟨d, ds, hd, he, sd, se, q⟩ := h
  obtain ⟨as, r1⟩ := Dp.reads I d x v hd rx
  obtain ⟨bs, r2⟩ := Dp.reads I (.tuple ds) y u he ry
  exact SeqAt.in_tuple_reads r2 r1 (SeqAt.canLay_of_shaped se) (SeqAt.canLay_of_shaped sd) (room_in_shaped sd hu) ⟨.bl _, H, I, rfl, q⟩
theorem op_notInT (hu : X.A.units + 65 < cLine) : OpR X (compareOp .NotIn) (rInT X.K true) := by
  intro pins s σ H x y v u Q I rx ry h
  obtain ⟨d, ds, hd, he, sd, se, q⟩ := h
  obtain ⟨as, r1⟩ := Dp.reads I d x v hd rx
  obtain ⟨bs, r2⟩ := Dp.reads I (.tuple ds) y u he ry
  exact SeqAt.notIn_tuple_reads r2 r1 (SeqAt.canLay_of_shaped se) (SeqAt.canLay_of_shaped sd) (room_in_shaped sd hu) ⟨.bl _, H, I, rfl, q⟩
def dInT (neg : Bool) (x y : D) : Option Sv := match y with
  | .tuple ds => if (okD x && okD (.tuple ds)) = true then some (.imm (.bool (if neg then !hasD x ds else hasD x ds))) else none
  | y => dIn neg x y
abbrev rInB (X : Cx) (neg : Bool) : R2 := fun x y H Q => rInA X neg x y H Q ∨ rInT X.K neg x y H Q
theorem op_inB (hu : X.A.units + 65 < cLine) : OpR X (compareOp .In) (rInB X false) := (op_inA hu).or (op_inT hu)
theorem op_notInB (hu : X.A.units + 65 < cLine) : OpR X (compareOp .NotIn) (rInB X true) := (op_notInA hu).or (op_notInT hu)
theorem os_inB (neg : Bool) : OpS X (rInB X neg) (dInT neg) := by
  intro H M O π ρ σ v1 v2 d1 d2 res Q h r1 r2 e q
  unfold dInT at e
  split at e
  · rename_i ds
    split at e
    · rename_i hz
      cases e
      rw [Bool.and_eq_true] at hz
      exact .inr ⟨d1, ds, r1.dp (SeqAt.canLay_of_shaped hz.1), r2.dp (SeqAt.canLay_of_shaped hz.2), hz.1, hz.2, Post.now q h (.bl _)⟩
    · cases e
  · exact .inl (os_in neg h r1 r2 e q)
end
end Vi

namespace Vi
open PySem PySem.Spec PyProof.Rows L2
theorem ends_at {a c n : Nat} (hac : a ≤ c) (ha : a ≤ n) : sliceBounds (some (a : Int)) (some (c : Int)) none n = ((a : Int), ((min c n : Nat) : Int), 1) := by
  have h1 : ¬ ((a : Int) < 0) := by omega
  have h2 : ¬ ((c : Int) < 0) := by omega
  simp only [sliceBounds, Option.getD_none, h1, h2, if_false, show (1 : Int) > 0 by decide, if_true]
  congr 1
  · omega
  · congr 1; omega
section
variable {prog : Program} {w : World} {A : Around} {E : Value → Shared → Prop} {s : Shared}
/-- xs[a:c] = ys, c maybe behind the end -/
theorem put_slice {l b sl : Addr} {xs ys : Array Value} {n n2 : Nat} {vl vu : Value} {a c : Nat} {Q : Unit → Shared → Prop} (e : s.heap.get? l = some { cls := .type "list", data := .seq xs n }) (e2 : s.heap.get? b = some { cls := .type "list", data := .seq ys n2 }) (hne : l ≠ b) (hs : s.heap.IsSliceOf sl vl vu .none)
    (pl : IsPart vl (some (a : Int))) (pu : IsPart vu (some (c : Int))) (hac : a ≤ c) (ha : a ≤ xs.size) (hsz : xs.size + ys.size ≤ sizeLine) (h : Q () { s with heap := s.heap.update l (Obj.mapSeq fun zs => zs.extract 0 a ++ ys ++ zs.extract (min c xs.size) zs.size) }) : wpAny (model prog w) A (setItem (.ref l) (.ref sl) (.ref b)) Q E s := by
  have hl : s.heap.IsList l xs := PySem.IsL.isList e; have hb : s.heap.IsList b ys := PySem.IsL.isList e2
  obtain ⟨os, hos, hcs, hds⟩ := id hs; have hTs : s.TypeIs (.ref sl) "slice" := ⟨os, hos, hcs⟩
  have hstep : ¬ ((rawPart none == rawInt 0) = true) := Bool.false_ne_true; have hsame : Builtin.List.listSameRef (.ref l) (.ref b) = false := beq_eq_false_iff_ne.mpr hne
  have hmax : (max (a : Int) ((min c xs.size : Nat) : Int)).toNat = min c xs.size := by omega
  have hz' : ((fun zs : Array Value => zs.extract 0 a ++ ys ++ zs.extract (min c xs.size) zs.size) xs).size ≤ sizeLine + 1 := by simp only [Array.size_append, Array.size_extract]; omega
  unfold setItem; try with_reducible refine wpAny_holding ?_
  first | refine wpAny_bind (wpAny_pure ?_) | skip
  refine wpAny_bind (wpAny_sequenceKey hl.typeIs (by decide) ?_); refine wpAny_bind (wpAny_callSpecial?_slot (name := Str.ofString "__setitem__") hl.typeIs slot_list_setitem (wpAny_call_entry slot_list_setitem hl.typeIs entry_list_setitem ?_ (args_list_setitem _ _ _)))
  show wpAny _ _ (Builtin.List.listSubscript? (.ref sl) >>= _) _ _ s; refine wpAny_bind ?_; unfold Builtin.List.listSubscript?
  refine wpAny_bind (wpAny_specialOf hTs slice_no_index ?_); simp only [Option.isNone_none, if_true]; refine wpAny_pure ?_
  show wpAny _ _ (typeOf (.ref sl) >>= _) _ _ s; refine wpAny_bind (wpAny_typeOf hTs ?_)
  first | rw [if_neg (by decide)] | refine PySem.W.KFB.if_not (by decide) ?_
  rw [listSliceParts_eq]; refine wpAny_bind (wpAny_bind (wpAny_field hos hds (x := .none) rfl (wpAny_bind (wpAny_listPart .none ?_))))
  rw [if_neg hstep]; refine wpAny_bind (wpAny_field hos hds (x := vl) rfl (wpAny_bind (wpAny_listPart pl ?_)))
  refine wpAny_bind (wpAny_field hos hds (x := vu) rfl (wpAny_bind (wpAny_listPart pu (wpAny_pure ?_)))); first | simp only [hsame, Bool.false_eq_true, if_false] | refine PySem.W.KFB.if_not hsame ?_ | (dsimp only; rw [if_neg (by rw [hsame]; exact Bool.false_ne_true)])
  refine wpAny_bind (m := Builtin.List.listAllItems (.ref b) "must assign iterable to extended slice") ?_; unfold Builtin.List.listAllItems
  refine wpAny_bind (wpAny_typeOf hb.typeIs ?_); first | refine PySem.W.KFB.if_so (by decide) ?_ | rw [if_pos (by decide)] | simp only [beq_self_eq_true, Bool.true_or, if_true]
  unfold Builtin.List.listItems; refine wpAny_bind (wpAny_seqItems e2 rfl (wpAny_pure ?_)); refine wpAny_bind (wpAny_bind (wpAny_seqItems e rfl (wpAny_pure ?_)))
  refine wpAny_bind (wpAny_of_eq ((sliceIndices_raw (some (a : Int)) (some (c : Int)) none xs.size (by simp)).trans (congrArg (pure : Int × Int × Int → Sem (Int × Int × Int)) (ends_at hac ha))) ?_)
  show wpAny _ _ (if ((1 : Int) == 1) = true then _ else _) _ _ s; rw [if_pos (by decide)]; refine wpAny_bind (wpAny_rule ?_)
  first | simp only [notLongL hsz, Bool.false_eq_true, if_false] | refine PySem.W.KFB.if_not (notLongL hsz) ?_
  first | refine wpAny_bind (wpAny_pure ?_) | skip
  show wpAny _ _ (updateSeq l (fun zs => zs.extract 0 ((a : Int)).toNat ++ ys ++ zs.extract (max (a : Int) ((min c xs.size : Nat) : Int)).toNat zs.size) >>= _) _ _ _
  rw [hmax, Int.toNat_natCast]; refine wpAny_bind (wpAny_updateSeq (hz := Nat.le_trans (Nat.le_add_right _ _) hsz) (_hz' := hz') e rfl ?_); refine wpAny_bind (wpAny_letGo ?_)
  first | exact wpAny_bind (wpAny_pure (wpAny_pure ⟨.none, rfl, wpAny_pure h⟩)) | exact wpAny_pure ⟨.none, rfl, wpAny_pure h⟩
end
section
variable {X : Cx} {pos p2 : Pos}
theorem put_slice_I {pins : List (Addr × Obj)} {s : Shared} {σ : St} {H : Hp} {l b sl : Addr} {xs ys : List V} {a c : Nat} {vl vu : Value} {Q : Unit → Shared → Prop} (I : Inv X pins σ H s) (hH : H l = some (.lst xs)) (hB : H b = some (.lst ys)) (hne : l ≠ b) (hs : s.heap.IsSliceOf sl vl vu .none)
    (pl : IsPart vl (some (a : Int))) (pu : IsPart vu (some (c : Int))) (hac : a ≤ c) (ha : a ≤ xs.length) (hz : xs.length + ys.length ≤ sizeLine) (h : ∀ s', Inv X pins σ (upd H l (.lst (xs.take a ++ ys ++ xs.drop c))) s' → Q () s') : wpAny (model X.prog X.w) X.A (setItem (.ref l) (.ref sl) (.ref b)) Q X.xe s := by
  obtain ⟨z, its, n, r, hl, e⟩ := I.lstM hH; obtain ⟨z2, its2, n2, r2, hl2, e2⟩ := I.lstM hB
  have hd : xs.drop (min c its.length) = xs.drop c := by
    have := r.length
    by_cases k : c ≤ xs.length
    · rw [Nat.min_eq_left (by omega)]
    · rw [Nat.min_eq_right (by omega), List.drop_of_length_le (by omega), List.drop_of_length_le (by omega)]
  rw [← hd] at h
  refine put_slice (a := a) (c := c) e e2 hne hs pl pu hac (by rw [List.size_toArray]; omega) (by rw [List.size_toArray, List.size_toArray]; omega) (h _ ?_)
  refine I.lset (its' := its.take a ++ its2 ++ its.drop (min c its.length)) (t' := s.toks) hH e ?_ (Vals.append (Vals.append (r.take _) r2) (r.drop _)) ?_
  · rw [← splice_eq]
    simp only [List.size_toArray]
  · rw [List.length_append, List.length_append, List.length_take, List.length_drop]
    omega
def gSlx (to : TE) (ta tc : TO) : TG := fun v σ H Q => to σ H fun o H1 => ta σ H1 fun a H2 => tc σ H2 fun c H3 =>
  ∃ (l b : Addr) (xs ys : List V) (i j : Nat), o = .ref l ∧ v = .ref b ∧ a = some (i : Int) ∧ c = some (j : Int) ∧ H3 l = some (.lst xs) ∧ H3 b = some (.lst ys) ∧ l ≠ b ∧ i ≤ j ∧ i ≤ xs.length ∧ xs.length + ys.length ≤ sizeLine ∧ Q σ (upd H3 l (.lst (xs.take i ++ ys ++ xs.drop j)))
theorem pg_slx {o ea ec : Expr} {to : TE} {ta tc : TO} (ho : PE X o to) (h1 : PO X (some ea) ta) (h2 : PO X (some ec) tc)
    (ha : ∀ v, assign (.Subscript o (.Slice (some ea) (some ec) none p2) pos) X.env v = (do
      let ov ← holding [v] (eval o X.env)
      let iv ← holding [v, ov] (eval (.Slice (some ea) (some ec) none p2) X.env)
      standAt pos
      holding [v, ov, iv] (setItem ov iv v)
      release [iv, v, ov] []) := by intro _; rfl) : PG X (.Subscript o (.Slice (some ea) (some ec) none p2) pos) (gSlx to ta tc) := by
  refine ⟨fun pins s σ H v u Q I r h => ?_⟩
  rw [ha]
  refine wpAny_bind (wpAny_holding (thn (ho.run pins s σ H _ I h) fun ov s1 ⟨x, H1, I1, r1, q1⟩ => ?_))
  refine wpAny_bind (wpAny_holding (wpAny_Slice (thn (h1.run pins s1 σ H1 _ I1 q1) fun vl s2 ⟨l', H2, I2, pl, q2⟩ => thn (h2.run pins s2 σ H2 _ I2 q2) fun vu s3 ⟨u', H3, I3, pu, q3⟩ => ?_)))
  rw [evalPart_none]
  refine wpAny_pure ?_
  obtain ⟨l, b, xs, ys, i, j, rfl, rfl, rfl, rfl, hl, hb, hne, hij, hj, hz, q⟩ := q3
  have I4 : Inv X pins σ H3 { s3 with heap := s3.heap.push { cls := .type "slice", data := .fields #[vl, vu, .none] } } := I3.kept (t' := s3.toks) fun b ob q => Heap.get?_push_of_some _ q
  obtain rfl : ov = Value.ref l := r1
  obtain rfl : u = Value.ref b := r
  refine wpAny_bind (wpAny_standAt (wpAny_bind (wpAny_holding (put_slice_I I4 hl hb hne (Heap.IsSliceOf.new ..) pl pu hij hj hz fun s5 I5 => ?_))))
  exact wpAny_release ⟨σ, _, I5, q⟩
variable {me : ME} {mk mk2 : MO} {e ka kc : Expr}
/-- x[a:c] = a fresh list, c maybe behind the end -/
def mSlx (i : Nat) (ma mc : MO) (me : ME) : MS := fun ρ => match me ρ with
  | some (.val (.own .dic _), _) => none
  | some (.val (.own _ ys), ρ1) => match ρ1[i]? with
    | some (some (.own .dic _)) => none
    | some (some (.own _ _)) => match ma ρ1 with
      | some (some a, ρ2) => match mc ρ2 with
        | some (some c, ρ3) => match ρ3[i]? with
          | some (some (.own .dic _)) => none
          | some (some (.own b ds)) => if (decide (0 ≤ a) && decide (a ≤ c) && decide (a ≤ ds.length) && fits (ds.length + ys.length)) = true then some (.next, ρ3.set i (some (.own b (ds.take a.toNat ++ ys ++ ds.drop c.toNat)))) else none
          | _ => none
        | _ => none
      | _ => none
    | _ => none
  | _ => none
theorem ds_slx {st : Stmt} {i : Nat} (h : ∀ te ta tc, PE X e te → PO X (some ka) ta → PO X (some kc) tc → PS X st (tAsg te (gSlx (tVar i) ta tc))) (he : DE X e me) (h1 : DO X (some ka) mk) (h2 : DO X (some kc) mk2) : DS X st (mSlx i mk mk2 me) :=
  PS.imp (h _ _ _ he h1 h2) fun D σ H ⟨ρ, M, O, π, fl, ρ', h, e, q⟩ => by
    unfold mSlx at e
    split at e
    · cases e
    · rename_i b0 ys ρ1 hnb e1
      split at e
      · cases e
      · rename_i b1 ds1 hne2 e2
        split at e
        · rename_i a ρ2 e3
          split at e
          · rename_i c ρ3 e4
            split at e
            · cases e
            · rename_i b ds hne5 e5
              split at e
              · rename_i hz
                cases e
                rw [Bool.and_eq_true, Bool.and_eq_true, Bool.and_eq_true] at hz
                have z1 := of_decide_eq_true hz.1.1.1
                have z2 := of_decide_eq_true hz.1.1.2
                have z3 := of_decide_eq_true hz.1.2
                have z4 := fits_le hz.2
                obtain ⟨a, rfl⟩ := Int.eq_ofNat_of_zero_le z1
                obtain ⟨c, rfl⟩ := Int.eq_ofNat_of_zero_le (Int.le_trans z1 z2)
                rw [Int.toNat_natCast, Int.toNat_natCast] at q
                refine ⟨ρ, M, O, π, .val (.own b0 ys), ρ1, h, e1, fun v H1 M1 x1 s1 r1 => ?_⟩
                obtain ⟨l, vs, f1, f2, f3, f4, f5, f6⟩ := s1.ownL e2 (isL_of hne2)
                refine ⟨.ref l, f1, ρ1, M1, Vi.hold O (.val (.own b0 ys)) v, π, _, ρ2, s1.hold r1, e3, fun H2 M2 x2 s2 => ?_⟩
                refine ⟨ρ2, M2, Vi.hold O (.val (.own b0 ys)) v, π, _, ρ3, s2, e4, fun H3 M3 x3 s3 => ?_⟩
                have le := hold_le O (.val (.own b0 ys)) v
                obtain ⟨p, ws, k1, k2', k3, k4, k5, k6⟩ := r1.held (x2.trans x3) s3
                have k2 := k2'.trans (congrArg some (cell_lst (isL_of hnb)))
                subst k1
                have s3' := s3.less le
                obtain ⟨l', us, g1, g2, g3, g4, g5, g6⟩ := s3'.ownL e5 (isL_of hne5)
                rw [f1] at g1; cases g1
                have hne : l ≠ p := fun z => k6 i b ds e5 (by rw [f1, z])
                obtain ⟨s4, x4, t4⟩ := s3'.write (ws := us.take a ++ ws ++ us.drop c) (es := ds.take a ++ ys ++ ds.drop c) e5 (isL_of hne5) f1 (((g5.take _).append k5).append (g5.drop _))
                exact ⟨l, p, us, ws, a, c, rfl, rfl, rfl, rfl, g2, k2, hne, by omega, by rw [g5.length]; omega, by rw [g5.length, k5.length]; exact z4, q _ _ M3 ((x1.trans ((x2.trans x3).less le)).trans x4) s4⟩
              · cases e
            · cases e
          · cases e
        · cases e
      · cases e
    · cases e
end
end Vi

namespace Vi
open PySem PySem.Spec PyProof.Rows L2
section
variable {K : PySem.W.Frag} {H : Hp} {M O : Mset} {π : Nat → Option Addr} {ρ : Fm} {σ : St} {i : Nat} {b : Kd} {ds : List D} {a : Addr} {vl : List V}
theorem get_drop {ρ : Fm} {i j : Nat} {s : Sv} (e : (ρ.set i none)[j]? = some (some s)) : j ≠ i ∧ ρ[j]? = some (some s) := by
  rcases get_set e with ⟨_, z⟩ | z
  · cases z
  · exact z
/-- a name's own list is lent: nobody may look at the name -/
theorem SR.lend (h : SR K H M O π ρ σ) (e : ρ[i]? = some (some (.own b ds))) (ea : σ[i]? = some (some (.ref a))) (hM : M a) : SR K H M (wth O a) π (ρ.set i none) σ := by
  have h1 : SR K H M O π (ρ.set i none) σ := ⟨by rw [List.length_set]; exact h.len, h.sub, h.live, fun j d f => h.imm j d (get_drop f).2, fun j c es f => h.own j c es (get_drop f).2, fun j k c d es fs x hjk f g => h.uniq j k c d es fs x hjk (get_drop f).2 (get_drop g).2⟩
  refine h1.more (fun x q => q.elim (h.sub x) fun z => z ▸ hM) fun j c es x f g z => ?_
  obtain ⟨hj, f'⟩ := get_drop f
  rcases z with z | rfl
  · obtain ⟨y, _, k1, _, _, k2, _⟩ := h.own j c es f'
    rw [g] at k1; cases k1
    exact k2 z
  · exact h.uniq i j b c ds es x (Ne.symm hj) e f' ea g
/-- and given back -/
theorem SR.back (h : SR K H M (wth O a) π ρ σ) (hb : b.isL = true) (ea : σ[i]? = some (some (.ref a))) (hH : H a = some (.lst vl)) (hM : M a) (hO : ¬ O a) (hr : Reps K H M vl ds) (hp : b = .par → π i = some a) : SR K H M O π (ρ.set i (some (.own b ds))) σ := by
  refine ⟨by rw [List.length_set]; exact h.len, fun x q => h.sub x (.inl q), h.live, fun j d f => ?_, fun j c es f => ?_, fun j k c d es fs x hjk f g k1 => ?_⟩
  · rcases get_set f with ⟨_, z⟩ | ⟨_, f⟩
    · cases z
    · exact h.imm j d f
  · rcases get_set f with ⟨rfl, z⟩ | ⟨_, f⟩
    · cases z
      exact ⟨a, vl, ea, hH.trans (congrArg some (cell_lst hb).symm), hM, hO, hr, hp⟩
    · obtain ⟨y, ws, k1, k2, k3, k4, k5, k6⟩ := h.own j c es f
      exact ⟨y, ws, k1, k2, k3, fun z => k4 (.inl z), k5, k6⟩
  · rcases get_set f with ⟨hj, z⟩ | ⟨hj, f⟩
    · subst hj
      rcases get_set g with ⟨hk, _⟩ | ⟨hk, g⟩
      · exact fun _ => hjk hk.symm
      · intro k2
        rw [ea] at k1; cases k1
        obtain ⟨y, _, m1, _, _, m2, _⟩ := h.own k d fs g
        rw [k2] at m1; cases m1
        exact m2 (.inr rfl)
    · rename_i f0
      have f' : ρ[j]? = some (some (.own c es)) := (get_set f0).elim (fun z => absurd z.1 hj) fun z => z.2
      rcases get_set g with ⟨hk, z⟩ | ⟨hk, g⟩
      · subst hk
        intro k2
        rw [ea] at k2; cases k2
        obtain ⟨y, _, m1, _, _, m2, _⟩ := h.own j c es f'
        rw [k1] at m1; cases m1
        exact m2 (.inr rfl)
      · exact h.uniq j k c d es fs x hjk f' g k1
end
section
variable {mg : MG} {mt : MT} {me : ME} {vs ts : List Nat}
theorem creadB {K : PySem.W.Frag} (hts : ∀ i ∈ ts, i ∈ vs) {a : Addr} {vl : List V} {ds : List D} {Hs : Hp} {Ms O : Mset} {π : Nat → Option Addr} {σ : St} {Dd : Addr} {ρa ρ2 : Fm} {es ea : List D} {acc : List V} {Qd : Hp → Prop}
    (ha : O a) (hH : Hs a = some (.lst vl)) (hr : Reps K Hs Ms vl ds) (s : SR K Hs Ms (wth O Dd) π ρa (wipeA σ vs)) (hO : ¬ O Dd) (hA : Hs Dd = some (.lst acc)) (hR : Reps K Hs Ms acc ea) (hz : ea.length + es.length ≤ sizeLine)
    (e : cloop mg mt me vs ds ρa = some (es, ρ2)) (hq : ∀ H M acc', Ext O Hs Ms H M → SR K H M (wth O Dd) π ρ2 (wipeA σ vs) → H Dd = some (.lst acc') → Reps K H M acc' (ea ++ es) → Qd H) :
    ∃ W : Nat → Nat → Hp → Prop, (∃ m, W 0 m Hs) ∧ ∀ i m H, W i m H →
      ((Itl K a).stop i H ∧ Qd H) ∨ ((Itl K a).go i H ∧ ∃ Nx : Hp → Prop, (∀ H', Nx H' → ∃ m', m' < m ∧ W (i + 1) m' H') ∧ ∀ x H', (Itl K a).yld i H x H' → tG K mg ts x (wipe σ vs) H' fun σ2 H2 => wipe σ2 vs = wipe σ vs ∧ tT K mt σ2 H2 fun b H3 =>
        if b = true then tE K me σ2 H3 fun y H4 => ∃ acc, H4 Dd = some (.lst acc) ∧ acc.length < sizeLine ∧ Nx (upd H4 Dd (.lst (acc ++ [y]))) else Nx H3) := by
  have hMs : Ms Dd := s.sub Dd (.inr rfl)
  have less : ∀ a, O a → wth O Dd a := fun a q => .inl q
  refine ⟨fun i m H => m = ds.length - i ∧ i ≤ ds.length ∧ ∃ ρb M acc' eb es', SR K H M (wth O Dd) π ρb (wipeA σ vs) ∧ Ext O Hs Ms H M ∧ H Dd = some (.lst acc') ∧ Reps K H M acc' eb ∧ cloop mg mt me vs (ds.drop i) ρb = some (es', ρ2) ∧ ea ++ es = eb ++ es',
    ⟨_, rfl, Nat.zero_le _, ρa, Ms, acc, ea, es, s, .refl (s.less less), hA, hR, e, rfl⟩, ?_⟩
  rintro i m H ⟨rfl, hi, ρb, M, acc', eb, es', sb, xb, hAb, hRb, eb', eq⟩
  have hHa : H a = some (.lst vl) := xb.keep a _ hH (.inl ha)
  have hrb : Reps K H M vl ds := hr.tr xb.tr
  by_cases hlt : i < ds.length
  · rw [List.drop_eq_getElem_cons hlt] at eb'
    have hd : ds[i]? = some ds[i] := List.getElem?_eq_getElem hlt
    refine .inr ⟨walk_list.goes i H (by rw [hrb.length]; exact hlt) (.inl (.inl hHa)), fun H' => ds.length - (i + 1) = ds.length - (i + 1) ∧ i + 1 ≤ ds.length ∧ ∃ ρb M acc' eb es', SR K H' M (wth O Dd) π ρb (wipeA σ vs) ∧ Ext O Hs Ms H' M ∧ H' Dd = some (.lst acc') ∧ Reps K H' M acc' eb ∧ cloop mg mt me vs (ds.drop (i + 1)) ρb = some (es', ρ2) ∧ ea ++ es = eb ++ es', fun H' w => ⟨_, by omega, w⟩, fun x H3 y => ?_⟩
    obtain ⟨s3, x3, r3⟩ : SR K H3 M (wth O Dd) π ρb (wipeA σ vs) ∧ Ext (wth O Dd) H M H3 M ∧ Rep K H3 M x ds[i] := by
      obtain ⟨v, hv, rv⟩ := hrb.get hd
      obtain ⟨y1, y2⟩ := walk_list.yields i H x H3 (by rw [hrb.length]; exact hlt) (.inl (.inl hHa)) y
      rw [hv] at y2; cases y2
      subst y1
      exact ⟨sb, .refl sb, rv⟩
    unfold cloop at eb'
    split at eb'
    · rename_i ρ3 e3
      rw [wipe_eq]
      refine ⟨ρb, M, wth O Dd, π, _, ρ3, s3, r3, e3, fun σ4 s4 fr ln => ?_⟩
      have hw : wipeA σ4 vs = wipeA σ vs := wipeA_ext (fun j hj => by rw [fr j (fun z => hj (hts j z)), wipeA_out hj]) (by rw [ln, wipeA_len])
      refine ⟨by rw [wipe_eq]; exact hw, ?_⟩
      split at eb'
      · rename_i ρ4 e4
        refine ⟨ρ3, M, wth O Dd, π, true, ρ4, s4, e4, fun H5 M5 x5 s5 => iteT ?_⟩
        split at eb'
        · rename_i pr ρ5 e5
          split at eb'
          · rename_i ee ρ6 e6
            split at eb'
            · rename_i es2 ρ7 e7
              cases eb'
              refine ⟨ρ4, M5, wth O Dd, π, pr, ρ5, s5, e5, fun v H6 M6 x6 s6 r6 => ?_⟩
              obtain ⟨M7, x7, s7, r7⟩ := frz_ok s6 r6 e6
              have xx : Ext (wth O Dd) H M H6 M7 := ((x3.trans x5).trans x6).trans x7
              have hA6 : H6 Dd = some (.lst acc') := xx.keep Dd _ hAb (.inl (.inr rfl))
              have hM7 : M7 Dd := s7.sub Dd (.inr rfl)
              have hl : acc'.length < sizeLine := by
                rw [hRb.length]
                have := congrArg List.length eq
                rw [List.length_append, List.length_append, List.length_cons] at this
                omega
              refine ⟨acc', hA6, hl, rfl, hlt, wipeA ρ6 vs, M7, acc' ++ [v], eb ++ [ee], es2, ?_, (xb.trans (xx.less less)).updM hMs hO, upd_same, ((hRb.tr xx.tr).append (.cons r7 .nil)).tr (upd_lat hM7), e7, ?_⟩
              · rw [← hw]; exact (s7.writeO hM7 (.inr rfl)).wipe vs
              · rw [eq, List.append_assoc]; rfl
            · cases eb'
          · cases eb'
        · cases eb'
      · rename_i ρ4 e4
        refine ⟨ρ3, M, wth O Dd, π, false, ρ4, s4, e4, fun H5 M5 x5 s5 => iteF ?_⟩
        have xx : Ext (wth O Dd) H M H5 M5 := x3.trans x5
        refine ⟨rfl, hlt, wipeA ρ4 vs, M5, acc', eb, es', ?_, xb.trans (xx.less less), xx.keep Dd _ hAb (.inl (.inr rfl)), hRb.tr xx.tr, eb', eq⟩
        rw [← hw]; exact s5.wipe vs
      · cases eb'
    · cases eb'
  · have ei : i = ds.length := by omega
    subst ei
    rw [List.drop_length] at eb'
    cases eb'
    rw [List.append_nil] at eq
    exact .inl ⟨by rw [← hrb.length]; exact walk_list.stops H (.inl (.inl hHa)), hq H M acc' xb sb hAb (by rw [eq]; exact hRb)⟩
/-- a comprehension over a name's own list, which stays its own -/
def mCompB (i : Nat) (mg : MG) (mt : MT) (me : ME) (vs : List Nat) : ME := fun ρ => match ρ[i]? with
  | some (some (.own .dic _)) => none
  | some (some (.own b ds)) => if (!vs.contains i && vsOk (ρ.set i none) vs) = true then match cloop mg mt me vs ds (wipeA (ρ.set i none) vs) with
    | some (es, ρ2) => if fits es.length = true then some (.val (.own .loc es), (restA ρ2 (ρ.set i none) vs).set i (some (.own b ds))) else none
    | none => none
    else none
  | _ => none
theorem lcB_read {K : PySem.W.Frag} {i : Nat} (hts : ∀ i ∈ ts, i ∈ vs) {σ : St} {H : Hp} {Q : VK} (h : tE K (mCompB i mg mt me vs) σ H Q) : tLc (iSeq K (tVar i)) (tG K mg ts) (tT K mt) (tE K me) vs σ H Q := by
  obtain ⟨ρ, M, O, π, pr, ρ', h, e, q⟩ := h
  unfold mCompB at e
  split at e
  · cases e
  · rename_i b ds hne0 e0
    split at e
    · rename_i ok'
      rw [Bool.and_eq_true] at ok'
      have ok := ok'.2
      split at e
      · rename_i es ρ2 e2
        split at e
        · rename_i hz
          cases e
          obtain ⟨a, vl, f1, f2, f3, f4, f5, f6⟩ := h.ownL e0 (isL_of hne0)
          have s0 := h.lend e0 f1 f3
          refine ⟨.ref a, f1, a, rfl, .inl ⟨⟨vl, .inl (.inl f2)⟩, fun Dd hD => ?_⟩⟩
          have hne : a ≠ Dd := fun z => by rw [z, hD] at f2; cases f2
          have hO : ¬ wth O a Dd := fun z => z.elim (fun z => h.live Dd (h.sub Dd z) hD) fun z => hne z.symm
          refine creadB (ea := []) (vl := vl) hts (.inr rfl) (by rw [upd_ne hne]; exact f2) (f5.tr (alloc_tr_own h hD)) (comp_start s0 hD vs) hO upd_same .nil (by have := fits_le hz; simpa using this) e2 fun H2 M2 acc x2 s2 hA hR => ?_
          obtain ⟨y1, y2, y3⟩ := comp_end s0 hD ok x2 s2 hA hR
          have g1 : H2 a = some (.lst vl) := y1.keep a _ f2 (.inl (.inr rfl))
          have g2 : M2 a := y1.sub a (.inr rfl)
          obtain ⟨p, ws, k1, k2, k3, k4, k5, k6⟩ := y3
          refine q _ H2 M2 (y1.less fun x z => .inl z) (y2.back (isL_of hne0) f1 g1 g2 f4 (f5.tr y1.tr) f6) ⟨p, ws, k1, k2, k3, fun z => k4 (.inl z), k5, fun j c fs z1 z2 => ?_⟩
          rcases get_set z1 with ⟨rfl, _⟩ | ⟨_, z1⟩
          · rw [f1] at z2; cases z2
            exact k4 (.inr rfl)
          · exact k6 j c fs z1 z2
        · cases e
      · cases e
    · cases e
  · cases e
end
section
variable {X : Cx} {elt tg iter : Expr} {ifs : List Expr} {scope : Scope} {own : List (Str × Nat)} {pos : Pos} {mg : MG} {mt : MT} {me : ME} {ts : List Nat}
theorem de_lcB {j : Nat} (hc : X.calm = true) (hN : X.N.Nodup) (hi : PE X iter (tVar j)) (ok : BlkOk X.N X.env.scope scope own) (hg : Bk X scope fun Y => DG Y tg mg ts) (ht : Bk X scope fun Y => DTs Y ifs mt) (he : Bk X scope fun Y => DE Y elt me)
    (hts : ∀ i ∈ ts, i ∈ own.map (·.2)) (hs : ∀ x, foldedSetIterable iter X.env x = pure x := by intro _; rfl) : DE X (.ListComp elt [⟨tg, iter, ifs, 0⟩] scope pos) (mCompB j mg mt me (own.map (·.2))) :=
  PE.imp (pe_lc (wi := iSeq X.K (tVar j)) (g := tG X.K mg ts) (tt := tT X.K mt) (te := tE X.K me) hc hN (pi_seq hi) ok hg ht he hs) fun σ H Q h => lcB_read hts h
theorem ds_setLcB {i j : Nat} {y : Str} {py spos : Pos} (hc : X.calm = true) (hN : X.N.Nodup) (hy : X.N[i]? = some y) (hyl : X.env.scope.names.lookup y = some .local)
    (hsw : swapsWith (.ListComp elt [⟨tg, iter, ifs, 0⟩] scope pos) (some (.Name y py)) spos.line X.env = pure true) (hi : PE X iter (tVar j)) (ok : BlkOk X.N X.env.scope scope own) (hg : Bk X scope fun Y => DG Y tg mg ts) (ht : Bk X scope fun Y => DTs Y ifs mt) (he : Bk X scope fun Y => DE Y elt me)
    (hts : ∀ i ∈ ts, i ∈ own.map (·.2)) (hs : ∀ x, foldedSetIterable iter X.env x = pure x := by intro _; rfl) : DS X (.Assign [.Name y py] (.ListComp elt [⟨tg, iter, ifs, 0⟩] scope pos) spos) (mSet i (mCompB j mg mt me (own.map (·.2)))) :=
  PS.imp (ps_setLc (wi := iSeq X.K (tVar j)) (g := tG X.K mg ts) (tt := tT X.K mt) (te := tE X.K me) hc hN hy hyl hsw (pi_seq hi) ok hg ht he hs) fun D σ H ⟨ρ, M, O, π, fl, ρ', h, e, q⟩ => by
    unfold mSet at e
    split at e
    · rename_i pr ρ1 e1
      split at e
      · rename_i ρ2 e2
        cases e
        refine lcB_read (K := X.K) hts ⟨ρ, M, O, π, pr, ρ1, h, e1, fun v H1 M1 x1 s1 r1 => ?_⟩
        obtain ⟨M2, x2, s2⟩ := put_ok s1 r1 e2
        exact q _ H1 M2 (x1.trans x2) s2
      · cases e
    · cases e
end
end Vi

namespace Vi
open PySem PySem.Spec PyProof.Rows L2
section
variable {X : Cx}
/-! ### a tuple some times -/
def dMulT : D → D → Option Sv
  | .tuple ds, .int k => if (!ds.isEmpty && decide (2 ≤ k) && decide (k ≤ 1000) && decide (ds.length ≤ 1000)) = true then some (.imm (.tuple (List.replicate k.toNat ds).flatten)) else none
  | a, b => dMul a b
theorem op_mulT : OpR X (binaryOp .Mult) (fun x y H Q => rMul x y H Q ∨ rRepT X.K x y H Q) := op_mulA.or op_repT
theorem os_mulT : OpS X (fun x y H Q => rMul x y H Q ∨ rRepT X.K x y H Q) dMulT := by
  intro H M O π ρ σ v1 v2 d1 d2 res Q h r1 r2 e q
  unfold dMulT at e
  split at e
  · rename_i ds k
    split at e
    · rename_i hz
      cases e
      rw [Bool.and_eq_true, Bool.and_eq_true, Bool.and_eq_true] at hz
      obtain ⟨a, vs, rfl, rd, rs⟩ := r1.inT
      cases r2.inI
      refine .inr ⟨a, k, vs, rfl, rfl, rd.sq, fun z => ?_, of_decide_eq_true hz.1.1.2, of_decide_eq_true hz.1.2, by rw [rs.length]; exact of_decide_eq_true hz.2, fun p hp => Post.tup q h (rs.rep k.toNat) hp⟩
      have hl := rs.length
      rw [z] at hl
      have : ds = [] := List.length_eq_zero_iff.mp hl.symm
      rw [this] at hz
      exact absurd hz.1.1.1 (by decide)
    · cases e
  · exact .inl (os_mul h r1 r2 e q)
end
end Vi

namespace Vi
open PySem PySem.Spec PyProof.Rows L2
/-! sorted(set(x)) of pairs of small counts -/
def prOf : D → Option (Int × Int)
  | .tuple [.int a, .int b] => if decide (0 ≤ a ∧ a < 64 ∧ 0 ≤ b ∧ b < 64) = true then some (a, b) else none
  | _ => none
def prsOf : List D → Option (List (Int × Int))
  | [] => some []
  | d :: ds => match prOf d, prsOf ds with
    | some p, some ps => some (p :: ps)
    | _, _ => none
def cd (p : Int × Int) : Int := p.1 * 64 + p.2
def insP (x : Int × Int) : List (Int × Int) → List (Int × Int)
  | [] => [x]
  | y :: ys => if cd x < cd y then x :: y :: ys else if cd x = cd y then y :: ys else y :: insP x ys
def setP (ps : List (Int × Int)) : List (Int × Int) := ps.foldr insP []
def toP (p : Int × Int) : D := .tuple [.int p.1, .int p.2]
def dSortSet : D → Option Sv
  | .list ds => match prsOf ds with
    | some ps => if decide (ps.length < 64) = true then some (.own .loc ((setP ps).map toP)) else none
    | none => none
  | _ => none
/-! strictly ascending -/
def Asc (ps : List (Int × Int)) : Prop := ps.Pairwise fun p q => cd p < cd q
theorem ins_mem {x y : Int × Int} : ∀ {ps : List (Int × Int)}, y ∈ insP x ps → y = x ∨ y ∈ ps
  | [], h => .inl (List.mem_singleton.mp h)
  | z :: ps, h => by
    unfold insP at h
    split at h
    · exact (List.mem_cons.mp h)
    · split at h
      · exact .inr h
      · rcases List.mem_cons.mp h with h | h
        · exact .inr (by rw [h]; exact List.mem_cons_self ..)
        · rcases ins_mem h with h | h
          · exact .inl h
          · exact .inr (List.mem_cons_of_mem _ h)
theorem ins_asc {x : Int × Int} : ∀ {ps : List (Int × Int)}, Asc ps → Asc (insP x ps)
  | [], _ => List.pairwise_singleton ..
  | z :: ps, h => by
    have h1 := List.pairwise_cons.mp h
    unfold insP
    split
    · rename_i c
      exact List.pairwise_cons.mpr ⟨fun y hy => by
        rcases List.mem_cons.mp hy with rfl | hy
        · exact c
        · have := h1.1 y hy; omega, h⟩
    · split
      · exact h
      · exact List.pairwise_cons.mpr ⟨fun y hy => by
          rcases ins_mem hy with rfl | hy
          · omega
          · exact h1.1 y hy, ins_asc h1.2⟩
theorem set_asc : ∀ ps, Asc (setP ps)
  | [] => List.Pairwise.nil
  | x :: ps => ins_asc (set_asc ps)
theorem ins_has {x : Int × Int} : ∀ {ps : List (Int × Int)}, (∃ y ∈ insP x ps, cd y = cd x) ∧ ∀ y ∈ ps, y ∈ insP x ps
  | [] => ⟨⟨x, List.mem_singleton.mpr rfl, rfl⟩, fun _ h => by cases h⟩
  | z :: ps => by
    unfold insP
    split
    · exact ⟨⟨x, List.mem_cons_self .., rfl⟩, fun y hy => List.mem_cons_of_mem _ hy⟩
    · split
      · rename_i c
        exact ⟨⟨z, List.mem_cons_self .., c.symm⟩, fun y hy => hy⟩
      · obtain ⟨⟨y, h1, h2⟩, h3⟩ := ins_has (x := x) (ps := ps)
        refine ⟨⟨y, List.mem_cons_of_mem _ h1, h2⟩, fun w hw => ?_⟩
        rcases List.mem_cons.mp hw with rfl | hw
        · exact List.mem_cons_self ..
        · exact List.mem_cons_of_mem _ (h3 w hw)
theorem set_sub : ∀ {ps : List (Int × Int)} {y : Int × Int}, y ∈ setP ps → y ∈ ps
  | [], _, h => by cases h
  | x :: ps, y, h => by
    rcases ins_mem (show y ∈ insP x (setP ps) from h) with rfl | h
    · exact List.mem_cons_self ..
    · exact List.mem_cons_of_mem _ (set_sub h)
theorem set_all : ∀ {ps : List (Int × Int)} {y : Int × Int}, y ∈ ps → ∃ z ∈ setP ps, cd z = cd y
  | x :: ps, y, h => by
    rcases List.mem_cons.mp h with rfl | h
    · exact ins_has.1
    · obtain ⟨z, h1, h2⟩ := set_all h
      exact ⟨z, ins_has.2 z h1, h2⟩
/-- two that ascend and have the same codes are equal, where the code tells the pair -/
theorem asc_eq : ∀ {ps qs : List (Int × Int)}, Asc ps → Asc qs → (∀ p ∈ ps, p ∈ qs) → (∀ q ∈ qs, q ∈ ps) → ps = qs
  | [], [], _, _, _, _ => rfl
  | [], q :: qs, _, _, _, h => absurd (h q (List.mem_cons_self ..)) (List.not_mem_nil)
  | p :: ps, [], _, _, h, _ => absurd (h p (List.mem_cons_self ..)) (List.not_mem_nil)
  | p :: ps, q :: qs, h1, h2, h3, h4 => by
    have a1 := List.pairwise_cons.mp h1
    have a2 := List.pairwise_cons.mp h2
    have e : p = q := by
      rcases List.mem_cons.mp (h3 p (List.mem_cons_self ..)) with e | e
      · exact e
      · rcases List.mem_cons.mp (h4 q (List.mem_cons_self ..)) with f | f
        · exact f.symm
        · have := a2.1 p e; have := a1.1 q f; omega
    subst e
    rw [asc_eq a1.2 a2.2 (fun x hx => by
      rcases List.mem_cons.mp (h3 x (List.mem_cons_of_mem _ hx)) with rfl | e
      · have := a1.1 x hx; omega
      · exact e) fun x hx => by
      rcases List.mem_cons.mp (h4 x (List.mem_cons_of_mem _ hx)) with rfl | e
      · have := a2.1 x hx; omega
      · exact e]
def Bp (p : Int × Int) : Prop := (0 ≤ p.1 ∧ p.1 < 64) ∧ (0 ≤ p.2 ∧ p.2 < 64)
theorem cd_inj {p q : Int × Int} (hp : Bp p) (hq : Bp q) (h : cd p = cd q) : p = q := by
  obtain ⟨a, b⟩ := p
  obtain ⟨c, d⟩ := q
  obtain ⟨⟨h1, h2⟩, h3, h4⟩ := hp
  obtain ⟨⟨h5, h6⟩, h7, h8⟩ := hq
  simp only [cd] at *
  have : a = c := by omega
  have : b = d := by omega
  subst_vars
  rfl
theorem pr_of {d : D} {p : Int × Int} (h : prOf d = some p) : d = toP p ∧ Bp p := by
  unfold prOf at h
  split at h
  · split at h
    · rename_i a b c
      cases h
      have := of_decide_eq_true c
      exact ⟨rfl, ⟨this.1, this.2.1⟩, this.2.2.1, this.2.2.2⟩
    · cases h
  · cases h
theorem prs_of : ∀ {ds : List D} {ps : List (Int × Int)}, prsOf ds = some ps → ds = ps.map toP ∧ ∀ p ∈ ps, Bp p
  | [], ps, h => by cases h; exact ⟨rfl, fun _ h => by cases h⟩
  | d :: ds, ps, h => by
    unfold prsOf at h
    split at h
    · rename_i p qs h1 h2
      cases h
      obtain ⟨e1, b1⟩ := pr_of h1
      obtain ⟨e2, b2⟩ := prs_of h2
      refine ⟨by rw [List.map_cons, ← e1, ← e2], fun x hx => ?_⟩
      rcases List.mem_cons.mp hx with rfl | hx
      · exact b1
      · exact b2 x hx
    · cases h
def ls (p : Int × Int) : List Int := [p.1, p.2]
theorem ls_inj {p q : Int × Int} (h : ls p = ls q) : p = q := by
  obtain ⟨a, b⟩ := p
  obtain ⟨c, d⟩ := q
  simp only [ls, List.cons.injEq] at h
  rw [h.1, h.2.1]
theorem reps_prs {K : PySem.W.Frag} {H : Hp} {M : Mset} : ∀ {ps : List (Int × Int)} {vs : List V}, Reps K H M vs (ps.map toP) → ∃ ks : List (Addr × List Int), vs = ks.map (fun p => V.ref p.1) ∧ ks.map (·.2) = ps.map ls ∧ ∀ p ∈ ks, TupAt K H M p.1 (p.2.map V.int)
  | [], _, .nil => ⟨[], rfl, rfl, fun _ h => by cases h⟩
  | p :: ps, _, .cons h r => by
    obtain ⟨ks, h1, h2, h3⟩ := reps_prs r
    obtain ⟨a, b⟩ := p
    cases h with
    | @tup ad xs ds ht hr =>
      cases hr with
      | cons q1 hr =>
        cases hr with
        | cons q2 hr =>
          cases hr
          cases q1
          cases q2
          refine ⟨(ad, [a, b]) :: ks, by rw [h1]; rfl, by rw [List.map_cons, List.map_cons, h2]; rfl, fun p hp => ?_⟩
          rcases List.mem_cons.mp hp with rfl | hp
          · exact ht
          · exact h3 p hp
theorem reps_of {K : PySem.W.Frag} {H : Hp} {M : Mset} : ∀ {ks : List (Addr × List Int)} {ps : List (Int × Int)}, ks.map (·.2) = ps.map ls → (∀ p ∈ ks, TupAt K H M p.1 (p.2.map V.int)) → Reps K H M (ks.map fun p => V.ref p.1) (ps.map toP)
  | [], [], _, _ => .nil
  | [], p :: ps, h, _ => by simp at h
  | k :: ks, [], h, _ => by simp at h
  | k :: ks, p :: ps, h, hk => by
    rw [List.map_cons, List.map_cons] at h
    injection h with h1 h2
    have hk1 := hk k (List.mem_cons_self ..)
    rw [h1] at hk1
    exact .cons (.tup hk1 (.cons (.int _) (.cons (.int _) .nil))) (reps_of h2 fun q hq => hk q (List.mem_cons_of_mem _ hq))
section
variable {X : Cx}
def rSS (X : Cx) (v : V) (H : Hp) (Q : VK) : Prop := rSetOfT X.K X.prog X.w [v] H fun v2 H2 => rSortedT X.K X.prog X.w [v2] H2 Q
theorem us_sortset : UnS X (rSS X) dSortSet := by
  intro H M O π ρ σ v1 d1 res Q h r1 e q
  unfold dSortSet at e
  split at e
  · rename_i ds
    split at e
    · rename_i ps hps
      split at e
      · rename_i hl
        cases e
        have hl := of_decide_eq_true hl
        obtain ⟨hds, hb⟩ := prs_of hps
        subst hds
        obtain ⟨a, vs, rfl, rd, rs⟩ := r1.inL
        obtain ⟨ks, rfl, hk2, hk3⟩ := reps_prs rs
        have hkl : ks.length = ps.length := by
          have := congrArg List.length hk2
          rwa [List.length_map, List.length_map] at this
        refine ⟨a, ks, rfl, .inl rd, fun p hp => (hk3 p hp).sq, by omega, fun b L hbn hs1 hs2 => ?_⟩
        have tr := (Ext.alloc h (o := SetTO X.prog X.w b L) hbn).tr
        have h2 := h.alloc (o := SetTO X.prog X.w b L) hbn
        have tt : ∀ {x : Addr} {us : List V}, TupAt X.K H M x us → TupAt X.K (upd H b (SetTO X.prog X.w b L)) M x us := fun t => by
          rcases t with ⟨t, n⟩ | t
          · exact .inl (tr _ _ t n)
          · exact .inr t
        have hLs : ∀ p ∈ L, ∃ w ∈ ps, p.2 = ls w := fun p hp => by
          have hm : p.2 ∈ ks.map (·.2) := List.mem_map.mpr ⟨p, hs1 p hp, rfl⟩
          rw [hk2] at hm
          obtain ⟨w, hw, e⟩ := List.mem_map.mp hm
          exact ⟨w, hw, e.symm⟩
        refine ⟨b, L, 2, 64, rfl, upd_same, fun p hp => (tt (hk3 p (hs1 p hp))).sq, by decide, fun p hp => ?_, fun L' p pm nd hf pw hp => ?_⟩
        · obtain ⟨w, hw, e⟩ := hLs p hp
          rw [e]
          refine ⟨rfl, fun m hm => ?_⟩
          have := hb w hw
          simp only [ls, List.mem_cons, List.not_mem_nil, or_false] at hm
          rcases hm with rfl | rfl
          · exact this.1
          · exact this.2
        · obtain ⟨qs, hqs⟩ : ∃ qs : List (Int × Int), L'.map (·.2) = qs.map ls ∧ ∀ w ∈ qs, w ∈ ps := by
            have : ∀ L0 : List (Addr × List Int), (∀ p ∈ L0, p ∈ L) → ∃ qs : List (Int × Int), L0.map (·.2) = qs.map ls ∧ ∀ w ∈ qs, w ∈ ps := by
              intro L0
              induction L0 with
              | nil => intro _; exact ⟨[], rfl, fun _ h => by cases h⟩
              | cons k L0 ih =>
                intro hh
                obtain ⟨qs, e1, e2⟩ := ih fun p hp => hh p (List.mem_cons_of_mem _ hp)
                obtain ⟨w, hw, e⟩ := hLs k (hh k (List.mem_cons_self ..))
                refine ⟨w :: qs, by rw [List.map_cons, List.map_cons, e1, e], fun x hx => ?_⟩
                rcases List.mem_cons.mp hx with rfl | hx
                · exact hw
                · exact e2 x hx
            exact this L' fun p hp => pm.mem_iff.mp hp
          obtain ⟨hq1, hq2⟩ := hqs
          have hcode : ∀ w : Int × Int, TS.code 64 (ls w) = cd w := fun w => code_pair w.1 w.2
          have hasc : Asc qs := by
            have p1 : (qs.map ls).Pairwise fun x y => TS.code 64 x ≤ TS.code 64 y := by
              rw [← hq1, List.pairwise_map]
              exact pw
            have p2 : (qs.map ls).Pairwise (· ≠ ·) := by rw [← hq1]; exact nd
            rw [List.pairwise_map] at p1 p2
            refine (p1.and p2).imp_of_mem fun {x y} hx hy hxy => ?_
            have c := hxy.1
            rw [hcode, hcode] at c
            have : cd x ≠ cd y := fun z => hxy.2 (by rw [cd_inj (hb x (hq2 x hx)) (hb y (hq2 y hy)) z])
            omega
          have hsame : qs = setP ps := asc_eq hasc (set_asc ps) (fun x hx => by
              obtain ⟨z, z1, z2⟩ := set_all (hq2 x hx)
              rw [← cd_inj (hb z (set_sub z1)) (hb x (hq2 x hx)) z2]
              exact z1) fun x hx => by
              have h1 : ls x ∈ ks.map (·.2) := by rw [hk2]; exact List.mem_map.mpr ⟨x, set_sub hx, rfl⟩
              obtain ⟨k, hk, e⟩ := List.mem_map.mp h1
              have h2 : ls x ∈ L.map (·.2) := by rw [← e]; exact hs2 k hk
              have h3 : ls x ∈ L'.map (·.2) := ((pm.map (·.2)).mem_iff).mpr h2
              rw [hq1] at h3
              obtain ⟨w, hw, e⟩ := List.mem_map.mp h3
              rw [← ls_inj e]
              exact hw
          have rr : Reps X.K (upd H b (SetTO X.prog X.w b L)) M (L'.map fun p => V.ref p.1) (qs.map toP) := reps_of hq1 fun p hp => tt (hk3 p (hs1 p (pm.mem_iff.mp hp)))
          rw [hsame] at rr
          have q2 : Post X.K (upd H b (SetTO X.prog X.w b L)) M O π ρ σ (.own .loc ((setP ps).map toP)) Q := fun v H' M' x s r => q v H' M' ((Ext.alloc h (o := SetTO X.prog X.w b L) hbn).trans x) s r
          exact q2.lst h2 rr hp
      · cases e
    · cases e
  · cases e
variable {a : Expr} {ma : ME}
theorem de_sortset {x y : Str} {p1 p2 pos1 pos2 : Pos} {f : D → Option Sv} (hcS : CallR X (.type "set") (rSetOfT X.K X.prog X.w)) (hcT : CallR X (.builtin "sorted") (rSortedT X.K X.prog X.w)) (hs : UnS X (rSS X) f)
    (hg1 : Gl X x) (hm1 : X.mg x = none) (hv1 : bootBuiltins x = some (.builtin "sorted")) (hg2 : Gl X y) (hm2 : X.mg y = none) (hv2 : bootBuiltins y = some (.type "set")) (ha : DE X a ma)
    (hn1 : x ≠ "__name__" := by decide) (hd1 : (x == ("__debug__" : Str)) = false := by decide) (hn2 : y ≠ "__name__" := by decide) (hd2 : (y == ("__debug__" : Str)) = false := by decide)
    (he2 : starEach (a :: []) X.env = (false, eval a X.env) :: starEach [] X.env := by rfl) (hpl2 : (PySem.backTo pos2 (starEach [] X.env)).any (·.1) = false := by rfl)
    (he1 : starEach (.Call (.Name y p2) [a] [] pos2 :: []) X.env = (false, eval (.Call (.Name y p2) [a] [] pos2) X.env) :: starEach [] X.env := by rfl) (hpl1 : (PySem.backTo pos1 (starEach [] X.env)).any (·.1) = false := by rfl) :
    DE X (.Call (.Name x p1) [.Call (.Name y p2) [a] [] pos2] [] pos1) (un f ma) :=
  PE.imp (pe_callB hcT hg1 hm1 hv1 (pa_cons (pe_callTy hcS hg2 hm2 hv2 (pa_cons ha pa_nil he2) hn2 hd2 he2 hpl2) pa_nil he1) hn1 hd1 he1 hpl1) fun σ H Q h => tE_un hs h
end
end Vi

namespace Vi
open PySem PySem.Spec PyProof.Rows L2
section
variable {X : Cx}
/-- sorted(x) of data, or of a list of one item at most -/
def rSortW (K : PySem.W.Frag) : List V → Hp → VK → Prop := fun vs H Q => rSortD K vs H Q ∨ ∃ (a : Addr) (xs : List V), vs = [.ref a] ∧ SqL K H a xs ∧ xs.length ≤ 1 ∧ ∀ p, H p = none → Q (.ref p) (upd H p (.lst xs))
theorem perm_one {α : Type} {l m : List α} (h : l.Perm m) (hm : m.length ≤ 1) : l = m := by
  match m, hm with
  | [], _ => exact h.eq_nil
  | [x], _ => exact List.perm_singleton.mp h
theorem cr_sortW (hu : X.A.units + 70 < cLine) : CallR X (.builtin "sorted") (rSortW X.K) := by
  intro pins s σ H vs us Q I r h
  rcases h with h | ⟨a, xs, rfl, hs, hl, q⟩
  · exact cr_sortD hu pins s σ H vs us Q I r h
  · obtain ⟨its, rv, hls, hz⟩ := I.list hs
    rw [Vals.ref1 r]
    have hlen : its.length = xs.length := rv.length.symm
    refine Srt.sorted_any (vs := its) (by simpa using hls.isList) (by rw [hlen]; exact hz) (fun h2 => absurd h2 (by omega)) fun out ho => ?_
    have e : out = its := perm_one ho (by omega)
    subst e
    obtain ⟨ep, he'⟩ := PyProof.Rows.sortedAll_at s.heap out out.toArray
    have hfit : xs.length ≤ sizeLine := hz
    exact ⟨.ref _, upd H (s.heap.objs.size + 1) (.lst xs), I.laid (t' := s.toks) (fun _ _ => PyProof.Rows.sortedAll_old) (Nat.le_succ _) ⟨hfit, out, ep, rv, he'⟩, rfl, q _ (I.hok.fresh (Nat.le_succ _))⟩
def dSortW : D → Option Sv
  | .list ds => if sortOk ds = true then some (.own .loc (sortD ds)) else if decide (ds.length ≤ 1) = true then some (.own .loc ds) else none
  | d => dSort d
theorem us_sortW : UnS X (fun v H Q => rSortW X.K [v] H Q) dSortW := by
  intro H M O π ρ σ v1 d1 res Q h r1 e q
  unfold dSortW at e
  split at e
  · rename_i ds
    split at e
    · rename_i hz
      exact .inl (us_sort h r1 (show (if sortOk ds = true then some (Sv.own .loc (sortD ds)) else none) = some res by rw [if_pos hz]; exact e) q)
    · split at e
      · rename_i hl
        cases e
        have hl := of_decide_eq_true hl
        obtain ⟨a, vs, rfl, rd, rs⟩ := r1.inL
        have q2 : Post X.K H M O π ρ σ (.own .loc ds) Q := q
        exact .inr ⟨a, vs, rfl, .inl rd, by rw [rs.length]; exact hl, fun p hp => q2.lst h rs hp⟩
      · cases e
  · exact .inl (us_sort h r1 e q)
end
end Vi

namespace Vi
open PySem PySem.Spec PyProof.Rows L2
/-! ### a tuple any number of times -/
theorem rep_same (at0 : Addr) (vs : Array Value) (en : Nat) (td : Option Addr) (ts : Array (Option Value)) (k : Int) (tk0 : Tok)
    (big : (decide (k < -(2 ^ 63)) || decide (k ≥ 2 ^ 63)) = false) (one : (vs.isEmpty || k == 1) = true) :
    Meets (Builtin.«tuple.__mul__» ⟨[.ref at0, .int k tk0], []⟩) (fun _ R s => s.heap.get? at0 = some { cls := .type "tuple", dict := td, data := .seq vs en, slots := ts } ∧ R (.ok (.ret (Value.ref at0))) s) :=
  .of_wp fun prog w A R s ⟨hat, k1⟩ => by
    obtain ⟨s1, s2, s3, s4, s5⟩ := s
    have ix := AutoSeq1.idx_int
    wp_walk using wpAny_loadPart' hat
    repeat (first
      | (refine wpAny_ite_false (decide_eq_false (by rw [big]; decide)) ?_; wp_walk using wpAny_loadPart' hat)
      | (refine wpAny_ite_true (decide_eq_true one) ?_; wp_walk using wpAny_loadPart' hat))
    all_goals (first | exact ⟨_, rfl, k1⟩ | exact k1 | skip)
theorem rep_none (at0 : Addr) (vs : Array Value) (en : Nat) (td : Option Addr) (ts : Array (Option Value)) (k : Int) (tk0 : Tok)
    (big : (decide (k < -(2 ^ 63)) || decide (k ≥ 2 ^ 63)) = false) (one : (vs.isEmpty || k == 1) = false) (low : (decide (k ≤ 0) || vs.isEmpty) = true) :
    Meets (Builtin.«tuple.__mul__» ⟨[.ref at0, .int k tk0], []⟩) (fun _ R s => s.heap.get? at0 = some { cls := .type "tuple", dict := td, data := .seq vs en, slots := ts } ∧
      R (.ok (.ret (Value.ref s.heap.objs.size))) { s with heap := s.heap.push { cls := Value.type "tuple", data := Data.seq #[] }, toks := s.toks }) :=
  .of_wp fun prog w A R s ⟨hat, k1⟩ => by
    obtain ⟨s1, s2, s3, s4, s5⟩ := s
    have ix := AutoSeq1.idx_int
    wp_walk using wpAny_loadPart' hat
    repeat (first
      | (refine wpAny_ite_false (decide_eq_false (by rw [big]; decide)) ?_; wp_walk using wpAny_loadPart' hat)
      | (refine wpAny_ite_false (decide_eq_false (by rw [one]; decide)) ?_; wp_walk using wpAny_loadPart' hat)
      | (refine wpAny_ite_true (decide_eq_true low) ?_; wp_walk using wpAny_loadPart' hat))
    all_goals (first | exact ⟨_, rfl, k1⟩ | exact k1 | skip)
/-- tuple * k, no new tuple or the empty one -/
def rRepS (K : PySem.W.Frag) : R2 := fun x y H Q => ∃ l k xs, x = .ref l ∧ y = .int k ∧ SqT K H l xs ∧ -1000000 ≤ k ∧ k ≤ 1000000 ∧ (xs = [] ∨ k = 1) ∧ Q (.ref l) H
def rRep0 (K : PySem.W.Frag) : R2 := fun x y H Q => ∃ l k xs, x = .ref l ∧ y = .int k ∧ SqT K H l xs ∧ -1000000 ≤ k ∧ k ≤ 0 ∧ xs ≠ [] ∧ ∀ p, H p = none → Q (.ref p) (upd H p (.tup []))
section
variable {X : Cx}
theorem op_repS : OpR X (binaryOp .Mult) (rRepS X.K) := by
  intro pins s σ H x y v u Q I rx ry h
  obtain ⟨l, k, xs, rfl, rfl, hT, h1, h2, hor, q⟩ := h
  cases rx
  obtain ⟨t, rfl⟩ := ry
  obtain ⟨its, r, ⟨⟨cls, dd, data, sl⟩, ho, hc, n, hd⟩, hs⟩ := I.tuple hT
  simp only at hc hd
  subst hc hd
  have big : (decide (k < -(2 ^ 63)) || decide (k ≥ 2 ^ 63)) = false := by
    rw [Bool.or_eq_false_iff]; exact ⟨decide_eq_false (by omega), decide_eq_false (by omega)⟩
  have one : (its.toArray.isEmpty || k == 1) = true := by
    rcases hor with h | h
    · have : its = [] := List.eq_nil_of_length_eq_zero (by rw [← r.length, h]; rfl)
      rw [this]; rfl
    · rw [h]; simp
  refine wpAny_binaryOp_repeat_ref (T := "tuple") (U := "int") (by decide) ⟨_, ho, rfl⟩ (fun s' => typeIs_int s' k t) noFill_tuple_mul F.fills_int_mul F.slot_int_rmul repeat_tuple F.slot_int_index.lookup ?_
  refine call_meets F.slot_int_rmul (typeIs_int s k t) F.entry_int_rmul (F.args_int_rmul_2 _ _) (int_rmul_tuple k t l its.toArray n dd sl) ⟨ho, rfl, ⟨_, ho, rfl⟩, ?_⟩
  exact call_meets F.slot_tuple_mul ⟨_, ho, rfl⟩ F.entry_tuple_mul (F.args_tuple_mul_2 _ _) (rep_same l its.toArray n dd sl k t big one) ⟨ho, ⟨.ref l, H, I, rfl, q⟩⟩
theorem op_rep0 : OpR X (binaryOp .Mult) (rRep0 X.K) := by
  intro pins s σ H x y v u Q I rx ry h
  obtain ⟨l, k, xs, rfl, rfl, hT, h1, h2, hne, q⟩ := h
  cases rx
  obtain ⟨t, rfl⟩ := ry
  obtain ⟨its, r, ⟨⟨cls, dd, data, sl⟩, ho, hc, n, hd⟩, hs⟩ := I.tuple hT
  simp only at hc hd
  subst hc hd
  have big : (decide (k < -(2 ^ 63)) || decide (k ≥ 2 ^ 63)) = false := by
    rw [Bool.or_eq_false_iff]; exact ⟨decide_eq_false (by omega), decide_eq_false (by omega)⟩
  have one : (its.toArray.isEmpty || k == 1) = false := by
    have hk : (k == 1) = false := beq_eq_false_iff_ne.mpr (by omega)
    cases its with
    | nil => exact absurd (List.eq_nil_of_length_eq_zero (by rw [r.length]; rfl)) hne
    | cons a b => rw [hk]; rfl
  have low : (decide (k ≤ 0) || its.toArray.isEmpty) = true := by rw [decide_eq_true h2]; rfl
  refine wpAny_binaryOp_repeat_ref (T := "tuple") (U := "int") (by decide) ⟨_, ho, rfl⟩ (fun s' => typeIs_int s' k t) noFill_tuple_mul F.fills_int_mul F.slot_int_rmul repeat_tuple F.slot_int_index.lookup ?_
  refine call_meets F.slot_int_rmul (typeIs_int s k t) F.entry_int_rmul (F.args_int_rmul_2 _ _) (int_rmul_tuple k t l its.toArray n dd sl) ⟨ho, rfl, ⟨_, ho, rfl⟩, ?_⟩
  refine call_meets F.slot_tuple_mul ⟨_, ho, rfl⟩ F.entry_tuple_mul (F.args_tuple_mul_2 _ _) (rep_none l its.toArray n dd sl k t big one low) ⟨ho, ?_⟩
  exact ⟨.ref s.heap.objs.size, _, I.laid (t' := s.toks) (o := .tup []) (fun b ob q => Heap.get?_push_of_some _ q) (Nat.le_refl _) ⟨Nat.zero_le _, [], .nil, IsTup.new _ _⟩, rfl, q _ (I.hok.fresh (Nat.le_refl _))⟩
def dMulN : D → D → Option Sv
  | .tuple ds, .int k => if decide (-1000000 ≤ k ∧ k ≤ 1000000) = true then (if (ds.isEmpty || k == 1) = true then some (.imm (.tuple ds)) else if decide (k ≤ 0) = true then some (.imm (.tuple [])) else dMulT (.tuple ds) (.int k)) else none
  | a, b => dMul a b
abbrev rMulN (K : PySem.W.Frag) : R2 := fun x y H Q => (rMul x y H Q ∨ rRepT K x y H Q) ∨ rRepS K x y H Q ∨ rRep0 K x y H Q
theorem op_mulN : OpR X (binaryOp .Mult) (rMulN X.K) := op_mulT.or (op_repS.or op_rep0)
theorem os_mulN : OpS X (rMulN X.K) dMulN := by
  intro H M O π ρ σ v1 v2 d1 d2 res Q h r1 r2 e q
  unfold dMulN at e
  split at e
  · rename_i ds k
    split at e
    · rename_i hz
      have hz := of_decide_eq_true hz
      obtain ⟨a, vs, hv, rd, rs⟩ := r1.inT
      split at e
      · rename_i h1
        cases e
        have hr : Rep X.K H M v1 (.tuple ds) := r1
        cases r2.inI
        subst hv
        refine .inr (.inl ⟨a, k, vs, rfl, rfl, rd.sq, hz.1, hz.2, ?_, ?_⟩)
        · rw [Bool.or_eq_true] at h1
          rcases h1 with h1 | h1
          · exact .inl (List.eq_nil_of_length_eq_zero (by rw [rs.length, List.isEmpty_iff.mp h1]; rfl))
          · exact .inr (beq_iff_eq.mp h1)
        · exact Post.now q h hr
      · rename_i h1
        split at e
        · rename_i h2
          cases e
          cases r2.inI
          subst hv
          refine .inr (.inr ⟨a, k, vs, rfl, rfl, rd.sq, hz.1, of_decide_eq_true h2, fun z => h1 ?_, fun p hp => Post.tup q h .nil hp⟩)
          have hl := rs.length
          rw [z] at hl
          rw [List.length_eq_zero_iff.mp hl.symm]; rfl
        · exact .inl (os_mulT h r1 r2 e q)
    · cases e
  · exact .inl (.inl (os_mul h r1 r2 e q))
end
end Vi

namespace Vi
open PySem PySem.Spec PyProof.Rows L2
section
variable {X : Cx}
/-! ### max(a list of data) -/
def rMaxDL (K : PySem.W.Frag) : List V → Hp → VK → Prop := fun vs H Q => ∃ (a : Addr) (xs : List V) (d : D) (ds : List D), vs = [.ref a] ∧ SqL K H a xs ∧ DpAll K H xs (d :: ds) ∧ minOk (d :: ds) = true ∧ ∀ (i : Nat) (x : V), xs[i]? = some x → (d :: ds)[i]? = some (W.maxD d ds) → Q x H
theorem cr_maxDL (hc : X.calm = true) (hu : X.A.units + 70 < cLine) : CallR X (.builtin "max") (rMaxDL X.K) := by
  intro pins s σ H vs us Q I r h
  obtain ⟨a, xs, d, ds, rfl, hsq, hdp, hok, q⟩ := h
  rw [Vals.ref1 r]
  obtain ⟨its, rv, pl, hz⟩ := I.list hsq
  obtain ⟨as, hr⟩ := Dp.readsAll I (d :: ds) xs its hdp rv
  have hdep := minOk_dep hok
  refine W.max_list_data (I.ok.hd hc) pl.isList (show ReadsAll s.heap its.toArray.toList (d :: ds) as by simpa using hr) (minOk_al hok) (by omega) fun i v h' tk bs hv rd kp => ?_
  have hv' : its[i]? = some v := by simpa using hv
  obtain ⟨e, bs2, he, re⟩ := readsAll_i hr hv'
  have e1 := (Reads.unique (Reads.keeps kp re) _ _ rd).1
  subst e1
  have hl := rv.length
  have hi : i < xs.length := by
    have := (List.getElem?_eq_some_iff.mp hv').1
    omega
  obtain ⟨w, ew, rw'⟩ := rv.get (List.getElem?_eq_getElem hi)
  rw [hv'] at ew; cases ew
  exact ⟨_, H, I.kept (t' := tk) kp, rw', q i _ (List.getElem?_eq_getElem hi) he⟩
def dMaxL : D → Option Sv
  | .list (d :: ds) => if minOk (d :: ds) = true then some (.imm (W.maxD d ds)) else none
  | _ => none
theorem us_maxL : UnS X (fun v H Q => rMaxDL X.K [v] H Q) dMaxL := by
  intro H M O π ρ σ v1 d1 res Q h r1 e q
  unfold dMaxL at e
  split at e
  · split at e
    · rename_i hz
      cases e
      obtain ⟨a, vs, rfl, rd, rs⟩ := r1.inL
      refine ⟨a, vs, _, _, rfl, .inl rd, rs.dp (minOk_lay hz), hz, fun i x hx hd => ?_⟩
      obtain ⟨y, hy, ry⟩ := rs.get hd
      rw [hx] at hy; cases hy
      exact Post.now q h ry
    · cases e
  · cases e
end
end Vi

namespace Vi
open PySem PySem.Spec PyProof.Rows L2
/-! a name's own list, looked at and given back -/
def atomD : D → Bool
  | .none | .bool _ | .int _ | .str _ => true
  | _ => false
section
variable {K : PySem.W.Frag} {H H' : Hp} {M M' O : Mset} {π : Nat → Option Addr} {ρ ρ' : Fm} {σ : St} {v : V} {d : D}
theorem atom_rep (h : Rep K H M v d) (a : atomD d = true) : Rep K H' M' v d := by
  cases h with
  | non => exact .non
  | bl b => exact .bl b
  | int i => exact .int i
  | str x => exact .str x
  | lst _ _ _ => cases a
  | tup _ _ => cases a
  | scr _ _ _ => cases a
  | exc _ _ _ _ => cases a
theorem atom_reps : ∀ {vs : List V} {ds : List D}, Reps K H M vs ds → ds.all atomD = true → Reps K H' M' vs ds
  | _, _, .nil, _ => .nil
  | _, _, .cons h r, a => by
    rw [List.all_cons, Bool.and_eq_true] at a
    exact .cons (atom_rep h a.1) (atom_reps r a.2)
def keep1 : Option Sv → Option Sv → Option Sv
  | some (.imm d), _ => some (.imm d)
  | some (.own _ _), some (.own b ds) => if ds.all atomD = true then some (.own b ds) else none
  | _, _ => none
def keepF (i : Nat) (ds : List D) (ρ ρ' : Fm) : Fm := (List.zipWith keep1 ρ ρ').set i (some (.own .loc ds))
theorem keepF_at {i j : Nat} {ds : List D} {s : Sv} (h : (keepF i ds ρ ρ')[j]? = some (some s)) : (j = i ∧ s = .own .loc ds) ∨ (j ≠ i ∧ ∃ x y, ρ[j]? = some x ∧ ρ'[j]? = some y ∧ keep1 x y = some s) := by
  unfold keepF at h
  rcases get_set h with ⟨h1, h2⟩ | ⟨h1, h2⟩
  · cases h2; exact .inl ⟨h1, rfl⟩
  · rw [List.getElem?_zipWith] at h2
    refine .inr ⟨h1, ?_⟩
    cases ex : ρ[j]? with
    | none => rw [ex] at h2; cases h2
    | some x =>
      cases ey : ρ'[j]? with
      | none => rw [ex, ey] at h2; cases h2
      | some y =>
        rw [ex, ey] at h2
        exact ⟨x, y, rfl, rfl, by injection h2⟩
theorem keep1_imm {x y : Option Sv} {d : D} (h : keep1 x y = some (.imm d)) : x = some (.imm d) := by
  match x, y, h with
  | some (.imm e), _, h => unfold keep1 at h; exact h
  | some (.own _ _), some (.own b ds), h => unfold keep1 at h; simp only at h; split at h <;> cases h
  | some (.own _ _), some (.imm _), h => unfold keep1 at h; cases h
  | some (.own _ _), none, h => unfold keep1 at h; cases h
  | none, _, h => unfold keep1 at h; cases h
theorem keep1_own {x y : Option Sv} {b : Kd} {ds : List D} (h : keep1 x y = some (.own b ds)) : y = some (.own b ds) ∧ ds.all atomD = true := by
  match x, y, h with
  | some (.imm e), _, h => unfold keep1 at h; cases h
  | some (.own _ _), some (.own c es), h =>
    unfold keep1 at h
    simp only at h
    split at h
    · cases h; exact ⟨rfl, by assumption⟩
    · cases h
  | some (.own _ _), some (.imm _), h => unfold keep1 at h; cases h
  | some (.own _ _), none, h => unfold keep1 at h; cases h
  | none, _, h => unfold keep1 at h; cases h
def mKeep (i : Nat) (me : ME) : ME := fun ρ => match ρ[i]? with
  | some (some (.own .loc ds)) => match me (ρ.set i (some (.imm (.list ds)))) with
    | some (.val (.imm d), ρ') => if (atomD d && decide (ρ'.length = ρ.length)) = true then some (.val (.imm d), keepF i ds ρ ρ') else none
    | _ => none
  | _ => none
theorem tE_keep {i : Nat} {me : ME} {Q : VK} (h : tE K (mKeep i me) σ H Q) : tE K me σ H Q := by
  obtain ⟨ρ, M, O, π, pr, ρ2, hs, e, q⟩ := h
  unfold mKeep at e
  split at e
  · rename_i ds hi
    obtain ⟨a, vl, f1, f2, f3, f4, f5, _⟩ := hs.own i _ ds hi
    have hz := hs.freeze hi f1 f2 f5 f4
    split at e
    · rename_i d ρ' em
      split at e
      · rename_i hc
        rw [Bool.and_eq_true, decide_eq_true_eq] at hc
        cases e
        refine ⟨_, wo M a, O, π, _, ρ', hz, em, fun v H' M' x s r => ?_⟩
        have t : ∀ y u, Rd H y u → ¬ M y → Rd H' y u ∧ ¬ wth M' a y := fun y u h1 h2 => by
          obtain ⟨h3, h4⟩ := x.tr y u h1 fun z => h2 z.1
          exact ⟨h3, fun z => z.elim h4 fun z => h2 (z ▸ f3)⟩
        have ha : H' a = some (.lst vl) := x.keep a _ f2 (.inr fun z => z.2 rfl)
        have hn : ¬ M' a := (x.tr a _ (.inl f2) fun z => z.2 rfl).2
        refine q v H' (wth M' a) ⟨fun y o h1 h2 => x.keep y o h1 (h2.imp id fun h3 z => h3 z.1), fun y h1 => .inl (x.sub y h1), fun y h1 => ?_⟩ ?_ (atom_rep r hc.1)
        · rcases h1 with h1 | rfl
          · exact (x.new y h1).imp (fun z => z.1) id
          · exact .inl f3
        · have hl : (keepF i ds ρ ρ').length = ρ.length := by
            unfold keepF
            rw [List.length_set, List.length_zipWith, hc.2, Nat.min_self]
          refine ⟨hl.trans hs.len, fun y h1 => .inl (s.sub y h1), fun y h1 => ?_, fun j d' h1 => ?_, fun j b es h1 => ?_, fun j k b c es gs y hjk h1 h2 h3 h4 => ?_⟩
          · rcases h1 with h1 | rfl
            · exact s.live y h1
            · rw [ha]; intro z; cases z
          · rcases keepF_at h1 with ⟨_, z⟩ | ⟨_, u, w, k1, _, k3⟩
            · cases z
            · obtain ⟨v', g1, g2⟩ := hs.imm j d' (by rw [k1, keep1_imm k3])
              exact ⟨v', g1, g2.tr t⟩
          · rcases keepF_at h1 with ⟨rfl, z⟩ | ⟨_, u, w, _, k2, k3⟩
            · cases z
              exact ⟨a, vl, f1, ha, .inr rfl, f4, f5.tr t, fun z => by cases z⟩
            · obtain ⟨k4, k5⟩ := keep1_own k3
              obtain ⟨y, ws, g1, g2, g3, g4, g5, g6⟩ := s.own j b es (by rw [k2, k4])
              exact ⟨y, ws, g1, g2, .inl g3, g4, atom_reps g5 k5, g6⟩
          · rcases keepF_at h1 with ⟨rfl, _⟩ | ⟨n1, u, w, _, k2, k3⟩
            · rcases keepF_at h2 with ⟨rfl, _⟩ | ⟨_, u', w', _, k2', k3'⟩
              · exact hjk rfl
              · obtain ⟨y', ws, g1, g2, g3, _⟩ := s.own k c gs (by rw [k2', (keep1_own k3').1])
                rw [h4] at g1; cases g1
                rw [f1] at h3; cases h3
                exact hn g3
            · obtain ⟨y', ws, g1, g2, g3, _⟩ := s.own j b es (by rw [k2, (keep1_own k3).1])
              rcases keepF_at h2 with ⟨rfl, _⟩ | ⟨_, u', w', _, k2', k3'⟩
              · rw [h3] at g1; cases g1
                rw [f1] at h4; cases h4
                exact hn g3
              · exact s.uniq j k b c es gs y hjk (by rw [k2, (keep1_own k3).1]) (by rw [k2', (keep1_own k3').1]) h3 h4
      · cases e
    · cases e
  · cases e
def mFz (i : Nat) (me : ME) : ME := fun ρ => match frz ρ (.slot i) with
  | some (_, ρ1) => me ρ1
  | none => none
theorem tE_fz {i : Nat} {me : ME} {Q : VK} (h : tE K (mFz i me) σ H Q) : tE K me σ H Q := by
  obtain ⟨ρ, M, O, π, pr, ρ2, hs, e, q⟩ := h
  unfold mFz at e
  split at e
  · rename_i d ρ1 hf
    have : ∃ v, σ[i]? = some (some v) := by
      unfold frz at hf
      simp only at hf
      split at hf
      · rename_i d' hd; exact hs.at hd
      · rename_i ds hd; exact hs.at hd
      · cases hf
    obtain ⟨v, hv⟩ := this
    obtain ⟨M', x, s, _⟩ := frz_ok hs (pr := .slot i) (v := v) hv hf
    exact ⟨ρ1, M', O, π, pr, ρ2, s, e, fun v2 H2 M2 x2 s2 r2 => q v2 H2 M2 (x.trans x2) s2 r2⟩
  · cases e
end
theorem de_keep {X : Cx} {e : Expr} {i : Nat} {me : ME} (h : DE X e me) : DE X e (mKeep i me) := PE.imp h fun _ _ _ q => tE_keep q
theorem de_fz {X : Cx} {e : Expr} {i : Nat} {me : ME} (h : DE X e me) : DE X e (mFz i me) := PE.imp h fun _ _ _ q => tE_fz q
end Vi

namespace Vi
open PySem PySem.Spec PyProof.Rows L2
/-! << and two comparisons in a row -/
def dShl : D → D → Option Sv
  | .int i, .int j => if powOk i j = true then some (.imm (.int (i * 2 ^ j.toNat))) else none
  | _, _ => none
theorem os_shl {X : Cx} : OpS X (rI CPow fun i j => .int (i * 2 ^ j.toNat)) dShl := by
  intro H M O π ρ σ v1 v2 d1 d2 res Q h r1 r2 e q
  unfold dShl at e
  split at e
  · split at e
    · rename_i hz
      cases e
      cases r1.inI; cases r2.inI
      unfold powOk at hz
      have hz' := of_decide_eq_true hz
      exact ⟨_, _, rfl, rfl, hz', Post.now q h (.int _)⟩
    · cases e
  · cases e
def mChain (f g : D → D → Option Sv) (ma mb mc : ME) : ME := fun ρ => match ma ρ with
  | some (.val (.imm a), ρ1) => match mb ρ1 with
    | some (.val (.imm b), ρ2) => match f a b with
      | some (.imm (.bool true)) => match mc ρ2 with
        | some (.val (.imm c), ρ3) => match g b c with
          | some r => some (.val r, ρ3)
          | none => none
        | _ => none
      | some (.imm (.bool false)) => some (.val (.imm (.bool false)), ρ2)
      | _ => none
    | _ => none
  | _ => none
theorem tE_chain {X : Cx} {f g : D → D → Option Sv} {r r' : R2} (hf : OpS X r f) (hg : OpS X r' g) {ma mb mc : ME} {σ : St} {H : Hp} {Q : VK} (h : tE X.K (mChain f g ma mb mc) σ H Q) : tChain r r' (tE X.K ma) (tE X.K mb) (tE X.K mc) σ H Q := by
  obtain ⟨ρ, M, O, π, pr, ρ', h0, e, q⟩ := h
  unfold mChain at e
  split at e
  · rename_i a ρ1 ea
    split at e
    · rename_i b ρ2 eb
      refine ⟨ρ, M, O, π, _, ρ1, h0, ea, fun v1 H1 M1 x1 s1 r1 => ?_⟩
      refine ⟨ρ1, M1, O, π, _, ρ2, s1, eb, fun v2 H2 M2 x2 s2 r2 => ?_⟩
      have r1' : Rep X.K H2 M2 v1 a := Rep.tr x2.tr r1
      split at e
      · rename_i ef
        refine hf s2 (.of r1') (.of r2) ef fun z H3 M3 x3 s3 r3 => ?_
        have r3' : Rep X.K H3 M3 z (.bool true) := r3
        cases r3'
        refine ⟨true, rfl, ?_⟩
        split at e
        · rename_i c ρ3 ec
          split at e
          · rename_i res eg
            cases e
            rw [if_pos rfl]
            refine ⟨ρ2, M3, O, π, _, _, s3, ec, fun v4 H4 M4 x4 s4 r4 => ?_⟩
            have r2' : Rep X.K H4 M4 v2 b := Rep.tr x4.tr (Rep.tr x3.tr r2)
            exact hg s4 (.of r2') (.of r4) eg fun v5 H5 M5 x5 s5 r5 => q v5 H5 M5 ((((x1.trans x2).trans x3).trans x4).trans x5) s5 r5
          · cases e
        · cases e
      · rename_i ef
        cases e
        refine hf s2 (.of r1') (.of r2) ef fun z H3 M3 x3 s3 r3 => ?_
        have r3' : Rep X.K H3 M3 z (.bool false) := r3
        cases r3'
        refine ⟨false, rfl, ?_⟩
        rw [if_neg (by decide)]
        exact q _ H3 M3 ((x1.trans x2).trans x3) s3 (.bl false)
      · cases e
    · cases e
  · cases e
theorem de_chain {X : Cx} {a b c : Expr} {ma mb mc : ME} {pos : Pos} {op op' : CmpOp} {r r' : R2} {f g : D → D → Option Sv} (ho : OpR X (compareOp op) r) (hs : OpS X r f) (ho' : OpR X (compareOp op') r') (hs' : OpS X r' g) (ha : DE X a ma) (hb : DE X b mb) (hc : DE X c mc)
    (hm : lastMarks [op, op'] [b, c] = false := by with_unfolding_all rfl) : DE X (.Compare a [op, op'] [b, c] pos) (mChain f g ma mb mc) :=
  PE.imp (pe_chain ho ho' ha hb hc hm) fun _ _ _ q => tE_chain hs hs' q
end Vi

namespace L2
open PySem PySem.Spec PyProof.Rows
section
variable {P : Program} {w : World} {A : Around} {E : Value → Shared → Prop} {s : Shared}
abbrev bare (w : World) : Obj := { cls := .type "set", dict := none, data := .set #[] 0 (.fresh 0 0 (!w.params.followText "set-order")) }
/-- what __init__ of a new set leaves, handed a list -/
def Filled (w : World) (s : Shared) (ns : List Int) (r : Value) (s2 : Shared) : Prop :=
  r = .none ∧ ∃ h' tk c, s2 = { s with heap := h', toks := tk } ∧ SetR w h' s.heap.objs.size (fun j => decide (j ∈ ns)) c ∧ c ≤ ns.length ∧ ∀ b o, s.heap.get? b = some o → h'.get? b = some o
theorem filled_list {l : Addr} {items : Array Value} {ns : List Int} (hA : A.handled = none) (hl : s.heap.IsList l items) (hi : IntsAre items.toList ns) (hb : ns.length + 1 < scanBound) :
    codeAny (model P w) A (.call (.builtin "set.__init__") ⟨[.ref s.heap.objs.size, .ref l], []⟩) (wants (Filled w s ns) E) { s with heap := s.heap.push (bare w) } := by
  have top : (s.heap.push (bare w)).get? s.heap.objs.size = some (bare w) := Heap.get?_push_size _ rfl
  have ty : Shared.TypeIs { s with heap := s.heap.push (bare w) } (.ref s.heap.objs.size) "set" := ⟨_, top, rfl⟩
  refine codeAny_call_builtin F.called_set.init.plain F.entry_set_init (check_set_init_1 ty ?_)
  obtain ⟨⟨k, dd, dt, sl⟩, at_l, e1, m, e2⟩ := hl
  simp only at e1 e2
  subst e1 e2
  have at_l' := Heap.get?_push_of_some (bare w) at_l
  have n1 := F.sub_list_set
  have n2 := F.sub_list_frozenset
  have n3 : (Value.type "list" == Value.type "dict") = false := by decide
  unfold Builtin.«set.__init__» noKeywords Builtin.Frozenset.updateFrom
  generalize hit : pyIter = it
  wp_walk
  subst hit
  have size : items.size = ns.length := by
    have z := IntsAre.length hi
    rwa [Array.length_toList] at z
  have isL : (s.heap.push (bare w)).IsList l items := ⟨_, at_l', rfl, m, rfl⟩
  have lt := Heap.lt_size at_l
  have grow : (s.heap.push (bare w)).objs.size = s.heap.objs.size + 1 := Heap.size_push ..
  apply wpAny_pyIter_list isL
  apply wpAny_bind
  apply wpAny_runValue
  have val : ∀ (i : Nat) (v : Value), items[i]? = some v → ∃ k t, ns[i]? = some k ∧ v = .int k t := by
    intro i v hv
    have hlt : i < ns.length := by rw [← size]; exact (Array.getElem?_eq_some_iff.mp hv).1
    obtain ⟨t, e⟩ := IntsAre.int_at hi i v (by rw [Array.getElem?_toList]; exact hv)
    have hk := List.getElem?_eq_getElem hlt
    rw [List.getD_eq_getElem?_getD, hk] at e
    exact ⟨_, t, hk, e⟩
  have apart : l ≠ (s.heap.push (bare w)).objs.size := by
    rw [grow]; exact Nat.ne_of_lt (Nat.lt_succ_of_lt lt)
  have off : s.heap.objs.size ∉ [(s.heap.push (bare w)).objs.size, l] := by
    intro z
    rcases List.mem_cons.mp z with z | z
    · rw [grow] at z; exact Nat.ne_of_lt (Nat.lt_succ_self _) z
    · exact Nat.ne_of_lt lt (List.mem_singleton.mp z).symm
  have W := (Walks.list (prog := P) (w := w) (A := A.in1.in1) (by simp [hA]) _ l apart items).toS
  have empty : ((s.heap.push (bare w)).push { cls := .type "list_iterator", data := .fields #[.ref l, .int 0 0] }).get? s.heap.objs.size = some (bare w) := Heap.get?_push_of_some _ top
  refine set_update_ints W s.heap.objs.size off ns size hb val items.size 0 _ (by simp) (Nat.zero_le _) ⟨⟨_, Heap.get?_push_size _ rfl, rfl, rfl⟩, isL.push _⟩ ⟨0, Nat.le_refl 0, setR_new_at empty⟩ ?_
  intro s3 n mv le set
  obtain ⟨h3, g3, d3, t3, o3⟩ := s3
  have same : g3 = s.gens ∧ d3 = s.drawn ∧ o3 = s.os := ⟨mv.gens, mv.drawn, mv.os⟩
  obtain ⟨rfl, rfl, rfl⟩ := same
  rw [size] at le
  apply wpAny_pure
  apply wpAny_pure
  refine ⟨rfl, h3, t3, n, rfl, set, le, fun b o e => ?_⟩
  have low := Heap.lt_size e
  refine mv.heap b o (fun z => ?_) (Heap.get?_push_of_some _ (Heap.get?_push_of_some _ e))
  rcases List.mem_cons.mp z with z | z
  · exact Nat.ne_of_lt low z
  · have z2 := List.mem_singleton.mp z
    rw [z2] at low
    change (s.heap.push (bare w)).objs.size < _ at low
    rw [grow] at low
    exact Nat.lt_irrefl _ (Nat.lt_trans (Nat.lt_succ_self _) low)
theorem set_of_list {l : Addr} {items : Array Value} {ns : List Int} {Q : Value → Shared → Prop} (hA : A.handled = none) (hl : s.heap.IsList l items) (hi : IntsAre items.toList ns) (hb : ns.length + 1 < scanBound)
    (h : ∀ r s2, Filled w s ns r s2 → Q (.ref s.heap.objs.size) s2) : wpAny (model P w) A (call (.type "set") [.ref l]) Q E s := by
  have made := F.called_set.made
  have sub := F.called_set.sub
  have one := F.called_set.notType
  have two := F.called_set.canCreate
  have arg := F.typeCall_set_1 (.ref l)
  have lk := F.called_set.init.lookup
  have bd := F.called_set.init.bind (.ref s.heap.objs.size)
  obtain ⟨c, tl, mro⟩ := F.called_set.mro
  wp_walk
  apply codeAny_of_tree
  change wpAny _ _ (callAny (Value.type "set") ⟨[Value.ref l], []⟩) _ _ s
  apply wpAny_pure
  refine ⟨Code.quiet_builtin _ (by decide +kernel), ?_⟩
  apply codeAny_builtin F.entry_type_call
  rw [Around.under_plain (weight_type_call_type "set" _ []) rfl]
  have top : (s.heap.push (bare w)).get? s.heap.objs.size = some (bare w) := Heap.get?_push_size _ rfl
  have ty : Shared.TypeIs { s with heap := s.heap.push (bare w) } (.ref s.heap.objs.size) "set" := ⟨_, top, rfl⟩
  repeat (any_goals (first | wp_step | assumption))
  refine codeAny_mono (code_set_led1 (.ref l) (Q₁ := fun x s1 => x = .ref s.heap.objs.size ∧ s1 = { s with heap := s.heap.push (bare w) }) (E := E) ⟨rfl, rfl⟩) ?_
  intro r s1 hr
  match r, hr with
  | .error e, hr => exact hr
  | .ok (.ret x), hr =>
    obtain ⟨rfl, rfl⟩ := hr
    repeat (any_goals (first | wp_step | assumption))
    refine codeAny_mono (filled_list (E := E) (by simp [hA]) hl hi hb) ?_
    intro r s2 hr
    match r, hr with
    | .error e, hr => exact hr
    | .ok (.ret y), hr =>
      have hf := h y s2 hr
      obtain ⟨rfl, h2, tk, n, rfl, hset, hn, keep⟩ := hr
      repeat (any_goals (first | wp_step | assumption))
end
end L2
namespace Vi
open PySem PySem.Spec PyProof.Rows L2
/-! sorted(set(x)) of a list of whole numbers -/
def insI (x : Int) : List Int → List Int
  | [] => [x]
  | y :: ys => if x < y then x :: y :: ys else if x = y then y :: ys else y :: insI x ys
def setI (ns : List Int) : List Int := ns.foldr insI []
theorem insI_mem {x y : Int} : ∀ {l : List Int}, y ∈ insI x l ↔ y = x ∨ y ∈ l
  | [] => by simp [insI]
  | z :: l => by
    unfold insI
    split
    · simp
    · split
      · rename_i e
        subst e
        simp
      · rw [List.mem_cons, insI_mem (l := l), List.mem_cons]
        constructor
        · rintro (h | h | h)
          · exact .inr (.inl h)
          · exact .inl h
          · exact .inr (.inr h)
        · rintro (h | h | h)
          · exact .inr (.inl h)
          · exact .inl h
          · exact .inr (.inr h)
theorem insI_asc {x : Int} : ∀ {l : List Int}, l.Pairwise (· < ·) → (insI x l).Pairwise (· < ·)
  | [], _ => List.pairwise_singleton ..
  | z :: l, h => by
    obtain ⟨h1, h2⟩ := List.pairwise_cons.mp h
    unfold insI
    split
    · rename_i c
      refine List.pairwise_cons.mpr ⟨fun y hy => ?_, h⟩
      rcases List.mem_cons.mp hy with rfl | hy
      · exact c
      · exact Int.lt_trans c (h1 y hy)
    · split
      · exact h
      · refine List.pairwise_cons.mpr ⟨fun y hy => ?_, insI_asc h2⟩
        rcases insI_mem.mp hy with rfl | hy
        · omega
        · exact h1 y hy
theorem setI_mem {y : Int} : ∀ {ns : List Int}, y ∈ setI ns ↔ y ∈ ns
  | [] => Iff.rfl
  | x :: ns => by
    show y ∈ insI x (setI ns) ↔ _
    rw [insI_mem, setI_mem (ns := ns), List.mem_cons]
theorem setI_asc : ∀ ns : List Int, (setI ns).Pairwise (· < ·)
  | [] => List.Pairwise.nil
  | x :: ns => insI_asc (setI_asc ns)
theorem ascI_eq : ∀ {l m : List Int}, l.Pairwise (· < ·) → m.Pairwise (· < ·) → (∀ k, k ∈ l ↔ k ∈ m) → l = m
  | [], [], _, _, _ => rfl
  | [], y :: m, _, _, h => absurd ((h y).mpr (List.mem_cons_self ..)) List.not_mem_nil
  | x :: l, [], _, _, h => absurd ((h x).mp (List.mem_cons_self ..)) List.not_mem_nil
  | x :: l, y :: m, h1, h2, h => by
    obtain ⟨a1, a2⟩ := List.pairwise_cons.mp h1
    obtain ⟨b1, b2⟩ := List.pairwise_cons.mp h2
    have e : x = y := by
      rcases List.mem_cons.mp ((h x).mp (List.mem_cons_self ..)) with e | e
      · exact e
      · rcases List.mem_cons.mp ((h y).mpr (List.mem_cons_self ..)) with f | f
        · exact f.symm
        · have := a1 y f; have := b1 x e; omega
    subst e
    rw [ascI_eq a2 b2 fun k => ?_]
    constructor
    · intro hk
      rcases List.mem_cons.mp ((h k).mp (List.mem_cons_of_mem _ hk)) with rfl | z
      · have := a1 k hk; omega
      · exact z
    · intro hk
      rcases List.mem_cons.mp ((h k).mpr (List.mem_cons_of_mem _ hk)) with rfl | z
      · have := b1 k hk; omega
      · exact z
def intsOf2 : List D → Option (List Int)
  | [] => some []
  | .int i :: ds => match intsOf2 ds with
    | some ns => some (i :: ns)
    | none => none
  | _ => none
theorem ints_of_eq2 : ∀ {ds : List D} {ns : List Int}, intsOf2 ds = some ns → ds = ns.map .int
  | [], ns, h => by cases h; rfl
  | .int i :: ds, ns, h => by
    unfold intsOf2 at h
    split at h
    · rename_i ms e
      cases h
      rw [ints_of_eq2 e]; rfl
    · cases h
def dSortSetI : D → Option Sv
  | .list ds => match intsOf2 ds with
    | some ns => if decide (ns.length < 63) = true then some (.own .loc ((setI ns).map .int)) else none
    | none => none
  | _ => none
section
variable {X : Cx}
def rSetI (K : PySem.W.Frag) (w : World) : List V → Hp → VK → Prop := fun xs H Q => ∃ (l : Addr) (ns : List Int), xs = [V.ref l] ∧ SqL K H l (ns.map V.int) ∧ ns.length < 63 ∧
  ∀ a c, H a = none → c ≤ ns.length → Q (.ref a) (upd H a (SetO w a (fun j => decide (j ∈ ns)) c))
theorem cr_setI (hc : X.calm = true) : CallR X (.type "set") (rSetI X.K X.w) := by
  intro pins s σ H xs us Q I r h
  obtain ⟨l, ns, rfl, hl, hf, q⟩ := h
  rw [Vals.ref1 r]
  obtain ⟨its, rv, pl, hz⟩ := I.list hl
  have hn : H s.heap.objs.size = none := I.hok.fresh (Nat.le_refl _)
  refine set_of_list (ns := ns) (I.ok.hd hc) pl.isList (by simpa using rv.ints) (by unfold scanBound; omega) fun r s2 f => ?_
  obtain ⟨_, h', tk, c, rfl, R, hcn, k⟩ := f
  exact ⟨.ref s.heap.objs.size, upd H s.heap.objs.size (SetO X.w s.heap.objs.size (fun j => decide (j ∈ ns)) c), I.laid (t' := tk) k (Nat.le_refl _) (setO_new R), rfl, q _ c hn hcn⟩
theorem reps_ints2 {K : PySem.W.Frag} {H : Hp} {M : Mset} : ∀ {ns : List Int} {vs : List V}, Reps K H M vs (ns.map .int) → vs = ns.map V.int
  | [], _, .nil => rfl
  | n :: ns, _, .cons h r => by
    cases h
    rw [reps_ints2 r]; rfl
theorem ints_reps2 {K : PySem.W.Frag} {H : Hp} {M : Mset} : ∀ ns : List Int, Reps K H M (ns.map V.int) (ns.map .int)
  | [] => .nil
  | n :: ns => .cons (.int n) (ints_reps2 ns)
def rSSI (X : Cx) : V → Hp → VK → Prop := fun v H Q => rSetI X.K X.w [v] H fun y H1 => rSortedSet X.w [y] H1 Q
theorem us_sortsetI : UnS X (rSSI X) dSortSetI := by
  intro H M O π ρ σ v1 d1 res Q h r1 e q
  unfold dSortSetI at e
  split at e
  · rename_i ds
    split at e
    · rename_i ns hns
      split at e
      · rename_i hlen
        cases e
        have hlen := of_decide_eq_true hlen
        obtain ⟨a, vs, rfl, rd, rs⟩ := r1.inL
        have hds := ints_of_eq2 hns
        subst hds
        have hv := reps_ints2 rs
        subst hv
        refine ⟨a, ns, rfl, .inl rd, hlen, fun b c hbn hcn => ?_⟩
        have h2 := h.alloc (o := SetO X.w b (fun j => decide (j ∈ ns)) c) hbn
        refine ⟨b, _, c, rfl, upd_same, by omega, fun ms p asc mem _ hp => ?_⟩
        have e : ms = setI ns := ascI_eq asc (setI_asc ns) fun k => by rw [mem, decide_eq_true_eq, setI_mem]
        rw [e]
        have q2 : Post X.K (upd H b (SetO X.w b (fun j => decide (j ∈ ns)) c)) M O π ρ σ (.own .loc ((setI ns).map .int)) Q := fun v H' M' x s r => q v H' M' ((Ext.alloc h (o := SetO X.w b (fun j => decide (j ∈ ns)) c) hbn).trans x) s r
        exact q2.lst h2 (ints_reps2 _) hp
      · cases e
    · cases e
  · cases e
variable {a : Expr} {ma : ME}
theorem de_sortsetI {x y : Str} {p1 p2 pos1 pos2 : Pos} {f : D → Option Sv} (hcS : CallR X (.type "set") (rSetI X.K X.w)) (hcT : CallR X (.builtin "sorted") (rSortedSet X.w)) (hs : UnS X (rSSI X) f)
    (hg1 : Gl X x) (hm1 : X.mg x = none) (hv1 : bootBuiltins x = some (.builtin "sorted")) (hg2 : Gl X y) (hm2 : X.mg y = none) (hv2 : bootBuiltins y = some (.type "set")) (ha : DE X a ma)
    (hn1 : x ≠ "__name__" := by decide) (hd1 : (x == ("__debug__" : Str)) = false := by decide) (hn2 : y ≠ "__name__" := by decide) (hd2 : (y == ("__debug__" : Str)) = false := by decide)
    (he2 : starEach (a :: []) X.env = (false, eval a X.env) :: starEach [] X.env := by rfl) (hpl2 : (PySem.backTo pos2 (starEach [] X.env)).any (·.1) = false := by rfl)
    (he1 : starEach (.Call (.Name y p2) [a] [] pos2 :: []) X.env = (false, eval (.Call (.Name y p2) [a] [] pos2) X.env) :: starEach [] X.env := by rfl) (hpl1 : (PySem.backTo pos1 (starEach [] X.env)).any (·.1) = false := by rfl) :
    DE X (.Call (.Name x p1) [.Call (.Name y p2) [a] [] pos2] [] pos1) (un f ma) :=
  PE.imp (pe_callB hcT hg1 hm1 hv1 (pa_cons (pe_callTy hcS hg2 hm2 hv2 (pa_cons ha pa_nil he2) hn2 hd2 he2 hpl2) pa_nil he1) hn1 hd1 he1 hpl1) fun σ H Q h => tE_un hs h
end
end Vi

namespace Vi
open PySem PySem.Spec PyProof.Rows L2
section
variable {X : Cx}
def rLcm : List V → Hp → VK → Prop := fun vs H Q => ∃ a b : Int, vs = [.int a, .int b] ∧ a.natAbs < 2 ^ 64 ∧ b.natAbs < 2 ^ 64 ∧ Q (.int ((a.natAbs.lcm b.natAbs : Nat) : Int)) H
theorem cr_lcm : CallR X (.builtin "math.lcm") rLcm := by
  intro pins s σ H vs us Q I r h
  obtain ⟨a, b, rfl, ha, hb, q⟩ := h
  obtain ⟨t, u, rfl⟩ := Vals.int2 r
  exact PySem.W.mc_lcm ha hb fun _ => ⟨.int _, H, I.tok _, ⟨_, rfl⟩, q⟩
def dLcm : List D → Option Sv
  | [.int i, .int j] => if decide (i.natAbs < 2 ^ 64 ∧ j.natAbs < 2 ^ 64) = true then some (.imm (.int ((i.natAbs.lcm j.natAbs : Nat) : Int))) else none
  | _ => none
theorem as_lcm : AS X rLcm dLcm := by
  intro H M O π ρ σ vs ds res Q h r e q
  unfold dLcm at e
  split at e
  · split at e
    · rename_i hz
      have hz := of_decide_eq_true hz
      cases e
      cases r with
      | cons r1 r2 => cases r2 with
        | cons r2 r3 =>
          cases r3; cases r1; cases r2
          exact ⟨_, _, rfl, hz.1, hz.2, Post.now q h (.int _)⟩
    · cases e
  · cases e
end
end Vi

namespace Vi
open PySem PySem.Spec PyProof.Rows L2
section
variable {X : Cx}
/-- // by a divisor of either sign -/
def CDivN (_ j : Int) : Prop := j < 0 ∧ j.natAbs.log2 < 9000
theorem op_fdivN : OpR X (binaryOp .FloorDiv) (rI CDivN fun i j => .int ((-i) / (-j))) := opI fun i j _ _ _ _ _ hc q => by
  have h1 : j < 0 := hc.1
  refine floordiv_int (by omega) ?_ (.inl (PyProof.noPylong_of_log2 hc.2))
  have e : i.fdiv j = (-i) / (-j) := by
    rw [← Int.neg_fdiv_neg, Int.fdiv_eq_ediv_of_nonneg (-i) (by omega)]
  rw [e]; exact q
def divNk (j : Int) : Bool := decide (j < 0 ∧ j.natAbs.log2 < 9000)
def dDivN : D → D → Option Sv
  | .int i, .int j => if divOk j = true then some (.imm (.int (i / j))) else if divNk j = true then some (.imm (.int ((-i) / (-j)))) else none
  | _, _ => none
abbrev rDivN : R2 := fun x y H Q => rI CDivW (fun i j => .int (i / j)) x y H Q ∨ rI CDivN (fun i j => .int ((-i) / (-j))) x y H Q
theorem op_fdivA : OpR X (binaryOp .FloorDiv) rDivN := op_fdivW.or op_fdivN
theorem os_divN : OpS X rDivN dDivN := by
  intro H M O π ρ σ v1 v2 d1 d2 res Q h r1 r2 e q
  unfold dDivN at e
  split at e
  · split at e
    · rename_i hz
      cases e
      cases r1.inI; cases r2.inI
      unfold divOk at hz
      have hz' := of_decide_eq_true hz
      exact .inl ⟨_, _, rfl, rfl, hz', Post.now q h (.int _)⟩
    · split at e
      · rename_i hz
        cases e
        cases r1.inI; cases r2.inI
        unfold divNk at hz
        have hz' := of_decide_eq_true hz
        exact .inr ⟨_, _, rfl, rfl, hz', Post.now q h (.int _)⟩
      · cases e
  · cases e
end
end Vi

namespace Vi
open PySem PySem.Spec PyProof.Rows L2

/-! ### own dicts: keys are tuples of whole numbers, and of such tuples -/
section
variable {X : Cx} {pins : List (Addr × Obj)} {σ : St} {H : Hp} {s : Shared} {M : Mset}
theorem keyN_is (I : Inv X pins σ H s) : ∀ (n : Nat) {d : D} {v : V} {u : Value}, keyOkN n d = true → Rep X.K H M v d → RelV v u → NestedIs s.heap (keyOf d) u ∧ (keyOf d).depth ≤ n
  | n, .int i, v, u, _, r, q => by
    cases r
    obtain ⟨t, rfl⟩ := q
    exact ⟨.int i t, Nat.zero_le _⟩
  | n + 1, .tuple ds, v, u, h, r, q => by
    cases r with
    | @tup a xs _ ht hr =>
      cases (show u = Value.ref a from q)
      obtain ⟨its, rv, hit, _⟩ := I.tuple ht.sq
      have hall : ∀ e ∈ ds, keyOkN n e = true := List.all_eq_true.mp (by unfold keyOkN at h; exact h)
      have core : ∀ {es : List D} {xs : List V} {us : List Value}, (∀ e ∈ es, keyOkN n e = true) → Reps X.K H M xs es → Vals xs us → NestedAll s.heap (keysOf es) us ∧ NestedKey.depthAll (keysOf es) ≤ n := by
        intro es
        induction es with
        | nil => intro xs us _ r v; cases r; cases v; exact ⟨.nil, Nat.zero_le _⟩
        | cons e es ih =>
          intro xs us he r v
          cases r with
          | cons r1 r2 =>
            cases v with
            | cons v1 v2 =>
              obtain ⟨k1, k2⟩ := keyN_is I n (he e (List.mem_cons_self ..)) r1 v1
              obtain ⟨k3, k4⟩ := ih (fun x hx => he x (List.mem_cons_of_mem _ hx)) r2 v2
              exact ⟨.cons k1 k3, Nat.max_le.mpr ⟨k2, k4⟩⟩
      obtain ⟨k1, k2⟩ := core hall hr rv
      obtain ⟨o, ho, hc, n', hd⟩ := hit
      exact ⟨.tup ho hc hd (by simpa using k1), Nat.succ_le_succ k2⟩
  | 0, .tuple ds, _, _, h, _, _ => by cases h
  | n, .none, _, _, h, _, _ => by cases n <;> cases h
  | n, .bool _, _, _, h, _, _ => by cases n <;> cases h
  | n, .str _, _, _, h, _, _ => by cases n <;> cases h
  | n, .list _, _, _, h, _, _ => by cases n <;> cases h
  | n, .dict _, _, _, h, _, _ => by cases n <;> cases h
theorem key_tup {d : D} (h : keyOk d = true) : ∃ ds, d = .tuple ds := by
  cases d with
  | tuple ds => exact ⟨ds, rfl⟩
  | _ => cases h
theorem key_okN {d : D} (h : keyOk d = true) : keyOkN 8 d = true := by
  obtain ⟨ds, rfl⟩ := key_tup h
  exact h
theorem key_is (I : Inv X pins σ H s) {d : D} {v : V} {u : Value} (h : keyOk d = true) (r : Rep X.K H M v d) (q : RelV v u) : ∃ b, v = .ref b ∧ u = .ref b ∧ (nestedKind X.prog X.w).is s.heap (keyOf d) b := by
  obtain ⟨ds, rfl⟩ := key_tup h
  have k := keyN_is I 8 (key_okN h) r q
  cases r with
  | @tup a xs _ ht hr =>
    cases (show u = Value.ref a from q)
    exact ⟨a, rfl, rfl, k⟩
end
/-- the hash of such a key is the same in each world -/
theorem hashN : ∀ (n : Nat) {d : D}, keyOkN n d = true → ∀ w w' : World, (keyOf d).hash w = (keyOf d).hash w'
  | n, .int i, _, w, w' => rfl
  | n + 1, .tuple ds, h, w, w' => by
    have hall : ∀ e ∈ ds, keyOkN n e = true := List.all_eq_true.mp (by unfold keyOkN at h; exact h)
    have core : ∀ {es : List D}, (∀ e ∈ es, keyOkN n e = true) → NestedKey.hashes w (keysOf es) = NestedKey.hashes w' (keysOf es) := by
      intro es
      induction es with
      | nil => intro _; rfl
      | cons e es ih =>
        intro he
        show (keyOf e).hash w :: NestedKey.hashes w (keysOf es) = (keyOf e).hash w' :: NestedKey.hashes w' (keysOf es)
        rw [hashN n (he e (List.mem_cons_self ..)) w w', ih fun x hx => he x (List.mem_cons_of_mem _ hx)]
    show reduceHash (Builtin.Tuple.tupleHashOf (NestedKey.hashes w (keysOf ds))) = reduceHash (Builtin.Tuple.tupleHashOf (NestedKey.hashes w' (keysOf ds)))
    rw [core hall]
  | 0, .tuple ds, h, _, _ => by cases h
  | n, .none, h, _, _ => by cases n <;> cases h
  | n, .bool _, h, _, _ => by cases n <;> cases h
  | n, .str _, h, _, _ => by cases n <;> cases h
  | n, .list _, h, _, _ => by cases n <;> cases h
  | n, .dict _, h, _, _ => by cases n <;> cases h
theorem all_ok_mem {n : Nat} {ds : List D} (h : keyOkN (n + 1) (.tuple ds) = true) : ∀ e ∈ ds, keyOkN n e = true := List.all_eq_true.mp (by unfold keyOkN at h; exact h)
/-- == of such data is equality of the keys -/
theorem eqvN : ∀ (n : Nat) {d e : D}, keyOkN n d = true → keyOkN n e = true → (PyData.eqv d e = decide (keyOf d = keyOf e)) := by
  intro n
  induction n with
  | zero =>
    intro d e h1 h2
    cases d with
    | int i =>
      cases e with
      | int j =>
        show (i == j) = decide (NestedKey.num i = NestedKey.num j)
        by_cases h : i = j
        · subst h; simp
        · simp [h]
      | _ => cases h2
    | _ => cases h1
  | succ n ih =>
    intro d e h1 h2
    cases d with
    | int i =>
      cases e with
      | int j =>
        show (i == j) = decide (NestedKey.num i = NestedKey.num j)
        by_cases h : i = j
        · subst h; simp
        · simp [h]
      | tuple es =>
        show false = decide (NestedKey.num i = NestedKey.tup (keysOf es))
        exact (decide_eq_false fun z => nomatch z).symm
      | _ => cases h2
    | tuple ds =>
      cases e with
      | int j =>
        show false = decide (NestedKey.tup (keysOf ds) = NestedKey.num j)
        exact (decide_eq_false fun z => nomatch z).symm
      | tuple es =>
        show PyData.eqvAll ds es = decide (NestedKey.tup (keysOf ds) = NestedKey.tup (keysOf es))
        have core : ∀ {xs ys : List D}, (∀ e ∈ xs, keyOkN n e = true) → (∀ e ∈ ys, keyOkN n e = true) → PyData.eqvAll xs ys = decide (keysOf xs = keysOf ys) := by
          intro xs
          induction xs with
          | nil =>
            intro ys _ _
            cases ys with
            | nil => rfl
            | cons y ys => exact (decide_eq_false fun z => nomatch z).symm
          | cons x xs ihx =>
            intro ys hx hy
            cases ys with
            | nil => exact (decide_eq_false fun z => nomatch z).symm
            | cons y ys =>
              show (PyData.eqv x y && PyData.eqvAll xs ys) = decide (keyOf x :: keysOf xs = keyOf y :: keysOf ys)
              rw [ih (hx x (List.mem_cons_self ..)) (hy y (List.mem_cons_self ..)), ihx (fun e he => hx e (List.mem_cons_of_mem _ he)) fun e he => hy e (List.mem_cons_of_mem _ he)]
              by_cases a : keyOf x = keyOf y
              · by_cases b : keysOf xs = keysOf ys
                · simp [a, b]
                · simp [a, b]
              · simp [a]
        rw [core (all_ok_mem h1) (all_ok_mem h2)]
        by_cases h : keysOf ds = keysOf es
        · simp [h]
        · simp [h]
      | _ => cases h2
    | _ => cases h1
theorem key_eqv {d e : D} (h1 : keyOk d = true) (h2 : keyOk e = true) : PyData.eqv d e = decide (keyOf d = keyOf e) := eqvN 8 (key_okN h1) (key_okN h2)

/-! ### the table, its keys and values in turn -/
abbrev Xs := List (NestedKey × Addr × Value)
inductive XS : Xs → List V → List D → Prop
  | nil : XS [] [] []
  | cons {b : Addr} {val : Value} {v : V} {kd d : D} {xs : Xs} {vs : List V} {ds : List D} : keyOk kd = true → RelV v val → XS xs vs ds → XS ((keyOf kd, b, val) :: xs) (.ref b :: v :: vs) (kd :: d :: ds)
theorem XS.of {P : Program} {w : World} : ∀ {es : List DictEntry} {vs : List V} {ds : List D}, Ents es vs ds → ∃ xs, es = xs.map (entryOfKey (nestedKind P w)) ∧ XS xs vs ds
  | _, _, _, .nil => ⟨[], rfl, .nil⟩
  | _, _, _, .cons (e := e) (b := b) (kd := kd) hk hh he hv r => by
    obtain ⟨xs, h1, h2⟩ := XS.of (P := P) (w := w) r
    refine ⟨(keyOf kd, b, e.val) :: xs, ?_, .cons hk hv h2⟩
    rw [List.map_cons, h1]
    congr 1
    obtain ⟨eh, ek, ev⟩ := e
    have hh' : eh = (keyOf kd).hash w := hh w
    have he' : ek = .ref b := he
    rw [hh', he']
    rfl
theorem XS.to {P : Program} {w : World} : ∀ {xs : Xs} {vs : List V} {ds : List D}, XS xs vs ds → Ents (xs.map (entryOfKey (nestedKind P w))) vs ds
  | _, _, _, .nil => .nil
  | _, _, _, .cons hk hv r => .cons hk (fun w' => hashN 8 (key_okN hk) w w') rfl hv (XS.to r)
theorem XS.keys : ∀ {xs : Xs} {vs : List V} {ds : List D}, XS xs vs ds → xs.map (·.1) = (dKeys ds).map keyOf
  | _, _, _, .nil => rfl
  | _, _, _, .cons hk hv r => by
    show _ :: _ = _ :: _
    rw [XS.keys r]
theorem XS.len : ∀ {xs : Xs} {vs : List V} {ds : List D}, XS xs vs ds → ds.length = 2 * xs.length
  | _, _, _, .nil => rfl
  | _, _, _, .cons hk hv r => by
    show _ + 1 + 1 = _
    rw [XS.len r, List.length_cons]; omega
section
variable {X : Cx} {pins : List (Addr × Obj)} {σ : St} {H : Hp} {s : Shared} {M : Mset}
theorem XS.is (I : Inv X pins σ H s) : ∀ {xs : Xs} {vs : List V} {ds : List D}, XS xs vs ds → Reps X.K H M vs ds → ∀ x ∈ xs, (nestedKind X.prog X.w).is s.heap x.1 x.2.1
  | _, _, _, .nil, _, x, hx => by cases hx
  | _, _, _, .cons hk hv r, .cons q1 (.cons q2 q), x, hx => by
    rcases List.mem_cons.mp hx with rfl | hx
    · obtain ⟨b, e1, e2, e3⟩ := key_is I hk q1 (show RelV (.ref _) (.ref _) from rfl)
      cases e1
      exact e3
    · exact XS.is I r q x hx
/-- what stands at a name's own dict -/
theorem dic_of (I : Inv X pins σ H s) {a : Addr} {vs : List V} {ds : List D} (e : H a = some (dicO a vs ds)) (r : Reps X.K H M vs ds) :
    ∃ xs, s.heap.DictOfH (nestedKind X.prog X.w) a xs ∧ XS xs vs ds ∧ (a == sysModules) = false := by
  obtain ⟨⟨o, es, ep, h1, h2, h3, h4, h5, h6⟩, _⟩ := I.hok a _ e
  obtain ⟨xs, h7, h8⟩ := XS.of (P := X.prog) (w := X.w) h4
  exact ⟨xs, ⟨o, es, ep, h1, h2, h3, h7, h8.is I r, by rw [h8.keys]; exact h5⟩, h8, h6⟩
end
theorem dic_new {P : Program} {w : World} {H' : Hp} {h' : Heap} {a : Addr} {xs : Xs} {vs : List V} {ds : List D} (dd : h'.DictOfH (nestedKind P w) a xs) (x : XS xs vs ds) (hd : (a == sysModules) = false) : ObjOk P w H' h' a (dicO a vs ds) := by
  obtain ⟨o, es, ep, h1, h2, h3, h4, _, h5⟩ := dd
  refine ⟨⟨o, es, ep, h1, h2, h3, by rw [h4]; exact x.to, by rw [← x.keys]; exact h5, hd⟩, ⟨o, h1⟩, fun g1 g2 ⟨o', es', ep', k1, k2⟩ hk => ⟨o', es', ep', hk _ k1, k2⟩⟩
/-! a look, a store -/
def dGet : List D → D → Option D
  | k :: v :: r, d => if PyData.eqv k d = true then some v else dGet r d
  | _, _ => none
def dPut : List D → D → D → List D
  | k :: v :: r, d, x => if PyData.eqv k d = true then k :: x :: r else k :: v :: dPut r d x
  | _, d, x => [d, x]
theorem intHead_key {kd : D} {r : List D} (h : keyOk kd = true) : intHead (kd :: r) = false := by
  obtain ⟨ds, rfl⟩ := key_tup h
  rfl
theorem intHead_put {ds : List D} {kd d : D} (h : intHead ds = false) (hk : keyOk kd = true) : intHead (dPut ds kd d) = false := by
  match ds, h with
  | [], _ => exact intHead_key hk
  | [k], _ => exact intHead_key hk
  | k :: v :: r, h =>
    have h2 : ∀ x y, intHead (k :: x) = intHead (k :: y) := fun x y => by cases k <;> rfl
    unfold dPut
    split
    · rw [h2 _ (v :: r)]; exact h
    · rw [h2 _ (v :: r)]; exact h
theorem atKey_cons {y : NestedKey × Addr × Value} {xs : Xs} {k : NestedKey} : atKey (y :: xs) k = if y.1 = k then some y.2 else atKey xs k := by
  unfold atKey
  rw [List.find?_cons]
  by_cases h : y.1 = k
  · simp [h]
  · simp [h]
theorem XS.get {K : PySem.W.Frag} {H : Hp} {M : Mset} {kd : D} (hk : keyOk kd = true) : ∀ {xs : Xs} {vs : List V} {ds : List D}, XS xs vs ds → Reps K H M vs ds →
    (dGet ds kd = none ∧ atKey xs (keyOf kd) = none) ∨ ∃ d p v, dGet ds kd = some d ∧ atKey xs (keyOf kd) = some p ∧ RelV v p.2 ∧ Rep K H M v d
  | _, _, _, .nil, _ => .inl ⟨rfl, rfl⟩
  | _, _, _, .cons (kd := kd') (d := d') hk' hv r, .cons q1 (.cons q2 q) => by
    rw [atKey_cons]
    unfold dGet
    rw [key_eqv hk' hk]
    by_cases h : keyOf kd' = keyOf kd
    · refine .inr ⟨d', _, _, by rw [if_pos (decide_eq_true h)], by rw [if_pos h], hv, q2⟩
    · rw [if_neg (by simpa using h), if_neg h]
      exact XS.get hk r q
theorem stored_cons {y : NestedKey × Addr × Value} {xs : Xs} {k : NestedKey} {a : Addr} {v : Value} (hn : ((y :: xs).map (·.1)).Nodup) : storedH (y :: xs) k a v = if y.1 = k then (y.1, y.2.1, v) :: xs else y :: storedH xs k a v := by
  rw [List.map_cons, List.nodup_cons] at hn
  unfold storedH
  rw [atKey_cons]
  by_cases h : y.1 = k
  · rw [if_pos h, if_pos h]
    simp only [Option.isSome_some, if_true]
    rw [List.map_cons, map_putAt_of_not_mem xs k v (by rw [← h]; exact hn.1)]
    unfold putAt
    rw [if_pos h]
  · rw [if_neg h, if_neg h]
    split
    · rw [List.map_cons]
      unfold putAt
      rw [if_neg h]
    · rfl
theorem XS.put {K : PySem.W.Frag} {H : Hp} {M : Mset} {kd d : D} {b : Addr} {v : V} {val : Value} (hk : keyOk kd = true) (hv : RelV v val) (rk : Rep K H M (.ref b) kd) (rv : Rep K H M v d) : ∀ {xs : Xs} {vs : List V} {ds : List D}, XS xs vs ds → Reps K H M vs ds → (xs.map (·.1)).Nodup →
    ∃ vs', XS (storedH xs (keyOf kd) b val) vs' (dPut ds kd d) ∧ Reps K H M vs' (dPut ds kd d)
  | _, _, _, .nil, _, _ => ⟨[.ref b, v], .cons hk hv .nil, .cons rk (.cons rv .nil)⟩
  | _, _, _, .cons (kd := kd') (d := d') (b := b') (v := v') hk' hv' r, .cons q1 (.cons q2 q), hn => by
    rw [stored_cons hn]
    unfold dPut
    rw [key_eqv hk' hk]
    rw [List.map_cons, List.nodup_cons] at hn
    by_cases h : keyOf kd' = keyOf kd
    · rw [if_pos h, if_pos (decide_eq_true h)]
      exact ⟨_, .cons hk' hv r, .cons q1 (.cons rv q)⟩
    · rw [if_neg h, if_neg (by simpa using h)]
      obtain ⟨vs', h1, h2⟩ := XS.put hk hv rk rv r q hn.2
      exact ⟨_, .cons hk' hv' h1, .cons q1 (.cons q2 h2)⟩

section
variable {K : PySem.W.Frag} {H : Hp} {M O : Mset} {π : Nat → Option Addr} {ρ : Fm} {σ : St} {Q : VK}
theorem Post.cell {ds : List D} {vs : List V} {b : Kd} (q : Post K H M O π ρ σ (.own b ds) Q) (h : SR K H M O π ρ σ) (r : Reps K H M vs ds) {p : Addr} (hp : H p = none) : Q (.ref p) (upd H p (cell b p vs ds)) := by
  refine q _ _ (wth M p) (.allocOwn h hp) (h.allocOwn hp) ⟨p, vs, rfl, upd_same, .inr rfl, fun z => h.live p (h.sub p z) hp, r.tr (alloc_tr_own h hp), fun i b ds e e1 => ?_⟩
  obtain ⟨a, ws, f1, f2, _⟩ := h.own i b ds e
  rw [e1] at f1; cases f1
  rw [hp] at f2; cases f2
end
theorem VW.key {K : PySem.W.Frag} {H : Hp} {M : Mset} {v : V} {d : D} (r : VW K H M v d) (hk : keyOk d = true) : Rep K H M v d := by
  obtain ⟨ds, rfl⟩ := key_tup hk
  exact r
theorem dic_empty {P : Program} {w : World} {H : Hp} (h : Heap) (hb : sysModules < h.objs.size) : ObjOk P w H (h.push { cls := .type "dict", data := .dict #[] }) h.objs.size (dicO h.objs.size [] []) :=
  dic_new (Heap.DictOfH.new h) .nil (beq_eq_false_iff_ne.mpr (Ne.symm (Nat.ne_of_lt hb)))
def tDNew : TE := fun _ H Q => ∀ p, H p = none → Q (.ref p) (upd H p (dicO p [] []))
section
variable {X : Cx} {pos : Pos} {o i e k st_e : Expr} {td ty tv : TE} {me mk : ME}
theorem pe_dnew0 : PE X (.Dict [] [] pos) tDNew := ⟨fun pins s σ H Q I h =>
  wpAny_Dict_empty ⟨.ref s.heap.objs.size, _, I.laid (a := s.heap.objs.size) (o := dicO s.heap.objs.size [] []) (t' := s.toks) (fun _ _ q => Heap.get?_push_of_some _ q) (Nat.le_refl _) (dic_empty s.heap I.big), rfl, h _ (I.hok.fresh (Nat.le_refl _))⟩⟩
/-- {} -/
def mDNew : ME := fun ρ => some (.val (.own .dic []), ρ)
theorem de_dnew : DE X (.Dict [] [] pos) mDNew := PE.imp pe_dnew0 fun σ H Q ⟨ρ, M, O, π, pr, ρ', h, e, q⟩ => by
  cases e
  exact fun p hp => Post.cell (b := .dic) (fun v H' M' x2 => q v H' M' x2) h .nil hp
/-- k in d, k not in d -/
def tInDic (K : PySem.W.Frag) (neg : Bool) (ty td : TE) : TE := fun σ H Q => ty σ H fun y H1 => td σ H1 fun x H2 => ∃ a kd M ds vs, x = .ref a ∧ H2 a = some (dicO a vs ds) ∧ Reps K H2 M vs ds ∧ Rep K H2 M y kd ∧ keyOk kd = true ∧ Q (.bl (neg != (dGet ds kd).isSome)) H2
theorem XS.some {K : PySem.W.Frag} {H : Hp} {M : Mset} {kd : D} {xs : Xs} {vs : List V} {ds : List D} (hk : keyOk kd = true) (x : XS xs vs ds) (r : Reps K H M vs ds) : (atKey xs (keyOf kd)).isSome = (dGet ds kd).isSome := by
  rcases x.get hk r with ⟨h1, h2⟩ | ⟨d, p, v, h1, h2, _⟩
  · rw [h1, h2]; rfl
  · rw [h1, h2]; rfl
theorem pc_inDic (hu : X.A.units + 9 < cLine) (hi : PE X i ty) (ho : PE X o td) : PC X .In i o (tInDic X.K false ty td) := by
  refine ⟨fun pins s σ H Q I h => ?_⟩
  refine thn (hi.run pins s σ H _ I h) fun iv s1 ⟨y, H1, I1, ry, q1⟩ => thn (ho.run pins s1 σ H1 _ I1 q1) fun u s2 ⟨x, H2, I2, rx, a, kd, M, ds, vs, ex, e, r, rk, hk, q2⟩ => ?_
  subst ex
  obtain rfl : u = Value.ref a := rx
  obtain ⟨xs, dd, hx, hd⟩ := dic_of I2 e r
  obtain ⟨b, _, eb, ib⟩ := key_is I2 hk rk ry
  subst eb
  refine in_keyed (knd := nestedKind X.prog X.w) (kvs := pairsH xs) (by show X.A.units + 1 + 8 < cLine; omega) ib hd ⟨xs, dd, rfl⟩ ?_
  refine ⟨.bl _, H2, I2.tok _, ?_, q2⟩
  show Value.bool _ = Value.bool _
  rw [valueAt_pairsH, Option.isSome_map, hx.some hk r]
  simp
theorem pc_notInDic (hu : X.A.units + 9 < cLine) (hi : PE X i ty) (ho : PE X o td) : PC X .NotIn i o (tInDic X.K true ty td) := by
  refine ⟨fun pins s σ H Q I h => ?_⟩
  refine thn (hi.run pins s σ H _ I h) fun iv s1 ⟨y, H1, I1, ry, q1⟩ => thn (ho.run pins s1 σ H1 _ I1 q1) fun u s2 ⟨x, H2, I2, rx, a, kd, M, ds, vs, ex, e, r, rk, hk, q2⟩ => ?_
  subst ex
  obtain rfl : u = Value.ref a := rx
  obtain ⟨xs, dd, hx, hd⟩ := dic_of I2 e r
  obtain ⟨b, _, eb, ib⟩ := key_is I2 hk rk ry
  subst eb
  refine notIn_keyed (knd := nestedKind X.prog X.w) (kvs := pairsH xs) (by show X.A.units + 1 + 8 < cLine; omega) ib hd ⟨xs, dd, rfl⟩ ?_
  refine ⟨.bl _, H2, I2.tok _, ?_, q2⟩
  show Value.bool _ = Value.bool _
  rw [valueAt_pairsH, Option.isSome_map, hx.some hk r]
  simp
def mInD (neg : Bool) (i : Nat) (mk : ME) : ME := fun ρ => match mk ρ with
  | some (pk, ρ1) => match peek ρ1 pk with
    | some kd => match ρ1[i]? with
      | some (some (.own .dic ds)) => if (keyOk kd && !intHead ds) = true then some (.val (.imm (.bool (neg != (dGet ds kd).isSome))), ρ1) else none
      | _ => none
    | none => none
  | none => none
theorem tE_inD {K : PySem.W.Frag} {neg : Bool} {i : Nat} {σ : St} {H : Hp} {Q : VK} (h : tE K (mInD neg i mk) σ H Q) : tInDic K neg (tE K mk) (tVar i) σ H Q := by
  obtain ⟨ρ, M, O, π, pr, ρ', h, e, q⟩ := h
  unfold mInD at e
  split at e
  · rename_i pk ρ1 e1
    split at e
    · rename_i kd e2
      split at e
      · rename_i ds e3
        split at e
        · rename_i hk
          cases e
          rw [Bool.and_eq_true, Bool.not_eq_true'] at hk
          obtain ⟨hk, hi⟩ := hk
          refine ⟨ρ, M, O, π, pk, _, h, e1, fun y H1 M1 x1 s1 r1 => ?_⟩
          obtain ⟨a, vs, f1, f2, f3, f4, f5, _⟩ := s1.own i .dic ds e3
          rw [cell_dic hi] at f2
          exact ⟨.ref a, f1, a, kd, M1, ds, vs, rfl, f2, f5, (peek_vw s1 r1 e2).key hk, hk, q _ H1 M1 x1 s1 (.bl _)⟩
        · cases e
      · cases e
    · cases e
  · cases e
theorem de_inD {i : Nat} (hu : X.A.units + 9 < cLine) (hk : DE X k mk) (ho : PE X o (tVar i)) (hm : behindInMarks .In o = false) : DE X (.Compare k [.In] [o] pos) (mInD false i mk) :=
  PE.imp (pe_cmp (pc_inDic hu hk ho) hm) fun σ H Q h => tE_inD h
theorem de_notInD {i : Nat} (hu : X.A.units + 9 < cLine) (hk : DE X k mk) (ho : PE X o (tVar i)) (hm : behindInMarks .NotIn o = false) : DE X (.Compare k [.NotIn] [o] pos) (mInD true i mk) :=
  PE.imp (pe_cmp (pc_notInDic hu hk ho) hm) fun σ H Q h => tE_inD h
theorem dt_inD {i : Nat} (hu : X.A.units + 9 < cLine) (hk : DE X k mk) (ho : PE X o (tVar i)) (hm : behindInMarks .In o = false) : DT X (.Compare k [.In] [o] pos) (mB (mInD false i mk)) :=
  PT.imp (pt_cmp (pc_inDic hu hk ho) hm) fun σ H Q h => tE_inD (tT_B h)
theorem dt_notInD {i : Nat} (hu : X.A.units + 9 < cLine) (hk : DE X k mk) (ho : PE X o (tVar i)) (hm : behindInMarks .NotIn o = false) : DT X (.Compare k [.NotIn] [o] pos) (mB (mInD true i mk)) :=
  PT.imp (pt_cmp (pc_notInDic hu hk ho) hm) fun σ H Q h => tE_inD (tT_B h)
/-- d[k] -/
def tDIx (K : PySem.W.Frag) (td ty : TE) : TE := fun σ H Q => td σ H fun x H1 => ty σ H1 fun y H2 => ∃ a kd M ds vs d, x = .ref a ∧ H2 a = some (dicO a vs ds) ∧ Reps K H2 M vs ds ∧ Rep K H2 M y kd ∧ keyOk kd = true ∧ dGet ds kd = some d ∧ ∀ v, Rep K H2 M v d → Q v H2
theorem pe_dix (hu : X.A.units + 9 < cLine) (ho : PE X o td) (hi : PE X i ty) (hs : NoSl i) : PE X (.Subscript o i pos) (tDIx X.K td ty) := by
  refine ⟨fun pins s σ H Q I h => ?_⟩
  refine subD_of PySem.F.slot_dict_getitem.lookup hs (thn (ho.run pins s σ H _ I h) fun u s1 ⟨x, H1, I1, rx, q1⟩ => thn (hi.run pins s1 σ H1 _ I1 q1) fun iv s2 ⟨y, H2, I2, ry, a, kd, M, ds, vs, d, ex, e, r, rk, hk, hg, q2⟩ => ?_)
  subst ex
  obtain rfl : u = Value.ref a := rx
  obtain ⟨xs, dd, hx, hd⟩ := dic_of I2 e r
  obtain ⟨b, _, eb, ib⟩ := key_is I2 hk rk ry
  subst eb
  rcases hx.get hk r with ⟨h1, _⟩ | ⟨d', p, v, h1, h2, h3, h4⟩
  · rw [h1] at hg; cases hg
  · rw [h1] at hg; cases hg
    refine ⟨dd.typeIs, ?_⟩
    exact getItem_keyed (knd := nestedKind X.prog X.w) (kvs := pairsH xs) (by show X.A.units + 1 + 8 < cLine; omega) ib ⟨xs, dd, rfl⟩ (by rw [valueAt_pairsH, h2]; rfl) ⟨v, H2, I2.tok _, h3, q2 v h4⟩
def mDIx (i : Nat) (mk : ME) : ME := fun ρ => match ρ[i]? with
  | some (some (.own .dic _)) => match mk ρ with
    | some (pk, ρ1) => match peek ρ1 pk with
      | some kd => match ρ1[i]? with
        | some (some (.own .dic ds)) => if (keyOk kd && !intHead ds) = true then match dGet ds kd with
          | some d => some (.val (.imm d), ρ1)
          | none => none
          else none
        | _ => none
      | none => none
    | none => none
  | _ => none
theorem de_dix {i : Nat} (hu : X.A.units + 9 < cLine) (ho : PE X o (tVar i)) (hk : DE X k mk) (hs : NoSl k) : DE X (.Subscript o k pos) (mDIx i mk) :=
  PE.imp (pe_dix hu ho hk hs) fun σ H Q ⟨ρ, M, O, π, pr, ρ', h, e, q⟩ => by
    unfold mDIx at e
    split at e
    · rename_i ds0 e0
      obtain ⟨a0, vs0, g1, g2, g3, g4, g5, _⟩ := h.own i .dic ds0 e0
      refine ⟨.ref a0, g1, ?_⟩
      split at e
      · rename_i pk ρ1 e1
        split at e
        · rename_i kd e2
          split at e
          · rename_i ds e3
            split at e
            · rename_i hk
              split at e
              · rename_i d ed
                cases e
                rw [Bool.and_eq_true, Bool.not_eq_true'] at hk
                obtain ⟨hk, hi⟩ := hk
                refine ⟨ρ, M, O, π, pk, _, h, e1, fun y H1 M1 x1 s1 r1 => ?_⟩
                obtain ⟨a, vs, f1, f2, f3, f4, f5, _⟩ := s1.own i .dic ds e3
                rw [cell_dic hi] at f2
                rw [g1] at f1; cases f1
                exact ⟨a0, kd, M1, ds, vs, d, rfl, f2, f5, (peek_vw s1 r1 e2).key hk, hk, ed, fun v rv => q _ H1 M1 x1 s1 rv⟩
              · cases e
            · cases e
          · cases e
        · cases e
      · cases e
    · cases e
/-- d[k] = v -/
def rSetDic (K : PySem.W.Frag) : TSet := fun o i v H Q => ∃ a kd d M ds vs, o = .ref a ∧ H a = some (dicO a vs ds) ∧ Reps K H M vs ds ∧ Rep K H M i kd ∧ Rep K H M v d ∧ keyOk kd = true ∧ ds.length ≤ sizeLine ∧ ∀ vs', Reps K H M vs' (dPut ds kd d) → Q (upd H a (dicO a vs' (dPut ds kd d)))
theorem set_dic (hu : X.A.units + 9 < cLine) : PSet X (rSetDic X.K) := by
  intro pins s σ H o i v ov iv u Q I ro ri rv h
  obtain ⟨a, kd, d, M, ds, vs, ex, e, r, rk, rd, hk, hz, q⟩ := h
  subst ex
  obtain rfl : ov = Value.ref a := ro
  obtain ⟨xs, dd, hx, hd⟩ := dic_of I e r
  obtain ⟨b, e3, eb, ib⟩ := key_is I hk rk ri
  subst eb e3
  obtain ⟨vs', h1, h2⟩ := XS.put hk rv rk rd hx r dd.nodup
  have hl := hx.len
  refine wpAny_setItem_heap (knd := nestedKind X.prog X.w) (hsz := by omega) (by show X.A.units + 1 + 8 < cLine; omega) ib dd fun h' dd' hs => ⟨_, ?_, q vs' h2⟩
  have he : ∃ q, h'.get? a = some q := let ⟨q, _, _, hq, _⟩ := dd'; ⟨q, hq⟩
  exact d_write I (by rw [e]; exact True.intro) hs he (dic_new dd' h1 hd)
def mDPut (i : Nat) (mk me : ME) : MS := fun ρ => match me ρ with
  | some (pr, ρ1) => match frz ρ1 pr with
    | some (d, ρ2) => match ρ2[i]? with
      | some (some (.own .dic _)) => match mk ρ2 with
        | some (pk, ρ3) => match peek ρ3 pk with
          | some kd => match ρ3[i]? with
            | some (some (.own .dic ds)) => if (keyOk kd && (fits ds.length && !intHead ds)) = true then some (.next, ρ3.set i (some (.own .dic (dPut ds kd d)))) else none
            | _ => none
          | none => none
        | none => none
      | _ => none
    | none => none
  | none => none
theorem ds_dput {st : Stmt} {i : Nat} (h : ∀ te tk, PE X e te → PE X k tk → PS X st (tAsg te (gSub (tVar i) tk (rSetDic X.K)))) (he : DE X e me) (hk : DE X k mk) : DS X st (mDPut i mk me) :=
  PS.imp (h _ _ he hk) fun D σ H ⟨ρ, M, O, π, fl, ρ', h, e, q⟩ => by
    unfold mDPut at e
    split at e
    · rename_i pr ρ1 e1
      split at e
      · rename_i d ρ2 e2
        split at e
        · rename_i ds0 e0
          split at e
          · rename_i pk ρ3 e3
            split at e
            · rename_i kd e4
              split at e
              · rename_i ds e5
                split at e
                · rename_i hz
                  cases e
                  rw [Bool.and_eq_true, Bool.and_eq_true, Bool.not_eq_true'] at hz
                  obtain ⟨hz1, hz2, hi⟩ := hz
                  have hz : keyOk kd = true ∧ fits ds.length = true := ⟨hz1, hz2⟩
                  refine ⟨ρ, M, O, π, pr, ρ1, h, e1, fun v H1 M1 x1 s1 r1 => ?_⟩
                  obtain ⟨M2, x2, s2, r2⟩ := frz_ok s1 r1 e2
                  obtain ⟨a, vs, f1, f2, f3, f4, f5, f6⟩ := s2.own i .dic ds0 e0
                  refine ⟨.ref a, f1, ρ2, M2, O, π, pk, ρ3, s2, e3, fun w H3 M3 x3 s3 r3 => ?_⟩
                  obtain ⟨a', ws, g1, g2, g3, g4, g5, g6⟩ := s3.own i .dic ds e5
                  rw [f1] at g1; cases g1
                  rw [cell_dic hi] at g2
                  refine ⟨a, kd, d, M3, ds, ws, rfl, g2, g5, (peek_vw s3 r3 e4).key hz.1, r2.tr x3.tr, hz.1, fits_le hz.2, fun vs' hr => ?_⟩
                  obtain ⟨s4, x4, t4⟩ := s3.writeC (b := .dic) (ws := vs') (es := dPut ds kd d) e5 f1 hr
                  rw [cell_dic (intHead_put hi hz.1)] at s4 x4
                  exact q _ _ M3 (((x1.trans x2).trans x3).trans x4) s4
                · cases e
              · cases e
            · cases e
          · cases e
        · cases e
      · cases e
    · cases e
end
end Vi

namespace Vi
open PySem PySem.Spec PyProof.Rows L2
section
variable {X : Cx} {pos : Pos} {e k : Expr} {tk tv : TE} {me mk : ME}
/-- {k: v} -/
def tDisp1 (K : PySem.W.Frag) (tk tv : TE) : TE := fun σ H Q => ∀ p, H p = none → tk σ (upd H p (dicO p [] [])) fun y H1 => tv σ H1 fun v H2 => H2 p = some (dicO p [] []) ∧ ∃ M kd d, Rep K H2 M y kd ∧ Rep K H2 M v d ∧ keyOk kd = true ∧ Q (.ref p) (upd H2 p (dicO p [y, v] [kd, d]))
theorem pe_disp1 (hu : X.A.units + 9 < cLine) (hk : PE X k tk) (hv : PE X e tv) : PE X (.Dict [some k] [e] pos) (tDisp1 X.K tk tv) := by
  refine ⟨fun pins s σ H Q I q => ?_⟩
  have hn := I.hok.fresh (Nat.le_refl s.heap.objs.size)
  have I1 := I.laid (a := s.heap.objs.size) (o := dicO s.heap.objs.size [] []) (h' := s.heap.push { cls := .type "dict", data := .dict #[] }) (t' := s.toks) (fun _ _ q => Heap.get?_push_of_some _ q) (Nat.le_refl _) (dic_empty s.heap I.big)
  have q' := q _ hn
  rw [arm_eval_Dict, zip_pairTrees [some k] [e] X.env pos rfl rfl, dictDisplay_pairs (pairTrees [some k] [e] X.env pos) (by intro z; cases z) (by show 1 < 17; decide)]
  refine wpAny_bind (wpAny_standAt (wpAny_bind (wpAny_subDictH (knd := nestedKind X.prog X.w) (by show X.A.units + 8 < cLine; omega) (by show 1 ≤ 15; decide) ?_)))
  refine thn ((pps_cons (pos := pos) hk hv pps_nil).run pins _ σ _ (fun ps H2 => match ps with | [(y, v)] => (H2 s.heap.objs.size = some (dicO s.heap.objs.size [] []) ∧ ∃ M kd d, Rep X.K H2 M y kd ∧ Rep X.K H2 M v d ∧ keyOk kd = true ∧ Q (.ref s.heap.objs.size) (upd H2 s.heap.objs.size (dicO s.heap.objs.size [y, v] [kd, d]))) | _ => False) I1 q') fun ws s2 ⟨ps, H2, I2, rel, q2⟩ => ?_
  match ps, rel, q2 with
  | [(y, v)], .cons (b := (u, val)) ⟨ry, rv⟩ .nil, ⟨e2, M, kd, d, rk, rd, hkd, q3⟩ =>
    obtain ⟨b, e3, e4, ib⟩ := key_is I2 hkd rk ry
    have e4' : u = .ref b := e4
    subst e3 e4'
    obtain ⟨xs, dd, hx, hd⟩ := dic_of I2 e2 (M := M) .nil
    cases hx
    refine ⟨[(keyOf kd, b, val)], ⟨rfl, rfl, ib, True.intro⟩, dd, fun h' tk dd' hs => wpAny_pure ⟨.ref s.heap.objs.size, _, ?_, rfl, q3⟩⟩
    have he : ∃ q, h'.get? s.heap.objs.size = some q := let ⟨q, _, _, hq, _⟩ := dd'; ⟨q, hq⟩
    exact d_write I2 (by rw [e2]; exact True.intro) hs he (dic_new dd' (.cons hkd rv .nil) hd)
def mDOne (mk me : ME) : ME := fun ρ => match mk ρ with
  | some (pk, ρ1) => match frz ρ1 pk with
    | some (kd, ρ2) => match me ρ2 with
      | some (pr, ρ3) => match frz ρ3 pr with
        | some (d, ρ4) => if keyOk kd = true then some (.val (.own .dic [kd, d]), ρ4) else none
        | none => none
      | none => none
    | none => none
  | none => none
theorem de_done (hu : X.A.units + 9 < cLine) (hk : DE X k mk) (he : DE X e me) : DE X (.Dict [some k] [e] pos) (mDOne mk me) := PE.imp (pe_disp1 hu hk he) fun σ H Q ⟨ρ, M, O, π, pr0, ρ', h, e, q⟩ => by
  unfold mDOne at e
  split at e
  · rename_i pk ρ1 e1
    split at e
    · rename_i kd ρ2 e2
      split at e
      · rename_i pr ρ3 e3
        split at e
        · rename_i d ρ4 e4
          split at e
          · rename_i hkd
            cases e
            intro p hp
            have s0 := (h.allocOwn hp (o := dicO p [] [])).more (O' := wth O p) (fun a z => z.elim (fun z => .inl (h.sub a z)) .inr) fun i b ds a f f1 z => by
              obtain ⟨a', ws, g1, g2, g3, g4, _⟩ := h.own i b ds f
              rw [f1] at g1; cases g1
              exact z.elim g4 fun z => by rw [z, hp] at g2; cases g2
            refine ⟨ρ, _, _, π, pk, ρ1, s0, e1, fun y H1 M1 x1 s1 r1 => ?_⟩
            obtain ⟨M2, x2, s2, r2⟩ := frz_ok s1 r1 e2
            refine ⟨ρ2, M2, _, π, pr, ρ3, s2, e3, fun v H3 M3 x3 s3 r3 => ?_⟩
            obtain ⟨M4, x4, s4, r4⟩ := frz_ok s3 r3 e4
            have x := ((x1.trans x2).trans x3).trans x4
            have hH : H3 p = some (dicO p [] []) := x.keep p _ upd_same (.inl (.inr rfl))
            have hM : M4 p := x.sub p (.inr rfl)
            have rk : Rep X.K H3 M4 y kd := r2.tr (x3.trans x4).tr
            have t : ∀ {o : HO} a u, Rd H3 a u → ¬ M4 a → Rd (upd H3 p o) a u ∧ ¬ M4 a := fun {o} a u z n => by
              have ne : a ≠ p := fun w => n (w ▸ hM)
              refine ⟨?_, n⟩
              rcases z with z | ⟨o', z⟩
              · exact .inl (by rw [upd_ne ne]; exact z)
              · exact .inr ⟨o', by rw [upd_ne ne]; exact z⟩
            refine ⟨hH, M4, kd, d, rk, r4, hkd, ?_⟩
            refine q (.ref p) _ M4 ⟨fun a u f z => ?_, fun a z => x.sub a (.inl z), fun a z => ?_⟩ ((s4.writeO hM (.inr rfl)).less fun a z => .inl z) ⟨p, [y, v], rfl, (by rw [cell_dic (intHead_key hkd)]; exact upd_same), hM, fun z => h.live p (h.sub p z) hp, .cons (rk.tr t) (.cons (r4.tr t) .nil), fun i b ds f f1 => ?_⟩
            · have ne : a ≠ p := fun w => by rw [w, hp] at f; cases f
              rw [upd_ne ne]
              exact x.keep a u (by rw [upd_ne ne]; exact f) (z.imp .inl fun n w => w.elim n ne)
            · rcases x.new a z with w | w
              · rcases w with w | w
                · exact .inl w
                · exact .inr (by rw [w]; exact hp)
              · by_cases ne : a = p
                · exact .inr (by rw [ne]; exact hp)
                · rw [upd_ne ne] at w; exact .inr w
            · obtain ⟨a', ws, g1, g2, g3, g4, _⟩ := s4.own i b ds f
              rw [f1] at g1; cases g1
              exact g4 (.inr rfl)
          · cases e
        · cases e
      · cases e
    · cases e
  · cases e
end
theorem room9 {A : Around} {k : Nat} (r : Room k A) : A.units + 9 < cLine := by have := r.un; omega
end Vi

namespace Vi
open PySem PySem.Spec PyProof.Rows L2
/-! sorted(d) -/
section
variable {prog : Program} {w : World} {A : Around} {E : Value → Shared → Prop} {s : Shared} {β : Type} {vs : List Value} {bs : List β} {enc : β → PyData} {R : Value → β → Prop}
theorem items_eq {es : Array DictEntry} {acc : Array Value} (h : ItemsOf (fun i v => ∃ hi : i < es.size, v = es[i].key) acc es.size) : acc.toList = es.toList.map (·.key) := by
  refine List.ext_getElem? fun i => ?_
  rw [Array.getElem?_toList, List.getElem?_map, Array.getElem?_toList]
  by_cases hi : i < es.size
  · have ha : i < acc.size := by rw [h.1]; exact hi
    rw [Array.getElem?_eq_getElem ha, Array.getElem?_eq_getElem hi]
    obtain ⟨_, e⟩ := h.2 i acc[i] (Array.getElem?_eq_getElem ha)
    rw [e]; rfl
  · rw [Array.getElem?_eq_none (by rw [h.1]; omega), Array.getElem?_eq_none (by omega)]; rfl
theorem sorted_dic {l : Addr} {es : Array DictEntry} {ep : Nat} {Q : Value → Shared → Prop} (hh : A.in1.handled = none) (hr : s.heap.DictRaw l es ep) (lo : (l == sysModules) = false) (hv : es.toList.map (·.key) = vs) (e : W.EachIs R vs bs)
    (er : W.EachIs (fun v b => ∃ as, Reads s.heap v (enc b) as) vs bs) (hal : W.AllAlike (bs.map enc)) (hk : W.Sortable (bs.map enc)) (hL : bs.length ≤ sizeLine) (hu : ∀ b, b ∈ bs → A.units + 2 + (enc b).depth < cLine)
    (h : ∀ (h' : Heap) (tk : Nat) (out : List Value), out.length = bs.length → (∀ b o', s.heap.get? b = some o' → h'.get? b = some o') → W.EachIs R out (bs.mergeSort (W.dataLe false enc)) → Q (.ref h'.objs.size) { s with heap := sortedHeap (h'.push (seqObj "list" vs.toArray 0)) h'.objs.size vs out.toArray, toks := tk }) :
    wpAny (model prog w) A (call (.builtin "sorted") [.ref l]) Q E s := by
  have hlen := e.length
  have hes : es.size = vs.length := by rw [← hv, List.length_map, Array.length_toList]
  refine call_function_entry_kw kind_sorted plain_sorted entry_sorted (args_sorted1 _) ?_
  unfold Builtin.«sorted»
  refine wpAny_bind (m := checkCount "sorted" 1 1 _) (wpAny_pure ?_)
  refine wpAny_bind (PySem.W.kdu_collect (A := A.in1) (PySem.KdlSrc.rawDict (es := es) (ep := ep) lo) hh hr (by rw [hes]; omega) fun h' tk acc kp hacc => ?_)
  have hacc' := items_eq hacc
  rw [hv] at hacc'
  rw [hacc']
  refine wpAny_bind (wpAny_newList ?_ (by show vs.length ≤ _; omega))
  have at_ : (h'.push (seqObj "list" vs.toArray 0)).get? h'.objs.size = some (seqObj "list" vs.toArray 0) := Heap.get?_push_size _ rfl
  have kp2 : ∀ b o', s.heap.get? b = some o' → (h'.push (seqObj "list" vs.toArray 0)).get? b = some o' := fun b o' q => Heap.get?_push_of_some _ (kp b o' q)
  have ne : ∀ b o', h'.get? b = some o' → b ≠ h'.objs.size := fun b o' q => Nat.ne_of_lt (Heap.lt_size q)
  have er' : W.EachIs (fun v b => ∃ as, Reads (W.sortingHeap (h'.push (seqObj "list" vs.toArray 0)) h'.objs.size vs) v (enc b) as) vs bs :=
    er.mono fun _ _ ⟨as, r⟩ => ⟨as, PyProof.Rows.Reads.keeps (fun b o' q => W.sortingHeap_old (ne b o' (kp b o' q)) (kp2 b o' q)) r⟩
  refine wpAny_bind (wpAny_holding (wpAny_call_entry_kw slot_list_sort ⟨_, at_, rfl⟩ entry_list_sort ?body (args_list_sort _)))
  case body =>
    show wpAny (model prog w) A.in1.in1 (Builtin.«list.sort» ⟨[.ref h'.objs.size], []⟩) _ _ { s with heap := h'.push (seqObj "list" vs.toArray 0), toks := tk }
    refine wpAny_mono (W.list_sort_vals (κ := W.dataKind (W.sortingHeap (h'.push (seqObj "list" vs.toArray 0)) h'.objs.size vs) (bs.map enc)) (P := fun f s' => f = .done (.ret .none) ∧ Q (.ref h'.objs.size) s') at_ (W.SortsAt.data (s := { s with heap := W.sortingHeap (h'.push (seqObj "list" vs.toArray 0)) h'.objs.size vs, toks := tk }) (W.each_map (R := fun v d => ∃ as, Reads (W.sortingHeap (h'.push (seqObj "list" vs.toArray 0)) h'.objs.size vs) v d as) enc er') hal hk (W.bound_map hu)) (by omega) ⟨rfl, ?_⟩) (fun f s' hf => ?_) fun _ _ e => e
    · exact h h' tk _ (by rw [W.sortVals_length false rfl]; exact hlen) kp (W.sortVals_data false e er' hal)
    · obtain ⟨rfl, hq⟩ := hf
      exact ⟨_, rfl, wpAny_pure ⟨_, rfl, hq⟩⟩
end
def vKeys : List V → List V
  | k :: _ :: r => k :: vKeys r
  | _ => []
theorem XS.vals : ∀ {xs : Xs} {vs : List V} {ds : List D}, XS xs vs ds → Vals (vKeys vs) (xs.map fun x => Value.ref x.2.1)
  | _, _, _, .nil => .nil
  | _, _, _, .cons hk hv r => .cons rfl (XS.vals r)
theorem Reps.keys {K : PySem.W.Frag} {H : Hp} {M : Mset} : ∀ {xs : Xs} {vs : List V} {ds : List D}, XS xs vs ds → Reps K H M vs ds → Reps K H M (vKeys vs) (dKeys ds)
  | _, _, _, .nil, _ => .nil
  | _, _, _, .cons hk hv r, .cons q1 (.cons q2 q) => .cons q1 (Reps.keys r q)
section
variable {X : Cx}
/-- sorted(d) of an own dict -/
def rSortDic (K : PySem.W.Frag) : List V → Hp → VK → Prop := fun vs H Q => ∃ (a : Addr) (M : Mset) (ws : List V) (ds : List D), vs = [.ref a] ∧ H a = some (dicO a ws ds) ∧ Reps K H M ws ds ∧ sortOk (dKeys ds) = true ∧
  ∀ out, Reps K H M out (sortD (dKeys ds)) → ∀ p, H p = none → Q (.ref p) (upd H p (.lst out))
theorem cr_sortDic (hcalm : X.calm = true) (hu : X.A.units + 70 < cLine) : CallR X (.builtin "sorted") (rSortDic X.K) := by
  intro pins s σ H vs us Q I r h
  obtain ⟨a, M, ws, ds, rfl, e0, rs, hok, q⟩ := h
  rw [Vals.ref1 r]
  obtain ⟨xs, dd, hx, hd⟩ := dic_of I e0 rs
  obtain ⟨o, es, ep, h1, h2, h3, h4, _, h5⟩ := id dd
  have rk := Reps.keys hx rs
  have rv := hx.vals
  have hkeys : es.toList.map (·.key) = xs.map fun x => Value.ref x.2.1 := by
    rw [h4, List.map_map]; rfl
  generalize hits : (xs.map fun x => Value.ref x.2.1) = its at *
  have hlen : (vKeys ws).length = (dKeys ds).length := rk.length
  obtain ⟨as, hr⟩ := Dp.readsAll I (dKeys ds) (vKeys ws) its (rk.dp (sortOk_lay hok)) rv
  have hzl : ((vKeys ws).zip (dKeys ds)).length = (dKeys ds).length := by rw [List.length_zip, hlen, Nat.min_self]
  have e : W.EachIs (fun u (b : V × D) => RelV b.1 u) its ((vKeys ws).zip (dKeys ds)) := each_zip rv hlen fun i u x d _ _ _ r => r
  have er : W.EachIs (fun u (b : V × D) => ∃ as, Reads s.heap u (id (Prod.snd b)) as) its ((vKeys ws).zip (dKeys ds)) := each_zip rv hlen fun i u x d h1 _ h3 _ => readsAll_get hr h1 h3
  have em : ((vKeys ws).zip (dKeys ds)).map (fun b => id (Prod.snd b)) = dKeys ds := zip_snd hlen
  refine sorted_dic (enc := fun b : V × D => id b.2) (R := fun u (b : V × D) => RelV b.1 u) (I.ok.hd hcalm) ⟨o, h1, h2, h3⟩ hd hkeys e er (by rw [em]; exact sortOk_al hok) (by rw [em]; exact sortOk_so hok) (by rw [hzl]; exact sortOk_len hok) (fun b hb => ?_) fun h' tk out hol kp ho2 => ?_
  · have hm : b.2 ∈ dKeys ds := by rw [← em]; exact List.mem_map.mpr ⟨b, hb, rfl⟩
    have := sortOk_dp hok _ hm
    show X.A.units + 2 + b.2.depth < cLine
    omega
  · rw [isort_eq (le := W.dataLe false fun b : V × D => id b.2) (W.sortLe_total _ _ _)] at ho2
    have I1 : Inv X pins σ H { s with heap := h', toks := tk } := I.kept kp
    have hz : ((isort (fun a b : V × D => leD a.2 b.2) ((vKeys ws).zip (dKeys ds))).map Prod.fst).length ≤ sizeLine := by
      rw [List.length_map, (isort_perm _).length_eq, hzl]; exact sortOk_len hok
    have hpush : (h'.push (seqObj "list" its.toArray 0)).get? h'.objs.size = some (seqObj "list" its.toArray 0) := Heap.get?_push_size _ rfl
    obtain ⟨e1, hat⟩ := sortedHeap_at (out := out.toArray) hpush
    have e2 : sortD (dKeys ds) = (isort (fun a b : V × D => leD a.2 b.2) ((vKeys ws).zip (dKeys ds))).map Prod.snd := by
      rw [isort_map (le := leD) Prod.snd, zip_snd hlen]; rfl
    refine ⟨.ref h'.objs.size, _, I1.laid (t' := tk) (o := .lst ((isort (fun a b : V × D => leD a.2 b.2) ((vKeys ws).zip (dKeys ds))).map Prod.fst)) (fun b u eb => ?_) (Nat.le_refl _) ⟨hz, out, e1, each_vals ho2, hat⟩, rfl, q _ (by rw [e2]; exact reps_sort fun b hb => reps_zip rk b ((isort_perm _).mem_iff.mp hb)) _ I1.fresh⟩
    have hb : b < h'.objs.size := Heap.lt_size eb
    rw [sortedHeap_old (Nat.ne_of_lt hb) (by rw [size_push']; exact Nat.lt_succ_of_lt hb)]
    exact Heap.get?_push_of_some _ eb
/-- sorted(d), d a name's own dict -/
def mSortDic (i : Nat) : ME := fun ρ => match ρ[i]? with
  | some (some (.own .dic ds)) => if (sortOk (dKeys ds) && !intHead ds) = true then some (.val (.own .loc (sortD (dKeys ds))), ρ) else none
  | _ => none
theorem de_sortDic {i : Nat} {x : Str} {a : Expr} {p pos : Pos} (hcalm : X.calm = true) (hu : X.A.units + 70 < cLine) (hg : Gl X x) (hm : X.mg x = none) (hv : bootBuiltins x = some (.builtin "sorted")) (ha : PE X a (tVar i))
    (hn : x ≠ "__name__" := by decide) (hd : (x == ("__debug__" : Str)) = false := by decide) (he : starEach (a :: []) X.env = (false, eval a X.env) :: starEach [] X.env := by rfl) (hpl : (PySem.backTo pos (starEach [] X.env)).any (·.1) = false := by rfl) : DE X (.Call (.Name x p) [a] [] pos) (mSortDic i) :=
  PE.imp (pe_callB (cr_sortDic hcalm hu) hg hm hv (pa_cons ha pa_nil he) hn hd he hpl) fun σ H Q ⟨ρ, M, O, π, pr, ρ', h, e, q⟩ => by
    unfold mSortDic at e
    split at e
    · rename_i ds e0
      split at e
      · rename_i hz
        cases e
        rw [Bool.and_eq_true, Bool.not_eq_true'] at hz
        obtain ⟨hz, hi⟩ := hz
        obtain ⟨a', vs, f1, f2, f3, f4, f5, _⟩ := h.own i .dic ds e0
        rw [cell_dic hi] at f2
        exact ⟨.ref a', f1, a', M, vs, ds, rfl, f2, f5, hz, fun out hout p hp => Post.lst (Q := Q) (fun v H' M' x2 => q v H' M' x2) h hout hp⟩
      · cases e
    · cases e
end
/-- a name that a comprehension takes for its own becomes fixed ahead, if it holds a list -/
def mFzO (i : Nat) (me : ME) : ME := fun ρ => match ρ[i]? with
  | some (some (.own .loc _)) => mFz i me ρ
  | _ => me ρ
theorem tE_fzO {K : PySem.W.Frag} {σ : St} {H : Hp} {i : Nat} {me : ME} {Q : VK} (h : tE K (mFzO i me) σ H Q) : tE K me σ H Q := by
  obtain ⟨ρ, M, O, π, pr, ρ2, hs, e, q⟩ := h
  unfold mFzO at e
  split at e
  · exact tE_fz ⟨ρ, M, O, π, pr, ρ2, hs, e, q⟩
  · exact ⟨ρ, M, O, π, pr, ρ2, hs, e, q⟩
theorem de_fzO {X : Cx} {e : Expr} {i : Nat} {me : ME} (h : DE X e me) : DE X e (mFzO i me) := PE.imp h fun _ _ _ q => tE_fzO q
end Vi

namespace Vi
open PySem PySem.Spec PyProof.Rows L2
/-! ### a class of exceptions of one's own, whose __init__ does nothing: X() -/
section
variable {X : Cx}
theorem mk_end_bare {pins : List (Addr × Obj)} {σ : L2.St} {H1 H2 : Hp} {hp hp2 h2 : Heap} {g1 g2 : Array GenState} {d1 d2 : Drawn} {t1 t2 : Nat} {os1 os2 : OsState} {a C : Addr} (I1 : Inv X pins σ H1 ⟨hp, g1, d1, t1, os1⟩)
    (ha : hp.objs.size ≤ a) (k : ∀ b o, hp.get? b = some o → hp2.get? b = some o) (un : Un (frs X.stack) [] (upd H1 a (exo a C none)) H2 hp2 h2) (hok : HOk X.prog X.w H2 h2) (ho : os2 = os1) (hb : AllBare g2)
    (ea : H2 a = some (exo a C none)) :
    ∃ (t0 : Addr) (G : Heap), Inv X pins σ (L2.del H2 a) ⟨G, g2, d2, t2, os2⟩ ∧ (∀ b o, G.get? b = some o → h2.get? b = some o) ∧ G.get? a = none ∧
      h2.get? a = some ({ cls := .ref C, dict := none, data := .fields #[.ref t0, .none, .none, .none, .bool false, .none] } : Obj) ∧ (L2.del H2 a) a = none := by
  obtain ⟨t0, hoe⟩ := exo_at hok ea
  have hn : H1 a = none := I1.hok.fresh ha
  obtain ⟨G, g1', g2'⟩ := restrict h2 fun b => decide (b ≠ a)
  have gk : ∀ b, b ≠ a → G.get? b = h2.get? b := fun b hb => g1' b (decide_eq_true hb)
  have ge : G.get? a = none := g2' a (by simp)
  have nha : ∀ {b : Addr} {o : Obj}, hp.get? b = some o → b ≠ a := fun {b o} z => Nat.ne_of_lt (Nat.lt_of_lt_of_le (Heap.lt_size z) ha)
  have up : ∀ {b : Addr}, b ≠ a → H1 b = none → upd H1 a (exo a C none) b = none := fun {b} hb n => by rw [upd_ne hb]; exact n
  have U : Un (frs X.stack) [] H1 (L2.del H2 a) hp G := {
    keep := fun b o z n hf hx => by
      rw [gk b (nha z)]
      exact un.keep b o (k b o z) (up (nha z) n) hf hx
    slot := fun b o z n hf hx => by
      rw [gk b (nha z)]
      exact un.slot b o (k b o z) (up (nha z) n) hf hx
    free := fun b o z n hx => by
      rw [del_ne (nha z)]
      exact un.free b o (k b o z) (up (nha z) n) hx
    there := fun b o z hx => by
      rw [gk b (nha z)]
      exact un.there b o (k b o z) hx
    tups := fun b xs z => by
      rw [del_ne (ne_of_none z hn)]
      exact un.tups b xs (by rw [upd_ne (ne_of_none z hn)]; exact z)
    frzs := fun b o v z => by
      rw [del_ne (ne_of_none z hn)]
      exact un.frzs b o v (by rw [upd_ne (ne_of_none z hn)]; exact z)
    tbls := fun b ps z => by
      rw [del_ne (ne_of_none z hn)]
      exact un.tbls b ps (by rw [upd_ne (ne_of_none z hn)]; exact z) }
  have hok3 : HOk X.prog X.w (L2.del H2 a) G := fun b o z => by
    have hba : b ≠ a := fun e => by
      rw [e, del_same] at z
      cases z
    rw [del_ne hba] at z
    have noa : ∀ {c : Addr}, H2 c = some (.own b) → c ≠ a := fun {c} hc => at_ne ea hc exo_own
    exact (hok b o z).stay (fun c v hc y => by
        have hca : c ≠ a := by
          rcases hc with hc | hc
          · rw [hc]
            exact hba
          · exact noa hc
        rw [gk c hca]
        exact y)
      (fun c hc => by rw [del_ne (noa hc)]; exact hc) (fun c xs hc => by rw [del_ne (at_ne ea hc exo_tup)]; exact hc)
  have J : Inv X pins σ (L2.del H2 a) ⟨G, g2, d2, t2, os2⟩ := I1.call' (ch := []) ho U hok3 hb (fun b z => absurd z (by simp))
  refine ⟨t0, G, J, fun b o z => ?_, ge, hoe, del_same⟩
  by_cases hba : b = a
  · rw [hba, ge] at z
    cases z
  · exact (gk b hba).symm.trans z
/-- what __init__ does: nothing -/
def spInit : Sp := fun vs H Q _ => vs.length = 1 ∧ Q .non H
theorem pmk_bare {x : Str} {C fI : Addr} {k : Nat} {fd : FuncData} {p pos : Pos} (T : OexC X.K C) (iC : PySem.W.findIn X.K (.ref C) "__init__" = some (some (.ref fI))) (tI : PySem.W.typeIn X.K (.ref fI) = some (.type "function"))
    (F1 : FnOk X.prog X.w X.K X.mg X.base CX0 k fI fd ["self"] spInit) (hr : Room (k + 1) X.A) (hb : Binds X.K fd ["self"] []) (hg : Gl X x) (hm : X.mg x = some (.ref C)) (hdb : (x == ("__debug__" : Str)) = false := by decide) :
    PMk X (.Call (.Name x p) [] [] pos) (fun _ H Q => Q (.ref C) none H) := by
  intro pins s σ H Q I h
  obtain ⟨nm, q, N, bs, bm, sn, sub, ab, col, dd, k0, k1, k2, k3, k5, hC, hbm⟩ := T.cls
  refine wpAny_Call_Name_kw (ld_glob I hg hm ?_ hdb)
  refine PySem.W.callWith_K0 I.kIn T.kC ?_
  show wpAny _ _ (call (.ref C) []) _ _ _
  obtain ⟨hp, g, dr, tk, os⟩ := s
  have hsz : hp.objs.size ≤ hp.objs.size + 1 := Nat.le_succ _
  have hn : H (hp.objs.size + 1) = none := I.hok.fresh hsz
  have kk : ∀ b o, hp.get? b = some o → ((hp.push (PySem.W.kdv_tup [])).push (PySem.HandSPX.excO C hp.objs.size)).get? b = some o := fun b o e => Heap.get?_push_of_some _ (Heap.get?_push_of_some _ e)
  have hget : ((hp.push (PySem.W.kdv_tup [])).push (PySem.HandSPX.excO C hp.objs.size)).get? (hp.objs.size + 1) = some (PySem.HandSPX.excO C hp.objs.size) := by heap_get
  have I2 : Inv X pins σ (upd H (hp.objs.size + 1) (exo (hp.objs.size + 1) C none)) ⟨(hp.push (PySem.W.kdv_tup [])).push (PySem.HandSPX.excO C hp.objs.size), g, dr, tk, os⟩ :=
    I.laid (t' := tk) (a := hp.objs.size + 1) (o := exo (hp.objs.size + 1) C none) (h' := (hp.push (PySem.W.kdv_tup [])).push (PySem.HandSPX.excO C hp.objs.size)) kk hsz (exo_ok hget)
  have r2 : Vals [V.ref (hp.objs.size + 1)] [Value.ref (hp.objs.size + 1)] := .cons rfl .nil
  have hl : ([] : List Value).length ≤ sizeLine := Nat.zero_le _
  refine wpAny_call (PySem.HandSPX.call_own PySem.F.excBase_ValueError (fun Y => PySem.HandSPX.refsVE_contains Y bm hbm) (I.kIn _ _ hC) (PySem.W.looks_findIn I.kIn iC) (fun self => PySem.W.bind_fn I.kIn self tI) hl
    (codeAny_mono (F1.run _ X.stack _ _ ⟨Value.ref (hp.objs.size + 1) :: [], []⟩ [Value.ref (hp.objs.size + 1)] _ (fun v H' => v = .non ∧ H' = upd H (hp.objs.size + 1) (exo (hp.objs.size + 1) C none)) (fun _ _ _ => False) (hr.make C [] []) (I2.env0.make C [] []) (hb _ [Value.ref (hp.objs.size + 1)] I2.kIn rfl) r2 ⟨rfl, rfl, rfl⟩) fun r s' hq' => ?_))
  cases r with
  | error er => exact hq'.elim
  | ok fl =>
    cases fl with
    | ret u =>
      obtain ⟨v, H2, os2, bare2, un2, hok2, rv, ev, eH⟩ := hq'
      subst ev eH
      obtain ⟨h2, g2, d2, t2, os'⟩ := s'
      obtain ⟨t0, G, J, kG, ge, hoe, na⟩ := mk_end_bare (d2 := d2) (t2 := t2) I hsz kk un2 hok2 os2 bare2 upd_same
      have eH : L2.del (upd H (hp.objs.size + 1) (exo (hp.objs.size + 1) C none)) (hp.objs.size + 1) = H := by
        funext b
        by_cases hb : b = hp.objs.size + 1
        · rw [hb, del_same, hn]
        · rw [del_ne hb, upd_ne hb]
      rw [eH] at J na
      cases rv
      exact ⟨rfl, _, _, _, ⟨G, g2, d2, t2, os'⟩, _, .ref C, none, rfl, J, kG, ge, hoe, ⟨rfl, rfl⟩, rfl, rfl, na, rfl, bare2, raises_own T.exC T.tyC, h⟩
    | next => exact False.elim hq'
    | brk => exact False.elim hq'
    | cont => exact False.elim hq'
end
end Vi

namespace Vi
open PySem PySem.Spec PyProof.Rows L2
/-! ### statements that may raise: what is raised (its class' name), the names behind it -/
abbrev MX := Fm → Option (Nat × Fm)
section
variable {K : PySem.W.Frag} {cv : Nat → Value}
def tX (K : PySem.W.Frag) (x : MX) (cv : Nat → Value) (W : WX) : L2.St → Hp → Prop := fun σ H => ∃ ρ M O π c ρ', SR K H M O π ρ σ ∧ x ρ = some (c, ρ') ∧ ∀ σ' H' M', Ext O H M H' M' → SR K H' M' O π ρ' σ' → W (cv c) none σ' H'
def tSX (K : PySem.W.Frag) (m : MS) (x : MX) (cv : Nat → Value) (W : WX) : TS := fun D σ H => tS K m D σ H ∨ tX K x cv W σ H
theorem SPost.mono {H : Hp} {M O : Mset} {π : Nat → Option Addr} {D D' : Ends} {ρ' : Fm} {fl : Fl} (q : SPost K H M O π D ρ' fl) (h1 : ∀ σ H, D.nx σ H → D'.nx σ H) (h2 : ∀ v H, D.rt v H → D'.rt v H) (h3 : ∀ σ H, D.bk σ H → D'.bk σ H) (h4 : ∀ σ H, D.ct σ H → D'.ct σ H) : SPost K H M O π D' ρ' fl := by
  cases fl with
  | next => exact fun σ' H' M' x s => h1 _ _ (q σ' H' M' x s)
  | brk => exact fun σ' H' M' x s => h3 _ _ (q σ' H' M' x s)
  | cont => exact fun σ' H' M' x s => h4 _ _ (q σ' H' M' x s)
  | ret r => exact fun v σ' H' M' x s r1 => h2 _ _ (q v σ' H' M' x s r1)
end
section
variable {X : Cx} {st : Stmt} {rest sa sb : List Stmt} {e : Expr} {me : ME} {m n : MS} {x y : MX} {mt : MT} {pos : Pos} {cv : Nat → Value} {W : WX}
def DSX (X : Cx) (s : Stmt) (m : MS) (x : MX) (cv : Nat → Value) (W : WX) : Prop := PS X s (tSX X.K m x cv W)
def DSXs (X : Cx) (s : List Stmt) (m : MS) (x : MX) (cv : Nat → Value) (W : WX) : Prop := PSs X s (tSX X.K m x cv W)
def xNo : MX := fun _ => none
theorem dsx_of (h : DS X st m) : DSX X st m xNo cv W := PS.imp h fun D σ H q => by
  rcases q with q | ⟨_, _, _, _, _, _, _, e, _⟩
  · exact q
  · cases e
def xRaise (c : Nat) : MX := fun ρ => some (c, ρ)
theorem dsx_raise {c : Nat} (hc : X.calm = true) (tk : Takes X W) (mk : PMk X e fun _ H Q => Q (cv c) none H) : DSX X (.Raise (some e) none pos) mNever (xRaise c) cv W := PS.imp (ps_raise hc tk mk) fun D σ H q => by
  rcases q with ⟨_, _, _, _, _, _, _, e, _⟩ | ⟨ρ, M, O, π, c', ρ', h, e, q⟩
  · cases e
  · cases e
    exact q σ H M (.refl h) h
theorem dsxs_one (h : DSX X st m x cv W) : DSXs X [st] m x cv W := pss_one h
theorem dsxs_nil : DSXs X [] mNext xNo cv W := PSs.imp (dss_nil) fun D σ H q => by
  rcases q with q | ⟨_, _, _, _, _, _, _, e, _⟩
  · exact q
  · cases e
def xSeq (m : MS) (x y : MX) : MX := fun ρ => match m ρ with
  | some (.next, ρ1) => y ρ1
  | some _ => none
  | none => x ρ
theorem dsxs_cons (h1 : DSX X st m x cv W) (h2 : DSXs X rest n y cv W) : DSXs X (st :: rest) (mSeq m n) (xSeq m x y) cv W := PSs.imp (pss_cons h1 h2) fun D σ H q => by
  rcases q with ⟨ρ, M, O, π, fl, ρ', h, e, q⟩ | ⟨ρ, M, O, π, c, ρ', h, e, q⟩
  · refine .inl ?_
    unfold mSeq at e
    split at e
    · rename_i ρ1 e1
      exact ⟨ρ, M, O, π, .next, ρ1, h, e1, fun σ1 H1 M1 x1 s1 => .inl ⟨ρ1, M1, O, π, fl, ρ', s1, e, q.later (O1 := O) x1⟩⟩
    · rename_i ρ1 e1
      cases e
      exact ⟨ρ, M, O, π, .brk, _, h, e1, q⟩
    · rename_i ρ1 e1
      cases e
      exact ⟨ρ, M, O, π, .cont, _, h, e1, q⟩
    · rename_i r ρ1 e1
      cases e
      exact ⟨ρ, M, O, π, .ret r, _, h, e1, q⟩
    · cases e
  · unfold xSeq at e
    split at e
    · rename_i ρ1 e1
      exact .inl ⟨ρ, M, O, π, .next, ρ1, h, e1, fun σ1 H1 M1 x1 s1 => .inr ⟨ρ1, M1, O, π, c, ρ', s1, e, fun σ2 H2 M2 x2 s2 => q σ2 H2 M2 (x1.trans x2) s2⟩⟩
    · cases e
    · exact .inr ⟨ρ, M, O, π, c, ρ', h, e, q⟩
def xIf (mt : MT) (x y : MX) : MX := fun ρ => match mt ρ with
  | some (true, ρ1) => x ρ1
  | some (false, ρ1) => y ρ1
  | none => none
theorem dsx_if {c : Expr} (hc : DT X c mt) (ha : DSXs X sa m x cv W) (hb : DSXs X sb n y cv W) : DSX X (.If c sa sb pos) (mIfS mt m n) (xIf mt x y) cv W := PS.imp (ps_if hc ha hb) fun D σ H q => by
  rcases q with ⟨ρ, M, O, π, fl, ρ', h, e, q⟩ | ⟨ρ, M, O, π, c, ρ', h, e, q⟩
  · unfold mIfS at e
    split at e
    · rename_i ρ1 e1
      exact ⟨ρ, M, O, π, true, ρ1, h, e1, fun H1 M1 x1 s1 => iteT (.inl ⟨ρ1, M1, O, π, fl, ρ', s1, e, q.later (O1 := O) x1⟩)⟩
    · rename_i ρ1 e1
      exact ⟨ρ, M, O, π, false, ρ1, h, e1, fun H1 M1 x1 s1 => iteF (.inl ⟨ρ1, M1, O, π, fl, ρ', s1, e, q.later (O1 := O) x1⟩)⟩
    · cases e
  · unfold xIf at e
    split at e
    · rename_i ρ1 e1
      exact ⟨ρ, M, O, π, true, ρ1, h, e1, fun H1 M1 x1 s1 => iteT (.inr ⟨ρ1, M1, O, π, c, ρ', s1, e, fun σ2 H2 M2 x2 s2 => q σ2 H2 M2 (x1.trans x2) s2⟩)⟩
    · rename_i ρ1 e1
      exact ⟨ρ, M, O, π, false, ρ1, h, e1, fun H1 M1 x1 s1 => iteF (.inr ⟨ρ1, M1, O, π, c, ρ', s1, e, fun σ2 H2 M2 x2 s2 => q σ2 H2 M2 (x1.trans x2) s2⟩)⟩
    · cases e
end
/-! ### a def that may raise -/
abbrev FnX := List Sv → Option Nat
def spX (K : PySem.W.Frag) (n : Nat) (f : Fn) (g : FnX) (cv : Nat → Value) : Sp := fun vs H Q E => spD K n f vs H Q E ∨ ∃ M O π args c, vs.length = n ∧ SR K H M O π (args.map some) (vs.map some) ∧ g args = some c ∧
  ∀ H' M', (∀ a, M' a → H' a ≠ none) → Ext O H M H' M' → E (cv c) none H'
def xFn (nN np : Nat) (x : MX) : FnX := fun us => if us.length = np then (x (us.map some ++ List.replicate (nN - np) none)).map Prod.fst else none
section
variable {P : Program} {w : World} {K : PySem.W.Frag} {mg : Str → Option Value} {base : Heap} {cv : Nat → Value}
theorem fnx_ok {x qual : Str} {st : Stmt} {f : Addr} {fd : FuncData} {N ps : List Str} {k : Nat} {body : MS} {bx : MX} (F : Fun K x qual st f fd) (S : FnScope N ps (defScope st))
    (hb : ∀ (cdv : Value) (A : Around) (outer : List Env) (s : Shared) (H : Hp) (E : XK) (W : WX), Room k (A.deeper (envOfC qual (defScope st) s.heap.objs.size f cdv)) → Takes (cxOf (L2.CX P w) P w K mg base N qual (defScope st) f cdv A outer s H E) W → DSXs (cxOf (L2.CX P w) P w K mg base N qual (defScope st) f cdv A outer s H E) (defBody st) body bx cv W) :
    FnOk P w K mg base (L2.CX P w) (k + 1) f fd ps (spX K ps.length (mFn N.length ps.length body) (xFn N.length ps.length bx) cv) := by
  refine F.okX S (fun vs H Q E h => ?_) (fun cdv A outer s H vs Q E hr h => ?_)
  · rcases h with ⟨M, O, π, args, r, os, hl, _⟩ | ⟨M, O, π, args, c, hl, _⟩
    · exact hl
    · exact hl
  · refine ⟨_, hb cdv A outer s H E (fun cls d _ H => E cls d H) hr (takes_of rfl rfl rfl rfl), ?_⟩
    rcases h with ⟨M, O, π, args, r, os, hl, hs, e, q⟩ | ⟨M, O, π, args, c, hl, hs, e, q⟩
    · refine .inl ?_
      have hal : args.length = vs.length := by have := hs.len; simpa using this
      unfold mFn at e
      have start_eq : L2.start N vs = vs.map some ++ List.replicate (N.length - ps.length) none := by unfold L2.start; rw [hl]
      have fin : ∀ {σ' : L2.St} {ρ' : Fm} {H' : Hp} {M' : Mset} {rr : Sv} {v : V}, Ext O H M H' M' → SR K H' M' O π ρ' σ' → RV K H' M' O ρ' σ' rr v → outsOf args ρ' = some os → rr = r → Q v H' := fun {σ' ρ' H' M' rr v} x s r1 eo er => by
        subst er
        refine q v H' M' s.live x (fun i ds ei => ?_) ?_
        · obtain ⟨e1, _⟩ := outs_get eo ei
          obtain ⟨a, ws, f1, f2, f3, f4, f5, f6⟩ := s.own i .par ds e1
          exact ⟨a, ws, f6 rfl, f2, f3, f5⟩
        · cases rr with
          | imm d => exact r1
          | own b ds =>
            obtain ⟨p, ws, g1, g2, g3, g4, g5, g6⟩ := r1
            refine ⟨p, ws, g1, g2, g3, g4, g5, fun i es ei hp => ?_⟩
            obtain ⟨e1, _⟩ := outs_get eo ei
            obtain ⟨a, us, f1, f2, f3, f4, f5, f6⟩ := s.own i .par es e1
            rw [f6 rfl] at hp; cases hp
            exact g6 i es e1 f1
      split at e
      · rename_i hn
        split at e
        · rename_i r' ρ' e1
          split at e
          · rename_i os' e2
            cases e
            refine ⟨_, M, O, π, .ret r, ρ', by rw [start_eq]; exact hs.pad _, e1, fun v σ' H' M' x s r1 => fin x s r1 e2 rfl⟩
          · cases e
        · rename_i ρ' e1
          split at e
          · rename_i os' e2
            cases e
            refine ⟨_, M, O, π, .next, ρ', by rw [start_eq]; exact hs.pad _, e1, fun σ' H' M' x s => fin (rr := .imm .none) x s .non e2 rfl⟩
          · cases e
        · cases e
      · cases e
    · refine .inr ?_
      have start_eq : L2.start N vs = vs.map some ++ List.replicate (N.length - ps.length) none := by unfold L2.start; rw [hl]
      unfold xFn at e
      split at e
      · obtain ⟨⟨c', ρ'⟩, e1, e2⟩ := Option.map_eq_some_iff.mp e
        cases e2
        exact ⟨_, M, O, π, _, ρ', by rw [start_eq]; exact hs.pad _, e1, fun σ' H' M' x s => q H' M' s.live x⟩
      · cases e
end
/-! ### expressions that may raise -/
section
variable {X : Cx} {k : Nat} {f : Addr} {fd : FuncData} {ps : List Str} {g : Fn} {gx : FnX} {cv : Nat → Value} {W : WX} {x : Str} {p pos rpos : Pos} {e : Expr} {es : List Expr} {mr : MR} {me : ME} {xe : MX}
def DEX (X : Cx) (e : Expr) (m : ME) (x : MX) (cv : Nat → Value) (W : WX) : Prop := PE X e fun σ H Q => tE X.K m σ H Q ∨ tX X.K x cv W σ H
theorem dex_of (h : DE X e me) : DEX X e me xNo cv W := PE.imp h fun σ H Q q => by
  rcases q with q | ⟨_, _, _, _, _, _, _, e, _⟩
  · exact q
  · cases e
def allV (as : List AR) : Bool := as.all fun a => match a with
  | .v _ => true
  | .s _ => false
def xCall (gx : FnX) (mr : MR) : MX := fun ρ => match mr ρ with
  | some (as, ρ1) => if allV as = true then match argsOf ρ1 as with
    | some args => (gx args).map fun c => (c, ρ1)
    | none => none
    else none
  | none => none
theorem allV_slots : ∀ {as : List AR}, allV as = true → slotsOf as = []
  | [], _ => rfl
  | .v _ :: as, h => by
    have : allV as = true := h
    show slotsOf as = []
    exact allV_slots this
  | .s _ :: as, h => by cases h
theorem allV_back (ρ : Fm) : ∀ {as : List AR}, allV as = true → backTo ρ as (as.map fun _ => none) = some ρ
  | [], _ => rfl
  | .v _ :: as, h => allV_back ρ (as := as) h
  | .s _ :: as, h => by cases h
theorem dex_call (F : FnOk X.prog X.w X.K X.mg X.base (L2.CX X.prog X.w) k f fd ps (spX X.K ps.length g gx cv)) (hr : Room k X.A) (hg : Gl X x) (hm : X.mg x = some (.ref f)) (hk : PySem.W.keepIn X.K (.ref f) = true) (hb : Binds X.K fd ps []) (tk : Takes X W)
    (ha : DR X (e :: es) mr) (hn : ∀ ρ as ρ', mr ρ = some (as, ρ') → as.length = ps.length) (hdb : (x == ("__debug__" : Str)) = false := by decide) (he : starEach (e :: es) X.env = (false, eval e X.env) :: starEach es X.env := by rfl) (hpl : (PySem.backTo pos (starEach es X.env)).any (·.1) = false := by rfl) :
    DEX X (.Call (.Name x p) (e :: es) [] pos) (mCall g mr) (xCall gx mr) cv W :=
  PE.imp (pe_callS (E := WE W) F hr hg hm hk hb (fun σ => passAt tk σ) ha hdb he hpl) fun σ H Q h => by
    rcases h with h | ⟨ρ, M, O, π, c, ρ', h, e, q⟩
    · obtain ⟨ρ, M, O, π, as, ρ', h, e, q⟩ := tR_call (X := X) hn h
      exact ⟨ρ, M, O, π, as, ρ', h, e, fun vs H' M' x s r => .inl (q vs H' M' x s r)⟩
    · unfold xCall at e
      split at e
      · rename_i as ρ1 e1
        split at e
        · rename_i ha'
          split at e
          · rename_i args e2
            obtain ⟨c', e3, e4⟩ := Option.map_eq_some_iff.mp e
            cases e4
            refine ⟨ρ, M, O, π, as, ρ', h, e1, fun vs H1 M1 x1 s1 r1 => .inr ?_⟩
            have n : nodupB (slotsOf as) = true := by rw [allV_slots ha']; rfl
            refine ⟨M1, _, _, args, c, by rw [Paired.length r1]; exact hn _ _ _ e1, call_start s1 r1 n e2, e3, fun H2 M2 lv x2 => ?_⟩
            obtain ⟨x3, s3⟩ := call_end s1 r1 n (allV_back ρ' ha') lv x2 (fun i ds ei => by
              rw [List.getElem?_map] at ei
              obtain ⟨_, _, z⟩ := Option.map_eq_some_iff.mp ei
              cases z)
            exact q σ H2 M2 (x1.trans x3) s3
          · cases e
        · cases e
      · cases e
def xIfE (mt : MT) (x y : MX) : MX := fun ρ => match mt ρ with
  | some (true, ρ1) => x ρ1
  | some (false, ρ1) => y ρ1
  | none => none
theorem dsx_ret (he : DEX X e me xe cv W) : DSX X (.Return (some e) rpos) (mRet me) xe cv W := PS.imp (ps_ret he) fun D σ H q => by
  rcases q with ⟨ρ, M, O, π, fl, ρ', h, e, q⟩ | q
  · refine .inl ?_
    unfold mRet at e
    split at e
    · rename_i pr ρ1 e1
      split at e
      · rename_i r e2
        cases e
        exact ⟨ρ, M, O, π, pr, _, h, e1, fun v H1 M1 x1 s1 r1 => q v σ H1 M1 x1 s1 (give_ok s1 r1 e2)⟩
      · cases e
    · cases e
  · exact .inr q
end
/-! ### try: .. except X: .. -/
section
variable {X : Cx} {y : Str} {body suite : List Stmt} {b₀ : Stmt} {np pos pos' : Pos} {m n : MS} {x : MX} {cv : Nat → Value}
def mTry (y : Nat) (m : MS) (x : MX) (n : MS) : MS := fun ρ => match m ρ with
  | some r => some r
  | none => match x ρ with
    | some (c, ρ1) => if c = y then n ρ1 else none
    | none => none
theorem ds_try {j : Nat} (hs : X.stack = X.env :: X.outer) (hf : X.env.frame = some X.env.locals) (hc : Names X y (cv j)) (hex : PySem.W.exmOne X.K (cv j) (cv j) = some true)
    (hb : ∀ (W : WX) (pn : List (Addr × Obj)) (xe : Value → Shared → Prop), Takes (X.tr pn xe) W → PassesOwn (model X.prog X.w) X.A X.env xe → DSXs (X.tr pn xe) body m x cv W)
    (hsu : ∀ (a : Addr) (pn : List (Addr × Obj)), DSs (X.suite a pn) (b₀ :: suite) n) :
    DS X (.Try body [.ExceptHandler (some (.Name y np)) none (b₀ :: suite) pos'] [] [] pos) (mTry j m x n) :=
  PS.imp (ps_try_only (Wout := fun _ _ _ _ => False) (tb := fun W => tSX X.K m x cv W) (ts := fun _ _ _ => tS X.K n) hs hf hc takes_none5 hb (fun a oe cls d pn _ _ => hsu a ((a, oe) :: pn))) fun D σ H ⟨ρ, M, O, π, fl, ρ', h, e, q⟩ => by
    unfold mTry at e
    split at e
    · rename_i r e1
      cases e
      exact .inl ⟨ρ, M, O, π, fl, ρ', h, e1, q⟩
    · split at e
      · rename_i c ρ1 e1
        split at e
        · rename_i hy
          subst hy
          exact .inr ⟨ρ, M, O, π, _, ρ1, h, e1, fun σ1 H1 M1 x1 s1 => ⟨true, hex, fun _ _ _ => ⟨ρ1, M1, O, π, fl, ρ', s1, e, q.later (O1 := O) x1⟩, fun z => by cases z⟩⟩
        · cases e
      · cases e
end
theorem fnx_zero {P : Program} {w : World} {K : PySem.W.Frag} {mg : Str → Option Value} {base : Heap} {f : Addr} {fd : FuncData} {ps : List Str} {k : Nat} {cv : Nat → Value} : FnOk P w K mg base (L2.CX P w) k f fd ps (spX K ps.length (fun _ => none) (fun _ => none) cv) :=
  ⟨fun vs H Q E h => by
    rcases h with ⟨M, O, π, args, r, os, hl, _⟩ | ⟨M, O, π, args, c, hl, _⟩
    · exact hl
    · exact hl, fun A outer s H args us vs Q E _ _ _ _ h => by
    rcases h with ⟨M, O, π, as, r, os, _, _, e, _⟩ | ⟨M, O, π, as, c, _, _, e, _⟩
    · cases e
    · cases e⟩
/-- the class itself is what «except» names, if it is raised -/
theorem exm_self {K : PySem.W.Frag} {S : Addr} (h1 : PySem.W.subIn K (.ref S) (.type "BaseException") = some true) (h2 : PySem.W.isClsIn K S = true) (h3 : PySem.W.typeIn K (.ref S) = some (.type "type")) (h4 : PySem.W.subIn K (.ref S) (.ref S) = some true) :
    PySem.W.exmOne K (.ref S) (.ref S) = some true := by
  have h2' : (PySem.W.clsIn K S).isSome = true := h2
  unfold PySem.W.exmOne
  simp [PySem.W.kitCls, h1, h2', h3, h4]
/-! ### the class' __init__ -/
theorem init_ok {P : Program} {w : World} {K : PySem.W.Frag} {mg : Str → Option Value} {base : Heap} {qual : Str} {st : Stmt} {f : Addr} {fd : FuncData} {k : Nat} {pos : Pos} (F : Fun K "__init__" qual st f fd) (S : FnScope ["self"] ["self"] (defScope st)) (hb : defBody st = [.Pass pos]) :
    FnOk P w K mg base CX0 (k + 1) f fd ["self"] spInit :=
  F.ok S (fun vs H Q E h => h.1) fun cdv A outer s H vs Q E hr h => ⟨_, by rw [hb]; exact pss_one ps_pass, h.2⟩
end Vi

namespace Vi
open PySem PySem.Spec PyProof.Rows L2
/-! >> and & 1 -/
def dShr : D → D → Option Sv
  | .int i, .int j => if decide (0 ≤ j) = true then some (.imm (.int (i / 2 ^ j.toNat))) else none
  | _, _ => none
theorem os_shr {X : Cx} : OpS X (rI (fun _ j => 0 ≤ j) fun i j => .int (i / 2 ^ j.toNat)) dShr := by
  intro H M O π ρ σ v1 v2 d1 d2 res Q h r1 r2 e q
  unfold dShr at e
  split at e
  · split at e
    · rename_i hz
      cases e
      cases r1.inI; cases r2.inI
      exact ⟨_, _, rfl, rfl, of_decide_eq_true hz, Post.now q h (.int _)⟩
    · cases e
  · cases e
def dAnd1 : D → D → Option Sv
  | .int i, .int j => if j = 1 then some (.imm (.int (i % 2))) else none
  | _, _ => none
theorem os_and1 {X : Cx} : OpS X (fun x y H Q => ∃ (i : Int) (k : Nat), x = .int i ∧ y = .int (2 ^ k - 1) ∧ Q (.int (i % 2 ^ k)) H) dAnd1 := by
  intro H M O π ρ σ v1 v2 d1 d2 res Q h r1 r2 e q
  unfold dAnd1 at e
  split at e
  · split at e
    · rename_i hz
      subst hz
      cases e
      cases r1.inI; cases r2.inI
      exact ⟨_, 1, rfl, rfl, Post.now q h (.int _)⟩
    · cases e
  · cases e
/-! ### a module's tuple, of tuples too -/
mutual
inductive CD (K : PySem.W.Frag) : V → D → Prop
  | int (i : Int) : CD K (.int i) (.int i)
  | tup {z : Addr} {o : Obj} {its : Array Value} {n : Nat} {xs : List V} {ds : List D} : K.lookup z = some o → o.cls = .type "tuple" → o.data = .seq its n → its.size ≤ sizeLine → Vals xs its.toList → CDs K xs ds → CD K (.ref z) (.tuple ds)
inductive CDs (K : PySem.W.Frag) : List V → List D → Prop
  | nil : CDs K [] []
  | cons {v : V} {vs : List V} {d : D} {ds : List D} : CD K v d → CDs K vs ds → CDs K (v :: vs) (d :: ds)
end
mutual
theorem CD.rep {K : PySem.W.Frag} {H : Hp} {M : Mset} : ∀ {v : V} {d : D}, CD K v d → Rep K H M v d
  | _, _, .int i => .int i
  | _, _, .tup h1 h2 h3 h4 h5 h6 => .tup (.inr ⟨_, _, _, h1, h2, h3, h4, h5⟩) (CDs.rep h6)
theorem CDs.rep {K : PySem.W.Frag} {H : Hp} {M : Mset} : ∀ {vs : List V} {ds : List D}, CDs K vs ds → Reps K H M vs ds
  | _, _, .nil => .nil
  | _, _, .cons h r => .cons (CD.rep h) (CDs.rep r)
end
def ConstD (K : PySem.W.Frag) (mg : Str → Option Value) (x : Str) (d : D) : Prop := ∃ z : Addr, mg x = some (.ref z) ∧ CD K (.ref z) d
theorem de_constD {X : Cx} {x : Str} {d : D} {pos : Pos} (hg : Gl X x) (hc : ConstD X.K X.mg x d) (hd : (x == ("__debug__" : Str)) = false := by decide) : DE X (.Name x pos) (mC d) := by
  obtain ⟨z, h1, h2⟩ := hc
  exact de_c (v := .ref z) (pe_glob hg h1 rfl hd) fun H M => h2.rep
end Vi

/-! list(reversed(x)), x a list -/
namespace RTV
open PySem PySem.Spec PyProof.Rows RT
section
variable {prog : Program} {w : World} {A : Around} {E : Value → Shared → Prop} {s : Shared}
theorem wpAny_extend_rev {R : Result → Shared → Prop} {it l : Addr} {items : Array Value} (hh : A.handled = none) (hit : s.heap.IsRevIter it l ((items.size : Int) - 1)) (hl : s.heap.IsList l items) (hne : l ≠ it) (hn : items.size ≤ sizeLine)
    (S : Addr) (hSi : S ≠ it) (hSl : S ≠ l) (res : Value) (c₀ : Nat) (hS : s.heap.get? S = some { cls := .type "list", data := .seq #[] c₀ })
    (hR : ∀ h' tk acc' c', (∀ b o, b ≠ S → b ≠ it → s.heap.get? b = some o → h'.get? b = some o) → h'.get? S = some { cls := .type "list", dict := none, data := .seq acc' c', slots := #[] } →
      ItemsOf (fun i v => items[items.size - 1 - i]? = some v) acc' items.size → R (.ok (.ret res)) { s with heap := h', toks := tk }) :
    wpAny (model prog w) A.in1 (Builtin.List.listExtendWith (.ref S) (.ref it) res)
      (fun fin s' => match fin with | .done f => R (.ok f) s' | .again c' => c'.quiet = true ∧ codeAny (model prog w) A c' R s') (fun e s' => R (.error e) s') s := by
  have W := (Walks.listRev (prog := prog) (w := w) (A := A.in1) hh it l hne items).toS
  have hSf : S ∉ [it, l] := by simp only [List.mem_cons, List.not_mem_nil, or_false, not_or]; exact ⟨hSi, hSl⟩
  have hT : s.TypeIs (.ref it) "list_reverseiterator" := Heap.IsRevIter.typeIs hit
  have h1 : Builtin.List.listSameRef (.ref S) (.ref it) = false := by simp [Builtin.List.listSameRef, hSi]
  unfold Builtin.List.listExtendWith
  refine wpAny_bind (wpAny_typeOf hT ?_)
  rw [if_neg (by rw [h1]; decide)]
  refine wpAny_bind (wpAny_pyIter_revIter hit ?_)
  refine wpAny_bind (wpAny_holding ?_)
  unfold Builtin.List.listLengthHint
  refine wpAny_bind (wpAny_specialOf hT nolen_lri ?_)
  show wpAny _ A.in1 (specialOf (Value.ref it) (Str.ofString "__length_hint__") >>= _) _ _ _
  refine wpAny_bind (wpAny_specialOf hT hint_lri ?_)
  generalize hid : ("list_reverseiterator.__length_hint__" : String) = id0
  wp_delta
  rw [show splitId id0 = some ("list_reverseiterator", "__length_hint__") from by subst hid; decide +kernel]
  subst hid
  refine wpAny_bind (wpAny_isInstance (b := true) hT (by rw [isSubtype_type]; kernel_rfl) ?_)
  refine wpAny_pure ?_
  rw [if_neg (by decide)]
  have e0 : ((items.size : Nat) : Int) - 1 - ((0 : Nat) : Int) = (items.size : Int) - 1 := by omega
  refine wpAny_pure ⟨plainId_quiet F.plain_extend_loop _, codeAny_extend_loopS W hn S hSf res items.size 0 _ _ _ rfl (Nat.zero_le _) ⟨Nat.zero_le _, by rw [e0]; exact hit, hl⟩ hS (ItemsOf.nil _) fun s' acc' c' hm hS' hacc => ?_⟩
  rw [Moved.eq_with hm]
  exact hR s'.heap s'.toks acc' c' (fun b o hb hbi e => hm.heap b o (fun hmem => by
    rcases List.mem_cons.mp hmem with e' | hmem
    · exact hb e'
    · exact hbi (List.mem_singleton.mp hmem)) e) hS' hacc
theorem call_list_rev {it l : Addr} {items : Array Value} {Q : Value → Shared → Prop} (hh : A.handled = none) (hit : s.heap.IsRevIter it l ((items.size : Int) - 1)) (hl : s.heap.IsList l items) (hne : l ≠ it) (hn : items.size ≤ sizeLine)
    (hQ : ∀ (h' : Heap) (tk : Nat) (acc' : Array Value) (c' : Nat), (∀ b o, b ≠ it → s.heap.get? b = some o → h'.get? b = some o) → h'.get? s.heap.objs.size = some { cls := .type "list", dict := none, data := .seq acc' c', slots := #[] } →
      ItemsOf (fun i v => items[items.size - 1 - i]? = some v) acc' items.size → Q (.ref s.heap.objs.size) { s with heap := h', toks := tk }) :
    wpAny (model prog w) A (call (.type "list") [.ref it]) Q E s := by
  obtain ⟨oi, hoi, _⟩ := id hit
  obtain ⟨ol, hol, _⟩ := id hl
  have hSi : s.heap.objs.size ≠ it := Nat.ne_of_gt (Heap.lt_size hoi)
  have hSl : s.heap.objs.size ≠ l := Nat.ne_of_gt (Heap.lt_size hol)
  refine callType_codes (Q₁ := fun obj s₁ => obj = .ref s.heap.objs.size ∧ s₁ = { s with heap := s.heap.push { cls := .type "list", data := .seq #[] } }) F.called_list (F.typeCall_list_1 _) F.entry_list_init
    (code_list_new _ ⟨rfl, rfl⟩) fun obj s₁ h₁ => ?_
  obtain ⟨rfl, rfl⟩ := h₁
  have hS : (s.heap.push { cls := .type "list", data := .seq #[] }).get? s.heap.objs.size = some { cls := .type "list", data := .seq #[] } := Heap.get?_push_size _ rfl
  have hit1 : (s.heap.push { cls := .type "list", data := .seq #[] }).IsRevIter it l ((items.size : Int) - 1) := hit.at fun o e => Heap.get?_push_of_some _ e
  have hl1 : (s.heap.push { cls := .type "list", data := .seq #[] }).IsList l items := hl.push _
  refine ⟨⟨_, hS, rfl⟩, F.args_list_init_2 _ _, ?_⟩
  show wpAny _ _ (do let old ← Builtin.List.listItems (.ref s.heap.objs.size); Builtin.List.listUpdate (.ref s.heap.objs.size) (fun _ => #[]); letGo old.toList.reverse; Builtin.List.listExtendWith (.ref s.heap.objs.size) (.ref it) .none) _ _ _
  refine wpAny_bind ?_
  unfold Builtin.List.listItems
  refine wpAny_bind (wpAny_seqItems hS rfl (wpAny_pure ?_))
  show wpAny _ _ (updateSeq s.heap.objs.size (fun _ => #[]) >>= fun _ => letGo (#[] : Array Value).toList.reverse >>= fun _ => Builtin.List.listExtendWith (.ref s.heap.objs.size) (.ref it) .none) _ _ _
  refine wpAny_bind (wpAny_updateSeq hS rfl ?_)
  have hS₂ := Heap.get?_update_self (Obj.mapSeq (fun _ => (#[] : Array Value))) hS rfl
  have oth : ∀ b o, b ≠ s.heap.objs.size → (s.heap.push { cls := .type "list", data := .seq #[] }).get? b = some o → ((s.heap.push { cls := .type "list", data := .seq #[] }).update s.heap.objs.size (Obj.mapSeq (fun _ => (#[] : Array Value)))).get? b = some o :=
    fun b o hb e => (Heap.get?_update_other _ _ (Ne.symm hb)).trans e
  refine wpAny_bind (wpAny_letGo ?_)
  have hl2 : ((s.heap.push { cls := .type "list", data := .seq #[] }).update s.heap.objs.size (Obj.mapSeq (fun _ => (#[] : Array Value)))).IsList l items := by
    obtain ⟨o, e1, e2⟩ := id hl1
    exact ⟨o, oth l o (Ne.symm hSl) e1, e2⟩
  refine wpAny_extend_rev (A := A.in1) hh (hit1.at fun o e => oth it o (Ne.symm hSi) e) hl2 hne hn _ hSi hSl .none _ hS₂ fun h' tk acc' c' hk hS' hacc => ?_
  exact ⟨rfl, hQ h' tk acc' c' (fun b o hb e => hk b o (Nat.ne_of_lt (Heap.lt_size e)) hb (oth b o (Nat.ne_of_lt (Heap.lt_size e)) (Heap.get?_push_of_some _ e))) hS' hacc⟩
end
end RTV
namespace L2
open PySem PySem.Spec PyProof.Rows
def tLstRev (K : PySem.W.Frag) (te : TE) : TE := fun σ H Q => te σ H fun v H1 => ∃ (a : Addr) (xs : List V), v = .ref a ∧ SqL K H1 a xs ∧ ∀ q, H1 q = none → Q (.ref q) (upd H1 q (.lst xs.reverse))
theorem pe_lstRev {X : Cx} {e : Expr} {te : TE} {p p2 pos pos2 : Pos} (hc : X.calm = true) (hg : Gl X "list") (hm : X.mg "list" = none) (hg2 : Gl X "reversed") (hm2 : X.mg "reversed" = none) (he : PE X e te)
    (hs : starEach [e] X.env = (false, eval e X.env) :: starEach [] X.env := by rfl)
    (hs2 : starEach [.Call (.Name "reversed" p2) [e] [] pos2] X.env = (false, eval (.Call (.Name "reversed" p2) [e] [] pos2) X.env) :: starEach [] X.env := by rfl) :
    PE X (.Call (.Name "list" p) [.Call (.Name "reversed" p2) [e] [] pos2] [] pos) (tLstRev X.K te) := by
  refine ⟨fun pins s σ H Q I h => ?_⟩
  refine Call_ (ld_blt I hg hm PyProof.Rows.boot_list (PyProof.Rows.callWith_type1 (args_cons (Call_ (ld_blt I hg2 hm2 PyProof.Rows.boot_reversed (PyProof.Rows.callWith_type1 (args_cons (thn (he.run pins s σ H _ I h) fun u s1 ⟨v, H1, I1, r1, q1⟩ => args_nil ?_) hs) hs rfl))) hs2) hs2 rfl))
  obtain ⟨a, xs, ev, hq, q⟩ := q1
  subst ev
  obtain rfl : u = Value.ref a := r1
  obtain ⟨its, rv, p', hz⟩ := I1.list hq
  refine call_reversed_list p'.isList (args_nil ?_)
  have k0 : ∀ b o, s1.heap.get? b = some o → (s1.heap.push (revObj a ((its.toArray.size : Int) - 1))).get? b = some o := fun b o e => Heap.get?_push_of_some _ e
  have I2 : Inv X pins σ H1 { s1 with heap := s1.heap.push (revObj a ((its.toArray.size : Int) - 1)) } := I1.kept (t' := s1.toks) k0
  have hl := p'.isList
  obtain ⟨ol, hol, _⟩ := id hl
  have hne : a ≠ s1.heap.objs.size := Nat.ne_of_lt (Heap.lt_size hol)
  have hn : its.toArray.size ≤ sizeLine := by rw [List.size_toArray, ← rv.length]; exact hz
  refine RTV.call_list_rev (s := { s1 with heap := s1.heap.push (revObj a ((its.toArray.size : Int) - 1)) }) (I1.ok.hd hc) ⟨_, Heap.get?_push_size _ rfl, rfl, rfl⟩ (hl.push _) hne hn fun h' tk acc c' hk hS hi => ?_
  have hN : (s1.heap.push (revObj a ((its.toArray.size : Int) - 1))).objs.size = s1.heap.objs.size + 1 := by simp [Heap.push]
  have hfr : H1 (s1.heap.push (revObj a ((its.toArray.size : Int) - 1))).objs.size = none := I2.hok.fresh (Nat.le_refl _)
  have I3 : Inv X pins σ (upd H1 (s1.heap.push (revObj a ((its.toArray.size : Int) - 1))).objs.size (.lst xs.reverse)) { s1 with heap := (s1.heap.push (revObj a ((its.toArray.size : Int) - 1))).push { cls := .type "list", dict := none, data := .seq acc c', slots := #[] }, toks := tk } :=
    I2.laid (t' := tk) (fun c o e => Heap.get?_push_of_some _ e) (Nat.le_refl _) (show ObjOk X.prog X.w _ _ _ (.lst xs.reverse) from ⟨by rw [List.length_reverse]; exact hz, acc.toList, c', RT.vals_rev rv hi, by rw [Array.toArray_toList]; exact Heap.get?_push_size _ rfl⟩)
  obtain ⟨f0, f1, f2, f3, f4, f5⟩ := I1.fpOk (H' := upd H1 (s1.heap.push (revObj a ((its.toArray.size : Int) - 1))).objs.size (.lst xs.reverse)) (b := s1.heap.objs.size) (Nat.le_refl _) (by rw [upd_ne (by rw [hN]; exact Nat.ne_of_lt (Nat.lt_succ_self _))]; exact I1.hok.fresh (Nat.le_refl _))
  have I4 := I3.turned (t' := tk) (h' := h') (fun b o hb e => by
    rcases Heap.get?_push_cases e with ⟨rfl, rfl⟩ | e2
    · exact hS
    · exact hk b o hb e2) f0 f1 f3 f4 f5
  exact ⟨.ref _, _, I4, rfl, q _ hfr⟩
end L2
namespace Vi
open PySem PySem.Spec PyProof.Rows L2
def clsB : Stmt → List Stmt
  | .ClassDef (body := b) .. => b
  | _ => []
def mLRev (me : ME) : ME := fun ρ => match me ρ with
  | some (pr, ρ1) => match peek ρ1 pr with
    | some (.list ds) => some (.val (.own .loc ds.reverse), ρ1)
    | _ => none
  | none => none
theorem de_lrev {X : Cx} {e : Expr} {me : ME} {p p2 pos pos2 : Pos} (hc : X.calm = true) (hg : Gl X "list") (hm : X.mg "list" = none) (hg2 : Gl X "reversed") (hm2 : X.mg "reversed" = none) (he : DE X e me)
    (hs : starEach [e] X.env = (false, eval e X.env) :: starEach [] X.env := by rfl)
    (hs2 : starEach [.Call (.Name "reversed" p2) [e] [] pos2] X.env = (false, eval (.Call (.Name "reversed" p2) [e] [] pos2) X.env) :: starEach [] X.env := by rfl) :
    DE X (.Call (.Name "list" p) [.Call (.Name "reversed" p2) [e] [] pos2] [] pos) (mLRev me) :=
  PE.imp (pe_lstRev hc hg hm hg2 hm2 he hs hs2) fun σ H Q ⟨ρ, M, O, π, pr, ρ', h, e, q⟩ => by
    unfold mLRev at e
    split at e
    · rename_i pr1 ρ1 e1
      split at e
      · rename_i ds e2
        cases e
        refine ⟨ρ, M, O, π, pr1, _, h, e1, fun v H1 M1 x1 s1 r1 => ?_⟩
        obtain ⟨a, vs, rfl, rd, rs⟩ := (peek_vw s1 r1 e2).inL
        exact ⟨a, vs, rfl, .inl rd, fun p hp => Post.lst (Q := Q) (fun v H' M' x3 s3 r3 => q v H' M' (x1.trans x3) s3 r3) s1 rs.reverse hp⟩
      · cases e
    · cases e
end Vi

namespace Vi
open PySem PySem.Spec PyProof.Rows L2
/-! a bool less a bool -/
def b2n (b : Bool) : Int := if b = true then 1 else 0
theorem op_subB {X : Cx} : OpR X (binaryOp .Sub) (fun x y H Q => (∃ p q : Bool, x = .bl p ∧ y = .bl q ∧ Q (.int (b2n p - b2n q)) H) ∨ rI0 (fun i j => .int (i - j)) x y H Q) := by
  intro pins s σ H x y v u Q I rx ry h
  rcases h with ⟨p, q, rfl, rfl, hq⟩ | h
  · cases (show v = Value.bool p from rx)
    cases (show u = Value.bool q from ry)
    refine sub_bool ?_
    refine ⟨.int (b2n p - b2n q), H, I.tok _, ⟨s.toks, ?_⟩, hq⟩
    cases p <;> cases q <;> rfl
  · exact op_sub pins s σ H x y v u Q I rx ry h
def dSubB : D → D → Option Sv
  | .bool p, .bool q => some (.imm (.int (b2n p - b2n q)))
  | a, b => dSub a b
theorem os_subB {X : Cx} : OpS X (fun x y H Q => (∃ p q : Bool, x = .bl p ∧ y = .bl q ∧ Q (.int (b2n p - b2n q)) H) ∨ rI0 (fun i j => .int (i - j)) x y H Q) dSubB := by
  intro H M O π ρ σ v1 v2 d1 d2 res Q h r1 r2 e q
  unfold dSubB at e
  split at e
  · cases e
    cases r1 with
    | bl p => cases r2 with
      | bl q' => exact .inl ⟨_, _, rfl, rfl, Post.now q h (.int _)⟩
  · exact .inr (os_sub h r1 r2 e q)
/-! three names at once, the third a fresh list -/
section
variable {X : Cx} {D : Ends}
def mPar3O (i j k : Nat) (ma mb mc : ME) : MS := fun ρ => match ma ρ with
  | some (p1, ρ1) => match frz ρ1 p1 with
    | some (d1, ρ2) => match mb ρ2 with
      | some (p2, ρ3) => match frz ρ3 p2 with
        | some (d2, ρ4) => match mc ρ4 with
          | some (p3, ρ5) => match take ρ5 p3 with
            | some (s3, ρ6) => if fine s3 = true then some (.next, ((ρ6.set i (some (.imm d1))).set j (some (.imm d2))).set k (some s3)) else none
            | none => none
          | none => none
        | none => none
      | none => none
    | none => none
  | none => none
theorem ds_par3O {st : Stmt} {a b c : Expr} {ma mb mc : ME} {i j k : Nat} (h : ∀ ta, PA X [a, b, c] ta → PS X st (tPar3 i j k ta)) (ha : DE X a ma) (hb : DE X b mb) (hcc : DE X c mc) (hs : starEach [a, b, c] X.env = (false, eval a X.env) :: starEach [b, c] X.env := by rfl) (hs2 : starEach [b, c] X.env = (false, eval b X.env) :: starEach [c] X.env := by rfl) (hs3 : starEach [c] X.env = (false, eval c X.env) :: starEach [] X.env := by rfl) : DS X st (mPar3O i j k ma mb mc) :=
  PS.imp (h _ (pa_cons ha (pa_cons hb (pa_cons hcc pa_nil hs3) hs2) hs)) fun D σ H ⟨ρ, M, O, π, fl, ρ', h, e, q⟩ => by
    unfold mPar3O at e
    split at e
    · rename_i p1 ρ1 e1
      split at e
      · rename_i d1 ρ2 e2
        split at e
        · rename_i p2 ρ3 e3
          split at e
          · rename_i d2 ρ4 e4
            split at e
            · rename_i p3 ρ5 e5
              split at e
              · rename_i s3 ρ6 e6
                split at e
                · rename_i hz
                  cases e
                  refine ⟨ρ, M, O, π, p1, ρ1, h, e1, fun v1 H1 M1 x1 t1 r1 => ?_⟩
                  obtain ⟨M2, x2, t2, r2⟩ := frz_ok t1 r1 e2
                  refine ⟨ρ2, M2, O, π, p2, ρ3, t2, e3, fun v2 H3 M3 x3 t3 r3 => ?_⟩
                  obtain ⟨M4, x4, t4, r4⟩ := frz_ok t3 r3 e4
                  refine ⟨ρ4, M4, O, π, p3, ρ5, t4, e5, fun v3 H5 M5 x5 t5 r5 => ⟨v1, v2, v3, rfl, ?_⟩⟩
                  obtain ⟨M6, x6, t6, r6⟩ := take_ok t5 r5 e6
                  have y1 := r2.tr (((x3.trans x4).trans x5).trans x6).tr
                  have y2 := r4.tr (x5.trans x6).tr
                  have z1 := RP.set (s1 := .imm d1) (i := i) y1 r6 t6.len
                  have t7 := t6.setImm y1 (i := i)
                  have z2 := RP.set (s1 := .imm d2) (i := j) y2 z1 t7.len
                  have t8 := t7.setImm y2 (i := j)
                  exact q _ H5 M6 ((((((x1.trans x2).trans x3).trans x4).trans x5).trans x6)) (t8.setVal z2 (fine_ne hz) k)
                · cases e
              · cases e
            · cases e
          · cases e
        · cases e
      · cases e
    · cases e
end
end Vi

/-! zip of a tuple and a list -/
namespace RZ
open PySem PySem.Spec PyProof.Rows L2
abbrev zmH1 (h : Heap) (l1 : Addr) : Heap := h.push { cls := .type "tuple_iterator", data := .fields #[.ref l1, .int 0 0] }
abbrev zmH2 (h : Heap) (l1 l2 : Addr) : Heap := (zmH1 h l1).push { cls := .type "list_iterator", data := .fields #[.ref l2, .int 0 0] }
abbrev zmH3 (h : Heap) (l1 l2 : Addr) : Heap := (zmH2 h l1 l2).push { cls := .type "tuple", data := .seq #[.ref h.objs.size, .ref (zmH1 h l1).objs.size] }
abbrev zmH4 (h : Heap) (l1 l2 : Addr) : Heap := (zmH3 h l1 l2).push { cls := .type "tuple", data := .seq #[.none, .none] }
abbrev zmH5 (h : Heap) (l1 l2 : Addr) : Heap := (zmH4 h l1 l2).push { cls := .type "zip", data := .fields #[.none, .bool false, .bool false, .ref (zmH2 h l1 l2).objs.size, .ref (zmH3 h l1 l2).objs.size] }
theorem meets_zipM_new (l1 l2 : Addr) (xs ys : Array Value) :
    Meets (Builtin.«zip.__new__» ⟨[.type "zip", .ref l1, .ref l2], []⟩) (fun _ R s => s.heap.IsTuple l1 xs ∧ s.heap.IsList l2 ys ∧
      R (.ok (.ret (.ref (zmH4 s.heap l1 l2).objs.size))) { s with heap := zmH5 s.heap l1 l2 }) :=
  .of_wp fun prog w A R s h => by
    obtain ⟨hp, g, d, tk, os⟩ := s; obtain ⟨hl1, hl2, h⟩ := h
    have hsub := sub_zip
    have hL1 : Heap.IsTuple (Shared.heap ⟨hp, g, d, tk, os⟩) l1 xs := hl1
    have hL2 : Heap.IsList (Shared.heap ⟨hp.push { cls := .type "tuple_iterator", data := .fields #[.ref l1, .int 0 0] }, g, d, tk, os⟩) l2 ys := Heap.IsList.push hl2 _
    wp_walk using wpAny_pyIter_tuple hL1, wpAny_pyIter_list hL2
    exact ⟨_, rfl, h⟩
section
variable {prog : Program} {w : World} {A : Around} {E : Value → Shared → Prop} {s : Shared}
theorem call_zipM {l1 l2 : Addr} {xs ys : Array Value} {Q : Value → Shared → Prop} (hl1 : s.heap.IsTuple l1 xs) (hl2 : s.heap.IsList l2 ys)
    (h : ∀ h', IsZip h' (s.heap.objs.size + 4) (s.heap.objs.size + 2) (s.heap.objs.size + 3) .none → IsPair h' (s.heap.objs.size + 2) (.ref s.heap.objs.size) (.ref (s.heap.objs.size + 1)) →
      IsPair h' (s.heap.objs.size + 3) .none .none → h'.IsTupleIter s.heap.objs.size l1 0 → h'.IsListIter (s.heap.objs.size + 1) l2 0 →
      (∀ c o, s.heap.get? c = some o → h'.get? c = some o) → Q (.ref (s.heap.objs.size + 4)) { s with heap := h' }) :
    wpAny (model prog w) A (call (.type "zip") [.ref l1, .ref l2]) Q E s := by
  refine callType_new F.called_zip (by decide) (F.typeCall_zip_2 _ _) (F.newCall_zip_2 _ _) (fun obj => F.args_object_init_3 obj _ _) F.entry_zip_new
    (meets_zipM_new l1 l2 xs ys) ⟨hl1, hl2, ?_⟩
  have z1 : (zmH1 s.heap l1).objs.size = s.heap.objs.size + 1 := Heap.size_push ..
  have z2 : (zmH2 s.heap l1 l2).objs.size = s.heap.objs.size + 2 := by rw [Heap.size_push, z1]
  have z3 : (zmH3 s.heap l1 l2).objs.size = s.heap.objs.size + 3 := by rw [Heap.size_push, z2]
  have z4 : (zmH4 s.heap l1 l2).objs.size = s.heap.objs.size + 4 := by rw [Heap.size_push, z3]
  have g5 : (zmH5 s.heap l1 l2).get? (zmH4 s.heap l1 l2).objs.size = some _ := Heap.get?_push_size _ rfl
  have g4 : (zmH5 s.heap l1 l2).get? (zmH3 s.heap l1 l2).objs.size = some _ := Heap.get?_push_of_some _ (Heap.get?_push_size _ rfl)
  have g3 : (zmH5 s.heap l1 l2).get? (zmH2 s.heap l1 l2).objs.size = some _ := Heap.get?_push_of_some _ (Heap.get?_push_of_some _ (Heap.get?_push_size _ rfl))
  have g2 : (zmH5 s.heap l1 l2).get? (zmH1 s.heap l1).objs.size = some _ := Heap.get?_push_of_some _ (Heap.get?_push_of_some _ (Heap.get?_push_of_some _ (Heap.get?_push_size _ rfl)))
  have g1 : (zmH5 s.heap l1 l2).get? s.heap.objs.size = some _ := Heap.get?_push_of_some _ (Heap.get?_push_of_some _ (Heap.get?_push_of_some _ (Heap.get?_push_of_some _ (Heap.get?_push_size _ rfl))))
  show _ ∧ _
  rw [z2, z3, z4] at g5
  rw [z1, z2] at g3
  rw [z3] at g4
  rw [z1] at g2
  rw [z4]
  exact ⟨⟨_, g5, rfl⟩, h _ g5 g3 g4 ⟨_, g1, rfl, rfl⟩ ⟨_, g2, rfl, rfl⟩ fun c o x =>
    Heap.get?_push_of_some _ (Heap.get?_push_of_some _ (Heap.get?_push_of_some _ (Heap.get?_push_of_some _ (Heap.get?_push_of_some _ x))))⟩
end
/-- the tuple at a and the list at b as they stand at each turn, the items in new pairs -/
def ItzM (K : PySem.W.Frag) (a b : Addr) : It :=
  ⟨fun i H => ∃ (xs ys : List V) (x y : V), SqT K H a xs ∧ SqL K H b ys ∧ xs[i]? = some x ∧ ys[i]? = some y,
    fun i H v H' => ∃ T x y, v = .ref T ∧ H T = none ∧ H' = upd H T (.tup [x, y]) ∧ (∀ xs, SqT K H a xs → xs[i]? = some x) ∧ ∀ ys, SqL K H b ys → ys[i]? = some y,
    fun i H => ∃ xs ys : List V, SqT K H a xs ∧ SqL K H b ys ∧ (i = xs.length ∨ i = ys.length) ∧ i ≤ xs.length ∧ i ≤ ys.length⟩
theorem turn_zipM {P : Program} {w : World} {K : PySem.W.Frag} {elts : List Expr} {kk : Nat} {tpos : Pos} {a b z TI TO i1 i2 : Addr} (S : ZipSep2 z TI TO i1 i2 [i1, a] [i2, b]) (ha : a ≠ i1) (hb : b ≠ i2) :
    Turn P w K (.Tuple elts kk tpos) (ItzM K a b) [z, TI, TO, i1, i2] z (fun i h => IsZip h z TI TO .none ∧ IsPair h TI (.ref i1) (.ref i2) ∧ (∃ x y, IsPair h TO x y) ∧ h.IsTupleIter i1 a i ∧ h.IsListIter i2 b i) where
  mem := by simp
  obj := fun i h st c hc => by
    obtain ⟨hz, hTI, ⟨x, y, hTO⟩, ⟨o1, e1, _, d1⟩, ⟨o2, e2, _, d2⟩⟩ := st
    have e' : c = z ∨ c = TI ∨ c = TO ∨ c = i1 ∨ c = i2 := by simpa using hc
    rcases e' with q | q | q | q | q
    · rw [q]; exact ⟨_, hz, fun v q => nomatch q⟩
    · rw [q]; exact ⟨_, hTI, fun v q => nomatch q⟩
    · rw [q]; exact ⟨_, hTO, fun v q => nomatch q⟩
    · rw [q]; exact ⟨o1, e1, fun v q => by rw [d1] at q; cases q⟩
    · rw [q]; exact ⟨o2, e2, fun v q => by rw [d2] at q; cases q⟩
  keep := fun i h h' st k => by
    obtain ⟨hz, hTI, ⟨x, y, hTO⟩, ⟨o1, e1, c1, d1⟩, ⟨o2, e2, c2, d2⟩⟩ := st
    exact ⟨k z (by simp) _ hz, k TI (by simp) _ hTI, ⟨x, y, k TO (by simp) _ hTO⟩, ⟨o1, k i1 (by simp) _ e1, c1, d1⟩, ⟨o2, k i2 (by simp) _ e2, c2, d2⟩⟩
  item := by
    intro X hP hw hK hc i pins s σ H E I hf st hg
    subst hP hw hK
    obtain ⟨hz, hTI, ⟨x0, y0, hTO⟩, h1, h2⟩ := st
    obtain ⟨xs, ys, x, y, hqx, hqy, hx, hy⟩ := hg
    obtain ⟨its, rv, p, _⟩ := I.tuple hqx
    obtain ⟨its2, rv2, p2, _⟩ := I.list hqy
    have hzl : z < s.heap.objs.size := Heap.lt_size hz
    have l1 : i < its.toArray.size := by have := rv.length; have := (List.getElem?_eq_some_iff.mp hx).1; simp; omega
    have l2 : i < its2.toArray.size := by have := rv2.length; have := (List.getElem?_eq_some_iff.mp hy).1; simp; omega
    have hh : X.A.in1.handled = none := I.ok.hd hc
    refine wpAny_pyNext_zipD2_item S (Draws.tuple (A := X.A.in1) hh i1 a ha its.toArray) (Draws.list (A := X.A.in1) hh i2 b hb its2.toArray) hz hTI hTO ⟨h1, p⟩ ⟨h2, p2.isList⟩ l1 l2 fun u u2 h' tk y1 y2 z' TO' st1 st2 hT hsz hk => ?_
    obtain ⟨v1, hu, ru⟩ := rv.get hx
    obtain ⟨v2, hu2, ru2⟩ := rv2.get hy
    have e1 : v1 = u := by
      have : its.toArray[i]? = some v1 := by simpa using hu
      rw [this] at y1; injection y1
    have e2 : v2 = u2 := by
      have : its2.toArray[i]? = some v2 := by simpa using hu2
      rw [this] at y2; injection y2
    subst e1 e2
    refine ⟨_, rfl, wpAny_letOwnedTupleGo_zip (s := { s with heap := h', toks := tk }) z' fun h'' z'' sb => ?_⟩
    have hT2 : h''.get? s.heap.objs.size = some { cls := .type "tuple", data := .seq #[v1, v2] } := (sb.2 _ (Nat.ne_of_gt hzl)).trans hT
    have new : ObjOk X.prog X.w (upd H s.heap.objs.size (.tup [x, y])) h'' s.heap.objs.size (.tup [x, y]) :=
      ⟨by show 2 ≤ sizeLine; decide, [v1, v2], .cons ru (.cons ru2 .nil), ⟨_, hT2, rfl, _, rfl⟩⟩
    have I1 : Inv X pins σ (upd H s.heap.objs.size (.tup [x, y])) { s with heap := h'', toks := tk } :=
      I.turnedNew (t' := tk) (ch := [z, TI, TO, i1, i2]) (fun c o hb q => (sb.2 c (fun q' => hb (by simp [q']))).trans (hk c o (fun q' => hb (by simp [q'])) (fun q' => hb (by simp [q'])) (fun q' => hb (by simp [q'])) (fun q' => hb (by simp [q'])) q)) hf (Nat.le_refl _) new
    obtain ⟨o1, a1, c1, d1⟩ := st1.1
    obtain ⟨o2, a2, c2, d2⟩ := st2.1
    refine ⟨.ref s.heap.objs.size, _, I1, rfl, ⟨_, x, y, rfl, I.hok.fresh (Nat.le_refl _), rfl, fun l hl => by rw [I.tuple_inj hl hqx]; exact hx, fun l hl => by rw [I.list_inj hl hqy]; exact hy⟩, ⟨z'', ?_, ⟨v1, v2, ?_⟩, ⟨o1, ?_, c1, d1⟩, ⟨o2, ?_, c2, d2⟩⟩, fun c hcm => ?_⟩
    · exact (sb.2 _ S.TIz).trans (hk _ _ S.TIz S.TITO S.TIi1 S.TIi2 hTI)
    · exact (sb.2 _ S.TOz).trans TO'
    · exact (sb.2 _ (Ne.symm S.zi1)).trans a1
    · exact (sb.2 _ (Ne.symm S.zi2)).trans a2
    · have hlt : c < s.heap.objs.size := by
        have e' : c = z ∨ c = TI ∨ c = TO ∨ c = i1 ∨ c = i2 := by simpa using hcm
        rcases e' with q | q | q | q | q
        · rw [q]; exact hzl
        · rw [q]; exact Heap.lt_size hTI
        · rw [q]; exact Heap.lt_size hTO
        · rw [q]; obtain ⟨_, e1, _⟩ := h1; exact Heap.lt_size e1
        · rw [q]; obtain ⟨_, e2, _⟩ := h2; exact Heap.lt_size e2
      rw [upd_ne (Nat.ne_of_lt hlt)]
      exact (hf c hcm).1
  done := by
    intro X hP hw hK hc i pins s σ H E I hf st hg
    subst hP hw hK
    obtain ⟨hz, hTI, ⟨x0, y0, hTO⟩, h1, h2⟩ := st
    obtain ⟨xs, ys, hqx, hqy, hend, hle1, hle2⟩ := hg
    obtain ⟨its, rv, p, _⟩ := I.tuple hqx
    obtain ⟨its2, rv2, p2, _⟩ := I.list hqy
    have l1 := rv.length
    have l2 := rv2.length
    have hh : X.A.in1.handled = none := I.ok.hd hc
    refine wpAny_pyNext_zipD2_end S (Draws.tuple (A := X.A.in1) hh i1 a ha its.toArray) (Draws.list (A := X.A.in1) hh i2 b hb its2.toArray) hz hTI hTO ⟨h1, p⟩ ⟨h2, p2.isList⟩ (by simp; omega) (by simp; omega) (by simp; omega) fun h' tk hk => ?_
    exact ⟨rfl, I.turnedL (t' := tk) (ch := [z, TI, TO, i1, i2]) (fun c o hb q => hk c o (fun q' => hb (by simp [q'])) (fun q' => hb (by simp [q'])) (fun q' => hb (by simp [q'])) (fun q' => hb (by simp [q'])) q) hf⟩
  self := fun A i s Q E st h => wpAny_pyIter_zip st.1 h
end RZ
namespace RZ
open PySem PySem.Spec PyProof.Rows L2
theorem zip_sep {n a b : Nat} (la : a < n) (lb : b < n) : ZipSep2 (n + 4) (n + 2) (n + 3) n (n + 1) [n, a] [n + 1, b] where
  TIz := fun h => by have h' : (n + 2 : Nat) = n + 4 := h; omega
  TOz := fun h => by have h' : (n + 3 : Nat) = n + 4 := h; omega
  TITO := fun h => by have h' : (n + 2 : Nat) = n + 3 := h; omega
  TIi1 := fun h => by have h' : (n + 2 : Nat) = n := h; omega
  mem1 := List.mem_cons_self ..
  zf1 := fun h => by
    rcases List.mem_cons.mp h with h | h
    · have h' : (n + 4 : Nat) = n := h; omega
    · have h' : (n + 4 : Nat) = a := List.mem_singleton.mp h; omega
  Tf1 := fun h => by
    rcases List.mem_cons.mp h with h | h
    · have h' : (n + 3 : Nat) = n := h; omega
    · have h' : (n + 3 : Nat) = a := List.mem_singleton.mp h; omega
  TIi2 := fun h => by have h' : (n + 2 : Nat) = n + 1 := h; omega
  mem2 := List.mem_cons_self ..
  zf2 := fun h => by
    rcases List.mem_cons.mp h with h | h
    · have h' : (n + 4 : Nat) = n + 1 := h; omega
    · have h' : (n + 4 : Nat) = b := List.mem_singleton.mp h; omega
  Tf2 := fun h => by
    rcases List.mem_cons.mp h with h | h
    · have h' : (n + 3 : Nat) = n + 1 := h; omega
    · have h' : (n + 3 : Nat) = b := List.mem_singleton.mp h; omega
  sep1_2 := fun h => by
    rcases List.mem_cons.mp h with h | h
    · have h' : (n : Nat) = n + 1 := h; omega
    · have h' : (n : Nat) = b := List.mem_singleton.mp h; omega
  sep2_1 := fun h => by
    rcases List.mem_cons.mp h with h | h
    · have h' : (n + 1 : Nat) = n := h; omega
    · have h' : (n + 1 : Nat) = a := List.mem_singleton.mp h; omega
def iZipM (K : PySem.W.Frag) (ta : TA) : TI := fun σ H R => ta σ H fun vs H1 => ∃ a b xs ys, vs = [.ref a, .ref b] ∧ SqT K H1 a xs ∧ SqL K H1 b ys ∧ R (ItzM K a b) H1
theorem pi_zipM {X : Cx} {e e2 : Expr} {ta : TA} {p pos tpos : Pos} {elts : List Expr} {kk : Nat} (hg : Gl X "zip") (hm : X.mg "zip" = none) (ha : PA X [e, e2] ta)
    (hs : starEach [e, e2] X.env = (false, eval e X.env) :: starEach [e2] X.env := by rfl) (hpl : (backTo pos (starEach [e2] X.env)).any (·.1) = false := by rfl) :
    PI X (.Tuple elts kk tpos) (.Call (.Name "zip" p) [e, e2] [] pos) (iZipM X.K ta) := by
  refine ⟨fun pins s σ H R I h => ?_⟩
  refine Call_ (ld_blt I hg hm PyProof.Rows.boot_zip (PyProof.Rows.callWith_type1 (thn (ha.run pos pins s σ H _ I h) fun us s1 ⟨vs, H1, I1, r1, q1⟩ => ?_) hs hpl))
  obtain ⟨a, b, xs, ys, ex, hqx, hqy, q⟩ := q1
  subst ex
  cases r1 with
  | cons r rr =>
    cases rr with
    | cons r' rr =>
      cases rr
      cases r
      cases r'
      obtain ⟨its, rv, p1, _⟩ := I1.tuple hqx
      obtain ⟨its2, rv2, p2, _⟩ := I1.list hqy
      obtain ⟨o1, ho1, _⟩ := id p1
      have la : a < s1.heap.objs.size := Heap.lt_size ho1
      have lb : b < s1.heap.objs.size := p2.lt
      have S := zip_sep (n := s1.heap.objs.size) la lb
      refine call_zipM (show s1.heap.IsTuple a its.toArray from p1) p2.isList fun h' hz hTI hTO h1 h2 hk => wpAny_pyIter_zip hz ?_
      have I2 : Inv X pins σ H1 { s1 with heap := h' } := I1.kept (t' := s1.toks) hk
      refine ⟨s1.heap.objs.size + 4, [s1.heap.objs.size + 4, s1.heap.objs.size + 2, s1.heap.objs.size + 3, s1.heap.objs.size, s1.heap.objs.size + 1], _, _, H1, rfl, I2, turn_zipM S (Nat.ne_of_lt la) (Nat.ne_of_lt (Nat.lt_succ_of_lt lb)), ⟨hz, hTI, ⟨_, _, hTO⟩, h1, h2⟩, fun c hcm => ?_, q⟩
      have hle : s1.heap.objs.size ≤ c := by
        simp only [List.mem_cons, List.not_mem_nil, or_false] at hcm
        rcases hcm with z | z | z | z | z
        · rw [z]; exact Nat.le_add_right _ _
        · rw [z]; exact Nat.le_add_right _ _
        · rw [z]; exact Nat.le_add_right _ _
        · rw [z]; exact Nat.le_refl _
        · rw [z]; exact Nat.le_add_right _ _
      exact I1.fpOk hle (I1.hok.fresh hle)
end RZ
namespace Vi
open PySem PySem.Spec PyProof.Rows L2
theorem src_zipM {K : PySem.W.Frag} {H0 : Hp} {M0 : Mset} {a b : Addr} {vs ws : List V} {xs ys : List D} (h : TupAt K H0 M0 a vs) (r : Reps K H0 M0 vs xs) (h2 : Rd H0 b (.lst ws)) (n2 : ¬ M0 b) (r2 : Reps K H0 M0 ws ys) : Src K (RZ.ItzM K a b) (zipD xs ys) H0 M0 := by
  refine ⟨fun H M l i hi => ?_, fun H M l => ⟨vs, ws, tupAt_lat h l, .inl (l b _ h2 n2).1, ?_⟩, fun H M l i d x H' ed y => ?_⟩
  · rw [zipD_len, ← r.length, ← r2.length] at hi
    have h1 : i < vs.length := by omega
    have h3 : i < ws.length := by omega
    exact ⟨vs, ws, vs[i], ws[i], tupAt_lat h l, .inl (l b _ h2 n2).1, by simp [h1], by simp [h3]⟩
  · rw [zipD_len, ← r.length, ← r2.length]; omega
  · obtain ⟨p, q, e1, e2, rfl⟩ := zipD_get ed
    obtain ⟨v, hv, rv⟩ := r.get e1
    obtain ⟨w, hw, rw'⟩ := r2.get e2
    obtain ⟨T, vx, vy, rfl, hT, rfl, f1, f2⟩ := y
    have g1 := f1 vs (tupAt_lat h l)
    have g2 := f2 ws (.inl (l b _ h2 n2).1)
    rw [hv] at g1; cases g1
    rw [hw] at g2; cases g2
    exact .inr ⟨T, _, _, rfl, hT, rfl, rfl, .cons (rv.tr l) (.cons (rw'.tr l) .nil)⟩
def mIZipM (ma : MA) : MI := fun ρ => match ma ρ with
  | some ([.tuple xs, .list ys], ρ1) => some (zipD xs ys, ρ1)
  | _ => none
theorem di_zipM {X : Cx} {a b : Expr} {ma : MA} {p pos tpos : Pos} {elts : List Expr} {kk : Nat} (hg : Gl X "zip") (hm : X.mg "zip" = none) (ha : DA X [a, b] ma)
    (hs : starEach [a, b] X.env = (false, eval a X.env) :: starEach [b] X.env := by rfl) (hpl : (PySem.backTo pos (starEach [b] X.env)).any (·.1) = false := by rfl) : DI X (.Tuple elts kk tpos) (.Call (.Name "zip" p) [a, b] [] pos) (mIZipM ma) :=
  PI.imp (RZ.pi_zipM hg hm ha hs hpl) fun σ H R ⟨ρ, M, O, π, ds, ρ', h, e, q⟩ => by
    unfold mIZipM at e
    split at e
    · rename_i xs ys ρ1 e1
      cases e
      refine ⟨ρ, M, O, π, _, _, h, e1, fun vs H1 M1 x1 s1 r1 => ?_⟩
      cases r1 with
      | cons rv rr =>
        cases rr with
        | cons rw' rr =>
          cases rr
          cases rv with
          | tup hr rr => cases rw' with
            | lst hr2 n2 rr2 => exact ⟨_, _, _, _, rfl, hr.sq, .inl hr2, q _ H1 M1 x1 s1 (src_zipM hr rr hr2 n2 rr2)⟩
    · cases e
end Vi

namespace Vi
open PySem PySem.Spec PyProof.Rows L2
/-! ### a dict that groups: what stands under a key is a list that the dict alone holds -/
structure Gp where
  kd : D
  ky : V
  ad : Addr
  it : List Int
def vsOf : List Gp → List V
  | [] => []
  | g :: gs => g.ky :: .ref g.ad :: vsOf gs
def dsOf : List Gp → List D
  | [] => []
  | g :: gs => g.kd :: .none :: dsOf gs
def hoB (a : Addr) (gs : List Gp) : HO := dicO a (vsOf gs) (dsOf gs)
/-- the keys are what they are said to be -/
def KyB (K : PySem.W.Frag) (H : Hp) (M : Mset) (gs : List Gp) : Prop := ∀ g ∈ gs, keyOk g.kd = true ∧ Rep K H M g.ky g.kd
theorem KyB.cons {K : PySem.W.Frag} {H : Hp} {M : Mset} {g : Gp} {gs : List Gp} (h : KyB K H M (g :: gs)) : (keyOk g.kd = true ∧ Rep K H M g.ky g.kd) ∧ KyB K H M gs := ⟨h g (List.mem_cons_self ..), fun x hx => h x (List.mem_cons_of_mem _ hx)⟩
section
variable {X : Cx} {pins : List (Addr × Obj)} {σ : St} {H : Hp} {s : Shared} {M : Mset}
theorem XS.isG (I : Inv X pins σ H s) : ∀ {xs : Xs} {gs : List Gp}, XS xs (vsOf gs) (dsOf gs) → KyB X.K H M gs → ∀ x ∈ xs, (nestedKind X.prog X.w).is s.heap x.1 x.2.1
  | xs, [], h, _, x, hx => by cases h; cases hx
  | xs, g :: gs, h, q, x, hx => by
    obtain ⟨kd, ky, ad, it⟩ := g
    obtain ⟨⟨q1, q2⟩, q3⟩ := q.cons
    have q2 : Rep X.K H M ky kd := q2
    have h : XS xs (ky :: .ref ad :: vsOf gs) (kd :: .none :: dsOf gs) := h
    cases h with
    | cons hk hv r =>
      rcases List.mem_cons.mp hx with rfl | hx
      · obtain ⟨b, e1, e2, e3⟩ := key_is I hk q2 (show RelV (.ref _) (.ref _) from rfl)
        cases e1
        exact e3
      · exact XS.isG I r q3 x hx
theorem dicG_of (I : Inv X pins σ H s) {a : Addr} {gs : List Gp} (e : H a = some (hoB a gs)) (r : KyB X.K H M gs) :
    ∃ xs, s.heap.DictOfH (nestedKind X.prog X.w) a xs ∧ XS xs (vsOf gs) (dsOf gs) ∧ (a == sysModules) = false := by
  obtain ⟨⟨o, es, ep, h1, h2, h3, h4, h5, h6⟩, _⟩ := I.hok a _ e
  obtain ⟨xs, h7, h8⟩ := XS.of (P := X.prog) (w := X.w) h4
  exact ⟨xs, ⟨o, es, ep, h1, h2, h3, h7, h8.isG I r, by rw [h8.keys]; exact h5⟩, h8, h6⟩
end
def gFind (gs : List Gp) (kd : D) : Option Gp := gs.find? fun g => PyData.eqv g.kd kd
theorem gFind_cons (g : Gp) (gs : List Gp) (kd : D) : gFind (g :: gs) kd = if PyData.eqv g.kd kd = true then some g else gFind gs kd := by
  unfold gFind
  rw [List.find?_cons]
  cases PyData.eqv g.kd kd <;> rfl
theorem xs_findG {K : PySem.W.Frag} {H : Hp} {M : Mset} {kd : D} (hk : keyOk kd = true) : ∀ {xs : Xs} {gs : List Gp}, XS xs (vsOf gs) (dsOf gs) → KyB K H M gs →
    (gFind gs kd = none ∧ atKey xs (keyOf kd) = none) ∨ ∃ g p, gFind gs kd = some g ∧ atKey xs (keyOf kd) = some p ∧ RelV (.ref g.ad) p.2
  | xs, [], h, _ => by cases h; exact .inl ⟨rfl, rfl⟩
  | xs, g :: gs, h, q => by
    obtain ⟨kd', ky, ad, it⟩ := g
    obtain ⟨⟨q1, q2⟩, q3⟩ := q.cons
    have h : XS xs (ky :: .ref ad :: vsOf gs) (kd' :: .none :: dsOf gs) := h
    rw [gFind_cons]
    cases h with
    | cons hk' hv r =>
      rw [atKey_cons]
      have q1 : keyOk kd' = true := q1
      show (( if PyData.eqv kd' kd = true then _ else _) = none ∧ _) ∨ ∃ g p, (if PyData.eqv kd' kd = true then _ else _) = some g ∧ _
      rw [key_eqv q1 hk]
      by_cases h : keyOf kd' = keyOf kd
      · exact .inr ⟨_, _, by rw [if_pos (decide_eq_true h)], by rw [if_pos h], hv⟩
      · rw [if_neg (by simpa using h), if_neg h]
        exact xs_findG hk r q3
theorem XS.addG {g : Gp} {b : Addr} {val : Value} (hk : keyOk g.kd = true) (hb : g.ky = .ref b) (hv : RelV (.ref g.ad) val) : ∀ {xs : Xs} {gs : List Gp}, XS xs (vsOf gs) (dsOf gs) → XS (xs ++ [(keyOf g.kd, b, val)]) (vsOf (gs ++ [g])) (dsOf (gs ++ [g]))
  | xs, [], h => by
    cases h
    show XS _ (g.ky :: .ref g.ad :: []) (g.kd :: .none :: [])
    rw [hb]
    exact .cons hk hv .nil
  | xs, g0 :: gs, h => by
    obtain ⟨kd', ky, ad, it⟩ := g0
    have h : XS xs (ky :: .ref ad :: vsOf gs) (kd' :: .none :: dsOf gs) := h
    cases h with
    | cons hk' hv' r => exact .cons hk' hv' (XS.addG hk hb hv r)
theorem storedH_new {xs : Xs} {k : NestedKey} {b : Addr} {v : Value} (h : atKey xs k = none) : storedH xs k b v = xs ++ [(k, b, v)] := by
  unfold storedH
  rw [h]; rfl
/-- d.setdefault(key, list) -/
def tSetB (K : PySem.W.Frag) (td ty tx : TE) : TE := fun σ H Q => td σ H fun x H1 => ∃ a gs, x = .ref a ∧ H1 a = some (hoB a gs) ∧ (∃ M, KyB K H1 M gs) ∧ ty σ H1 fun y H2 => tx σ H2 fun z H3 => ∃ gs kd M p, z = .ref p ∧ H3 a = some (hoB a gs) ∧ KyB K H3 M gs ∧ Rep K H3 M y kd ∧ keyOk kd = true ∧ gs.length < 100000 ∧
  (∀ g, gFind gs kd = some g → Q (.ref g.ad) H3) ∧ (gFind gs kd = none → Q z (upd H3 a (hoB a (gs ++ [⟨kd, y, p, []⟩]))))
theorem vsOf_len : ∀ {xs : Xs} {gs : List Gp}, XS xs (vsOf gs) (dsOf gs) → xs.length = gs.length
  | xs, [], h => by cases h; rfl
  | xs, g :: gs, h => by
    obtain ⟨kd', ky, ad, it⟩ := g
    have h : XS xs (ky :: .ref ad :: vsOf gs) (kd' :: .none :: dsOf gs) := h
    cases h with
    | cons hk' hv' r => rw [List.length_cons, List.length_cons, vsOf_len r]
section
variable {X : Cx} {o e f : Expr} {td ty tx : TE} {apos cpos : Pos}
theorem pe_setB (hu : X.A.units + 9 < cLine) (ho : PE X o td) (he : PE X e ty) (hf : PE X f tx) (m : M2 X o "setdefault" apos e f cpos) : PE X (.Call (.Attribute o "setdefault" apos) [e, f] [] cpos) (tSetB X.K td ty tx) := by
  refine ⟨fun pins s σ H Q I h => ?_⟩
  refine wpAny_Call_method m.base m.few m.line PySem.F.plainAttrs_dict PySem.F.slot_dict_setdefault PySem.F.type_dict_setdefault (thn (ho.run pins s σ H _ I h) fun u s1 ⟨x, H1, I1, rx, a, gs, ex, d, ⟨M0, dk⟩, q1⟩ => ?_)
  subst ex
  obtain rfl : u = Value.ref a := rx
  obtain ⟨xs0, dd0, _, _⟩ := dicG_of I1 d dk
  have t1 : s1.TypeIs (.ref a) "dict" := dd0.typeIs
  have t2 : ∀ b, Value.ref a = .ref b → ∃ ob, s1.heap.get? b = some ob ∧ ob.dict = none := fun b q => by
    cases q
    obtain ⟨ob, _, _, h1, h2, _⟩ := dd0
    exact ⟨ob, h1, h2.2.1⟩
  refine ⟨t1, t2, ?_⟩
  rw [m.trees]
  refine Calls.callWith_builtin rfl (Calls.evalArgs_plain (Calls.spliced_cons (thn (he.run pins s1 σ H1 _ I1 q1) fun iv s2 ⟨y, H2, I2, ry, q2⟩ =>
    Calls.spliced_cons (thn (hf.run pins s2 σ H2 _ I2 q2) fun fv s3 ⟨z, H3, I3, rz, gs, kd, M, p, ez, ea, kk, rk, hk, hl, q3, q4⟩ => Calls.spliced_nil ?_))))
  subst ez
  obtain rfl : fv = Value.ref p := rz
  obtain ⟨xs, dd, hx, hd⟩ := dicG_of I3 ea kk
  obtain ⟨b, e3, eb, ib⟩ := key_is I3 hk rk ry
  subst eb e3
  have hsz : xs.length ≤ sizeLine := by rw [vsOf_len hx, sizeLine_eq]; omega
  refine call_setdefault_heap (knd := nestedKind X.prog X.w) (hsz := hsz) (by show X.A.units + 1 + 8 < cLine; omega) ib hd dd (fun q hq => ?_) fun hn h' dd' hs => ?_
  · rcases xs_findG hk hx kk with ⟨_, h2⟩ | ⟨g, q', h1, h2, h3⟩
    · rw [hq] at h2; cases h2
    · rw [hq] at h2; cases h2
      exact ⟨.ref g.ad, H3, I3.tok _, h3, q3 g h1⟩
  · rcases xs_findG hk hx kk with ⟨h1, _⟩ | ⟨g, q', h1, h2, h3⟩
    · rw [storedH_new hn] at dd'
      have he : ∃ q, h'.get? a = some q := let ⟨q, _, _, hq, _⟩ := dd'; ⟨q, hq⟩
      exact ⟨.ref p, _, d_write I3 (by rw [ea]; exact True.intro) hs he (dic_new dd' (hx.addG (g := ⟨kd, .ref b, p, []⟩) hk rfl rfl) hd), rfl, q4 h1⟩
    · rw [hn] at h2; cases h2
end
/-! values in turn -/
def ItB (d : Addr) (o : Obj) (gs : List Gp) : It :=
  ⟨fun i H => H d = some (.frz o (hoB d gs)) ∧ i < gs.length, fun i H x H' => H' = H ∧ ∃ g, gs[i]? = some g ∧ x = .ref g.ad, fun i H => H d = some (.frz o (hoB d gs)) ∧ gs.length ≤ i⟩
theorem ents_at : ∀ {gs : List Gp} {es : List DictEntry}, Ents es (vsOf gs) (dsOf gs) → es.length = gs.length ∧ ∀ (i : Nat) (g : Gp) (en : DictEntry), gs[i]? = some g → es[i]? = some en → RelV (.ref g.ad) en.val
  | [], es, h => by
    cases h
    exact ⟨rfl, fun i g en e => by simp at e⟩
  | g0 :: gs, es, h => by
    obtain ⟨kd', ky, ad, it⟩ := g0
    have h : Ents es (ky :: .ref ad :: vsOf gs) (kd' :: .none :: dsOf gs) := h
    cases h with
    | cons hk hh he hv r =>
      obtain ⟨l, q⟩ := ents_at r
      refine ⟨by rw [List.length_cons, List.length_cons, l], fun i g en e1 e2 => ?_⟩
      cases i with
      | zero =>
        cases e1; cases e2
        exact hv
      | succ i => exact q i g en e1 e2
theorem frzB {X : Cx} {pins : List (Addr × Obj)} {σ : St} {H : Hp} {s : Shared} {d : Addr} {o : Obj} {gs : List Gp} (I : Inv X pins σ H s) (h : H d = some (.frz o (hoB d gs))) :
    (d == sysModules) = false ∧ s.heap.get? d = some o ∧ o.ExactDict ∧ ∃ (es : Array DictEntry) (ep : Nat), o.data = .dict es ep ∧ es.size = gs.length ∧ s.heap.DictRaw d es ep ∧ ∀ (i : Nat) (g : Gp) (en : DictEntry), gs[i]? = some g → es.toList[i]? = some en → RelV (.ref g.ad) en.val := by
  obtain ⟨hd, ⟨o', es, ep, h1, h2, h3, h4, h5, h6⟩, _⟩ := I.hok d _ h
  rw [hd] at h1
  cases h1
  obtain ⟨l, q⟩ := ents_at h4
  refine ⟨h6, hd, h2, es, ep, h3, by rw [← l, Array.length_toList], ⟨o, hd, h2, h3⟩, q⟩
section
variable {P : Program} {w : World} {K : PySem.W.Frag} {tg : Expr} {d : Addr} {o : Obj} {es : Array DictEntry} {ep : Nat}
theorem turn_valsB {gs : List Gp} (it : Addr) (hod : o.data = .dict es ep) : Turn P w K tg (ItB d o gs) [it] it (fun i h => h.IsValIter it d i es.size ep) where
  mem := by simp
  obj := fun i h st b hb => by
    have e : b = it := by simpa using hb
    subst e
    obtain ⟨oi, e, c, dd⟩ := st
    exact ⟨oi, e, fun v z => by rw [dd] at z; cases z⟩
  keep := fun i h h' st k => st.at fun oi e => k it (by simp) oi e
  item := by
    intro X hP hw hK hc i pins s σ H E I hf st hg
    subst hP hw hK
    obtain ⟨hd, hi⟩ := hg
    obtain ⟨f0, f1, f2, f3, f4, f5⟩ := hf it (by simp)
    obtain ⟨hs, hgd, hx, es', ep', hdt, hsz, hm, hv⟩ := frzB I hd
    obtain ⟨rfl, rfl⟩ := dict_ep hod hdt
    have hi' : i < es'.size := by rw [hsz]; exact hi
    refine wpAny_pyNext_values_item_raw st hm hi' fun h' st' sb => ?_
    have I1 : Inv X pins σ H { s with heap := h' } := I.turned (t' := s.toks) (fun b ob hb e => (sb.2 b hb).trans e) f0 f1 f3 f4 f5
    obtain ⟨oi, e, c, dd⟩ := id st'
    have ru : RelV (.ref gs[i].ad) es'[i].val := hv i gs[i] es'[i] (List.getElem?_eq_getElem hi) (by rw [Array.getElem?_toList, Array.getElem?_eq_getElem hi'])
    refine ⟨es'[i].val, rfl, go_of (s := { s with heap := h' }) e c dd (by decide) ⟨_, H, I1, ru, ⟨rfl, gs[i], List.getElem?_eq_getElem hi, rfl⟩, ?_, fun b hb => (hf b hb).1⟩⟩
    exact st'
  done := by
    intro X hP hw hK hc i pins s σ H E I hf st hg
    subst hP hw hK
    obtain ⟨hd, hi⟩ := hg
    obtain ⟨f0, f1, f2, f3, f4, f5⟩ := hf it (by simp)
    obtain ⟨hs, hgd, hx, es', ep', hdt, hsz, hm, hv⟩ := frzB I hd
    obtain ⟨rfl, rfl⟩ := dict_ep hod hdt
    exact wpAny_pyNext_values_end_raw (I.ok.hd hc) st hm (by omega) fun h' eb => ⟨rfl, I.turned (t' := s.toks) (fun b ob hb e => eb b ob hb e) f0 f1 f3 f4 f5⟩
  self := fun A i s Q E st h => wpAny_pyIter_valiter st h
end
def iValsB (td : TE) : TI := fun σ H R => td σ H fun x H1 => ∃ d o gs, x = .ref d ∧ H1 d = some (.frz o (hoB d gs)) ∧ R (ItB d o gs) H1
theorem pi_valsB {X : Cx} {tg e : Expr} {td : TE} {apos cpos : Pos} (he : PE X e td) (hbase : attributeBase e "values" X.env (eval e X.env) = eval e X.env := by rfl) (hline : (apos.endLine == cpos.line) = true := by rfl) : PI X tg (.Call (.Attribute e "values" apos) [] [] cpos) (iValsB td) := by
  refine ⟨fun pins s σ H R I h => ?_⟩
  refine wpAny_Call_method (T := "dict") (id := "dict.values") hbase rfl hline F.plainAttrs_dict F.slot_dict_values F.type_dict_values (thn (he.run pins s σ H _ I h) fun u s1 ⟨x, H1, I1, rx, d, o, gs, ex, hd, q⟩ => ?_)
  subst ex
  obtain rfl : u = Value.ref d := rx
  obtain ⟨hs, hgd, hx, es, ep, hdt, hsz, hm, hv⟩ := frzB I1 hd
  refine ⟨hm.typeIs, fun b q => by cases q; exact ⟨o, hgd, hx.2.1⟩, ?_⟩
  have I2 : Inv X pins σ H1 { s1 with heap := s1.heap.push { cls := .type "dict_values", data := .fields #[.ref d] } } := I1.kept (t' := s1.toks) fun b ob q => Heap.get?_push_of_some _ q
  have hm2 : (s1.heap.push { cls := .type "dict_values", data := .fields #[.ref d] }).DictRaw d es ep := hm.at fun o q => Heap.get?_push_of_some _ q
  have fin : wpAny (model X.prog X.w) X.A (pyIter (.ref s1.heap.objs.size)) (PIE X pins σ tg R) X.xe { s1 with heap := s1.heap.push { cls := .type "dict_values", data := .fields #[.ref d] } } := by
    refine wpAny_pyIter_values_raw (d := d) ⟨_, Heap.get?_push_size _ rfl, rfl, rfl⟩ hm2 (pi_one (tk := s1.toks) I2 _ (turn_valsB _ hdt) ⟨_, Heap.get?_push_size _ rfl, rfl, ?_⟩ q)
    rfl
  show wpAny _ _ (callWith cpos (.builtin "dict.values") [.ref d] [] []) _ X.xe s1
  exact method_meetsIn F.slot_dict_values F.entry_dict_values rfl (PySem.evalArgs_none ⟨rfl, hm.typeIs, F.args_dict_values_1 _, _, meets_dict_values_raw d hs, ⟨⟨es, ep, hm⟩, fin⟩⟩)
end Vi

namespace Vi
open PySem PySem.Spec PyProof.Rows L2
/-! ### the grouping of places by their keys -/
def grpAdd : List (D × List Int) → D → Int → List (D × List Int)
  | [], kd, i => [(kd, [i])]
  | (k, l) :: r, kd, i => if PyData.eqv k kd = true then (k, l ++ [i]) :: r else (k, l) :: grpAdd r kd i
def grpAll : Int → List D → List (D × List Int) → List (D × List Int)
  | _, [], acc => acc
  | i, k :: ks, acc => grpAll (i + 1) ks (grpAdd acc k i)
def grpD (ks : List D) : D := .tuple ((grpAll 0 ks []).map fun p => .tuple (p.2.map .int))
theorem grpAll_app (k : D) : ∀ (l : List D) (i : Int) (acc : List (D × List Int)), grpAll i (l ++ [k]) acc = grpAdd (grpAll i l acc) k (i + (l.length : Nat))
  | [], i, acc => by
    show grpAdd acc k i = _
    rw [List.length_nil]
    congr 1; omega
  | x :: l, i, acc => by
    show grpAll (i + 1) (l ++ [k]) (grpAdd acc x i) = grpAdd (grpAll (i + 1) l (grpAdd acc x i)) k _
    rw [grpAll_app k l]
    congr 1
    rw [List.length_cons]; omega
def addG : List Gp → D → Int → Gp → List Gp
  | [], kd, i, n => [n]
  | g :: gs, kd, i, n => if PyData.eqv g.kd kd = true then ⟨g.kd, g.ky, g.ad, g.it ++ [i]⟩ :: gs else g :: addG gs kd i n
def Gp.key (g : Gp) : D × V × Addr := (g.kd, g.ky, g.ad)
def pairsG (gs : List Gp) : List (D × List Int) := gs.map fun g => (g.kd, g.it)
theorem addG_pairs {kd : D} {i : Int} {n : Gp} (h1 : n.kd = kd) (h2 : n.it = [i]) : ∀ gs : List Gp, pairsG (addG gs kd i n) = grpAdd (pairsG gs) kd i
  | [] => by
    show [(n.kd, n.it)] = _
    rw [h1, h2]; rfl
  | g :: gs => by
    show pairsG (if PyData.eqv g.kd kd = true then _ else _) = (if PyData.eqv g.kd kd = true then _ else _)
    split
    · rfl
    · show (g.kd, g.it) :: pairsG (addG gs kd i n) = _
      rw [addG_pairs h1 h2 gs]; rfl
theorem addG_new {kd : D} {i : Int} {n : Gp} : ∀ {gs : List Gp}, gFind gs kd = none → addG gs kd i n = gs ++ [n]
  | [], _ => rfl
  | g :: gs, h => by
    rw [gFind_cons] at h
    split at h
    · cases h
    · rename_i hn
      show (if PyData.eqv g.kd kd = true then _ else _) = _
      rw [if_neg hn, addG_new h]; rfl
theorem addG_hit {kd : D} {i : Int} {n g : Gp} : ∀ {gs : List Gp}, gFind gs kd = some g → (gs.map Gp.ad).Nodup →
    g ∈ gs ∧ (addG gs kd i n).map Gp.key = gs.map Gp.key ∧ ∀ x ∈ addG gs kd i n, (x ∈ gs ∧ x.ad ≠ g.ad) ∨ x = ⟨g.kd, g.ky, g.ad, g.it ++ [i]⟩
  | [], h, _ => by cases h
  | g0 :: gs, h, hn => by
    rw [gFind_cons] at h
    rw [List.map_cons, List.nodup_cons] at hn
    split at h
    · rename_i he
      cases h
      refine ⟨List.mem_cons_self .., ?_, ?_⟩
      · show (if PyData.eqv g.kd kd = true then _ else _ : List Gp).map Gp.key = _
        rw [if_pos he]; rfl
      · show ∀ x ∈ (if PyData.eqv g.kd kd = true then _ else _ : List Gp), _
        rw [if_pos he]
        intro x hx
        rcases List.mem_cons.mp hx with rfl | hx
        · exact .inr rfl
        · refine .inl ⟨List.mem_cons_of_mem _ hx, fun e => hn.1 ?_⟩
          rw [← e]
          exact List.mem_map.mpr ⟨x, hx, rfl⟩
    · rename_i he
      obtain ⟨h1, h2, h3⟩ := addG_hit (i := i) (n := n) h hn.2
      refine ⟨List.mem_cons_of_mem _ h1, ?_, ?_⟩
      · show (if PyData.eqv g0.kd kd = true then _ else _ : List Gp).map Gp.key = _
        rw [if_neg he, List.map_cons, h2]; rfl
      · show ∀ x ∈ (if PyData.eqv g0.kd kd = true then _ else _ : List Gp), _
        rw [if_neg he]
        intro x hx
        rcases List.mem_cons.mp hx with rfl | hx
        · refine .inl ⟨List.mem_cons_self .., fun e => hn.1 ?_⟩
          rw [e]
          exact List.mem_map.mpr ⟨g, h1, rfl⟩
        · rcases h3 x hx with ⟨q1, q2⟩ | q
          · exact .inl ⟨List.mem_cons_of_mem _ q1, q2⟩
          · exact .inr q
theorem addG_len {kd : D} {i : Int} {n : Gp} : ∀ gs : List Gp, (addG gs kd i n).length ≤ gs.length + 1
  | [] => Nat.le_refl _
  | g :: gs => by
    unfold addG
    split
    · exact Nat.le_succ _
    · rw [List.length_cons, List.length_cons]; exact Nat.succ_le_succ (addG_len gs)
/-! the frame: the keys alone are known of -/
abbrev rhoC (kD : D) : Fm := [some (.imm kD), none, none, none, none]
section
variable {K : PySem.W.Frag} {H H' : Hp} {M M' O : Mset} {π : Nat → Option Addr} {σ : St} {kD : D}
theorem rhoC_own {kD : D} {i : Nat} {b : Kd} {ds : List D} : (rhoC kD)[i]? ≠ some (some (.own b ds)) := by
  intro h
  match i, h with
  | 0, h => cases h
  | 1, h => cases h
  | 2, h => cases h
  | 3, h => cases h
  | 4, h => cases h
  | n + 5, h => cases h
theorem srC_mk {v : V} (hl : σ.length = 5) (sub : ∀ a, O a → M a) (live : ∀ a, M a → H a ≠ none) (h0 : σ[0]? = some (some v)) (r : Rep K H M v kD) : SR K H M O π (rhoC kD) σ where
  len := hl.symm
  sub := sub
  live := live
  imm := fun i d e => by
    match i, e with
    | 0, e => cases e; exact ⟨v, h0, r⟩
    | 1, e => cases e
    | 2, e => cases e
    | 3, e => cases e
    | 4, e => cases e
    | n + 5, e => cases e
  own := fun i b ds e => absurd e rhoC_own
  uniq := fun i j b c ds es a _ e _ _ => absurd e rhoC_own
theorem srC_el (h : SR K H M O π (rhoC kD) σ) : σ.length = 5 ∧ ∃ v, σ[0]? = some (some v) ∧ Rep K H M v kD := ⟨h.len.symm, h.imm 0 kD rfl⟩
/-- what is known while the walk goes on -/
structure LSt (K : PySem.W.Frag) (ok : D → Bool) (ho : Addr → List Gp → HO) (O : Mset) (π : Nat → Option Addr) (kD : D) (a : Addr) (H1 : Hp) (M1 : Mset) (acc : List (D × List Int)) (σ : St) (H : Hp) (M : Mset) (gs : List Gp) : Prop where
  sr : SR K H M O π (rhoC kD) σ
  ext : Ext O H1 M1 H M
  va : σ[1]? = some (some (.ref a))
  ha : H a = some (ho a gs)
  ma : M a
  oa : ¬ O a
  ky : ∀ g ∈ gs, ok g.kd = true ∧ Rep K H M g.ky g.kd
  li : ∀ g ∈ gs, H g.ad = some (.lst (g.it.map V.int)) ∧ M g.ad ∧ ¬ O g.ad ∧ g.ad ≠ a
  nd : (gs.map Gp.ad).Nodup
  ac : pairsG gs = acc
theorem grow_tr (t : ∀ x o, H x = some o → H' x = some o) : ∀ a u, Rd H a u → ¬ M a → Rd H' a u ∧ ¬ M a := fun a u h n => by
  rcases h with h | ⟨o, h⟩
  · exact ⟨.inl (t _ _ h), n⟩
  · exact ⟨.inr ⟨o, t _ _ h⟩, n⟩
variable {ok : D → Bool} {ho : Addr → List Gp → HO} {a : Addr} {H1 : Hp} {M1 : Mset} {acc : List (D × List Int)} {gs : List Gp}
theorem LSt.grow (h : LSt K ok ho O π kD a H1 M1 acc σ H M gs) (t : ∀ x o, H x = some o → H' x = some o) : LSt K ok ho O π kD a H1 M1 acc σ H' M gs := by
  obtain ⟨hl, v, h0, r⟩ := srC_el h.sr
  refine ⟨srC_mk hl h.sr.sub (fun x q => ?_) h0 (r.tr (grow_tr t)), ⟨fun x o e q => t _ _ (h.ext.keep x o e q), h.ext.sub, h.ext.new⟩, h.va, t _ _ h.ha, h.ma, h.oa, fun g hg => ⟨(h.ky g hg).1, (h.ky g hg).2.tr (grow_tr t)⟩, fun g hg => ⟨t _ _ (h.li g hg).1, (h.li g hg).2⟩, h.nd, h.ac⟩
  cases e : H x with
  | none => exact absurd e (h.sr.live x q)
  | some o => rw [t _ _ e]; intro z; cases z
theorem LSt.alloc (h : LSt K ok ho O π kD a H1 M1 acc σ H M gs) {p : Addr} {o : HO} (hp : H p = none) : LSt K ok ho O π kD a H1 M1 acc σ (upd H p o) (wth M p) gs := by
  obtain ⟨hl, v, h0, r⟩ := srC_el h.sr
  have ne2 : ∀ {x : Addr} {u : HO}, H x = some u → x ≠ p := fun e z => by rw [z, hp] at e; cases e
  have t : ∀ x u, Rd H x u → ¬ M x → Rd (upd H p o) x u ∧ ¬ wth M p x := fun x u q n => by
    rcases q with q | ⟨o', q⟩
    · exact ⟨.inl (by rw [upd_ne (ne2 q)]; exact q), fun z => z.elim n (ne2 q)⟩
    · exact ⟨.inr ⟨o', by rw [upd_ne (ne2 q)]; exact q⟩, fun z => z.elim n (ne2 q)⟩
  refine ⟨srC_mk hl (fun x q => .inl (h.sr.sub x q)) (fun x q => ?_) h0 (r.tr t), ⟨fun x u e q => ?_, fun x q => .inl (h.ext.sub x q), fun x q => ?_⟩, h.va, by rw [upd_ne (ne2 h.ha)]; exact h.ha, .inl h.ma, h.oa, fun g hg => ⟨(h.ky g hg).1, (h.ky g hg).2.tr t⟩, fun g hg => ⟨by rw [upd_ne (ne2 (h.li g hg).1)]; exact (h.li g hg).1, .inl (h.li g hg).2.1, (h.li g hg).2.2⟩, h.nd, h.ac⟩
  · rcases q with q | rfl
    · rw [upd_ne (fun z => h.sr.live x q (by rw [z]; exact hp))]; exact h.sr.live x q
    · rw [upd_same]; intro z; cases z
  · have e2 := h.ext.keep x u e q
    rw [upd_ne (ne2 e2)]; exact e2
  · rcases q with q | rfl
    · exact h.ext.new x q
    · cases e : H1 x with
      | none => exact .inr rfl
      | some u =>
        refine .inl (Classical.byContradiction fun n => ?_)
        have := h.ext.keep x u e (.inr n)
        rw [hp] at this; cases this
/-- a list of the dict's is written -/
theorem poke_tr {b : Addr} {o : HO} (hb : M b) : ∀ x u, Rd H x u → ¬ M x → Rd (upd H b o) x u ∧ ¬ M x := fun x u q n => by
  have ne : x ≠ b := fun z => n (by rw [z]; exact hb)
  rcases q with q | ⟨o', q⟩
  · exact ⟨.inl (by rw [upd_ne ne]; exact q), n⟩
  · exact ⟨.inr ⟨o', by rw [upd_ne ne]; exact q⟩, n⟩
theorem srC_poke (h : SR K H M O π (rhoC kD) σ) {b : Addr} {o : HO} (hb : M b) : SR K (upd H b o) M O π (rhoC kD) σ := by
  obtain ⟨hl, v, h0, r⟩ := srC_el h
  refine srC_mk hl h.sub (fun x q => ?_) h0 (r.tr (poke_tr hb))
  by_cases e : x = b
  · rw [e, upd_same]; intro z; cases z
  · rw [upd_ne e]; exact h.live x q
theorem ext_poke (h : Ext O H1 M1 H M) (s : ∀ x, H1 x ≠ none → ¬ M1 x → ¬ M x) {b : Addr} {o : HO} (hb : M b) (ob : ¬ O b) : Ext O H1 M1 (upd H b o) M := by
  refine ⟨fun x u e q => ?_, h.sub, h.new⟩
  have ne : x ≠ b := fun z => by
    subst z
    rcases q with q | q
    · exact ob q
    · exact s x (by rw [e]; intro z; cases z) q hb
  rw [upd_ne ne]; exact h.keep x u e q
theorem Ext.stay (h : Ext O H1 M1 H M) : ∀ x, H1 x ≠ none → ¬ M1 x → ¬ M x := fun x e n z => by
  rcases h.new x z with q | q
  · exact n q
  · exact e q
theorem LSt.hit (h : LSt K ok ho O π kD a H1 M1 acc σ H M gs) (hk : ∀ gs gs' : List Gp, gs.map Gp.key = gs'.map Gp.key → ho a gs = ho a gs') {kd : D} {i : Int} {g n : Gp} (e : gFind gs kd = some g) (n1 : n.kd = kd) (n2 : n.it = [i]) :
    LSt K ok ho O π kD a H1 M1 (grpAdd acc kd i) σ (upd H g.ad (.lst ((g.it ++ [i]).map V.int))) M (addG gs kd i n) := by
  obtain ⟨m1, m2, m3⟩ := addG_hit (i := i) (n := n) e h.nd
  obtain ⟨l1, l2, l3, l4⟩ := h.li g m1
  refine ⟨srC_poke h.sr l2, ext_poke h.ext h.ext.stay l2 l3, h.va, ?_, h.ma, h.oa, fun x hx => ?_, fun x hx => ?_, ?_, by rw [addG_pairs n1 n2, h.ac]⟩
  · rw [upd_ne (Ne.symm l4), h.ha, hk _ _ m2]
  · rcases m3 x hx with ⟨q, _⟩ | rfl
    · exact ⟨(h.ky x q).1, (h.ky x q).2.tr (poke_tr l2)⟩
    · exact ⟨(h.ky g m1).1, (h.ky g m1).2.tr (poke_tr l2)⟩
  · rcases m3 x hx with ⟨q, q2⟩ | rfl
    · rw [upd_ne q2]; exact h.li x q
    · exact ⟨upd_same, l2, l3, l4⟩
  · have : (addG gs kd i n).map Gp.ad = gs.map Gp.ad := by
      have := congrArg (List.map fun k : D × V × Addr => k.2.2) m2
      rw [List.map_map, List.map_map] at this
      exact this
    rw [this]; exact h.nd
theorem LSt.new (h : LSt K ok ho O π kD a H1 M1 acc σ H M gs) (hk : ∀ gs gs' : List Gp, gs.map Gp.key = gs'.map Gp.key → ho a gs = ho a gs') {kd : D} {i : Int} {y : V} {p : Addr} (e : gFind gs kd = none) (hkd : ok kd = true) (ry : Rep K H M y kd) (hp : M p) (op : ¬ O p) (pa : p ≠ a) (np : ∀ g ∈ gs, g.ad ≠ p) :
    LSt K ok ho O π kD a H1 M1 (grpAdd acc kd i) σ (upd (upd H a (ho a (gs ++ [⟨kd, y, p, []⟩]))) p (.lst [.int i])) M (gs ++ [⟨kd, y, p, [i]⟩]) := by
  have e1 := addG_new (i := i) (n := ⟨kd, y, p, [i]⟩) e
  refine ⟨srC_poke (srC_poke h.sr h.ma) hp, ext_poke (ext_poke h.ext h.ext.stay h.ma h.oa) h.ext.stay hp op, h.va, ?_, h.ma, h.oa, fun x hx => ?_, fun x hx => ?_, ?_, by rw [← e1, addG_pairs (kd := kd) (i := i) (n := ⟨kd, y, p, [i]⟩) rfl rfl, h.ac]⟩
  · rw [upd_ne (Ne.symm pa), upd_same]
    exact congrArg some (hk _ _ (by rw [List.map_append, List.map_append]; rfl))
  · rcases List.mem_append.mp hx with hx | hx
    · exact ⟨(h.ky x hx).1, ((h.ky x hx).2.tr (poke_tr h.ma)).tr (poke_tr hp)⟩
    · rw [List.mem_singleton] at hx
      subst hx
      exact ⟨hkd, (ry.tr (poke_tr h.ma)).tr (poke_tr hp)⟩
  · rcases List.mem_append.mp hx with hx | hx
    · obtain ⟨l1, l2, l3, l4⟩ := h.li x hx
      exact ⟨by rw [upd_ne (np x hx), upd_ne l4]; exact l1, l2, l3, l4⟩
    · rw [List.mem_singleton] at hx
      subst hx
      exact ⟨upd_same, hp, op, pa⟩
  · rw [List.map_append, List.nodup_append]
    refine ⟨h.nd, by simp, fun x hx z hz => ?_⟩
    simp only [List.map_cons, List.map_nil, List.mem_singleton] at hz
    subst hz
    obtain ⟨g, hg, rfl⟩ := List.mem_map.mp hx
    exact np g hg
theorem LSt.frame (h : LSt K ok ho O π kD a H1 M1 acc σ H M gs) {σ' : St} (hl : σ'.length = 5) (h0 : σ'[0]? = σ[0]?) (h1 : σ'[1]? = σ[1]?) : LSt K ok ho O π kD a H1 M1 acc σ' H M gs := by
  obtain ⟨_, v, e0, r⟩ := srC_el h.sr
  exact ⟨srC_mk hl h.sr.sub h.sr.live (by rw [h0]; exact e0) r, h.ext, by rw [h1]; exact h.va, h.ha, h.ma, h.oa, h.ky, h.li, h.nd, h.ac⟩
end
theorem grpAdd_bd {n : Nat} (kd : D) (i : Int) : ∀ {acc : List (D × List Int)}, (∀ p ∈ acc, p.2.length ≤ n) → (grpAdd acc kd i).length ≤ acc.length + 1 ∧ ∀ p ∈ grpAdd acc kd i, p.2.length ≤ n + 1
  | [], _ => ⟨Nat.le_refl _, fun p hp => by
    rw [List.mem_singleton.mp hp]
    exact Nat.succ_le_succ (Nat.zero_le _)⟩
  | (k, l) :: r, h => by
    have h0 : l.length ≤ n := h (k, l) (List.mem_cons_self ..)
    obtain ⟨h1, h2⟩ := grpAdd_bd kd i (acc := r) fun p hp => h p (List.mem_cons_of_mem _ hp)
    unfold grpAdd
    split
    · refine ⟨Nat.le_succ _, fun p hp => ?_⟩
      rcases List.mem_cons.mp hp with rfl | hp
      · show (l ++ [i]).length ≤ _
        rw [List.length_append, List.length_singleton]; omega
      · exact Nat.le_succ_of_le (h p (List.mem_cons_of_mem _ hp))
    · refine ⟨by rw [List.length_cons, List.length_cons]; exact Nat.succ_le_succ h1, fun p hp => ?_⟩
      rcases List.mem_cons.mp hp with rfl | hp
      · exact Nat.le_succ_of_le h0
      · exact h2 p hp
theorem grpAll_bd : ∀ (l : List D) (i : Int) {acc : List (D × List Int)} {n m : Nat}, acc.length ≤ m → (∀ p ∈ acc, p.2.length ≤ n) → (grpAll i l acc).length ≤ m + l.length ∧ ∀ p ∈ grpAll i l acc, p.2.length ≤ n + l.length
  | [], i, acc, n, m, h1, h2 => ⟨h1, h2⟩
  | k :: l, i, acc, n, m, h1, h2 => by
    obtain ⟨q1, q2⟩ := grpAdd_bd k i h2
    obtain ⟨r1, r2⟩ := grpAll_bd l (i + 1) (m := m + 1) (n := n + 1) (Nat.le_trans q1 (Nat.succ_le_succ h1)) q2
    rw [List.length_cons]
    exact ⟨Nat.le_trans r1 (by omega), fun p hp => Nat.le_trans (r2 p hp) (by omega)⟩
end Vi

namespace Vi
open PySem PySem.Spec PyProof.Rows L2
def ItOk (J : It) (a : Addr) (o : Obj) (ho : Addr → List Gp → HO) (gs : List Gp) : Prop :=
  (∀ i H, H a = some (.frz o (ho a gs)) → i < gs.length → J.go i H) ∧ (∀ H, H a = some (.frz o (ho a gs)) → J.stop gs.length H) ∧ ∀ i H x H', J.yld i H x H' → H' = H ∧ ∃ g, gs[i]? = some g ∧ x = .ref g.ad
structure GSpec (K : PySem.W.Frag) (ok : D → Bool) (ho : Addr → List Gp → HO) (tnew tset : TE) (twi : TI) : Prop where
  mu : ∀ a gs, Mut (some (ho a gs))
  key : ∀ a (gs gs' : List Gp), gs.map Gp.key = gs'.map Gp.key → ho a gs = ho a gs'
  nw : ∀ σ H Q, (∀ p, H p = none → Q (.ref p) (upd H p (ho p []))) → tnew σ H Q
  st : ∀ (σ : St) (H : Hp) (M : Mset) (gs : List Gp) (a : Addr) (y : V) (kd : D) (Q : VK), σ[1]? = some (some (.ref a)) → σ[3]? = some (some y) → H a = some (ho a gs) → (∀ g ∈ gs, ok g.kd = true ∧ Rep K H M g.ky g.kd) → Rep K H M y kd → ok kd = true → gs.length < 100000 →
    (∀ p, H p = none → (∀ g, gFind gs kd = some g → Q (.ref g.ad) (upd H p (.lst []))) ∧ (gFind gs kd = none → Q (.ref p) (upd (upd H p (.lst [])) a (ho a (gs ++ [⟨kd, y, p, []⟩]))))) → tset σ H Q
  vl : ∀ (σ : St) (H : Hp) (o : Obj) (gs : List Gp) (a : Addr) (R : It → Hp → Prop), σ[1]? = some (some (.ref a)) → H a = some (.frz o (ho a gs)) → (∀ J, ItOk J a o ho gs → R J H) → twi σ H R
def rTup (K : PySem.W.Frag) : List V → Hp → VK → Prop := fun xs H Q => ∃ p ys, xs = [.ref p] ∧ ((SqL K H p ys ∧ ∀ l, H l = none → Q (.ref l) (upd H l (.tup ys))) ∨ (SqT K H p ys ∧ Q (.ref p) H))
def tGrpB (K : PySem.W.Frag) (tset : TE) : TS := tDrop (tBM K "list" rAppend tset (tCons (tVar 2) tNil))
def tGrpR (K : PySem.W.Frag) (twi : TI) : TS := tRet (tCB (rTup K) (tCons (tLockE (tLc twi (gName 4) tYes (tCB (rTup K) (tCons (tVar 4) tNil)) [4])) tNil))
def tGrp (K : PySem.W.Frag) (tnew tset : TE) (twi : TI) : TS :=
  tSeq (tAsg tnew (gName 1)) (tSeq (tFor (tI K (mIEnum (mCons (mVar 0) mNil))) (tG K (mGtup 2 (mGcons (mN 2) (mGcons (mN 3) mGnil))) [2, 3]) (tGrpB K tset)) (tGrpR K twi))
section
variable {K : PySem.W.Frag} {ok : D → Bool} {ho : Addr → List Gp → HO} {tnew tset : TE} {twi : TI} {H : Hp} {M O : Mset} {π : Nat → Option Addr} {σ : St} {kD : D} {a : Addr} {H1 : Hp} {M1 : Mset} {acc : List (D × List Int)} {gs : List Gp}
theorem grp_body (S : GSpec K ok ho tnew tset twi) (L : LSt K ok ho O π kD a H1 M1 acc σ H M gs) {i : Int} {y : V} {kd : D} (h2 : σ[2]? = some (some (.int i))) (h3 : σ[3]? = some (some y)) (ry : Rep K H M y kd) (hk : ok kd = true) (n1 : gs.length < 100000) (n2 : ∀ g ∈ gs, g.it.length < 100000) {D : Ends}
    (q : ∀ H' M' gs', LSt K ok ho O π kD a H1 M1 (grpAdd acc kd i) σ H' M' gs' → D.nx σ H') : tGrpB K tset D σ H := by
  refine S.st σ H M gs a y kd _ L.va h3 L.ha L.ky ry hk n1 fun p hp => ?_
  have L1 := L.alloc (o := .lst []) hp
  have ne : ∀ {x : Addr} {u : HO}, H x = some u → x ≠ p := fun e z => by rw [z, hp] at e; cases e
  have op : ¬ O p := fun z => L.sr.live p (L.sr.sub p z) hp
  have ry1 : Rep K (upd H p (.lst [])) (wth M p) y kd := ry.tr fun x u q n => by
    rcases q with q | ⟨o', q⟩
    · exact ⟨.inl (by rw [upd_ne (ne q)]; exact q), fun z => z.elim n (ne q)⟩
    · exact ⟨.inr ⟨o', by rw [upd_ne (ne q)]; exact q⟩, fun z => z.elim n (ne q)⟩
  refine ⟨fun g e => ?_, fun e => ?_⟩
  · obtain ⟨m1, _, _⟩ := addG_hit (i := i) (n := ⟨kd, y, p, [i]⟩) e L1.nd
    obtain ⟨l1, l2, l3, l4⟩ := L1.li g m1
    refine ⟨.inl ⟨rfl, _, SqL.of l1⟩, .int i, h2, g.ad, _, .int i, rfl, rfl, l1, ?_, ?_⟩
    · have := n2 g m1
      rw [List.length_map, sizeLine_eq]; omega
    · have e2 : g.it.map V.int ++ [V.int i] = (g.it ++ [i]).map V.int := by rw [List.map_append]; rfl
      rw [e2]
      exact q _ _ _ (L1.hit (S.key a) (i := i) (n := ⟨kd, y, p, [i]⟩) e rfl rfl)
  · have hpa : p ≠ a := Ne.symm (ne L.ha)
    have hl : (upd (upd H p (.lst [])) a (ho a (gs ++ [⟨kd, y, p, []⟩]))) p = some (.lst []) := by rw [upd_ne hpa, upd_same]
    refine ⟨.inl ⟨rfl, _, SqL.of hl⟩, .int i, h2, p, [], .int i, rfl, rfl, hl, by rw [sizeLine_eq]; decide, ?_⟩
    exact q _ _ _ (L1.new (S.key a) (i := i) (y := y) (p := p) e hk ry1 (.inr rfl) op hpa fun g hg => ne (L.li g hg).1)
/-- what is handed back -/
theorem grp_ret (S : GSpec K ok ho tnew tset twi) (L : LSt K ok ho O π kD a H1 M1 acc σ H M gs) (n1 : gs.length < 100000) {D : Ends}
    (q : ∀ v H' M', Ext O H1 M1 H' M' → SR K H' M' O π (rhoC kD) σ → Rep K H' M' v (.tuple (acc.map fun p => .tuple (p.2.map .int))) → D.rt v H') : tGrpR K twi D σ H := by
  refine ⟨a, ho a gs, L.ha, S.mu a gs, fun od => ?_⟩
  have h5 : σ.length = 5 := (srC_el L.sr).1
  refine S.vl σ (upd H a (.frz od (ho a gs))) od gs a _ L.va upd_same fun J hJ Dd hD => ?_
  have da : Dd ≠ a := fun z => by rw [z, upd_same] at hD; cases hD
  refine ⟨fun i m H' => m = gs.length - i ∧ i ≤ gs.length ∧ ∃ ts : List Addr, ts.length = i ∧ H' Dd = some (.lst (ts.map V.ref)) ∧ (∀ x o, upd H a (.frz od (ho a gs)) x = some o → H' x = some o) ∧ ∀ (j : Nat) (t : Addr), ts[j]? = some t → ∃ g : Gp, gs[j]? = some g ∧ H' t = some (.tup (g.it.map V.int)) ∧ upd H a (.frz od (ho a gs)) t = none, ⟨_, rfl, Nat.zero_le _, [], rfl, upd_same, fun x o e => by rw [upd_ne (fun z => by rw [z, hD] at e; cases e)]; exact e, fun j t e => by simp at e⟩, ?_⟩
  rintro i m H' ⟨rfl, hi, ts, hts, hd, hx, ht⟩
  have ha' : H' a = some (.frz od (ho a gs)) := hx _ _ upd_same
  by_cases hlt : i < gs.length
  · refine .inr ⟨hJ.1 i H' ha' hlt, fun H'' => i + 1 ≤ gs.length ∧ ∃ ts : List Addr, ts.length = i + 1 ∧ H'' Dd = some (.lst (ts.map V.ref)) ∧ (∀ x o, upd H a (.frz od (ho a gs)) x = some o → H'' x = some o) ∧ ∀ (j : Nat) (t : Addr), ts[j]? = some t → ∃ g : Gp, gs[j]? = some g ∧ H'' t = some (.tup (g.it.map V.int)) ∧ upd H a (.frz od (ho a gs)) t = none, fun H'' w => ⟨gs.length - (i + 1), by omega, rfl, w⟩, fun x H3 y => ?_⟩
    obtain ⟨rfl, g, hg, rfl⟩ := hJ.2.2 i _ _ _ y
    have hgm : g ∈ gs := List.mem_of_getElem? hg
    obtain ⟨l1, l2, l3, l4⟩ := L.li g hgm
    have hl : H3 g.ad = some (.lst (g.it.map V.int)) := hx _ _ (by rw [upd_ne l4]; exact l1)
    refine ⟨?_, ?_⟩
    · show ((σ.set 4 none).set 4 (some (V.ref g.ad))).set 4 none = σ.set 4 none
      rw [List.set_set, List.set_set]
    · unfold tYes
      simp only [if_true]
      refine ⟨.ref g.ad, ?_, g.ad, _, rfl, .inl ⟨SqL.of hl, fun T hT => ?_⟩⟩
      · show ((σ.set 4 none).set 4 (some (V.ref g.ad)))[4]? = _
        rw [List.getElem?_set_self (by rw [List.length_set]; omega)]
      · have neT : ∀ {x : Addr} {u : HO}, H3 x = some u → x ≠ T := fun e z => by rw [z, hT] at e; cases e
        refine ⟨ts.map V.ref, by rw [upd_ne (neT hd)]; exact hd, by rw [List.length_map, sizeLine_eq]; omega, by omega, ts ++ [T], by rw [List.length_append, List.length_singleton, hts], ?_, fun x o e => ?_, fun j t e => ?_⟩
        · rw [upd_same, List.map_append]; rfl
        · have e2 := hx x o e
          rw [upd_ne (fun z => by rw [z, hD] at e; cases e), upd_ne (neT e2)]; exact e2
        · rcases Nat.lt_or_ge j ts.length with hj | hj
          · rw [List.getElem?_append_left hj] at e
            obtain ⟨g', q1, q2, q3⟩ := ht j t e
            refine ⟨g', q1, ?_, q3⟩
            rw [upd_ne (fun z => by rw [z, hd] at q2; cases q2), upd_ne (neT q2)]; exact q2
          · have hj2 : j = ts.length := by
              have := (List.getElem?_eq_some_iff.mp e).1
              rw [List.length_append, List.length_singleton] at this
              omega
            subst hj2
            rw [List.getElem?_append_right (Nat.le_refl _), Nat.sub_self] at e
            cases e
            refine ⟨g, by rw [hts]; exact hg, ?_, ?_⟩
            · rw [upd_ne (fun z => by rw [z, hd] at hT; cases hT), upd_same]
            · cases e : upd H a (.frz od (ho a gs)) T with
              | none => rfl
              | some o => rw [hx T o e] at hT; cases hT
  · have ei : i = gs.length := by omega
    subst ei
    refine .inl ⟨hJ.2.1 H' ha', ha', Dd, ts.map V.ref, rfl, .inl ⟨SqL.of (by rw [upd_ne da]; exact hd), fun T2 hT2 => ?_⟩⟩
    have ta : T2 ≠ a := fun z => by rw [z, upd_same] at hT2; cases hT2
    have hT2' : H' T2 = none := by rw [upd_ne ta] at hT2; exact hT2
    have gr : ∀ x o, H x = some o → (upd (upd H' a (ho a gs)) T2 (.tup (ts.map V.ref))) x = some o := fun x o e => by
      by_cases hxa : x = a
      · subst hxa
        rw [upd_ne (Ne.symm ta), upd_same, ← L.ha, e]
      · have e2 := hx x o (by rw [upd_ne hxa]; exact e)
        rw [upd_ne (fun z => by rw [z, hT2'] at e2; cases e2), upd_ne hxa]; exact e2
    have LF := L.grow gr
    have nM : ∀ t, upd H a (.frz od (ho a gs)) t = none → ¬ M t := fun t e z => by
      by_cases hta : t = a
      · rw [hta, upd_same] at e; cases e
      · rw [upd_ne hta] at e
        exact L.sr.live t z e
    refine q _ _ M LF.ext LF.sr ?_
    have hac : (acc.map fun p => (PyData.tuple (p.2.map .int))) = gs.map fun g => .tuple (g.it.map .int) := by
      rw [← L.ac]
      unfold pairsG
      rw [List.map_map]; rfl
    rw [hac]
    refine .tup (.inl ⟨.inl upd_same, ?_⟩) ?_
    · refine nM T2 ?_
      cases e : upd H a (.frz od (ho a gs)) T2 with
      | none => rfl
      | some o => rw [hx T2 o e] at hT2'; cases hT2'
    · have key : ∀ (ts : List Addr) (gs' : List Gp), ts.length = gs'.length → (∀ (j : Nat) (t : Addr), ts[j]? = some t → ∃ g : Gp, gs'[j]? = some g ∧ H' t = some (.tup (g.it.map V.int)) ∧ upd H a (.frz od (ho a gs)) t = none) →
          ∀ tz, Reps K (upd (upd H' a (ho a gs)) T2 (.tup tz)) M (ts.map V.ref) (gs'.map fun g => .tuple (g.it.map .int)) := by
        intro ts
        induction ts with
        | nil =>
          intro gs' e _ tz
          cases gs' with
          | nil => exact .nil
          | cons g gs' => cases e
        | cons t ts ih =>
          intro gs' e hq tz
          cases gs' with
          | nil => cases e
          | cons g gs' =>
            obtain ⟨g0, q1, q2, q3⟩ := hq 0 t rfl
            cases q1
            have hta : t ≠ a := fun z => by rw [z, upd_same] at q3; cases q3
            refine .cons (.tup (.inl ⟨.inl ?_, nM t q3⟩) (ints_reps2 _)) (ih gs' (Nat.succ.inj e) (fun j t' e' => hq (j + 1) t' e') tz)
            rw [upd_ne (fun z => by rw [z, hT2'] at q2; cases q2), upd_ne hta]; exact q2
      exact key ts gs hts ht _
end
end Vi

namespace Vi
open PySem PySem.Spec PyProof.Rows L2
section
variable {K : PySem.W.Frag} {ok : D → Bool} {ho : Addr → List Gp → HO} {tnew tset : TE} {twi : TI} {H : Hp} {M O : Mset} {π : Nat → Option Addr} {σ : St} {kD : D}
theorem grp_go (S : GSpec K ok ho tnew tset twi) {ks : List D} (hk : mIEnum (mCons (mVar 0) mNil) (rhoC kD) = some (enumD 0 ks, rhoC kD)) (hks : ∀ k ∈ ks, ok k = true) (hn : ks.length ≤ 10000) (h : SR K H M O π (rhoC kD) σ) {D : Ends}
    (q : ∀ v σ' H' M', Ext O H M H' M' → SR K H' M' O π (rhoC kD) σ' → Rep K H' M' v (grpD ks) → D.rt v H') : tGrp K tnew tset twi D σ H := by
  refine S.nw σ H _ fun a ha => ?_
  obtain ⟨hl, v0, h0, r0⟩ := srC_el h
  have A1 := h.allocOwn (o := ho a []) ha
  have X1 := Ext.allocOwn h (o := ho a []) ha
  obtain ⟨_, v1, e1, r1⟩ := srC_el A1
  rw [h0] at e1; cases e1
  have oa : ¬ O a := fun z => h.live a (h.sub a z) ha
  have oN : ∀ {i : Nat} {b : Kd} {ds : List PyData}, (rhoC kD)[i]? ≠ some (some (.own b ds)) := rhoC_own
  -- the dict's name is set; the dict is held while the keys are walked
  have B1 : SR K (upd H a (ho a [])) (wth M a) (wth O a) π (rhoC kD) (σ.set 1 (some (.ref a))) :=
    srC_mk (by rw [List.length_set]; exact hl) (fun x z => z.elim (fun z => .inl (h.sub x z)) .inr) A1.live (by rw [List.getElem?_set_ne (by decide)]; exact h0) r1
  refine ⟨rhoC kD, wth M a, wth O a, π, _, _, B1, hk, fun J H2 M2 x2 s2 src => ?_⟩
  have ha2 : H2 a = some (ho a []) := x2.keep a _ upd_same (.inl (.inr rfl))
  have ma2 : M2 a := x2.sub a (.inr rfl)
  have x2' : Ext O (upd H a (ho a [])) (wth M a) H2 M2 := x2.less fun x z => .inl z
  have s2' : SR K H2 M2 O π (rhoC kD) (σ.set 1 (some (.ref a))) := s2.less fun x z => .inl z
  have L0 : LSt K ok ho O π kD a H2 M2 [] (σ.set 1 (some (.ref a))) H2 M2 [] :=
    ⟨s2', .refl s2', by rw [List.getElem?_set_self (by omega)], ha2, ma2, oa, fun g hg => (by cases hg), fun g hg => (by cases hg), List.nodup_nil, rfl⟩
  have hlen : (enumD 0 ks).length = ks.length := enumD_len 0 ks
  refine ⟨fun i m σ' H' => m = ks.length - i ∧ i ≤ ks.length ∧ ∃ M' gs, LSt K ok ho O π kD a H2 M2 (grpAll 0 (ks.take i) []) σ' H' M' gs, ⟨_, rfl, Nat.zero_le _, M2, [], L0⟩, ?_⟩
  rintro i m σ' H' ⟨rfl, hi, M', gs, L⟩
  have bd := grpAll_bd (ks.take i) 0 (acc := []) (n := 0) (m := 0) (Nat.le_refl _) (fun p hp => by cases hp)
  have lt : (ks.take i).length ≤ 10000 := by rw [List.length_take]; omega
  have b1 : gs.length < 100000 := by
    have e : gs.length = (pairsG gs).length := by unfold pairsG; rw [List.length_map]
    rw [e, L.ac]; omega
  have b2 : ∀ g ∈ gs, g.it.length < 100000 := fun g hg => by
    have e : (g.kd, g.it) ∈ pairsG gs := List.mem_map.mpr ⟨g, hg, rfl⟩
    rw [L.ac] at e
    have := bd.2 _ e
    show g.it.length < _
    have h2 : (g.kd, g.it).2.length = g.it.length := rfl
    omega
  by_cases hlt : i < ks.length
  · have hki : ks[i]? = some ks[i] := List.getElem?_eq_getElem hlt
    have hdi : (enumD 0 ks)[i]? = some (enumD 0 ks)[i] := List.getElem?_eq_getElem (by rw [hlen]; exact hlt)
    refine .inr ⟨src.go H' M' L.ext.tr i (by rw [hlen]; exact hlt), fun σ3 H3 => i + 1 ≤ ks.length ∧ ∃ M3 gs3, LSt K ok ho O π kD a H2 M2 (grpAll 0 (ks.take (i + 1)) []) σ3 H3 M3 gs3, fun σ3 H3 w => ⟨ks.length - (i + 1), by omega, rfl, w⟩, fun x H3 y => ?_⟩
    have yd := src.yld H' M' L.ext.tr i _ x H3 hdi y
    obtain ⟨s3, x3, r3⟩ := yd.ok L.sr
    have gr : ∀ z o, H' z = some o → H3 z = some o := by
      rcases yd with ⟨e, _⟩ | ⟨T, vs, es, _, hT, e, _, _⟩
      · rw [e]; exact fun _ _ e => e
      · rw [e]
        exact fun z o e2 => by rw [upd_ne (fun z' => by rw [z', hT] at e2; cases e2)]; exact e2
    have L3 := L.grow gr
    obtain ⟨kk, e1, e2⟩ := enumD_get hdi
    rw [hki] at e1
    cases e1
    rw [e2] at r3
    rw [Nat.zero_add] at r3
    refine ⟨rhoC kD, M', O, π, _, [some (.imm kD), none, some (.imm (.int (i : Nat))), some (.imm ks[i]), none], L3.sr, r3, rfl, fun σ4 s4 hne hl4 => ?_⟩
    obtain ⟨w2, f2, g2⟩ := s4.imm 2 (.int (i : Nat)) rfl
    obtain ⟨w3, f3, g3⟩ := s4.imm 3 ks[i] rfl
    cases g2
    have L4 : LSt K ok ho O π kD a H2 M2 (grpAll 0 (ks.take i) []) σ4 H3 M' gs := L3.frame (by rw [hl4]; exact (srC_el L.sr).1) (hne 0 (by decide)) (hne 1 (by decide))
    refine grp_body S L4 (i := (i : Nat)) f2 f3 g3 (hks _ (List.getElem_mem hlt)) b1 b2 fun H5 M5 gs5 L5 => ?_
    refine ⟨hlt, M5, gs5, ?_⟩
    have et : ks.take (i + 1) = ks.take i ++ [ks[i]] := by rw [List.take_add_one, hki]; rfl
    have ei : (0 : Int) + ((ks.take i).length : Nat) = (i : Nat) := by rw [List.length_take, Nat.min_eq_left (Nat.le_of_lt hlt)]; omega
    rw [et, grpAll_app, ei]
    exact L5
  · have ei : i = ks.length := by omega
    subst ei
    refine .inl ⟨by rw [← hlen]; exact src.stop H' M' L.ext.tr, ?_⟩
    rw [List.take_length] at L
    exact grp_ret S L b1 fun v H5 M5 x5 s5 r5 => q v _ H5 M5 ((X1.trans x2').trans x5) s5 r5
def mGrp (ok : D → Bool) : MS := fun ρ => match ρ with
  | [some (.imm (.list ks)), none, none, none, none] => if (decide (ks.length ≤ 10000) && ks.all ok) = true then some (.ret (.imm (grpD ks)), rhoC (.list ks)) else none
  | [some (.imm (.tuple ks)), none, none, none, none] => if (decide (ks.length ≤ 10000) && ks.all ok) = true then some (.ret (.imm (grpD ks)), rhoC (.tuple ks)) else none
  | _ => none
theorem grp_ok (S : GSpec K ok ho tnew tset twi) {D : Ends} (h : tS K (mGrp ok) D σ H) : tGrp K tnew tset twi D σ H := by
  obtain ⟨ρ, M, O, π, fl, ρ', s, e, q⟩ := h
  unfold mGrp at e
  split at e
  · split at e
    · rename_i hz
      cases e
      rw [Bool.and_eq_true] at hz
      exact grp_go S rfl (List.all_eq_true.mp hz.2) (of_decide_eq_true hz.1) s fun v σ' H' M' x' s' r' => q v σ' H' M' x' s' r'
    · cases e
  · split at e
    · rename_i hz
      cases e
      rw [Bool.and_eq_true] at hz
      exact grp_go S rfl (List.all_eq_true.mp hz.2) (of_decide_eq_true hz.1) s fun v σ' H' M' x' s' r' => q v σ' H' M' x' s' r'
    · cases e
  · cases e
/-! keys that are tuples -/
theorem gspB {K : PySem.W.Frag} : GSpec K keyOk hoB tDNew (tSetB K (tVar 1) (tVar 3) (tLst tNil)) (iValsB (tVar 1)) where
  mu := fun a gs => True.intro
  key := fun a gs gs' h => by
    have e1 : ∀ gs : List Gp, vsOf gs = (gs.map Gp.key).flatMap fun k => [k.2.1, .ref k.2.2] := fun gs => by
      induction gs with
      | nil => rfl
      | cons g gs ih =>
        show g.ky :: .ref g.ad :: vsOf gs = _
        rw [ih]; rfl
    have e2 : ∀ gs : List Gp, dsOf gs = (gs.map Gp.key).flatMap fun k => [k.1, .none] := fun gs => by
      induction gs with
      | nil => rfl
      | cons g gs ih =>
        show g.kd :: .none :: dsOf gs = _
        rw [ih]; rfl
    unfold hoB
    rw [e1, e2, e1 gs', e2 gs', h]
  nw := fun σ H Q h p hp => h p hp
  st := fun σ H M gs a y kd Q h1 h3 ha hky ry hk hl h => by
    refine ⟨.ref a, h1, a, gs, rfl, ha, ⟨M, hky⟩, y, h3, ?_⟩
    refine ⟨Nat.zero_le _, fun p hp => ?_⟩
    have gr : ∀ x o, H x = some o → upd H p (.lst []) x = some o := fun x o e => by rw [upd_ne (fun z => by rw [z, hp] at e; cases e)]; exact e
    obtain ⟨q1, q2⟩ := h p hp
    exact ⟨gs, kd, M, p, rfl, gr _ _ ha, fun g hg => ⟨(hky g hg).1, (hky g hg).2.tr (grow_tr gr)⟩, ry.tr (grow_tr gr), hk, hl, q1, q2⟩
  vl := fun σ H o gs a R h1 ha h => by
    refine ⟨.ref a, h1, a, o, gs, rfl, ha, h _ ⟨fun i H e hi => ⟨e, hi⟩, fun H e => ⟨e, Nat.le_refl _⟩, fun i H x H' y => y⟩⟩
/-! keys that are numbers -/
def intB : D → Bool
  | .int _ => true
  | _ => false
def keyI : D → Key
  | .int i => .inl i
  | _ => .inl 0
def hoA (a : Addr) (gs : List Gp) : HO := .dK (gs.map fun g => (keyI g.kd, .ref g.ad))
theorem intB_eq : ∀ {d : D}, intB d = true → ∃ i, d = .int i
  | .int i, _ => ⟨i, rfl⟩
  | .none, h => by cases h
  | .bool _, h => by cases h
  | .str _, h => by cases h
  | .list _, h => by cases h
  | .tuple _, h => by cases h
  | .dict _, h => by cases h
theorem val_find {K : PySem.W.Frag} {H : Hp} {M : Mset} (i : Int) : ∀ {gs : List Gp}, (∀ g ∈ gs, intB g.kd = true) → valV (gs.map fun g => (keyI g.kd, V.ref g.ad)) (.inl i) = (gFind gs (.int i)).map fun g => .ref g.ad
  | [], _ => rfl
  | g :: gs, h => by
    obtain ⟨j, hj⟩ := intB_eq (h g (List.mem_cons_self ..))
    have ih := val_find (K := K) (H := H) (M := M) i (gs := gs) fun x hx => h x (List.mem_cons_of_mem _ hx)
    rw [gFind_cons, hj]
    unfold valV at ih ⊢
    rw [List.map_cons, List.find?_cons]
    have e : (decide ((keyI g.kd, V.ref g.ad).1 = Sum.inl i)) = PyData.eqv (.int j) (.int i) := by
      rw [hj, PyData.eqv]
      show decide ((Sum.inl j : Key) = Sum.inl i) = (j == i)
      by_cases hij : j = i
      · subst hij; simp
      · rw [decide_eq_false (fun z => hij (by cases z; rfl))]
        simp [hij]
    rw [e]
    cases PyData.eqv (.int j) (.int i)
    · exact ih
    · rfl
theorem put_new {kvs : List (Key × V)} {k : Key} {v : V} (h : valV kvs k = none) : putK kvs k v = kvs ++ [(k, v)] := by
  unfold putK
  have : (kvs.any fun kv => decide (kv.1 = k)) = false := by
    unfold valV at h
    rw [Option.map_eq_none_iff, List.find?_eq_none] at h
    rw [List.any_eq_false]
    exact h
  rw [this]; rfl
theorem gspA {K : PySem.W.Frag} : GSpec K intB hoA tDNewK (tDSetd (tVar 1) (tVar 3) (tLst tNil)) (iVals (tVar 1)) where
  mu := fun a gs => True.intro
  key := fun a gs gs' h => by
    have e1 : ∀ gs : List Gp, (gs.map fun g => (keyI g.kd, V.ref g.ad)) = (gs.map Gp.key).map fun k => (keyI k.1, .ref k.2.2) := fun gs => by rw [List.map_map]; rfl
    unfold hoA
    rw [e1, e1 gs', h]
  nw := fun σ H Q h p hp => h p hp
  st := fun σ H M gs a y kd Q h1 h3 ha hky ry hk hl h => by
    obtain ⟨i, rfl⟩ := intB_eq hk
    cases ry
    refine ⟨.ref a, h1, a, rfl, .inl ⟨_, .inl ha⟩, .int i, h3, ?_⟩
    refine ⟨Nat.zero_le _, fun p hp => ?_⟩
    obtain ⟨q1, q2⟩ := h p hp
    have vf := val_find (K := K) (H := H) (M := M) i (gs := gs) fun g hg => (hky g hg).1
    refine ⟨gs.map fun g : Gp => (keyI g.kd, V.ref g.ad), .inl i, by rw [upd_ne (fun z => by rw [z, hp] at ha; cases ha)]; exact ha, rfl, by rw [List.length_map, sizeLine_eq]; omega, fun v e => ?_, fun e => ?_⟩
    · rw [vf] at e
      cases hg : gFind gs (.int i) with
      | none => rw [hg] at e; cases e
      | some g => rw [hg] at e; cases e; exact q1 g hg
    · rw [put_new e]
      rw [vf] at e
      have := q2 (by
        cases hg : gFind gs (.int i) with
        | none => rfl
        | some g => rw [hg] at e; cases e)
      unfold hoA at this
      rw [List.map_append] at this
      exact this
  vl := fun σ H o gs a R h1 ha h => by
    refine ⟨.ref a, h1, a, o, gs.map fun g : Gp => (keyI g.kd, V.ref g.ad), rfl, ha, h _ ⟨fun i H e hi => ⟨e, by rw [List.length_map]; exact hi⟩, fun H e => ⟨e, by rw [List.length_map]; exact Nat.le_refl _⟩, fun i H x H' y => ?_⟩⟩
    obtain ⟨e, k, hk⟩ := y
    refine ⟨e, ?_⟩
    rw [List.getElem?_map] at hk
    cases hg : gs[i]? with
    | none => rw [hg] at hk; cases hk
    | some g => rw [hg] at hk; cases hk; exact ⟨g, rfl, rfl⟩
/-! either -/
def mGrp2 : MS := fun ρ => match mGrp intB ρ with
  | some x => some x
  | none => mGrp keyOk ρ
theorem grp2_ok {D : Ends} (h : tS K mGrp2 D σ H) : tGrp K tDNewK (tDSetd (tVar 1) (tVar 3) (tLst tNil)) (iVals (tVar 1)) D σ H ∨ tGrp K tDNew (tSetB K (tVar 1) (tVar 3) (tLst tNil)) (iValsB (tVar 1)) D σ H := by
  obtain ⟨ρ, M, O, π, fl, ρ', s, e, q⟩ := h
  unfold mGrp2 at e
  split at e
  · rename_i x ex
    cases e
    exact .inl (grp_ok gspA ⟨ρ, M, O, π, fl, ρ', s, ex, q⟩)
  · exact .inr (grp_ok gspB ⟨ρ, M, O, π, fl, ρ', s, e, q⟩)
end
end Vi

namespace Vi
open PySem PySem.Spec PyProof.Rows L2
theorem dss_grp {X : Cx} {body : List Stmt} (hA : PSs X body (tGrp X.K tDNewK (tDSetd (tVar 1) (tVar 3) (tLst tNil)) (iVals (tVar 1)))) (hB : PSs X body (tGrp X.K tDNew (tSetB X.K (tVar 1) (tVar 3) (tLst tNil)) (iValsB (tVar 1)))) : DSs X body mGrp2 :=
  ⟨fun pins s σ H D I h => (grp2_ok h).elim (fun q => hA.run pins s σ H D I q) fun q => hB.run pins s σ H D I q⟩
/-! ### max(x, default=d) -/
section
variable {X : Cx}
def rMaxDef (K : PySem.W.Frag) : List V → List V → Hp → VK → Prop := fun xs zs H Q => ∃ (a : Addr) (vs : List V) (ds : List D) (d : Int), xs = [.ref a] ∧ zs = [.int d] ∧ (SqL K H a vs ∨ SqT K H a vs) ∧ DpAll K H vs ds ∧ (ds = [] → Q (.int d) H) ∧
  (∀ e es, ds = e :: es → minOk ds = true ∧ ∀ (i : Nat) (x : V), vs[i]? = some x → ds[i]? = some (W.maxD e es) → Q x H)
theorem cr_maxDef (hc : X.calm = true) (hu : X.A.units + 70 < cLine) : CallRK X (.builtin "max") ["default"] (rMaxDef X.K) := by
  intro pins s σ H xs zs us ws Q I r rz h
  obtain ⟨a, vs, ds, d, rfl, rfl, hsq, hdp, q0, q⟩ := h
  rw [Vals.ref1 r]
  obtain ⟨w, rfl, rw0⟩ := vals1 rz
  show wpAny _ _ (call (.builtin "max") [.ref a] [(Str.ofString "default", w)]) _ _ _
  have hal : W.AlikeAll ds ∧ PyData.depthAll ds ≤ 64 := by
    cases ds with
    | nil => exact ⟨⟨fun x hx => by (cases hx), fun x hx => by (cases hx)⟩, by rw [PyData.depthAll]; decide⟩
    | cons e es => exact ⟨minOk_al (q e es rfl).1, minOk_dep (q e es rfl).1⟩
  have fin : ∀ {its : List Value} {as : List Addr}, Vals vs its → ReadsAll s.heap its ds as → ∀ (y : D) (ys : List D) (i : Nat) (v : Value) (h' : Heap) (tk : Nat) (bs : List Addr), ds = y :: ys → its[i]? = some v → Reads h' v (W.maxD y ys) bs → (∀ b o, s.heap.get? b = some o → h'.get? b = some o) → EP X pins σ Q v { s with heap := h', toks := tk } := by
    intro its as rv hr y ys i v h' tk bs e hv rd kp
    obtain ⟨e', bs2, he, re⟩ := readsAll_i hr hv
    have e1 := (Reads.unique (Reads.keeps kp re) _ _ rd).1
    subst e1
    have hl := rv.length
    have hi : i < vs.length := by
      have := (List.getElem?_eq_some_iff.mp hv).1
      omega
    obtain ⟨w, ew, rw'⟩ := rv.get (List.getElem?_eq_getElem hi)
    rw [hv] at ew; cases ew
    exact ⟨_, H, I.kept (t' := tk) kp, rw', (q y ys e).2 i _ (List.getElem?_eq_getElem hi) he⟩
  rcases hsq with hsq | hsq
  · obtain ⟨its, rv, pl, hz⟩ := I.list hsq
    obtain ⟨as, hr⟩ := Dp.readsAll I ds vs its hdp rv
    exact W.max_list_default (I.ok.hd hc) pl.isList (show ReadsAll s.heap its.toArray.toList ds as by simpa using hr) hal.1 (by have := hal.2; omega) (fun e h' tk kp => ⟨_, H, I.kept (t' := tk) kp, rw0, q0 e⟩) fun y ys i v h' tk bs e hv rd kp => fin rv hr y ys i v h' tk bs e (by simpa using hv) rd kp
  · obtain ⟨its, rv, pl, hz⟩ := I.tuple hsq
    obtain ⟨as, hr⟩ := Dp.readsAll I ds vs its hdp rv
    exact W.max_tuple_default (I.ok.hd hc) pl (show ReadsAll s.heap its.toArray.toList ds as by simpa using hr) hal.1 (by have := hal.2; omega) (fun e h' tk kp => ⟨_, H, I.kept (t' := tk) kp, rw0, q0 e⟩) fun y ys i v h' tk bs e hv rd kp => fin rv hr y ys i v h' tk bs e (by simpa using hv) rd kp
def dMaxDef : D → D → Option Sv
  | .tuple [], .int d => some (.imm (.int d))
  | .list [], .int d => some (.imm (.int d))
  | .tuple (e :: es), .int _ => if minOk (e :: es) = true then some (.imm (W.maxD e es)) else none
  | .list (e :: es), .int _ => if minOk (e :: es) = true then some (.imm (W.maxD e es)) else none
  | _, _ => none
def mMaxDef (ma md : ME) : ME := fun ρ => match ma ρ with
  | some (p1, ρ1) => match frz ρ1 p1 with
    | some (d1, ρ2) => match md ρ2 with
      | some (.val (.imm (.int d)), ρ3) => match dMaxDef d1 (.int d) with
        | some sv => some (.val sv, ρ3)
        | none => none
      | _ => none
    | none => none
  | none => none
theorem maxDef_go {K : PySem.W.Frag} {H : Hp} {M : Mset} {v : V} {d1 : D} {d : Int} {sv : Sv} {Q : VK} (r : Rep K H M v d1) (e : dMaxDef d1 (.int d) = some sv) (q : ∀ y dd, sv = .imm dd → Rep K H M y dd → Q y H) : rMaxDef K [v] [.int d] H Q := by
  unfold dMaxDef at e
  split at e
  · rename_i d' e2
    cases e2; cases e
    cases r with
    | tup ht rr => cases rr; exact ⟨_, [], [], d, rfl, rfl, .inr ht.sq, .nil, fun _ => q _ _ rfl (.int _), fun e es h => by cases h⟩
  · rename_i d' e2
    cases e2; cases e
    cases r with
    | lst ht n rr => cases rr; exact ⟨_, [], [], d, rfl, rfl, .inl (.inl ht), .nil, fun _ => q _ _ rfl (.int _), fun e es h => by cases h⟩
  · rename_i e0 es d' e2
    split at e
    · rename_i hz
      cases e
      cases r with
      | tup ht rr =>
        refine ⟨_, _, e0 :: es, d, rfl, rfl, .inr ht.sq, rr.dp (minOk_lay hz), fun h => by (cases h), fun e' es' h => ?_⟩
        cases h
        refine ⟨hz, fun i x hx hd => ?_⟩
        obtain ⟨y, hy, ry⟩ := rr.get hd
        rw [hx] at hy; cases hy
        exact q _ _ rfl ry
    · cases e
  · rename_i e0 es d' e2
    split at e
    · rename_i hz
      cases e
      cases r with
      | lst ht n rr =>
        refine ⟨_, _, e0 :: es, d, rfl, rfl, .inl (.inl ht), rr.dp (minOk_lay hz), fun h => by (cases h), fun e' es' h => ?_⟩
        cases h
        refine ⟨hz, fun i x hx hd => ?_⟩
        obtain ⟨y, hy, ry⟩ := rr.get hd
        rw [hx] at hy; cases hy
        exact q _ _ rfl ry
    · cases e
  · cases e
theorem dMaxDef_imm {a b : D} {sv : Sv} (e : dMaxDef a b = some sv) : ∃ d, sv = .imm d := by
  unfold dMaxDef at e
  split at e
  · cases e; exact ⟨_, rfl⟩
  · cases e; exact ⟨_, rfl⟩
  · split at e
    · cases e; exact ⟨_, rfl⟩
    · cases e
  · split at e
    · cases e; exact ⟨_, rfl⟩
    · cases e
  · cases e
theorem de_maxDef {x : Str} {p pos kpos : Pos} {a b : Expr} {ma md : ME} (hc : X.calm = true) (hu : X.A.units + 70 < cLine) (hg : Gl X x) (hm : X.mg x = none) (hv : bootBuiltins x = some (.builtin "max")) (ha : DE X a ma) (hb : DE X b md) (hn : x ≠ "__name__" := by decide) (hdb : (x == ("__debug__" : Str)) = false := by decide)
    (hs : starEach (a :: []) X.env = (false, eval a X.env) :: starEach [] X.env := by rfl)
    (he : PySem.backTo pos (starEach (a :: []) X.env) = (false, eval a X.env) :: PySem.backTo pos (starEach [] X.env) := by rfl) (hpl : (PySem.backTo pos (starEach (a :: []) X.env)).any (·.1) = false := by rfl)
    (hall : (backToKw pos (keywordEach [⟨some "default", b, kpos⟩] X.env)).all (·.1.isSome) = true := by rfl) (hnone : (backToKw pos (keywordEach [⟨some "default", b, kpos⟩] X.env)).any (·.1.isNone) = false := by rfl) (hks : (backToKw pos (keywordEach [⟨some "default", b, kpos⟩] X.env)).filterMap (·.1) = [("default" : Str)] := by rfl) :
    DE X (.Call (.Name x p) [a] [⟨some "default", b, kpos⟩] pos) (mMaxDef ma md) :=
  PE.imp (pe_callBK (cr_maxDef hc hu) hg hm hv (pa_cons ha pa_nil hs) (pk_cons hb pk_nil) hn hdb he hpl hall hnone hks) fun σ H Q ⟨ρ, M, O, π, pr, ρ', h, e, q⟩ => by
    unfold mMaxDef at e
    split at e
    · rename_i p1 ρ1 e1
      split at e
      · rename_i d1 ρ2 e2
        split at e
        · rename_i d ρ3 e3
          split at e
          · rename_i sv e4
            cases e
            refine ⟨ρ, M, O, π, p1, ρ1, h, e1, fun v H1 M1 x1 s1 r1 => ?_⟩
            obtain ⟨M2, x2, s2, r2⟩ := frz_ok s1 r1 e2
            refine ⟨ρ2, M2, O, π, _, _, s2, e3, fun z H3 M3 x3 s3 r3 => ?_⟩
            cases (show Rep X.K H3 M3 z (.int d) from r3)
            exact maxDef_go (r2.tr x3.tr) e4 fun y dd ed ry => by
              subst ed
              exact q y H3 M3 ((x1.trans x2).trans x3) s3 ry
          · cases e
        · cases e
      · cases e
    · cases e
end
/-! a chain as a test; a whole number of a module -/
theorem dt_chain {X : Cx} {a b c : Expr} {ma mb mc : ME} {pos : Pos} {op op' : CmpOp} {r r' : R2} {f g : D → D → Option Sv} (ho : OpR X (compareOp op) r) (hs : OpS X r f) (ho' : OpR X (compareOp op') r') (hs' : OpS X r' g) (ha : DE X a ma) (hb : DE X b mb) (hc : DE X c mc)
    (hm : lastMarks [op, op'] [b, c] = false := by with_unfolding_all rfl) : DT X (.Compare a [op, op'] [b, c] pos) (mB (mChain f g ma mb mc)) :=
  PT.imp (pt_chain ho ho' ha hb hc hm) fun σ H Q h => tE_chain hs hs' (tT_B h)
def ConstI (mg : Str → Option Value) (x : Str) (i : Int) : Prop := ∃ t, mg x = some (.int i t)
theorem de_constI {X : Cx} {x : Str} {i : Int} {pos : Pos} (hg : Gl X x) (hc : ConstI X.mg x i) (hd : (x == ("__debug__" : Str)) = false := by decide) : DE X (.Name x pos) (mC (.int i)) := by
  obtain ⟨t, h1⟩ := hc
  exact de_c (v := .int i) (pe_glob hg h1 ⟨_, rfl⟩ hd) fun H M => .int i
end Vi

namespace Vi
open PySem PySem.Spec PyProof.Rows L2
/-! ### dicts whose keys are whole numbers -/
def mAlt {α : Type} (m1 m2 : Fm → Option α) : Fm → Option α := fun ρ => match m1 ρ with
  | some x => some x
  | none => m2 ρ
theorem de_alt {X : Cx} {e : Expr} {m1 m2 : ME} (h1 : DE X e m1) (h2 : DE X e m2) : DE X e (mAlt m1 m2) := ⟨fun pins s σ H Q I ⟨ρ, M, O, π, pr, ρ', h, e, q⟩ => by
  unfold mAlt at e
  split at e
  · rename_i x ex
    cases e
    exact h1.run pins s σ H Q I ⟨ρ, M, O, π, pr, ρ', h, ex, q⟩
  · exact h2.run pins s σ H Q I ⟨ρ, M, O, π, pr, ρ', h, e, q⟩⟩
theorem ds_alt {X : Cx} {st : Stmt} {m1 m2 : MS} (h1 : DS X st m1) (h2 : DS X st m2) : DS X st (mAlt m1 m2) := ⟨fun pins s σ H D I ⟨ρ, M, O, π, fl, ρ', h, e, q⟩ => by
  unfold mAlt at e
  split at e
  · rename_i x ex
    cases e
    exact h1.run pins s σ H D I ⟨ρ, M, O, π, fl, ρ', h, ex, q⟩
  · exact h2.run pins s σ H D I ⟨ρ, M, O, π, fl, ρ', h, e, q⟩⟩
theorem dt_altB {X : Cx} {e : Expr} {m1 m2 : ME} (h1 : DT X e (mB m1)) (h2 : DT X e (mB m2)) : DT X e (mB (mAlt m1 m2)) := ⟨fun pins s σ H Q I ⟨ρ, M, O, π, b, ρ', h, e, q⟩ => by
  unfold mB mAlt at e
  split at e
  · rename_i b0 ρ1 e1
    cases e
    split at e1
    · rename_i x ex
      cases e1
      refine h1.run pins s σ H Q I ⟨ρ, M, O, π, b, ρ', h, ?_, q⟩
      unfold mB
      rw [ex]
    · rename_i ex
      refine h2.run pins s σ H Q I ⟨ρ, M, O, π, b, ρ', h, ?_, q⟩
      unfold mB
      rw [e1]
  · cases e⟩
def intKeys : List D → Bool
  | .int _ :: _ :: r => intKeys r
  | [] => true
  | _ => false
def getI : List D → Int → Option D
  | .int j :: v :: r, i => if j = i then some v else getI r i
  | _, _ => none
def repI : List D → Int → D → List D
  | .int j :: v :: r, i, x => .int j :: (if j = i then x else v) :: repI r i x
  | l, _, _ => l
def putI (ds : List D) (i : Int) (x : D) : List D := if (getI ds i).isSome = true then repI ds i x else ds ++ [.int i, x]
def repV : List V → List D → Int → V → List V
  | k :: v :: vs, .int j :: _ :: ds, i, x => k :: (if j = i then x else v) :: repV vs ds i x
  | vs, _, _, _ => vs
section
variable {K : PySem.W.Frag} {H : Hp} {M : Mset}
theorem kv_get (i : Int) : ∀ {vs : List V} {ds : List D}, intKeys ds = true → Reps K H M vs ds → (getI ds i = none ∧ valV (kvO vs ds) (.inl i) = none) ∨ ∃ d v, getI ds i = some d ∧ valV (kvO vs ds) (.inl i) = some v ∧ Rep K H M v d
  | _, [], _, .nil => .inl ⟨rfl, rfl⟩
  | _, .int j :: d :: r, h, .cons (v := k) q1 (.cons (v := v) (vs := vt) q2 q) => by
    have ih := kv_get i (ds := r) h q
    by_cases e : j = i
    · refine .inr ⟨d, v, ?_, ?_, q2⟩
      · show (if j = i then _ else _) = _
        rw [if_pos e]
      · show valV ((Sum.inl j, v) :: kvO _ r) (.inl i) = _
        exact valV_pos (by show Sum.inl j = _; rw [e])
    · have e2 : ¬ (Sum.inl j : Key) = Sum.inl i := fun z => e (by cases z; rfl)
      have e3 : valV (kvO (k :: v :: vt) (.int j :: d :: r)) (.inl i) = valV (kvO vt r) (.inl i) := valV_neg e2
      have e4 : getI (.int j :: d :: r) i = getI r i := by
        show (if j = i then _ else _) = _
        rw [if_neg e]
      rw [e3, e4]; exact ih
theorem kv_len : ∀ {vs : List V} {ds : List D}, intKeys ds = true → Reps K H M vs ds → ds.length = 2 * (kvO vs ds).length
  | _, [], _, .nil => rfl
  | _, .int j :: d :: r, h, .cons q1 (.cons q2 q) => by
    show r.length + 1 + 1 = 2 * ((kvO _ r).length + 1)
    rw [kv_len (ds := r) h q]; omega
theorem kv_rep (i : Int) {x : V} {dx : D} (rx : Rep K H M x dx) : ∀ {vs : List V} {ds : List D}, intKeys ds = true → Reps K H M vs ds → Reps K H M (repV vs ds i x) (repI ds i dx) ∧ intKeys (repI ds i dx) = true ∧ kvO (repV vs ds i x) (repI ds i dx) = (kvO vs ds).map fun kv => if kv.1 = .inl i then (kv.1, x) else kv
  | _, [], _, .nil => ⟨.nil, rfl, rfl⟩
  | _, .int j :: d :: r, h, .cons (v := k) q1 (.cons (v := v) q2 q) => by
    obtain ⟨h1, h2, h3⟩ := kv_rep i rx (ds := r) h q
    refine ⟨.cons q1 (.cons ?_ h1), h2, ?_⟩
    · by_cases e : j = i
      · rw [if_pos e, if_pos e]; exact rx
      · rw [if_neg e, if_neg e]; exact q2
    · show (Sum.inl j, if j = i then x else v) :: kvO (repV _ r i x) (repI r i dx) = (if (Sum.inl j : Key) = .inl i then (Sum.inl j, x) else (Sum.inl j, v)) :: _
      rw [h3]
      by_cases e : j = i
      · rw [if_pos e, if_pos (by rw [e])]
      · rw [if_neg e, if_neg (fun z => e (by cases z; rfl))]
theorem kv_snoc (i : Int) {x : V} {dx : D} (rx : Rep K H M x dx) : ∀ {vs : List V} {ds : List D}, intKeys ds = true → Reps K H M vs ds → Reps K H M (vs ++ [.int i, x]) (ds ++ [.int i, dx]) ∧ intKeys (ds ++ [.int i, dx]) = true ∧ kvO (vs ++ [.int i, x]) (ds ++ [.int i, dx]) = kvO vs ds ++ [(.inl i, x)]
  | _, [], _, .nil => ⟨.cons (.int i) (.cons rx .nil), rfl, rfl⟩
  | _, .int j :: d :: r, h, .cons q1 (.cons q2 q) => by
    obtain ⟨h1, h2, h3⟩ := kv_snoc i rx (ds := r) h q
    exact ⟨.cons q1 (.cons q2 h1), h2, congrArg (_ :: ·) h3⟩
theorem kv_put (i : Int) {x : V} {dx : D} (rx : Rep K H M x dx) {vs : List V} {ds : List D} (h : intKeys ds = true) (q : Reps K H M vs ds) : ∃ vs', Reps K H M vs' (putI ds i dx) ∧ intHead (putI ds i dx) = true ∧ kvO vs' (putI ds i dx) = putK (kvO vs ds) (.inl i) x := by
  have hd : ∀ l : List D, intKeys l = true → l ≠ [] → intHead l = true := fun l h n => by
    match l, h, n with
    | [], _, n => exact absurd rfl n
    | .int _ :: _, _, _ => rfl
  unfold putI putK
  rw [valV_any]
  rcases kv_get i h q with ⟨h1, h2⟩ | ⟨d, v, h1, h2, _⟩
  · obtain ⟨k1, k2, k3⟩ := kv_snoc i rx h q
    rw [h1, h2]
    exact ⟨_, k1, hd _ k2 (by simp), k3⟩
  · obtain ⟨k1, k2, k3⟩ := kv_rep i rx h q
    rw [h1, h2]
    refine ⟨_, k1, hd _ k2 (fun z => ?_), k3⟩
    match ds, h, h1, z with
    | [], _, h1, _ => cases h1
    | .int _ :: _ :: _, _, _, z => cases z
end
/-- a look at the same thing -/
theorem recast {X : Cx} {pins : List (Addr × Obj)} {σ : St} {H : Hp} {s : Shared} {a : Addr} {u u' : HO} (I : Inv X pins σ H s) (e : H a = some u) (mu : Mut (some u)) (he : ∃ q, s.heap.get? a = some q) (new : ObjOk X.prog X.w (upd H a u') s.heap a u') : Inv X pins σ (upd H a u') s := by
  exact d_write (t' := s.toks) I (by rw [e]; exact mu) ⟨rfl, fun _ _ => rfl⟩ he new
/-- an empty dict, as one of either kind -/
theorem empty_K {X : Cx} {pins : List (Addr × Obj)} {σ : St} {H : Hp} {s : Shared} {a : Addr} (I : Inv X pins σ H s) (e : H a = some (dicO a [] [])) : Inv X pins σ (upd H a (.dK [])) s := by
  obtain ⟨⟨o, es, ep, h1, h2, h3, h4, h5, h6⟩, _⟩ := I.hok a _ e
  have e0 : es = #[] := by
    obtain ⟨l⟩ := es
    have h4 : Ents l [] [] := h4
    cases h4; rfl
  subst e0
  exact recast I e True.intro ⟨o, h1⟩ ⟨Nat.zero_le _, h6, [], .nil, o, #[], ep, h1, h2, h3, fun i hi => absurd hi (by simp), .nil, List.nodup_nil⟩
theorem empty_D {X : Cx} {pins : List (Addr × Obj)} {σ : St} {H : Hp} {s : Shared} {a : Addr} (I : Inv X pins σ H s) (e : H a = some (.dK [])) : Inv X pins σ (upd H a (dicO a [] [])) s := by
  obtain ⟨_, hd, vs, rel, o, es, ep, h1, h2, h3, h4, h5, h6⟩ := I.hok a _ e
  cases rel
  have e0 : es = #[] := by
    obtain ⟨l⟩ := es
    have h5 : Pairs _ l [] := h5
    cases h5; rfl
  subst e0
  exact recast I e True.intro ⟨o, h1⟩ ⟨⟨o, #[], ep, h1, h2, h3, .nil, List.nodup_nil, hd⟩, ⟨o, h1⟩, fun g1 g2 ⟨o', es', ep', k1, k2⟩ hk => ⟨o', es', ep', hk _ k1, k2⟩⟩
/-- whichever it is, it is one whose keys are whole numbers -/
def IsDK (H : Hp) (a : Addr) (kvs : List (Key × V)) : Prop := H a = some (.dK kvs) ∨ (kvs = [] ∧ H a = some (dicO a [] []))
theorem cell_isDK {K : PySem.W.Frag} {H : Hp} {M : Mset} {a : Addr} {vs : List V} {ds : List D} (h : intKeys ds = true) (r : Reps K H M vs ds) (e : H a = some (cell .dic a vs ds)) : IsDK H a (kvO vs ds) := by
  match ds, h, r with
  | [], _, .nil => exact .inr ⟨rfl, e⟩
  | .int j :: d :: r, _, _ => exact .inl (by rw [e, cell_int rfl])
/-- d[k] = v -/
def rSetKI : TSet := fun o i v H Q => ∃ a k kvs, o = .ref a ∧ i = .int k ∧ IsDK H a kvs ∧ kvs.length < sizeLine ∧ Q (upd H a (.dK (putK kvs (.inl k) v)))
theorem set_dicI {X : Cx} (hu : X.A.units + 9 < cLine) : PSet X rSetKI := by
  intro pins s σ H o i v ov iv u Q I ro ri rv h
  obtain ⟨a, k, kvs, rfl, rfl, hd, hl, q⟩ := h
  obtain rfl : ov = Value.ref a := ro
  rcases hd with e | ⟨rfl, e⟩
  · exact d_setItem (by omega) I (DPut.k (k := .inl k) e hl) ri rv fun s' I' => ⟨_, I', q⟩
  · have I2 := empty_K I e
    have e2 : upd H a (.dK []) a = some (.dK []) := upd_same
    exact d_setItem (by omega) I2 (DPut.k (k := .inl k) e2 hl) ri rv fun s' I' => ⟨_, by rw [upd_upd] at I'; exact I', q⟩
end Vi

namespace Vi
open PySem PySem.Spec PyProof.Rows L2
section
variable {X : Cx} {pos : Pos} {o i e k st_e : Expr} {td ty tv : TE} {me mk : ME}
theorem peek_int {K : PySem.W.Frag} {H : Hp} {M O : Mset} {π : Nat → Option Addr} {ρ : Fm} {σ : St} {pr : PR} {v : V} {n : Int} (s : SR K H M O π ρ σ) (r : RP K H M O ρ σ pr v) (e : peek ρ pr = some (.int n)) : v = .int n := by
  have w := peek_vw s r e
  cases (show Rep K H M v (.int n) from w)
  rfl
/-- d[k] = v, k a whole number -/
def mDPutI (i : Nat) (mk me : ME) : MS := fun ρ => match me ρ with
  | some (pr, ρ1) => match frz ρ1 pr with
    | some (d, ρ2) => match ρ2[i]? with
      | some (some (.own .dic _)) => match mk ρ2 with
        | some (pk, ρ3) => match peek ρ3 pk with
          | some (.int n) => match ρ3[i]? with
            | some (some (.own .dic ds)) => if (intKeys ds && decide (ds.length ≤ 10000)) = true then some (.next, ρ3.set i (some (.own .dic (putI ds n d)))) else none
            | _ => none
          | _ => none
        | none => none
      | _ => none
    | none => none
  | none => none
theorem ds_dputI {st : Stmt} {i : Nat} (h : ∀ te tk, PE X e te → PE X k tk → PS X st (tAsg te (gSub (tVar i) tk rSetKI))) (he : DE X e me) (hk : DE X k mk) : DS X st (mDPutI i mk me) :=
  PS.imp (h _ _ he hk) fun D σ H ⟨ρ, M, O, π, fl, ρ', h, e, q⟩ => by
    unfold mDPutI at e
    split at e
    · rename_i pr ρ1 e1
      split at e
      · rename_i d ρ2 e2
        split at e
        · rename_i ds0 e0
          split at e
          · rename_i pk ρ3 e3
            split at e
            · rename_i n e4
              split at e
              · rename_i ds e5
                split at e
                · rename_i hz
                  cases e
                  rw [Bool.and_eq_true, decide_eq_true_eq] at hz
                  refine ⟨ρ, M, O, π, pr, ρ1, h, e1, fun v H1 M1 x1 s1 r1 => ?_⟩
                  obtain ⟨M2, x2, s2, r2⟩ := frz_ok s1 r1 e2
                  obtain ⟨a, vs, f1, f2, f3, f4, f5, f6⟩ := s2.own i .dic ds0 e0
                  refine ⟨.ref a, f1, ρ2, M2, O, π, pk, ρ3, s2, e3, fun w H3 M3 x3 s3 r3 => ?_⟩
                  obtain ⟨a', ws, g1, g2, g3, g4, g5, g6⟩ := s3.own i .dic ds e5
                  rw [f1] at g1; cases g1
                  have hw := peek_int s3 r3 e4
                  subst hw
                  have hdk := cell_isDK hz.1 g5 g2
                  have hlen := kv_len hz.1 g5
                  obtain ⟨vs', p1, p2, p3⟩ := kv_put n (r2.tr x3.tr) hz.1 g5
                  obtain ⟨s4, x4, t4⟩ := s3.writeC (b := .dic) (ws := vs') (es := putI ds n d) e5 f1 p1
                  rw [cell_int p2, p3] at s4 x4
                  exact ⟨a, n, _, rfl, rfl, hdk, by rw [sizeLine_eq]; omega, q _ _ M3 (((x1.trans x2).trans x3).trans x4) s4⟩
                · cases e
              · cases e
            · cases e
          · cases e
        · cases e
      · cases e
    · cases e
/-- d[k] -/
def mDIxI (i : Nat) (mk : ME) : ME := fun ρ => match ρ[i]? with
  | some (some (.own .dic _)) => match mk ρ with
    | some (pk, ρ1) => match peek ρ1 pk with
      | some (.int n) => match ρ1[i]? with
        | some (some (.own .dic ds)) => if (intKeys ds && intHead ds) = true then match getI ds n with
          | some d => some (.val (.imm d), ρ1)
          | none => none
          else none
        | _ => none
      | _ => none
    | none => none
  | _ => none
theorem de_dixI {i : Nat} (hu : X.A.units + 9 < cLine) (ho : PE X o (tVar i)) (hk : DE X k mk) (hs : NoSl k) : DE X (.Subscript o k pos) (mDIxI i mk) :=
  PE.imp (pe_dget (by omega) ho hk hs) fun σ H Q ⟨ρ, M, O, π, pr, ρ', h, e, q⟩ => by
    unfold mDIxI at e
    split at e
    · rename_i ds0 e0
      obtain ⟨a0, vs0, g1, g2, g3, g4, g5, _⟩ := h.own i .dic ds0 e0
      refine ⟨.ref a0, g1, ?_⟩
      split at e
      · rename_i pk ρ1 e1
        split at e
        · rename_i n e2
          split at e
          · rename_i ds e3
            split at e
            · rename_i hz
              rw [Bool.and_eq_true] at hz
              split at e
              · rename_i d ed
                cases e
                refine ⟨ρ, M, O, π, pk, _, h, e1, fun y H1 M1 x1 s1 r1 => ?_⟩
                obtain ⟨a, vs, f1, f2, f3, f4, f5, _⟩ := s1.own i .dic ds e3
                rw [g1] at f1; cases f1
                have hw := peek_int s1 r1 e2
                subst hw
                rw [cell_int hz.2] at f2
                rcases kv_get n hz.1 f5 with ⟨k1, _⟩ | ⟨d', v, k1, k2, k3⟩
                · rw [ed] at k1; cases k1
                · rw [ed] at k1; cases k1
                  refine ⟨a0, v, rfl, ?_, q v H1 M1 x1 s1 k3⟩
                  have := DGet.k (k := .inl n) f2
                  rw [k2] at this
                  exact this
              · cases e
            · cases e
          · cases e
        · cases e
      · cases e
    · cases e
/-- k in d, k not in d -/
def mInDI (neg : Bool) (i : Nat) (mk : ME) : ME := fun ρ => match mk ρ with
  | some (pk, ρ1) => match peek ρ1 pk with
    | some (.int n) => match ρ1[i]? with
      | some (some (.own .dic ds)) => if intKeys ds = true then some (.val (.imm (.bool (neg != (getI ds n).isSome))), ρ1) else none
      | _ => none
    | _ => none
  | none => none
def tInI (neg : Bool) (ty td : TE) : TE := fun σ H Q => ty σ H fun y H1 => td σ H1 fun x H2 => ∃ a kvs n, x = .ref a ∧ IsDK H2 a kvs ∧ y = .int n ∧ Q (.bl (neg != (valV kvs (.inl n)).isSome)) H2
theorem upd_back {H : Hp} {a : Addr} {u u' : HO} (e : H a = some u) : upd (upd H a u') a u = H := by
  rw [upd_upd]
  funext b
  unfold upd
  split
  · rename_i h; rw [h, e]
  · rfl
theorem pc_inI (hu : X.A.units + 9 < cLine) (hi : PE X i ty) (ho : PE X o td) : PC X .In i o (tInI false ty td) := by
  refine ⟨fun pins s σ H Q I h => ?_⟩
  refine thn (hi.run pins s σ H _ I h) fun iv s1 ⟨y, H1, I1, ry, q1⟩ => thn (ho.run pins s1 σ H1 _ I1 q1) fun u s2 ⟨x, H2, I2, rx, a, kvs, n, ex, hd, ey, q2⟩ => ?_
  subst ex ey
  obtain rfl : u = Value.ref a := rx
  rcases hd with e | ⟨rfl, e⟩
  · exact d_in (by omega) I2 (DGet.k (k := .inl n) e) ry fun s3 I3 => ⟨.bl (valV kvs (.inl n)).isSome, H2, I3, rfl, by simpa using q2⟩
  · refine d_in (by omega) (empty_K I2 e) (DGet.k (k := .inl n) upd_same) ry fun s3 I3 => ⟨.bl (valV [] (.inl n)).isSome, H2, ?_, rfl, by simpa using q2⟩
    have := empty_D I3 upd_same
    rw [upd_back e] at this
    exact this
theorem pc_notInI (hu : X.A.units + 9 < cLine) (hi : PE X i ty) (ho : PE X o td) : PC X .NotIn i o (tInI true ty td) := by
  refine ⟨fun pins s σ H Q I h => ?_⟩
  refine thn (hi.run pins s σ H _ I h) fun iv s1 ⟨y, H1, I1, ry, q1⟩ => thn (ho.run pins s1 σ H1 _ I1 q1) fun u s2 ⟨x, H2, I2, rx, a, kvs, n, ex, hd, ey, q2⟩ => ?_
  subst ex ey
  obtain rfl : u = Value.ref a := rx
  rcases hd with e | ⟨rfl, e⟩
  · exact d_notIn (by omega) I2 (DGet.k (k := .inl n) e) ry fun s3 I3 => ⟨.bl (!(valV kvs (.inl n)).isSome), H2, I3, rfl, by simpa using q2⟩
  · refine d_notIn (by omega) (empty_K I2 e) (DGet.k (k := .inl n) upd_same) ry fun s3 I3 => ⟨.bl (!(valV [] (.inl n)).isSome), H2, ?_, rfl, by simpa using q2⟩
    have := empty_D I3 upd_same
    rw [upd_back e] at this
    exact this
theorem tE_inDI {K : PySem.W.Frag} {neg : Bool} {i : Nat} {σ : St} {H : Hp} {Q : VK} (h : tE K (mInDI neg i mk) σ H Q) : tInI neg (tE K mk) (tVar i) σ H Q := by
  obtain ⟨ρ, M, O, π, pr, ρ', h, e, q⟩ := h
  unfold mInDI at e
  split at e
  · rename_i pk ρ1 e1
    split at e
    · rename_i n e2
      split at e
      · rename_i ds e3
        split at e
        · rename_i hz
          cases e
          refine ⟨ρ, M, O, π, pk, _, h, e1, fun y H1 M1 x1 s1 r1 => ?_⟩
          obtain ⟨a, vs, f1, f2, f3, f4, f5, _⟩ := s1.own i .dic ds e3
          have hw := peek_int s1 r1 e2
          refine ⟨.ref a, f1, a, _, n, rfl, cell_isDK hz f5 f2, hw, ?_⟩
          have hv : (valV (kvO vs ds) (.inl n)).isSome = (getI ds n).isSome := by
            rcases kv_get n hz f5 with ⟨k1, k2⟩ | ⟨d', v, k1, k2, k3⟩ <;> rw [k1, k2] <;> rfl
          rw [hv]
          exact q _ H1 M1 x1 s1 (.bl _)
        · cases e
      · cases e
    · cases e
  · cases e
theorem de_inDI {i : Nat} (hu : X.A.units + 9 < cLine) (hk : DE X k mk) (ho : PE X o (tVar i)) (hm : behindInMarks .In o = false) : DE X (.Compare k [.In] [o] pos) (mInDI false i mk) :=
  PE.imp (pe_cmp (pc_inI hu hk ho) hm) fun σ H Q h => tE_inDI h
theorem de_notInDI {i : Nat} (hu : X.A.units + 9 < cLine) (hk : DE X k mk) (ho : PE X o (tVar i)) (hm : behindInMarks .NotIn o = false) : DE X (.Compare k [.NotIn] [o] pos) (mInDI true i mk) :=
  PE.imp (pe_cmp (pc_notInI hu hk ho) hm) fun σ H Q h => tE_inDI h
theorem dt_inDI {i : Nat} (hu : X.A.units + 9 < cLine) (hk : DE X k mk) (ho : PE X o (tVar i)) (hm : behindInMarks .In o = false) : DT X (.Compare k [.In] [o] pos) (mB (mInDI false i mk)) :=
  PT.imp (pt_cmp (pc_inI hu hk ho) hm) fun σ H Q h => tE_inDI (tT_B h)
theorem dt_notInDI {i : Nat} (hu : X.A.units + 9 < cLine) (hk : DE X k mk) (ho : PE X o (tVar i)) (hm : behindInMarks .NotIn o = false) : DT X (.Compare k [.NotIn] [o] pos) (mB (mInDI true i mk)) :=
  PT.imp (pt_cmp (pc_notInI hu hk ho) hm) fun σ H Q h => tE_inDI (tT_B h)
/-- len(d) -/
def mDLen (i : Nat) : ME := fun ρ => match ρ[i]? with
  | some (some (.own .dic ds)) => if intKeys ds = true then some (.val (.imm (.int ((ds.length / 2 : Nat) : Int))), ρ) else none
  | _ => none
def rLenI : List V → Hp → VK → Prop := fun xs H Q => ∃ a kvs, xs = [V.ref a] ∧ IsDK H a kvs ∧ Q (.int kvs.length) H
theorem cr_lenI : CallR X (.builtin "len") rLenI := by
  intro pins s σ H xs us Q I r h
  obtain ⟨a, kvs, rfl, hd, q⟩ := h
  obtain ⟨u, rfl, ru⟩ := vals1 r
  cases ru
  rcases hd with e | ⟨rfl, e⟩
  · exact d_len I (.inl e) fun t s' I' => ⟨.int kvs.length, H, I', ⟨t, rfl⟩, q⟩
  · refine d_len (empty_K I e) (.inl upd_same) fun t s' I' => ⟨.int (([] : List (Key × V)).length : Nat), H, ?_, ⟨t, rfl⟩, q⟩
    have := empty_D I' upd_same
    rw [upd_back e] at this
    exact this
theorem de_dLen {i : Nat} {x : Str} {a : Expr} {p pos : Pos} (hg : Gl X x) (hm : X.mg x = none) (hv : bootBuiltins x = some (.builtin "len")) (ha : PE X a (tVar i))
    (hn : x ≠ "__name__" := by decide) (hd : (x == ("__debug__" : Str)) = false := by decide) (he : starEach (a :: []) X.env = (false, eval a X.env) :: starEach [] X.env := by rfl) (hpl : (PySem.backTo pos (starEach [] X.env)).any (·.1) = false := by rfl) : DE X (.Call (.Name x p) [a] [] pos) (mDLen i) :=
  PE.imp (pe_callB cr_lenI hg hm hv (pa_cons ha pa_nil he) hn hd he hpl) fun σ H Q ⟨ρ, M, O, π, pr, ρ', h, e, q⟩ => by
    unfold mDLen at e
    split at e
    · rename_i ds e0
      split at e
      · rename_i hz
        cases e
        obtain ⟨a', vs, f1, f2, f3, f4, f5, _⟩ := h.own i .dic ds e0
        refine ⟨.ref a', f1, a', _, rfl, cell_isDK hz f5 f2, ?_⟩
        have hl := kv_len hz f5
        have e2 : (kvO vs ds).length = ds.length / 2 := by omega
        rw [e2]
        exact q _ H M (.refl h) h (.int _)
      · cases e
    · cases e
end
/-! a name's fixed value, as a value -/
def mImm (me : ME) : ME := fun ρ => match me ρ with
  | some (.slot i, ρ1) => match ρ1[i]? with
    | some (some (.imm d)) => some (.val (.imm d), ρ1)
    | _ => none
  | some (.val s, ρ1) => some (.val s, ρ1)
  | none => none
theorem de_imm {X : Cx} {e : Expr} {me : ME} (h : DE X e me) : DE X e (mImm me) := PE.imp h fun σ H Q ⟨ρ, M, O, π, pr, ρ', s, e, q⟩ => by
  unfold mImm at e
  split at e
  · rename_i i ρ1 e1
    split at e
    · rename_i d e2
      cases e
      refine ⟨ρ, M, O, π, _, _, s, e1, fun v H1 M1 x1 s1 r1 => q v H1 M1 x1 s1 ?_⟩
      obtain ⟨w, f1, f2⟩ := s1.imm i d e2
      have r1' : σ[i]? = some (some v) := r1
      rw [f1] at r1'
      cases r1'
      exact f2
    · cases e
  · rename_i s0 ρ1 e1
    cases e
    exact ⟨ρ, M, O, π, _, _, s, e1, q⟩
  · cases e
/-! three names at once, the second and the third fresh lists -/
section
variable {X : Cx} {D : Ends}
def mPar3OO (i j k : Nat) (ma mb mc : ME) : MS := fun ρ => match ma ρ with
  | some (p1, ρ1) => match frz ρ1 p1 with
    | some (d1, ρ2) => match mb ρ2 with
      | some (p2, ρ3) => match take ρ3 p2 with
        | some (s2, ρ4) => match mc ρ4 with
          | some (p3, ρ5) => match take ρ5 p3 with
            | some (s3, ρ6) => if (fine s2 && fine s3) = true then some (.next, ((ρ6.set i (some (.imm d1))).set j (some s2)).set k (some s3)) else none
            | none => none
          | none => none
        | none => none
      | none => none
    | none => none
  | none => none
theorem ds_par3OO {st : Stmt} {a b c : Expr} {ma mb mc : ME} {i j k : Nat} (h : ∀ ta, PA X [a, b, c] ta → PS X st (tPar3 i j k ta)) (ha : DE X a ma) (hb : DE X b mb) (hcc : DE X c mc) (hs : starEach [a, b, c] X.env = (false, eval a X.env) :: starEach [b, c] X.env := by rfl) (hs2 : starEach [b, c] X.env = (false, eval b X.env) :: starEach [c] X.env := by rfl) (hs3 : starEach [c] X.env = (false, eval c X.env) :: starEach [] X.env := by rfl) : DS X st (mPar3OO i j k ma mb mc) :=
  PS.imp (h _ (pa_cons ha (pa_cons hb (pa_cons hcc pa_nil hs3) hs2) hs)) fun D σ H ⟨ρ, M, O, π, fl, ρ', h, e, q⟩ => by
    unfold mPar3OO at e
    split at e
    · rename_i p1 ρ1 e1
      split at e
      · rename_i d1 ρ2 e2
        split at e
        · rename_i p2 ρ3 e3
          split at e
          · rename_i s2 ρ4 e4
            split at e
            · rename_i p3 ρ5 e5
              split at e
              · rename_i s3 ρ6 e6
                split at e
                · rename_i hz
                  cases e
                  rw [Bool.and_eq_true] at hz
                  refine ⟨ρ, M, O, π, p1, ρ1, h, e1, fun v1 H1 M1 x1 t1 r1 => ?_⟩
                  obtain ⟨M2, x2, t2, r2⟩ := frz_ok t1 r1 e2
                  refine ⟨ρ2, M2, O, π, p2, ρ3, t2, e3, fun v2 H3 M3 x3 t3 r3 => ?_⟩
                  obtain ⟨M4, x4, t4, r4⟩ := take_ok t3 r3 e4
                  refine ⟨ρ4, M4, Vi.hold O (.val s2) v2, π, p3, ρ5, t4.hold r4, e5, fun v3 H5 M5 x5 t5 r5 => ⟨v1, v2, v3, rfl, ?_⟩⟩
                  obtain ⟨M6, x6, t6, r6⟩ := take_ok t5 r5 e6
                  have le := hold_le O (.val s2) v2
                  have x56 := (x5.trans x6).less le
                  have y2 := r4.held (x5.trans x6) t6
                  have y1 : RP X.K H5 M6 (Vi.hold O (.val s2) v2) ρ6 σ (.val (.imm d1)) v1 := r2.tr ((x3.trans x4).trans x56).tr
                  have y1' : RP X.K H5 M6 O ρ6 σ (.val (.imm d1)) v1 := r2.tr ((x3.trans x4).trans x56).tr
                  have z2 := RP.set (s1 := .imm d1) (i := i) y1' y2 t6.len
                  have z3 := RP.set (s1 := .imm d1) (i := i) y1 r6 t6.len
                  have t7 := (t6.less le).setImm (show Rep X.K H5 M6 v1 d1 from y1') (i := i)
                  have t8 := t7.setVal z2 (fine_ne hz.1) j
                  have z4 := RP.set (i := j) z2 z3 t7.len
                  exact q _ H5 M6 (((((x1.trans x2).trans x3).trans x4).trans x56)) (t8.setVal z4 (fine_ne hz.2) k)
                · cases e
              · cases e
            · cases e
          · cases e
        · cases e
      · cases e
    · cases e
theorem ds_par3OOC {st : Stmt} {a b c : Expr} {ma mb mc : ME} {i j k : Nat} (h : ∀ ta, PA X [a, b, c] ta → PS X st (tAsg (tTup ta) (gTup X.K 3 (gCons (gName i) (gCons (gName j) (gCons (gName k) gNil)))))) (ha : DE X a ma) (hb : DE X b mb) (hcc : DE X c mc) (hs : starEach [a, b, c] X.env = (false, eval a X.env) :: starEach [b, c] X.env := by rfl) (hs2 : starEach [b, c] X.env = (false, eval b X.env) :: starEach [c] X.env := by rfl) (hs3 : starEach [c] X.env = (false, eval c X.env) :: starEach [] X.env := by rfl) : DS X st (mPar3OO i j k ma mb mc) :=
  PS.imp (h _ (pa_cons ha (pa_cons hb (pa_cons hcc pa_nil hs3) hs2) hs)) fun D σ H ⟨ρ, M, O, π, fl, ρ', h, e, q⟩ => by
    unfold mPar3OO at e
    split at e
    · rename_i p1 ρ1 e1
      split at e
      · rename_i d1 ρ2 e2
        split at e
        · rename_i p2 ρ3 e3
          split at e
          · rename_i s2 ρ4 e4
            split at e
            · rename_i p3 ρ5 e5
              split at e
              · rename_i s3 ρ6 e6
                split at e
                · rename_i hz
                  cases e
                  rw [Bool.and_eq_true] at hz
                  refine ⟨ρ, M, O, π, p1, ρ1, h, e1, fun v1 H1 M1 x1 t1 r1 => ?_⟩
                  obtain ⟨M2, x2, t2, r2⟩ := frz_ok t1 r1 e2
                  refine ⟨ρ2, M2, O, π, p2, ρ3, t2, e3, fun v2 H3 M3 x3 t3 r3 => ?_⟩
                  obtain ⟨M4, x4, t4, r4⟩ := take_ok t3 r3 e4
                  refine ⟨ρ4, M4, Vi.hold O (.val s2) v2, π, p3, ρ5, t4.hold r4, e5, fun v3 H5 M5 x5 t5 r5 => ⟨by show 3 ≤ sizeLine; decide, fun p hp => ⟨p, [v1, v2, v3], rfl, .inl (.inl upd_same), rfl, v1, [v2, v3], rfl, v2, [v3], rfl, v3, [], rfl, rfl, ?_⟩⟩⟩
                  obtain ⟨M6, x6, t6, r6⟩ := take_ok t5 r5 e6
                  have le := hold_le O (.val s2) v2
                  have y1 : Ext (Vi.hold (Vi.hold O (.val s2) v2) (.val s3) v3) H5 M6 (upd H5 p (.tup [v1, v2, v3])) M6 := .alloc (t6.hold r6) hp
                  have u6 := (t6.hold r6).alloc (o := .tup [v1, v2, v3]) hp
                  have le2 := hold_le (Vi.hold O (.val s2) v2) (.val s3) v3
                  have r6' := r6.held y1 u6
                  have x56 := (x5.trans x6).trans (y1.less le2)
                  have r4' := r4.held x56 (u6.less le2)
                  have g1 := r2.tr ((x3.trans x4).trans (x56.less le)).tr
                  have z1 : RP X.K (upd H5 p (.tup [v1, v2, v3])) M6 (Vi.hold O (.val s2) v2) ρ6 σ (.val (.imm d1)) v1 := g1
                  have z1' : RP X.K (upd H5 p (.tup [v1, v2, v3])) M6 O ρ6 σ (.val (.imm d1)) v1 := g1
                  have z2 := RP.set (s1 := .imm d1) (i := i) z1' r4' u6.len
                  have z3 := RP.set (s1 := .imm d1) (i := i) z1 r6' u6.len
                  have t7 := ((u6.less le2).less le).setImm g1 (i := i)
                  have t8 := t7.setVal z2 (fine_ne hz.1) j
                  have z4 := RP.set (i := j) z2 z3 t7.len
                  exact q _ _ M6 (((((x1.trans x2).trans x3).trans x4).trans (x56.less le))) (t8.setVal z4 (fine_ne hz.2) k)
                · cases e
              · cases e
            · cases e
          · cases e
        · cases e
      · cases e
    · cases e
end
end Vi

/-! classes of one's own over any base error: a field is stored -/
namespace Vi
open PySem PySem.W PySem.Calls PyProof.Rows PySem.HandSPX L2
open Builtin Builtin.ObjectAttr in
/-- what is wanted of the base's mro -/
structure Tail (bmB : List Value) : Prop where
  pass : ∀ self, refuseLoop self "__setattr__" bmB = pure ()
  obj : bmB.contains (.type "object") = true
  ne : ∀ l, excTail bmB l = true → l.isEmpty = false
theorem tail_LE : Tail [.type "LookupError", .type "Exception", .type "BaseException", .type "object"] where
  pass := fun self => F.store_LookupError.passes self
  obj := by decide +kernel
  ne := fun l h => by
    cases l with
    | nil => exact absurd h (by decide)
    | cons _ _ => rfl
section
open Builtin Builtin.ObjectAttr
variable {prog : Program} {w : World} {A : Around} {R : Result → Shared → Prop} {hp : Heap} {g : Array GenState} {d : Drawn} {t : Nat} {os : OsState} {bmB : List Value}
theorem osa_first (T : Tail bmB) {K : W.Frag} {name : Str} {tk : Tok} {v : Value} {x C : Addr} {fv : Array Value} {cd : ClassData}
    (X : K.In hp) (hx : hp.get? x = some { cls := .ref C, data := .fields fv }) (hcd : W.clsIn K C = some cd) (hm : excTail bmB cd.mro = true) (hh : cd.hasDict = true) (ha : W.findIn K (.ref C) name = some none)
    (hq : ∀ h' tk' dx, (∀ b o, b ≠ x → hp.get? b = some o → h'.get? b = some o) → hp.objs.size ≤ dx → dx ≠ x → h'.get? x = some { cls := .ref C, dict := some dx, data := .fields fv } →
      h'.Ns1 dx (fun y => if y = name then some v else none) → R (.ok (.ret .none)) ⟨h', g, d, tk', os⟩) :
    codeAny (model prog w) A (.call (.builtin "object.__setattr__") ⟨[.ref x, .str name tk, v], []⟩) R ⟨hp, g, d, t, os⟩ := by
  have hxs : x ≠ hp.objs.size := Nat.ne_of_lt (Heap.lt_size hx)
  have J : W.InstAt hp x { cls := .ref C, data := .fields fv } C none := ⟨hx, rfl, rfl, trivial⟩
  have ho : cd.mro.contains (.type "object") = true := (excTail_contains "object" _ hm).trans T.obj
  have isO : W.Looks (model prog w) hp (isInstance (.ref x) (.type "object")) true := J.type.andThen (W.looks_mroIn X (by unfold W.mroIn; rw [hcd, Option.bind_some, if_neg (by rw [T.ne _ hm]; decide), ho]))
  have mroL : W.Looks (model prog w) hp (mroOf (.ref C)) cd.mro := (W.looks_clsIn X hcd).andThen .now
  have noT : W.Looks (model prog w) hp (storeTaker? none) none := .now
  have clsL : W.Looks (model prog w) hp (classData C) cd := W.looks_clsIn X hcd
  refine codeAny_call_builtin F.store_object.slot.plain F.store_object.entry (@W.check_slot (model prog w) _ _ ⟨hp, g, d, t, os⟩ "object.__setattr__" "object" "__setattr__" (.ref x) [.str name tk, v] [] _ F.store_object.kind F.store_object.split isO (F.store_object.args (.ref x) (.str name tk) v) ?_)
  rw [W.osa_eq, refuse_eq]
  refine wpAny_bind (wpAny_bind (J.type.at (wpAny_bind (mroL.at ?_))))
  rw [excTail_pass _ (T.pass _) _ hm]
  refine wpAny_pure (wpAny_bind (J.type.at (wpAny_bind ((W.looks_findIn X ha).at (wpAny_bind (noT.at ?_))))))
  show wpAny _ _ (storeInOwnDict (.ref x) (.ref C) (.str name tk) name v false) _ _ _
  cases cd with
  | mk nm bs mro ns qn hd sn sb ab col del =>
    have hd1 : hd = true := hh
    subst hd1
    unfold storeInOwnDict ownDictForStores
    repeat (first | with_reducible refine store_in_new ?_ ?_ | with_reducible refine wpAny_loadPart_at hx ?_ | with_reducible refine clsL.at ?_ | wp_step)
    · exact ⟨_, #[], _, (Heap.get?_update_ne _ _ _ _ hxs.symm).trans (Heap.get?_push_at rfl rfl), rfl, fun e he => absurd he (by simp), fun _ => rfl⟩
    · intro h' tk' hn' hs
      have hx₁ : (hp.push { cls := .type "dict", data := .dict #[] }).get? x = some { cls := .ref C, data := .fields fv } := Heap.get?_push_of_some _ hx
      exact hq h' tk' hp.objs.size (fun b o hb ho => (hs.2 b (Nat.ne_of_lt (Heap.lt_size ho))).trans ((Heap.get?_update_ne _ _ _ _ hb).trans (Heap.get?_push_of_some _ ho))) (Nat.le_refl _) hxs.symm ((hs.2 x hxs).trans (Heap.get?_update_self _ hx₁ rfl)) hn'
end
/-- what the written part says of a class over such a base -/
structure OxC (K : PySem.W.Frag) (C : Addr) (newId : String) (bmB : List Value) : Prop where
  cls : ∃ nm q N bs bm sn sub ab col dd k0 k1 k2 k3 k5, K.lookup C = some (excClassObj nm q C N bs bm true sn sub ab col dd k0 k1 k2 k3 k5 newId) ∧ excTail bmB bm = true
  sa : PySem.W.findIn K (.ref C) "__setattr__" = some (some (.builtin "object.__setattr__"))
  exC : PySem.W.subIn K (.ref C) (.type "BaseException") = some true
  tyC : PySem.W.typeIn K (.ref C) = some (.type "type")
  kC : PySem.W.keepIn K (.ref C) = true
section
variable {X : Cx} {pins : List (Addr × Obj)} {σ : L2.St} {H : Hp} {s : Shared} {a C : Addr} {f : Str} {y : V} {u : Value} {Q : Unit → Shared → Prop} {E : Value → Shared → Prop} {A : Around} {newId : String} {bmB : List Value}
/-- x.f = y on a new exception that has no field yet -/
theorem ox_new (B : Tail bmB) (T : OxC X.K C newId bmB) (I : Inv X pins σ H s) (e : H a = some (exo a C none)) (hno : PySem.W.findIn X.K (.ref C) f = some none) (ry : RelV y u)
    (h : ∀ dx s', H dx = none → dx ≠ a → Inv X pins σ (upd (upd H dx (exd dx [(f, y)])) a (exo a C (some dx))) s' → Q () s') : wpAny (model X.prog X.w) A (setAttr (.ref a) f u) Q E s := by
  obtain ⟨nm, q, N, bs, bm, sn, sub, ab, col, dd, k0, k1, k2, k3, k5, hC, hbm⟩ := T.cls
  have hcl : ∃ cd, PySem.W.clsIn X.K C = some cd ∧ excTail bmB cd.mro = true ∧ cd.hasDict = true :=
    ⟨{ name := nm, bases := bs, mro := .ref C :: bm, ns := N, qualname := q, hasDict := true, slotNames := sn, subclasses := sub, abstract := ab, collection := col, hasDel := false }, by unfold PySem.W.clsIn; rw [hC] <;> rfl, hbm, rfl⟩
  obtain ⟨cd, c1, c2, c3⟩ := hcl
  obtain ⟨t1, ho⟩ := exo_at I.hok e
  obtain ⟨hp, g, d, t, os⟩ := s
  have notA : ∀ {b : Addr}, H b = none → b ≠ a := fun {b} n z => by rw [z, e] at n; cases n
  refine PySem.W.set_plain I.kIn (ox := { cls := .ref C, dict := none, data := .fields #[.ref t1, .none, .none, .none, .bool false, .none] }) (od := none) ⟨ho, rfl, rfl, trivial⟩ T.sa (osa_first B I.kIn ho c1 c2 c3 hno fun h' tk' dx keep fresh ne hx hn => ?_)
  have hnd : H dx = none := I.hok.fresh fresh
  have old : ∀ {b : Addr} {o : Obj}, hp.get? b = some o → b ≠ dx := fun {b o} q => Nat.ne_of_lt (Nat.lt_of_lt_of_le (Heap.lt_size q) fresh)
  have both : ∀ {b : Addr} {o : HO}, b ≠ a → b ≠ dx → H b = some o → upd (upd H dx (exd dx [(f, y)])) a (exo a C (some dx)) b = some o := fun {b o} n1 n2 q => by rw [upd_ne n1, upd_ne n2]; exact q
  have U : Un X.fs [] H (upd (upd H dx (exd dx [(f, y)])) a (exo a C (some dx))) hp h' := {
    keep := fun b o q n _ _ => keep b o (notA n) q
    slot := fun b o q n _ _ => ⟨o.slots, keep b o (notA n) q⟩
    free := fun b o q n _ => by rw [upd_ne (notA n), upd_ne (old q)]; exact n
    there := fun b o q _ => if hb : b = a then ⟨_, hb ▸ hx⟩ else ⟨o, keep b o hb q⟩
    tups := fun b xs q => both (at_ne e q exo_tup) (ne_of_none q hnd) q
    frzs := fun b o v q => both (at_ne e q exo_frz) (ne_of_none q hnd) q
    tbls := fun b ps q => ⟨#[], by rw [both (at_ne e q exo_tbl) (ne_of_none q hnd) q]; simp⟩ }
  refine h dx _ hnd ne (I.un (t' := tk') U fun b o q => ?_)
  by_cases hb : b = a
  · subst hb
    rw [upd_same] at q
    cases q
    exact exo_ok hx
  rw [upd_ne hb] at q
  by_cases hd : b = dx
  · subst hd
    rw [upd_same] at q
    cases q
    exact exd_ok hn (relO_put (fs := []) ry fun g => True.intro)
  rw [upd_ne hd] at q
  refine (I.hok b o q).stay (fun c v hc z => keep c v ?_ z) (fun c hc => both (at_ne e hc exo_own) (ne_of_none hc hnd) hc) (fun c xs hc => both (at_ne e hc exo_tup) (ne_of_none hc hnd) hc)
  rcases hc with hc | hc
  · exact hc ▸ hb
  · exact at_ne e hc exo_own
end
/-- x.f = e, the first field of a new exception -/
def tOxS (K : PySem.W.Frag) (newId : String) (bmB : List Value) (f : Str) (to te : TE) : TS := fun D σ H => te σ H fun y H1 => to σ H1 fun x H2 => ∃ a C : Addr, x = .ref a ∧ OxC K C newId bmB ∧ PySem.W.findIn K (.ref C) f = some none ∧
  H2 a = some (exo a C none) ∧ ∀ dx, H2 dx = none → dx ≠ a → D.nx σ (upd (upd H2 dx (exd dx [(f, y)])) a (exo a C (some dx)))
theorem ps_ox {X : Cx} {o e : Expr} {to te : TE} {f : Str} {p' pos : Pos} {newId : String} {bmB : List Value} (B : Tail bmB) (ho : PE X o to) (he : PE X e te) (hs : swapsWith e (some (.Attribute o f p')) pos.line X.env = pure false := by rfl) : PS X (.Assign [.Attribute o f p'] e pos) (tOxS X.K newId bmB f to te) := by
  refine ⟨fun pins s σ H D I h => plainObj_wpAny_Assign_Attribute (thn (he.run pins s σ H _ I h) fun v s1 ⟨y, H1, I1, r1, q1⟩ => thn (ho.run pins s1 σ H1 _ I1 q1) fun u s2 ⟨x, H2, I2, r2, a, C, ex, T, hno, ea, q⟩ => ?_) hs⟩
  subst ex
  obtain rfl : u = Value.ref a := r2
  exact ox_new B T I2 ea hno r1 fun dx s' n ne J => ⟨σ, _, J, q dx n ne⟩
end Vi

/-! C(e): an exception of one's own class over any base is made, its own __init__ walked -/
namespace Vi
open PySem PySem.Spec PyProof.Rows L2
section
variable {X : Cx}
theorem pmk_ox {x : Str} {C fI : Addr} {k : Nat} {fd : FuncData} {ps : List Str} {sp : Sp} {p pos : Pos} {B newId initId : String} {bmB : List Value} {e : Expr} {es : List Expr} {ta : TA} (F : ExcBaseFacts B newId initId bmB) (T : OxC X.K C newId bmB) (iC : PySem.W.findIn X.K (.ref C) "__init__" = some (some (.ref fI))) (tI : PySem.W.typeIn X.K (.ref fI) = some (.type "function"))
    (F1 : FnOk X.prog X.w X.K X.mg X.base CX0 k fI fd ps sp) (hr : Room (k + 1) X.A) (hb : Binds X.K fd ps []) (hg : Gl X x) (hm : X.mg x = some (.ref C)) (ha : PA X (e :: es) ta)
    (hdb : (x == ("__debug__" : Str)) = false := by decide) (he : starEach (e :: es) X.env = (false, eval e X.env) :: starEach es X.env := by rfl) (hpl : (PySem.backTo pos (starEach es X.env)).any (·.1) = false := by rfl) :
    PMk X (.Call (.Name x p) (e :: es) [] pos) (tMkO C sp [] ta) := by
  intro pins s σ H Q I h
  obtain ⟨nm, q, N, bs, bm, sn, sub, ab, col, dd, k0, k1, k2, k3, k5, hC, hbm⟩ := T.cls
  refine wpAny_Call_Name_kw (ld_glob I hg hm ?_ hdb)
  refine PySem.W.callWith_K (h₀ := X.base) I.ok.mod.kin T.kC (thn (ha.run pos pins s σ H _ I h) fun us s1 ⟨vs, H1, I1, r1, hz, q1⟩ => ⟨I1.kIn, ?_⟩) he hpl
  show wpAny _ _ (call (.ref C) us) _ _ _
  obtain ⟨hp, g, dr, tk, os⟩ := s1
  have hsz : hp.objs.size ≤ hp.objs.size + 1 := Nat.le_succ _
  have hq := q1 (hp.objs.size + 1) (I1.hok.fresh hsz)
  rw [List.append_nil] at hq
  have kk : ∀ b o, hp.get? b = some o → ((hp.push (PySem.W.kdv_tup us)).push (PySem.HandSPX.excO C hp.objs.size)).get? b = some o := fun b o e => Heap.get?_push_of_some _ (Heap.get?_push_of_some _ e)
  have hget : ((hp.push (PySem.W.kdv_tup us)).push (PySem.HandSPX.excO C hp.objs.size)).get? (hp.objs.size + 1) = some (PySem.HandSPX.excO C hp.objs.size) := by heap_get
  have I2 : Inv X pins σ (upd H1 (hp.objs.size + 1) (exo (hp.objs.size + 1) C none)) ⟨(hp.push (PySem.W.kdv_tup us)).push (PySem.HandSPX.excO C hp.objs.size), g, dr, tk, os⟩ :=
    I1.laid (t' := tk) (a := hp.objs.size + 1) (o := exo (hp.objs.size + 1) C none) (h' := (hp.push (PySem.W.kdv_tup us)).push (PySem.HandSPX.excO C hp.objs.size)) kk hsz (exo_ok hget)
  have r2 : Vals (V.ref (hp.objs.size + 1) :: vs) (Value.ref (hp.objs.size + 1) :: us) := .cons rfl r1
  have hl : (Value.ref (hp.objs.size + 1) :: us).length = ps.length := by
    have e := r2.length
    rw [F1.len _ _ _ _ hq] at e
    exact e.symm
  have hus : us.length ≤ sizeLine := by
    rw [← Paired.length r1, sizeLine_eq]
    omega
  refine wpAny_call (PySem.HandSPX.call_own F (fun Y => PySem.W.excTail_contains Y bm hbm) (I1.kIn _ _ hC) (PySem.W.looks_findIn I1.kIn iC) (fun self => PySem.W.bind_fn I1.kIn self tI) hus
    (codeAny_mono (F1.run _ X.stack _ _ ⟨Value.ref (hp.objs.size + 1) :: us, []⟩ (Value.ref (hp.objs.size + 1) :: us) _ _ (fun _ _ _ => False) (hr.make C us []) (I2.env0.make C us []) (by have z := hb _ (Value.ref (hp.objs.size + 1) :: us) I2.kIn (by simpa using hl); rwa [List.append_nil] at z) r2 hq) fun r s' hq' => ?_))
  cases r with
  | error er => exact hq'.elim
  | ok fl =>
    cases fl with
    | ret u =>
      obtain ⟨v, H2, os2, bare2, un2, hok2, rv, ev, d, fs, ea, ed, hd1, q2⟩ := hq'
      subst ev
      obtain ⟨h2, g2, d2, t2, os'⟩ := s'
      exact ⟨rv, mk_end (raises_own T.exC T.tyC) I1 hsz kk un2 hok2 os2 bare2 ea ed hd1 q2⟩
    | next => exact False.elim hq'
    | brk => exact False.elim hq'
    | cont => exact False.elim hq'
end
end Vi

/-! the walk of  def __init__(self, f): self.f = f -/
namespace Vi
open PySem PySem.Spec PyProof.Rows L2
/-- what such an __init__ does to a new exception -/
def spField (K : PySem.W.Frag) (newId : String) (bmB : List Value) (f : Str) : Sp := fun vs H Q _ => ∃ (a C : Addr) (v : V), vs = [.ref a, v] ∧ OxC K C newId bmB ∧ PySem.W.findIn K (.ref C) f = some none ∧ H a = some (exo a C none) ∧
  ∀ dx, H dx = none → dx ≠ a → Q .non (upd (upd H dx (exd dx [(f, v)])) a (exo a C (some dx)))
theorem init_field {P : Program} {w : World} {K : PySem.W.Frag} {mg : Str → Option Value} {base : Heap} {qual : Str} {st : Stmt} {fa : Addr} {fd : FuncData} {k : Nat} {pos p1 p2 p3 : Pos} {f x : Str} {newId : String} {bmB : List Value} (B : Tail bmB) (F : Fun K "__init__" qual st fa fd) (S : FnScope ["self", x] ["self", x] (defScope st))
    (hb : defBody st = [.Assign [.Attribute (.Name "self" p1) f p2] (.Name x p3) pos]) (hx : (x == ("__debug__" : Str)) = false) (hx2 : (x == ("__classdict__" : Str)) = false) (v0 : Vis (defScope st) "self") (v1 : Vis (defScope st) x) :
    FnOk P w K mg base CX0 (k + 1) fa fd ["self", x] (spField K newId bmB f) :=
  F.ok S (fun vs H Q E h => by obtain ⟨a, C, v, rfl, _⟩ := h; rfl) fun cdv A outer s H vs Q E hr h => ⟨_, by
    rw [hb]
    exact pss_one (ps_ox (newId := newId) (bmB := bmB) B (pe_var (i := 0) rfl v0) (pe_var (i := 1) rfl v1 hx hx2)), by
    obtain ⟨a, C, v, rfl, T, hno, ea, q⟩ := h
    exact ⟨v, rfl, .ref a, rfl, a, C, rfl, T, hno, ea, q⟩⟩
end Vi

/-! a raise whose exception holds one whole number -/
namespace Vi
open PySem PySem.Spec PyProof.Rows L2
/-- what may be raised: a class' number, the whole number it holds, if any -/
abbrev CdX := Nat × Option Int
abbrev MXP := Fm → Option (CdX × Fm)
/-- the end with such an exception -/
def eE (cv : Nat → Value) (fl : Nat → Str) (E : XK) (c : CdX) (H : Hp) : Prop := match c.2 with
  | none => E (cv c.1) none H
  | some i => ∀ q, H q = none → E (cv c.1) (some q) (upd H q (.xd [(fl c.1, .int i)]))
abbrev eX (cv : Nat → Value) (fl : Nat → Str) (W : WX) (c : CdX) (σ : L2.St) (H : Hp) : Prop := eE cv fl (fun cls d H' => W cls d σ H') c H
theorem xd_end {H : Hp} {a d C : Addr} {fs gs : List (Str × V)} (ha : H a = none) (hda : d ≠ a) : upd (L2.del (upd (upd (upd H a (exo a C none)) d (exd d gs)) a (exo a C (some d))) a) d (.xd fs) = upd H d (.xd fs) := by
  funext b
  by_cases hd : b = d
  · rw [hd, upd_same, upd_same]
  · rw [upd_ne hd, upd_ne hd]
    by_cases hb : b = a
    · rw [hb, del_same, ha]
    · rw [del_ne hb, upd_ne hb, upd_ne hd, upd_ne hb]
/-- C(e) where e is a whole number -/
theorem pmk_int {X : Cx} {x f : Str} {C fI : Addr} {k : Nat} {fd : FuncData} {ps : List Str} {p pos : Pos} {B newId initId : String} {bmB : List Value} {e : Expr} {me : ME} (F : ExcBaseFacts B newId initId bmB) (T : OxC X.K C newId bmB) (iC : PySem.W.findIn X.K (.ref C) "__init__" = some (some (.ref fI))) (tI : PySem.W.typeIn X.K (.ref fI) = some (.type "function"))
    (hno : PySem.W.findIn X.K (.ref C) f = some none) (F1 : FnOk X.prog X.w X.K X.mg X.base CX0 k fI fd ps (spField X.K newId bmB f)) (hr : Room (k + 1) X.A) (hb : Binds X.K fd ps []) (hg : Gl X x) (hm : X.mg x = some (.ref C)) (he : DE X e me)
    (hdb : (x == ("__debug__" : Str)) = false := by decide) (hs : starEach [e] X.env = (false, eval e X.env) :: starEach [] X.env := by rfl) (hpl : (PySem.backTo pos (starEach [] X.env)).any (·.1) = false := by rfl) :
    PMk X (.Call (.Name x p) [e] [] pos) (fun σ H Q => ∃ ρ M O π pr ρ' i, SR X.K H M O π ρ σ ∧ me ρ = some (pr, ρ') ∧ peek ρ' pr = some (.int i) ∧ ∀ H' M', Ext O H M H' M' → SR X.K H' M' O π ρ' σ → ∀ q, H' q = none → Q (.ref C) (some q) (upd H' q (.xd [(f, .int i)]))) := by
  intro pins s σ H Q I h
  refine pmk_ox F T iC tI F1 hr hb hg hm (pa_cons he pa_nil hs) hdb hs hpl pins s σ H Q I ?_
  obtain ⟨ρ, M, O, π, pr, ρ', i, h1, h2, h3, h4⟩ := h
  refine ⟨ρ, M, O, π, pr, ρ', h1, h2, fun v H1 M1 x1 s1 r1 => ?_⟩
  have hv : v = .int i := by
    cases peek_vw s1 r1 h3
    rfl
  subst hv
  refine ⟨by simp, fun a ha => ⟨a, C, .int i, rfl, T, hno, upd_same, fun dx hx hne => ⟨rfl, dx, [(f, .int i)], upd_same, by rw [upd_ne hne, upd_same], ?_, ?_⟩⟩⟩
  · rwa [upd_ne hne] at hx
  · rw [xd_end ha hne]
    exact h4 H1 M1 x1 s1 dx (by rwa [upd_ne hne] at hx)
end Vi

/-! what may raise, also with a whole number in the exception (V37's judgements over it) -/
namespace Vi.P
open PySem PySem.Spec PyProof.Rows L2 Vi
abbrev MX := MXP
section
variable {K : PySem.W.Frag} {cv : Nat → Value} {fl : Nat → Str}
def tX (K : PySem.W.Frag) (x : MX) (cv : Nat → Value) (fl : Nat → Str) (W : WX) : L2.St → Hp → Prop := fun σ H => ∃ ρ M O π c ρ', SR K H M O π ρ σ ∧ x ρ = some (c, ρ') ∧ ∀ σ' H' M', Ext O H M H' M' → SR K H' M' O π ρ' σ' → eX cv fl W c σ' H'
def tSX (K : PySem.W.Frag) (m : MS) (x : MX) (cv : Nat → Value) (fl : Nat → Str) (W : WX) : TS := fun D σ H => tS K m D σ H ∨ tX K x cv fl W σ H
end
section
variable {X : Cx} {st : Stmt} {rest sa sb : List Stmt} {e : Expr} {me : ME} {m n : MS} {x y : MX} {mt : MT} {pos : Pos} {cv : Nat → Value} {fl : Nat → Str} {W : WX}
def DSX (X : Cx) (s : Stmt) (m : MS) (x : MX) (cv : Nat → Value) (fl : Nat → Str) (W : WX) : Prop := PS X s (tSX X.K m x cv fl W)
def DSXs (X : Cx) (s : List Stmt) (m : MS) (x : MX) (cv : Nat → Value) (fl : Nat → Str) (W : WX) : Prop := PSs X s (tSX X.K m x cv fl W)
def xNo : MX := fun _ => none
theorem dsx_of (h : DS X st m) : DSX X st m xNo cv fl W := PS.imp h fun D σ H q => by
  rcases q with q | ⟨_, _, _, _, _, _, _, e, _⟩
  · exact q
  · cases e
def xRaise (c : Nat) : MX := fun ρ => some ((c, none), ρ)
theorem dsx_raise {c : Nat} (hc : X.calm = true) (tk : Takes X W) (mk : PMk X e fun _ H Q => Q (cv c) none H) : DSX X (.Raise (some e) none pos) mNever (xRaise c) cv fl W := PS.imp (ps_raise hc tk mk) fun D σ H q => by
  rcases q with ⟨_, _, _, _, _, _, _, e, _⟩ | ⟨ρ, M, O, π, c', ρ', h, e, q⟩
  · cases e
  · cases e
    exact q σ H M (.refl h) h
theorem dsxs_one (h : DSX X st m x cv fl W) : DSXs X [st] m x cv fl W := pss_one h
theorem dsxs_nil : DSXs X [] mNext xNo cv fl W := PSs.imp (dss_nil) fun D σ H q => by
  rcases q with q | ⟨_, _, _, _, _, _, _, e, _⟩
  · exact q
  · cases e
def xSeq (m : MS) (x y : MX) : MX := fun ρ => match m ρ with
  | some (.next, ρ1) => y ρ1
  | some _ => none
  | none => x ρ
theorem dsxs_cons (h1 : DSX X st m x cv fl W) (h2 : DSXs X rest n y cv fl W) : DSXs X (st :: rest) (mSeq m n) (xSeq m x y) cv fl W := PSs.imp (pss_cons h1 h2) fun D σ H q => by
  rcases q with ⟨ρ, M, O, π, fl, ρ', h, e, q⟩ | ⟨ρ, M, O, π, c, ρ', h, e, q⟩
  · refine .inl ?_
    unfold mSeq at e
    split at e
    · rename_i ρ1 e1
      exact ⟨ρ, M, O, π, .next, ρ1, h, e1, fun σ1 H1 M1 x1 s1 => .inl ⟨ρ1, M1, O, π, fl, ρ', s1, e, q.later (O1 := O) x1⟩⟩
    · rename_i ρ1 e1
      cases e
      exact ⟨ρ, M, O, π, .brk, _, h, e1, q⟩
    · rename_i ρ1 e1
      cases e
      exact ⟨ρ, M, O, π, .cont, _, h, e1, q⟩
    · rename_i r ρ1 e1
      cases e
      exact ⟨ρ, M, O, π, .ret r, _, h, e1, q⟩
    · cases e
  · unfold xSeq at e
    split at e
    · rename_i ρ1 e1
      exact .inl ⟨ρ, M, O, π, .next, ρ1, h, e1, fun σ1 H1 M1 x1 s1 => .inr ⟨ρ1, M1, O, π, c, ρ', s1, e, fun σ2 H2 M2 x2 s2 => q σ2 H2 M2 (x1.trans x2) s2⟩⟩
    · cases e
    · exact .inr ⟨ρ, M, O, π, c, ρ', h, e, q⟩
def xIf (mt : MT) (x y : MX) : MX := fun ρ => match mt ρ with
  | some (true, ρ1) => x ρ1
  | some (false, ρ1) => y ρ1
  | none => none
theorem dsx_if {c : Expr} (hc : DT X c mt) (ha : DSXs X sa m x cv fl W) (hb : DSXs X sb n y cv fl W) : DSX X (.If c sa sb pos) (mIfS mt m n) (xIf mt x y) cv fl W := PS.imp (ps_if hc ha hb) fun D σ H q => by
  rcases q with ⟨ρ, M, O, π, fl, ρ', h, e, q⟩ | ⟨ρ, M, O, π, c, ρ', h, e, q⟩
  · unfold mIfS at e
    split at e
    · rename_i ρ1 e1
      exact ⟨ρ, M, O, π, true, ρ1, h, e1, fun H1 M1 x1 s1 => iteT (.inl ⟨ρ1, M1, O, π, fl, ρ', s1, e, q.later (O1 := O) x1⟩)⟩
    · rename_i ρ1 e1
      exact ⟨ρ, M, O, π, false, ρ1, h, e1, fun H1 M1 x1 s1 => iteF (.inl ⟨ρ1, M1, O, π, fl, ρ', s1, e, q.later (O1 := O) x1⟩)⟩
    · cases e
  · unfold xIf at e
    split at e
    · rename_i ρ1 e1
      exact ⟨ρ, M, O, π, true, ρ1, h, e1, fun H1 M1 x1 s1 => iteT (.inr ⟨ρ1, M1, O, π, c, ρ', s1, e, fun σ2 H2 M2 x2 s2 => q σ2 H2 M2 (x1.trans x2) s2⟩)⟩
    · rename_i ρ1 e1
      exact ⟨ρ, M, O, π, false, ρ1, h, e1, fun H1 M1 x1 s1 => iteF (.inr ⟨ρ1, M1, O, π, c, ρ', s1, e, fun σ2 H2 M2 x2 s2 => q σ2 H2 M2 (x1.trans x2) s2⟩)⟩
    · cases e
end
/-! ### a def that may raise -/
abbrev FnX := List Sv → Option CdX
def spX (K : PySem.W.Frag) (n : Nat) (f : Fn) (g : FnX) (cv : Nat → Value) (fl : Nat → Str) : Sp := fun vs H Q E => spD K n f vs H Q E ∨ ∃ M O π args c, vs.length = n ∧ SR K H M O π (args.map some) (vs.map some) ∧ g args = some c ∧
  ∀ H' M', (∀ a, M' a → H' a ≠ none) → Ext O H M H' M' → eE cv fl E c H'
def xFn (nN np : Nat) (x : MX) : FnX := fun us => if us.length = np then (x (us.map some ++ List.replicate (nN - np) none)).map Prod.fst else none
section
variable {P : Program} {w : World} {K : PySem.W.Frag} {mg : Str → Option Value} {base : Heap} {cv : Nat → Value} {fl : Nat → Str}
theorem fnx_ok {x qual : Str} {st : Stmt} {f : Addr} {fd : FuncData} {N ps : List Str} {k : Nat} {body : MS} {bx : MX} (F : Fun K x qual st f fd) (S : FnScope N ps (defScope st))
    (hb : ∀ (cdv : Value) (A : Around) (outer : List Env) (s : Shared) (H : Hp) (E : XK) (W : WX), Room k (A.deeper (envOfC qual (defScope st) s.heap.objs.size f cdv)) → Takes (cxOf (L2.CX P w) P w K mg base N qual (defScope st) f cdv A outer s H E) W → DSXs (cxOf (L2.CX P w) P w K mg base N qual (defScope st) f cdv A outer s H E) (defBody st) body bx cv fl W) :
    FnOk P w K mg base (L2.CX P w) (k + 1) f fd ps (spX K ps.length (mFn N.length ps.length body) (xFn N.length ps.length bx) cv fl) := by
  refine F.okX S (fun vs H Q E h => ?_) (fun cdv A outer s H vs Q E hr h => ?_)
  · rcases h with ⟨M, O, π, args, r, os, hl, _⟩ | ⟨M, O, π, args, c, hl, _⟩
    · exact hl
    · exact hl
  · refine ⟨_, hb cdv A outer s H E (fun cls d _ H => E cls d H) hr (takes_of rfl rfl rfl rfl), ?_⟩
    rcases h with ⟨M, O, π, args, r, os, hl, hs, e, q⟩ | ⟨M, O, π, args, c, hl, hs, e, q⟩
    · refine .inl ?_
      have hal : args.length = vs.length := by have := hs.len; simpa using this
      unfold mFn at e
      have start_eq : L2.start N vs = vs.map some ++ List.replicate (N.length - ps.length) none := by unfold L2.start; rw [hl]
      have fin : ∀ {σ' : L2.St} {ρ' : Fm} {H' : Hp} {M' : Mset} {rr : Sv} {v : V}, Ext O H M H' M' → SR K H' M' O π ρ' σ' → RV K H' M' O ρ' σ' rr v → outsOf args ρ' = some os → rr = r → Q v H' := fun {σ' ρ' H' M' rr v} x s r1 eo er => by
        subst er
        refine q v H' M' s.live x (fun i ds ei => ?_) ?_
        · obtain ⟨e1, _⟩ := outs_get eo ei
          obtain ⟨a, ws, f1, f2, f3, f4, f5, f6⟩ := s.own i .par ds e1
          exact ⟨a, ws, f6 rfl, f2, f3, f5⟩
        · cases rr with
          | imm d => exact r1
          | own b ds =>
            obtain ⟨p, ws, g1, g2, g3, g4, g5, g6⟩ := r1
            refine ⟨p, ws, g1, g2, g3, g4, g5, fun i es ei hp => ?_⟩
            obtain ⟨e1, _⟩ := outs_get eo ei
            obtain ⟨a, us, f1, f2, f3, f4, f5, f6⟩ := s.own i .par es e1
            rw [f6 rfl] at hp; cases hp
            exact g6 i es e1 f1
      split at e
      · rename_i hn
        split at e
        · rename_i r' ρ' e1
          split at e
          · rename_i os' e2
            cases e
            refine ⟨_, M, O, π, .ret r, ρ', by rw [start_eq]; exact hs.pad _, e1, fun v σ' H' M' x s r1 => fin x s r1 e2 rfl⟩
          · cases e
        · rename_i ρ' e1
          split at e
          · rename_i os' e2
            cases e
            refine ⟨_, M, O, π, .next, ρ', by rw [start_eq]; exact hs.pad _, e1, fun σ' H' M' x s => fin (rr := .imm .none) x s .non e2 rfl⟩
          · cases e
        · cases e
      · cases e
    · refine .inr ?_
      have start_eq : L2.start N vs = vs.map some ++ List.replicate (N.length - ps.length) none := by unfold L2.start; rw [hl]
      unfold xFn at e
      split at e
      · obtain ⟨⟨c', ρ'⟩, e1, e2⟩ := Option.map_eq_some_iff.mp e
        cases e2
        exact ⟨_, M, O, π, _, ρ', by rw [start_eq]; exact hs.pad _, e1, fun σ' H' M' x s => q H' M' s.live x⟩
      · cases e
end
/-! ### expressions that may raise -/
section
variable {X : Cx} {k : Nat} {f : Addr} {fd : FuncData} {ps : List Str} {g : Fn} {gx : FnX} {cv : Nat → Value} {fl : Nat → Str} {W : WX} {x : Str} {p pos rpos : Pos} {e : Expr} {es : List Expr} {mr : MR} {me : ME} {xe : MX}
def DEX (X : Cx) (e : Expr) (m : ME) (x : MX) (cv : Nat → Value) (fl : Nat → Str) (W : WX) : Prop := PE X e fun σ H Q => tE X.K m σ H Q ∨ tX X.K x cv fl W σ H
theorem dex_of (h : DE X e me) : DEX X e me xNo cv fl W := PE.imp h fun σ H Q q => by
  rcases q with q | ⟨_, _, _, _, _, _, _, e, _⟩
  · exact q
  · cases e
def allV (as : List AR) : Bool := as.all fun a => match a with
  | .v _ => true
  | .s _ => false
def xCall (gx : FnX) (mr : MR) : MX := fun ρ => match mr ρ with
  | some (as, ρ1) => if allV as = true then match argsOf ρ1 as with
    | some args => (gx args).map fun c => (c, ρ1)
    | none => none
    else none
  | none => none
theorem allV_slots : ∀ {as : List AR}, allV as = true → slotsOf as = []
  | [], _ => rfl
  | .v _ :: as, h => by
    have : allV as = true := h
    show slotsOf as = []
    exact allV_slots this
  | .s _ :: as, h => by cases h
theorem allV_back (ρ : Fm) : ∀ {as : List AR}, allV as = true → backTo ρ as (as.map fun _ => none) = some ρ
  | [], _ => rfl
  | .v _ :: as, h => allV_back ρ (as := as) h
  | .s _ :: as, h => by cases h
theorem dex_call (F : FnOk X.prog X.w X.K X.mg X.base (L2.CX X.prog X.w) k f fd ps (spX X.K ps.length g gx cv fl)) (hr : Room k X.A) (hg : Gl X x) (hm : X.mg x = some (.ref f)) (hk : PySem.W.keepIn X.K (.ref f) = true) (hb : Binds X.K fd ps []) (tk : Takes X W)
    (ha : DR X (e :: es) mr) (hn : ∀ ρ as ρ', mr ρ = some (as, ρ') → as.length = ps.length) (hdb : (x == ("__debug__" : Str)) = false := by decide) (he : starEach (e :: es) X.env = (false, eval e X.env) :: starEach es X.env := by rfl) (hpl : (PySem.backTo pos (starEach es X.env)).any (·.1) = false := by rfl) :
    DEX X (.Call (.Name x p) (e :: es) [] pos) (mCall g mr) (xCall gx mr) cv fl W :=
  PE.imp (pe_callS (E := WE W) F hr hg hm hk hb (fun σ => passAt tk σ) ha hdb he hpl) fun σ H Q h => by
    rcases h with h | ⟨ρ, M, O, π, c, ρ', h, e, q⟩
    · obtain ⟨ρ, M, O, π, as, ρ', h, e, q⟩ := tR_call (X := X) hn h
      exact ⟨ρ, M, O, π, as, ρ', h, e, fun vs H' M' x s r => .inl (q vs H' M' x s r)⟩
    · unfold xCall at e
      split at e
      · rename_i as ρ1 e1
        split at e
        · rename_i ha'
          split at e
          · rename_i args e2
            obtain ⟨c', e3, e4⟩ := Option.map_eq_some_iff.mp e
            cases e4
            refine ⟨ρ, M, O, π, as, ρ', h, e1, fun vs H1 M1 x1 s1 r1 => .inr ?_⟩
            have n : nodupB (slotsOf as) = true := by rw [allV_slots ha']; rfl
            refine ⟨M1, _, _, args, c, by rw [Paired.length r1]; exact hn _ _ _ e1, call_start s1 r1 n e2, e3, fun H2 M2 lv x2 => ?_⟩
            obtain ⟨x3, s3⟩ := call_end s1 r1 n (allV_back ρ' ha') lv x2 (fun i ds ei => by
              rw [List.getElem?_map] at ei
              obtain ⟨_, _, z⟩ := Option.map_eq_some_iff.mp ei
              cases z)
            exact q σ H2 M2 (x1.trans x3) s3
          · cases e
        · cases e
      · cases e
def xIfE (mt : MT) (x y : MX) : MX := fun ρ => match mt ρ with
  | some (true, ρ1) => x ρ1
  | some (false, ρ1) => y ρ1
  | none => none
theorem dsx_ret (he : DEX X e me xe cv fl W) : DSX X (.Return (some e) rpos) (mRet me) xe cv fl W := PS.imp (ps_ret he) fun D σ H q => by
  rcases q with ⟨ρ, M, O, π, fl, ρ', h, e, q⟩ | q
  · refine .inl ?_
    unfold mRet at e
    split at e
    · rename_i pr ρ1 e1
      split at e
      · rename_i r e2
        cases e
        exact ⟨ρ, M, O, π, pr, _, h, e1, fun v H1 M1 x1 s1 r1 => q v σ H1 M1 x1 s1 (give_ok s1 r1 e2)⟩
      · cases e
    · cases e
  · exact .inr q
end

end Vi.P

namespace Vi.P
open PySem PySem.Spec PyProof.Rows L2 Vi
/-- raise C(e), e a whole number -/
def xRaise1 (c : Nat) (me : ME) : MX := fun ρ => match me ρ with
  | some (pr, ρ1) => match peek ρ1 pr with
    | some (.int i) => some ((c, some i), ρ1)
    | _ => none
  | none => none
theorem dsx_raise1 {X : Cx} {e : Expr} {me : ME} {pos : Pos} {cv : Nat → Value} {fl : Nat → Str} {W : WX} {c : Nat} (hc : X.calm = true) (tk : Takes X W)
    (mk : PMk X e (fun σ H Q => ∃ ρ M O π pr ρ' i, SR X.K H M O π ρ σ ∧ me ρ = some (pr, ρ') ∧ peek ρ' pr = some (.int i) ∧ ∀ H' M', Ext O H M H' M' → SR X.K H' M' O π ρ' σ → ∀ q, H' q = none → Q (cv c) (some q) (upd H' q (.xd [(fl c, .int i)])))) :
    DSX X (.Raise (some e) none pos) mNever (xRaise1 c me) cv fl W := PS.imp (ps_raise hc tk mk) fun D σ H q => by
  rcases q with ⟨_, _, _, _, _, _, _, e, _⟩ | ⟨ρ, M, O, π, c', ρ', h, e, q⟩
  · cases e
  · unfold xRaise1 at e
    split at e
    · rename_i pr ρ1 e1
      split at e
      · rename_i i e2
        cases e
        exact ⟨ρ, M, O, π, pr, _, i, h, e1, e2, fun H' M' x s qq hq => q σ H' M' x s qq hq⟩
      · cases e
    · cases e
end Vi.P

namespace Vi.P
open PySem PySem.Spec PyProof.Rows L2 Vi
theorem set_none_at {α : Type} {ρ : List (Option α)} {i j : Nat} {s : α} (e : (ρ.set i none)[j]? = some (some s)) : j ≠ i ∧ ρ[j]? = some (some s) := by
  have hj : j ≠ i := fun z => by
    subst z
    rw [List.getElem?_set] at e
    split at e
    · split at e
      · cases e
      · cases e
    · exact absurd rfl ‹_›
  exact ⟨hj, by rwa [List.getElem?_set_ne (Ne.symm hj)] at e⟩
/-- a slot that the frame says nothing of may hold anything -/
theorem hole {K : PySem.W.Frag} {H : Hp} {M O : Mset} {π : Nat → Option Addr} {ρ : Fm} {σ : L2.St} (h : SR K H M O π ρ σ) (i : Nat) (v : Option V) : SR K H M O π (ρ.set i none) (σ.set i v) where
  len := by rw [List.length_set, List.length_set]; exact h.len
  sub := h.sub
  live := h.live
  imm := fun j d e => by
    obtain ⟨hj, e1⟩ := set_none_at e
    rw [List.getElem?_set_ne (Ne.symm hj)]
    exact h.imm j d e1
  own := fun j b ds e => by
    obtain ⟨hj, e1⟩ := set_none_at e
    rw [List.getElem?_set_ne (Ne.symm hj)]
    exact h.own j b ds e1
  uniq := fun j k b c ds es a n e1 e2 e3 => by
    obtain ⟨hj, f1⟩ := set_none_at e1
    obtain ⟨hk, f2⟩ := set_none_at e2
    rw [List.getElem?_set_ne (Ne.symm hj)] at e3
    rw [List.getElem?_set_ne (Ne.symm hk)]
    exact h.uniq j k b c ds es a n f1 f2 e3
end Vi.P

namespace Vi.P
open PySem PySem.Spec PyProof.Rows L2 Vi
/-- in an except suite: e comes to v, where slot i holds the exception at a, its dict stands at dd; nothing is changed -/
def CE (X : Cx) (i : Nat) (a dd : Addr) (fs : List (Str × V)) (e : Expr) (v : V) : Prop := PE X e (fun σ H Q => σ[i]? = some (some (.ref a)) ∧ H dd = some (.xd fs) ∧ Q v H)
/-- e.f -/
theorem ce_field {X : Cx} {a C dd : Addr} {oe : Obj} {pn : List (Addr × Obj)} {x n : Str} {p pos : Pos} {i : Nat} {fs : List (Str × V)} {v : V} (T : XfC X.K C) (hno : PySem.W.findIn X.K (.ref C) n = some none)
    (hz : Zc (.ref C) (some dd) oe) (hf : ∃ vs, oe.data = .fields vs) (he : PE (X.suite a ((a, oe) :: pn)) (.Name x p) (tVar i)) (hl : fs.lookup n = some v) (hb : attributeBase (.Name x p) n X.env (eval (.Name x p) X.env) = eval (.Name x p) X.env := by rfl) :
    CE (X.suite a ((a, oe) :: pn)) i a dd fs (.Attribute (.Name x p) n pos) v :=
  PE.imp (pe_xf T hno hz hf he hb) fun σ H Q ⟨h1, h2, q⟩ => ⟨.ref a, h1, rfl, rfl, dd, fs, v, rfl, h2, hl, q⟩
end Vi.P

/-! several except clauses, each with a name or without -/
namespace Vi.P
open PySem PySem.Spec PyProof.Rows L2 Vi
/-- a clause: its class, the slot of its name, its suite -/
abbrev Cl := Value × Option Nat × (Addr → Value → Option Addr → TS)
def inS (oi : Option Nat) (a : Addr) (σ : L2.St) : L2.St := match oi with
  | none => σ
  | some i => σ.set i (some (.ref a))
def outD (oi : Option Nat) (D : Ends) : Ends := match oi with
  | none => D
  | some i => { nx := fun σ H => D.nx (σ.set i none) H, rt := D.rt, bk := fun σ H => D.bk (σ.set i none) H, ct := fun σ H => D.ct (σ.set i none) H }
def wCls (K : PySem.W.Frag) (Wout : WX) (D : Ends) : List Cl → WX
  | [] => Wout
  | (c, oi, ts) :: r => fun cls d σ H => ∃ b, PySem.W.exmOne K cls c = some b ∧ (b = true → ∀ a, H a = none → ts a cls d (outD oi D) (inS oi a σ) H) ∧ (b = false → wCls K Wout D r cls d σ H)
inductive ClsOk (X : Cx) : List ExceptHandler → List Cl → Prop
  | nil : ClsOk X [] []
  | bare {x : Str} {c : Value} {ts : Addr → Value → Option Addr → TS} {b₀ : Stmt} {suite : List Stmt} {np pos' : Pos} {hds : List ExceptHandler} {l : List Cl} (hc : Names X x c)
      (hsu : ∀ (a : Addr) (oe : Obj) (cls : Value) (d : Option Addr) (pn : List (Addr × Obj)), Zc cls d oe → (∃ vs, oe.data = .fields vs) → PSs (X.suite a ((a, oe) :: pn)) (b₀ :: suite) (ts a cls d)) (r : ClsOk X hds l) :
      ClsOk X (.ExceptHandler (some (.Name x np)) none (b₀ :: suite) pos' :: hds) ((c, none, ts) :: l)
  | named {x n : Str} {i : Nat} {c : Value} {ts : Addr → Value → Option Addr → TS} {b₀ : Stmt} {suite : List Stmt} {np pos' : Pos} {hds : List ExceptHandler} {l : List Cl} (hi : X.N[i]? = some n) (hln : X.env.kindOf n = some .local) (hc : Names X x c)
      (hsu : ∀ (a : Addr) (oe : Obj) (cls : Value) (d : Option Addr) (pn : List (Addr × Obj)), Zc cls d oe → (∃ vs, oe.data = .fields vs) → PSs (X.suite a ((a, oe) :: pn)) (b₀ :: suite) (ts a cls d)) (r : ClsOk X hds l) :
      ClsOk X (.ExceptHandler (some (.Name x np)) (some n) (b₀ :: suite) pos' :: hds) ((c, some i, ts) :: l)
section
variable {X : Cx} {body : List Stmt} {h₀ : ExceptHandler} {hds : List ExceptHandler} {l : List Cl} {pos : Pos} {tb : WX → TS} {Wout : WX}
theorem ps_try_cls (hs : X.stack = X.env :: X.outer) (hf : X.env.frame = some X.env.locals) (hN : X.N.Nodup) (tk : Takes X Wout)
    (hb : ∀ (W : WX) (pn : List (Addr × Obj)) (xe : Value → Shared → Prop), Takes (X.tr pn xe) W → PassesOwn (model X.prog X.w) X.A X.env xe → PSs (X.tr pn xe) body (tb W))
    (hh : ClsOk X (h₀ :: hds) l) : PS X (.Try body (h₀ :: hds) [] [] pos) (fun D σ H => tb (wCls X.K Wout D l) D σ H) := by
  refine ⟨fun pins s σ H D I h => ?_⟩
  have ok := I.ok
  have hfr : X.A.frames = some (X.env :: X.outer) := by rw [ok.frames, hs]
  refine wpAny_Try_except ?_
  refine wpAny_mono ((hb (wCls X.K Wout D l) (X.pn ++ pins) (fun e s₁ => wpAny (model X.prog X.w) X.A (noteFrame e X.env) (fun _ s₂ => wpAny (model X.prog X.w) X.A (setFlight e none) (fun _ s₃ =>
    wpAny (model X.prog X.w) X.A (handleBy e X.env (h₀ :: hds)) (SP X pins D) X.xe s₃) X.xe s₂) X.xe s₁) (fun u s' xx => ?_) PassesOwn.looking).run [] s σ H D (I.toTry _) h) (fun f s1 hsp => ?_) (fun e s1 he => he)
  · -- the catch
    obtain ⟨a, B, sI, pins', σ', H', cls, d, rfl, J', nb, up, sky, na, os, ag, w⟩ := xx
    have J : Inv X pins σ' H' sI := J'.ofTry ok
    have sky' : Sky B (X.env :: X.outer) a (Zc cls d) X.env.locals s'.heap := by rw [← hs]; exact sky
    show wpAny (model X.prog X.w) X.A (noteFrame (.ref a) X.env) _ _ _
    refine Sky.land Zc.steady hfr hf sky' fun h3 fl3 up3 => ?_
    have J3 : Inv X pins σ' H' { s' with heap := h3 } := J.landed nb fl3.1 (up.trans up3) os ag
    obtain ⟨oe3, vs3, he3, hz3, hd3⟩ := fl3.there
    have notFr : ∀ {h : Heap} {o : Obj} {vs : Array Value}, h.FunFrames B (X.env :: X.outer) → h.get? a = some o → o.data = .fields vs → a ∉ frs (X.env :: X.outer) := fun {h o vs} ff e dd hm => by
      obtain ⟨_, o', e', hnf⟩ := ff.mem hm
      rw [e] at e'; cases e'
      exact hnf _ dd
    have nfr := notFr fl3.2.2.1 he3 hd3
    have nL : a ≠ X.env.locals := fun z => nfr (List.mem_filterMap.mpr ⟨X.env, List.mem_cons_self, by rw [hf, z]⟩)
    have nF : a ∉ X.fs := fun hm => by
      obtain ⟨e, he, q⟩ := List.mem_filterMap.mp hm
      exact nfr (List.mem_filterMap.mpr ⟨e, List.mem_cons_of_mem _ he, q⟩)
    have S3 := J3.suite he3 hd3 na nL nF
    have go : ∀ {hds' : List ExceptHandler} {l' : List Cl}, ClsOk X hds' l' → wCls X.K Wout D l' cls d σ' H' →
        wpAny (model X.prog X.w) X.A (handleBy (.ref a) X.env hds') (SP X pins D) X.xe { s' with heap := h3 } := by
      intro hds' l' hk
      induction hk with
      | nil =>
        intro w
        refine wpAny_handleBy_nil ?_
        obtain ⟨k1, k2, k3, oe, vs, T, oT, ts', he, hz, hd, h1, hr⟩ := id fl3
        unfold PySem.passOn
        refine wpAny_bind (wpAny_field he hd h1 ?_)
        rw [if_neg (show ¬ ((Value.ref T == Value.none) = true) from by simp)]
        have fin : wpAny (model X.prog X.w) X.A (setFlight (.ref a) X.env.frame) (fun _ s4 => wpAny (model X.prog X.w) X.A (throw (.ref a) : Sem Flow) (SP X pins D) X.xe s4) X.xe { s' with heap := h3 } := by
          rw [hf]
          refine HandSPX.setFlight_upZ fl3 fun h4 hh4 up4 => wpAny_throw (tk _ _ ?_)
          exact ⟨a, B, sI, pins, σ', H', cls, d, rfl, J, nb, (up.trans up3).trans up4, .inr (.inr (by rw [hs]; exact hh4)), na, os, ag, w⟩
        first
          | exact wpAny_bind (wpAny_pure (wpAny_bind fin))
          | exact wpAny_bind fin
      | @bare x c ts b₀ suite np pos' hds2 l2 hc hsu r ih =>
        intro w
        obtain ⟨b, hb1, hyes, hno⟩ := w
        refine wpAny_handleBy_cons (codeAny_handlers_test ?_) (by intro q; cases q)
        have LT : PySem.W.Looks (model X.prog X.w) h3 (typeOf (.ref a)) cls := fun A Q E s k q => wpAny_typeOf_ref (k _ _ he3) (by rw [hz3.1]; exact q)
        have LM := PySem.W.exm_one (M := model X.prog X.w) (J3.kIn) LT hb1
        have test : ∀ {Q : Value → Shared → Prop} {E : Value → Shared → Prop}, Q c { s' with heap := h3 } → wpAny (model X.prog X.w) (X.A.mark (some (.ref a))) (eval (.Name x np) X.env) Q E { s' with heap := h3 } := fun {Q E} q => by
          obtain ⟨hg, hdbg, hm | ⟨hm, hv, hnn⟩⟩ := hc
          · exact ld_glob (X := X.suite a ((a, oe3) :: (X.pn ++ pins))) S3 hg hm q hdbg
          · exact ld_blt (X := X.suite a ((a, oe3) :: (X.pn ++ pins))) S3 hg hm hv q hnn hdbg
        refine test (LM.here ?_)
        cases b with
        | true =>
          refine codeAny_handlers_suite ?_
          refine HandSPX.lands_againZ fl3 fun h4 fl4 up4 => ?_
          have J4 : Inv X pins σ' H' { s' with heap := h4 } := J.landed nb fl4.1 ((up.trans up3).trans up4) os ag
          obtain ⟨oe4, vs4, he4, hz4, hd4⟩ := fl4.there
          have S4 := J4.suite he4 hd4 na nL nF
          refine wpAny_mono ((hsu a oe4 cls d (X.pn ++ pins) hz4 ⟨_, hd4⟩).run [] _ _ H' _ S4 (hyes rfl a na)) (fun f s6 hsp => ?_) (fun _ _ z => False.elim z)
          cases f with
          | next =>
            obtain ⟨σ6, H6, S6, q6⟩ := hsp
            exact ⟨_, _, S6.unsuite ok, q6⟩
          | brk =>
            obtain ⟨σ6, H6, S6, q6⟩ := hsp
            exact ⟨_, _, S6.unsuite ok, q6⟩
          | cont =>
            obtain ⟨σ6, H6, S6, q6⟩ := hsp
            exact ⟨_, _, S6.unsuite ok, q6⟩
          | ret u =>
            obtain ⟨v6, σ6, H6, S6, r6, q6⟩ := hsp
            exact ⟨_, _, _, S6.unsuite ok, r6, q6⟩
        | false =>
          show wpAny _ X.A (handleBy (.ref a) X.env hds2) _ _ _
          exact ih (hno rfl)
      | @named x n i c ts b₀ suite np pos' hds2 l2 hi hln hc hsu r ih =>
        intro w
        have hloc : Loc X.env.scope n := .inl hln
        obtain ⟨b, hb1, hyes, hno⟩ := w
        refine wpAny_handleBy_cons (codeAny_handlers_test ?_) (by intro q; cases q)
        have LT : PySem.W.Looks (model X.prog X.w) h3 (typeOf (.ref a)) cls := fun A Q E s k q => wpAny_typeOf_ref (k _ _ he3) (by rw [hz3.1]; exact q)
        have LM := PySem.W.exm_one (M := model X.prog X.w) (J3.kIn) LT hb1
        have test : ∀ {Q : Value → Shared → Prop} {E : Value → Shared → Prop}, Q c { s' with heap := h3 } → wpAny (model X.prog X.w) (X.A.mark (some (.ref a))) (eval (.Name x np) X.env) Q E { s' with heap := h3 } := fun {Q E} q => by
          obtain ⟨hg, hdbg, hm | ⟨hm, hv, hnn⟩⟩ := hc
          · exact ld_glob (X := X.suite a ((a, oe3) :: (X.pn ++ pins))) S3 hg hm q hdbg
          · exact ld_blt (X := X.suite a ((a, oe3) :: (X.pn ++ pins))) S3 hg hm hv q hnn hdbg
        refine test (LM.here ?_)
        cases b with
        | true =>
          refine codeAny_handlers_suite_as ?_
          refine HandSPX.lands_againZ fl3 fun h4 fl4 up4 => ?_
          have J4 : Inv X pins σ' H' { s' with heap := h4 } := J.landed nb fl4.1 ((up.trans up3).trans up4) os ag
          obtain ⟨oe4, vs4, he4, hz4, hd4⟩ := fl4.there
          have S4 := J4.suite he4 hd4 na nL nF
          refine store_ok (X := X.suite a ((a, oe4) :: (X.pn ++ pins))) (v := .ref a) S4 hN hi hloc rfl (fun s5 S5 => ?_) (.inr hln)
          refine wpAny_mono ((hsu a oe4 cls d (X.pn ++ pins) hz4 ⟨_, hd4⟩).run [] s5 _ H' _ S5 (hyes rfl a na)) (fun f s6 hsp => ?_) (fun _ _ z => False.elim z)
          have end_ : ∀ {σ6 : St} {H6 : Hp} {Q : Shared → Prop}, Inv (X.suite a ((a, oe4) :: (X.pn ++ pins))) [] σ6 H6 s6 → (∀ s7, Inv X pins (σ6.set i none) H6 s7 → Q s7) →
              wpAny (model X.prog X.w) X.A (do bindName X.env n .none; unbindBehindTheSuite X.env n pos') (fun _ s7 => Q s7) X.xe s6 := fun {σ6 H6 Q} S6 hq => gone_ok (S6.unsuite ok) hN hi hln hq
          cases f with
          | next =>
            obtain ⟨σ6, H6, S6, q6⟩ := hsp
            exact end_ S6 fun s7 J7 => ⟨_, _, J7, q6⟩
          | brk =>
            obtain ⟨σ6, H6, S6, q6⟩ := hsp
            exact end_ S6 fun s7 J7 => ⟨_, _, J7, q6⟩
          | cont =>
            obtain ⟨σ6, H6, S6, q6⟩ := hsp
            exact end_ S6 fun s7 J7 => ⟨_, _, J7, q6⟩
          | ret u =>
            obtain ⟨v6, σ6, H6, S6, r6, q6⟩ := hsp
            exact end_ S6 fun s7 J7 => ⟨_, _, _, J7, r6, q6⟩
        | false =>
          show wpAny _ X.A (handleBy (.ref a) X.env hds2) _ _ _
          exact ih (hno rfl)
    exact go hh w
  · cases f with
    | next =>
      obtain ⟨σ', H', J', q⟩ := hsp
      exact wpAny_execs_nil ⟨σ', H', J'.ofTry ok, q⟩
    | brk =>
      obtain ⟨σ', H', J', q⟩ := hsp
      exact ⟨σ', H', J'.ofTry ok, q⟩
    | cont =>
      obtain ⟨σ', H', J', q⟩ := hsp
      exact ⟨σ', H', J'.ofTry ok, q⟩
    | ret u =>
      obtain ⟨v, σ', H', J', r, q⟩ := hsp
      exact ⟨v, σ', H', J'.ofTry ok, r, q⟩
end
end Vi.P

/-! the suite of an except clause with a name: one statement, made of constants, e.f and isinstance(e, C) -/
namespace Vi.P
open PySem PySem.Spec PyProof.Rows L2 Vi
/-- how a datum without parts stands -/
def cV : D → Option V
  | .none => some .non
  | .int i => some (.int i)
  | .bool b => some (.bl b)
  | .str x => some (.str x)
  | _ => none
theorem cV_rep {K : PySem.W.Frag} {H : Hp} {M : Mset} : ∀ {d : D} {v : V}, cV d = some v → Rep K H M v d
  | .none, _, e => by cases e; exact .non
  | .int i, _, e => by cases e; exact .int i
  | .bool i, _, e => by cases e; exact .bl i
  | .str i, _, e => by cases e; exact .str i
  | .list _, _, e => by cases e
  | .tuple _, _, e => by cases e
  | .dict _, _, e => by cases e
abbrev Pz := L2.St → Hp → Prop
/-- e comes to the datum that m tells, where P holds; nothing is changed -/
def CEi (X : Cx) (P : Pz) (e : Expr) (m : Option D) : Prop := ∀ d, m = some d → ∃ v, cV d = some v ∧ PE X e (fun σ H Q => P σ H ∧ Q v H)
def allO : List (Option D) → Option (List D)
  | [] => some []
  | none :: _ => none
  | some d :: r => (allO r).map (d :: ·)
def CAi (X : Cx) (P : Pz) (es : List Expr) (ms : List (Option D)) : Prop := ∀ ds, allO ms = some ds → ∃ vs, (∀ K H M, Reps K H M vs ds) ∧ PA X es (fun σ H Q => P σ H ∧ Q vs H)
section
variable {X : Cx} {P : Pz} {e : Expr} {es : List Expr} {m : Option D} {ms : List (Option D)} {pos : Pos} {st : Stmt}
theorem ce_c {v : V} {d : D} (h : PE X e (tC v)) (r : cV d = some v) : CEi X P e (some d) := fun d' e' => by
  cases e'
  exact ⟨v, r, PE.imp h fun σ H Q q => q.2⟩
theorem ca_nil : CAi X P [] [] := fun ds e => by
  cases e
  exact ⟨[], fun _ _ _ => .nil, PA.imp pa_nil fun σ H Q q => q.2⟩
theorem ca_cons (he : CEi X P e m) (hes : CAi X P es ms) (hs : starEach (e :: es) X.env = (false, eval e X.env) :: starEach es X.env := by rfl) : CAi X P (e :: es) (m :: ms) := fun ds eq => by
  cases m with
  | none => cases eq
  | some d =>
    obtain ⟨ds', e1, e2⟩ := Option.map_eq_some_iff.mp eq
    cases e2
    obtain ⟨v, c, h⟩ := he d rfl
    obtain ⟨vs, c2, h2⟩ := hes ds' e1
    exact ⟨v :: vs, fun K H M => .cons (cV_rep c) (c2 K H M), PA.imp (pa_cons h h2 hs) fun σ H Q q => ⟨q.1, q.1, q.2⟩⟩
def mLstC (ms : List (Option D)) : ME := fun ρ => match allO ms with
  | some ds => if fits ds.length = true then some (.val (.own .loc ds), ρ) else none
  | none => none
def mDat (m : Option D) : ME := fun ρ => match m with
  | some d => some (.val (.imm d), ρ)
  | none => none
/-- an expression of such a suite -/
def DEi (X : Cx) (P : Pz) (e : Expr) (m : ME) : Prop := PE X e (fun σ H Q => P σ H ∧ tE X.K m σ H Q)
theorem PE.none {t : TE} (h : ∀ σ H Q, ¬ t σ H Q) : PE X e t := ⟨fun pins s σ H Q I q => (h σ H Q q).elim⟩
theorem dei_lst (h : CAi X P es ms) : DEi X P (.List es pos) (mLstC ms) := by
  cases he : allO ms with
  | none => exact PE.none fun σ H Q ⟨_, ρ, M, O, π, pr, ρ', h, e, q⟩ => by unfold mLstC at e; rw [he] at e; cases e
  | some ds =>
    obtain ⟨vs, c, hp⟩ := h ds he
    refine PE.imp (pe_lst hp) fun σ H Q ⟨hP, ρ, M, O, π, pr, ρ', h, e, q⟩ => ?_
    unfold mLstC at e
    rw [he] at e
    simp only at e
    split at e
    · rename_i hz
      cases e
      exact ⟨hP, by rw [(c X.K H M).length]; exact fits_le hz, fun p hp => Post.lst (Q := Q) q h (c X.K H M) hp⟩
    · cases e
theorem dei_one (h : CEi X P e m) : DEi X P e (mDat m) := by
  cases m with
  | none => exact PE.none fun σ H Q ⟨_, ρ, M, O, π, pr, ρ', h, e, q⟩ => by cases e
  | some d =>
    obtain ⟨v, c, hp⟩ := h d rfl
    refine PE.imp hp fun σ H Q ⟨hP, ρ, M, O, π, pr, ρ', h, e, q⟩ => ?_
    cases e
    exact ⟨hP, q v H M (.refl h) h (cV_rep c)⟩
def DSi (X : Cx) (P : Pz) (s : Stmt) (m : MS) : Prop := PS X s (fun D σ H => P σ H ∧ tS X.K m D σ H)
theorem dsi_set {i : Nat} {me : ME} (h : ∀ te, PE X e te → PS X st (tAsg te (gName i))) (he : DEi X P e me) : DSi X P st (mSet i me) := PS.imp (h _ he) fun D σ H ⟨hP, ρ, M, O, π, fl, ρ', h, e, q⟩ => by
  unfold mSet at e
  split at e
  · rename_i pr ρ1 e1
    split at e
    · rename_i ρ2 e2
      cases e
      refine ⟨hP, ρ, M, O, π, pr, ρ1, h, e1, fun v H1 M1 x1 s1 r1 => ?_⟩
      obtain ⟨M2, x2, s2⟩ := put_ok s1 r1 e2
      exact q _ H1 M2 (x1.trans x2) s2
    · cases e
  · cases e
theorem dsi_ret {me : ME} (he : DEi X P e me) : DSi X P (.Return (some e) pos) (mRet me) := PS.imp (ps_ret he) fun D σ H ⟨hP, ρ, M, O, π, fl, ρ', h, e, q⟩ => by
  unfold mRet at e
  split at e
  · rename_i pr ρ1 e1
    split at e
    · rename_i r e2
      cases e
      exact ⟨hP, ρ, M, O, π, pr, _, h, e1, fun v H1 M1 x1 s1 r1 => q v σ H1 M1 x1 s1 (give_ok s1 r1 e2)⟩
    · cases e
  · cases e
end
/-- what the suite may take for granted: the exception at a stands in slot i; its dict, if any, holds the number o as f -/
def Pq (oi : Option Nat) (a : Addr) (d : Option Addr) (f : Str) (o : Option Int) : Pz := fun σ H => (∀ i, oi = some i → σ[i]? = some (some (.ref a))) ∧ (match o with
  | none => d = none
  | some k => ∃ q, d = some q ∧ H q = some (.xd [(f, .int k)]))
section
variable {X : Cx} {a C : Addr} {oe : Obj} {d : Option Addr} {pn : List (Addr × Obj)} {x f : Str} {p pos : Pos} {i : Nat} {o : Option Int}
/-- e.f -/
theorem ce_fld (T : XfC X.K C) (hno : PySem.W.findIn X.K (.ref C) f = some none) (hz : Zc (.ref C) d oe) (hf : ∃ vs, oe.data = .fields vs) (he : PE (X.suite a ((a, oe) :: pn)) (.Name x p) (tVar i)) (hb : attributeBase (.Name x p) f X.env (eval (.Name x p) X.env) = eval (.Name x p) X.env := by rfl) :
    CEi (X.suite a ((a, oe) :: pn)) (Pq (some i) a d f o) (.Attribute (.Name x p) f pos) (o.map .int) := fun dd e => by
  cases o with
  | none => cases e
  | some k =>
    cases e
    refine ⟨.int k, rfl, PE.imp (pe_xf T hno hz hf he hb) fun σ H Q ⟨⟨h1, q, h2, h3⟩, hq⟩ => ?_⟩
    exact ⟨.ref a, h1 i rfl, rfl, rfl, q, _, .int k, h2, h3, by simp [List.lookup], hq⟩
/-- isinstance(e, c), also where the exception has a dict -/
def rIsD (K : PySem.W.Frag) (C a : Addr) (d : Option Addr) : List V → Hp → VK → Prop := fun xs H Q => ∃ (c : V) (cv : Value) (b : Bool), xs = [.ref a, c] ∧ (∀ u, RelV c u → u = cv) ∧ (∀ q, d = some q → ∃ fs, H q = some (.xd fs)) ∧ PySem.W.kitOne K (.ref C) cv = some b ∧ Q (.bl b) H
theorem call_isD (E : ExcC X.K C) (hz : Zc (.ref C) d oe) (hf : ∃ vs, oe.data = .fields vs) : CallR (X.suite a ((a, oe) :: pn)) (.builtin "isinstance") (rIsD X.K C a d) := by
  intro pins s σ H xs us Q I r h
  obtain ⟨c, cv, b, rfl, hcv, hd, e, q⟩ := h
  cases r with
  | cons rx rr =>
    cases rr with
    | cons rt rr =>
      cases rr
      cases rx
      have ec := hcv _ rt
      subst ec
      obtain ⟨hget, _⟩ := I.pin (a, oe) (List.mem_append.mpr (.inl List.mem_cons_self))
      obtain ⟨vs, hv⟩ := hf
      have J : ∃ od, PySem.W.InstAt s.heap a oe C od := by
        obtain ⟨oc, od, oda, osl⟩ := oe
        obtain ⟨h1, h2⟩ := hz
        dsimp only at h1 h2 hv
        subst h1 h2 hv
        cases oc' : od with
        | none => exact ⟨none, oc' ▸ hget, rfl, rfl, trivial⟩
        | some q1 =>
          obtain ⟨fs, hq⟩ := hd q1 oc'
          obtain ⟨mA, hns, _⟩ := (show ObjOk X.prog X.w H s.heap q1 (.xd fs) from I.hok q1 _ hq)
          obtain ⟨od', ho, _⟩ := lookIn_ns hns
          exact ⟨some od', oc' ▸ hget, rfl, rfl, ho⟩
      obtain ⟨od, J⟩ := J
      have hcl : (PySem.W.clsIn X.K C).isSome = true := by obtain ⟨cd, hc, _⟩ := PySem.W.any_some E.hd; rw [hc]; rfl
      exact PySem.W.kia_one (PySem.W.kitx_exc hcl E.hg E.hk E.hs E.ha E.hn E.ht E.hm) I.kIn J e (fun z => nomatch z) fun tk => ⟨.bl b, H, I.kept (t' := tk) fun _ _ z => z, rfl, q⟩
theorem ce_isi {y : Str} {b : Expr} {t : String} {r : Bool} {p2 : Pos} (E : ExcC X.K C) (hk : PySem.W.kitOne X.K (.ref C) (.type t) = some r) (hz : Zc (.ref C) d oe) (hf : ∃ vs, oe.data = .fields vs) (hg : Gl X y) (hm : X.mg y = none) (hv : bootBuiltins y = some (.builtin "isinstance")) (he : PE (X.suite a ((a, oe) :: pn)) (.Name x p) (tVar i)) (ht : PE (X.suite a ((a, oe) :: pn)) b (tC (.ty t)))
    (hn : y ≠ "__name__" := by decide) (hd : (y == ("__debug__" : Str)) = false := by decide) (he1 : starEach [.Name x p, b] X.env = (false, eval (.Name x p) X.env) :: starEach [b] X.env := by rfl) (he2 : starEach [b] X.env = (false, eval b X.env) :: starEach [] X.env := by rfl) (hpl : (PySem.backTo pos (starEach [b] X.env)).any (·.1) = false := by rfl) :
    CEi (X.suite a ((a, oe) :: pn)) (Pq (some i) a d f o) (.Call (.Name y p2) [.Name x p, b] [] pos) (some (.bool r)) := fun dd e => by
  cases e
  refine ⟨.bl r, rfl, PE.imp (pe_callB (call_isD E hz hf) hg hm hv (pa_cons he (pa_cons ht pa_nil he2) he1) hn hd he1 hpl) fun σ H Q ⟨⟨h1, h2⟩, hq⟩ => ?_⟩
  refine ⟨.ref a, h1 i rfl, .ty t, .type t, r, rfl, fun u z => z, fun q hq' => ?_, hk, hq⟩
  cases o with
  | none => rw [h2] at hq'; cases hq'
  | some k =>
    obtain ⟨q', e1, e2⟩ := h2
    rw [hq'] at e1; cases e1
    exact ⟨_, e2⟩
end
end Vi.P

/-! try with several clauses; a name set to, or a row that is, a call that may raise -/
namespace Vi.P
open PySem PySem.Spec PyProof.Rows L2 Vi
theorem RV_hole {K : PySem.W.Frag} {H : Hp} {M O : Mset} {ρ : Fm} {σ : L2.St} {r : Sv} {v : V} (h : RV K H M O ρ σ r v) (i : Nat) (u : Option V) : RV K H M O (ρ.set i none) (σ.set i u) r v := by
  cases r with
  | imm d => exact h
  | own b ds =>
    obtain ⟨p, vs, g1, g2, g3, g4, g5, g6⟩ := h
    refine ⟨p, vs, g1, g2, g3, g4, g5, fun j es e => ?_⟩
    obtain ⟨hj, e1⟩ := set_none_at e
    rw [List.getElem?_set_ne (Ne.symm hj)]
    exact g6 j es e1
/-- a clause's mirror: the class' number, the slot of its name, the suite's by the number that is held -/
abbrev Hd := Nat × Option Nat × (Option Int → MS)
def mH (oi : Option Nat) (n : MS) : MS := fun ρ => match oi with
  | none => n ρ
  | some i => if i < ρ.length then match n (ρ.set i none) with
    | some (fl, ρ') => some (fl, ρ'.set i none)
    | none => none else none
def mHs (ys : List Nat) : List Hd → CdX → MS
  | [], _, _ => none
  | (y, oi, n) :: r, c, ρ => if c.1 = y then mH oi (n c.2) ρ else if ys.contains c.1 then mHs ys r c ρ else none
def mTryC (ys : List Nat) (m : MS) (x : MX) (l : List Hd) : MS := fun ρ => match m ρ with
  | some r => some r
  | none => match x ρ with
    | some (c, ρ1) => mHs ys l c ρ1
    | none => none
def tsOf (K : PySem.W.Frag) (cv : Nat → Value) (fl : Nat → Str) (h : Hd) : Addr → Value → Option Addr → TS := fun a cls d D σ H => cls = cv h.1 ∧ ∃ o, Pq h.2.1 a d (fl h.1) o σ H ∧ tS K (h.2.2 o) D σ H
def clOf (K : PySem.W.Frag) (cv : Nat → Value) (fl : Nat → Str) (h : Hd) : Cl := (cv h.1, h.2.1, tsOf K cv fl h)
inductive HsOk (X : Cx) (cv : Nat → Value) (fl : Nat → Str) (ys : List Nat) : List ExceptHandler → List Hd → Prop
  | nil : HsOk X cv fl ys [] []
  | bare {x : Str} {y : Nat} {n : MS} {b₀ : Stmt} {suite : List Stmt} {np pos' : Pos} {hds : List ExceptHandler} {l : List Hd} (hc : Names X x (cv y)) (he : ∀ c ∈ ys, PySem.W.exmOne X.K (cv c) (cv y) = some (decide (c = y))) (hy : y ∈ ys)
      (hsu : ∀ (a : Addr) (pn : List (Addr × Obj)), DSs (X.suite a pn) (b₀ :: suite) n) (r : HsOk X cv fl ys hds l) :
      HsOk X cv fl ys (.ExceptHandler (some (.Name x np)) none (b₀ :: suite) pos' :: hds) ((y, none, fun _ => n) :: l)
  | named {x nm : Str} {i y : Nat} {n : Option Int → MS} {b₀ : Stmt} {np pos' : Pos} {hds : List ExceptHandler} {l : List Hd} (hi : X.N[i]? = some nm) (hln : X.env.kindOf nm = some .local) (hc : Names X x (cv y)) (he : ∀ c ∈ ys, PySem.W.exmOne X.K (cv c) (cv y) = some (decide (c = y))) (hy : y ∈ ys)
      (hsu : ∀ (a : Addr) (oe : Obj) (d : Option Addr) (o : Option Int) (pn : List (Addr × Obj)), Zc (cv y) d oe → (∃ vs, oe.data = .fields vs) → DSi (X.suite a ((a, oe) :: pn)) (Pq (some i) a d (fl y) o) b₀ (n o)) (r : HsOk X cv fl ys hds l) :
      HsOk X cv fl ys (.ExceptHandler (some (.Name x np)) (some nm) [b₀] pos' :: hds) ((y, some i, n) :: l)
section
variable {X : Cx} {cv : Nat → Value} {fl : Nat → Str} {ys : List Nat} {hds : List ExceptHandler} {l : List Hd} {W : WX}
theorem HsOk.cls (h : HsOk X cv fl ys hds l) : ClsOk X hds (l.map (clOf X.K cv fl)) := by
  induction h with
  | nil => exact .nil
  | bare hc he hy hsu r ih =>
    refine .bare hc (fun a oe cls d pn hz hf => ⟨fun pins s σ H D I h => ?_⟩) ih
    obtain ⟨ec, o, hp, ht⟩ := h
    exact (hsu a ((a, oe) :: pn)).run pins s σ H D I ht
  | named hi hln hc he hy hsu r ih =>
    refine .named hi hln hc (fun a oe cls d pn hz hf => ⟨fun pins s σ H D I h => ?_⟩) ih
    obtain ⟨ec, o, hp, ht⟩ := h
    have ec' : cls = cv _ := ec
    subst ec'
    exact (pss_one (hsu a oe d o pn hz hf)).run pins s σ H D I ⟨hp, ht⟩
theorem wCls_ok {Wout : WX} {D : Ends} (h : HsOk X cv fl ys hds l) {H0 H : Hp} {M0 M O : Mset} {π : Nat → Option Addr} {ρ ρ' : Fm} {σ : L2.St} {c : CdX} {d : Option Addr} {f : Fl} (x : Ext O H0 M0 H M) (s : SR X.K H M O π ρ σ) (e : mHs ys l c ρ = some (f, ρ'))
    (q : SPost X.K H0 M0 O π D ρ' f) (hd : match c.2 with
      | none => d = none
      | some k => ∃ q, d = some q ∧ H q = some (.xd [(fl c.1, .int k)])) : wCls X.K Wout D (l.map (clOf X.K cv fl)) (cv c.1) d σ H := by
  induction h with
  | nil => cases e
  | @bare x' y n b₀ suite np pos' hds l hc he hy hsu r ih =>
    unfold mHs at e
    split at e
    · rename_i hcy
      subst hcy
      exact ⟨true, by rw [he _ hy, decide_eq_true rfl], fun _ a na => ⟨rfl, c.2, ⟨fun i z => (by cases z), hd⟩, ρ, M, O, π, f, ρ', s, e, q.later (O1 := O) x⟩, fun z => by cases z⟩
    · rename_i hcy
      split at e
      · rename_i hys
        exact ⟨false, by rw [he _ (List.contains_iff_mem.mp hys), decide_eq_false hcy], fun z => by (cases z), fun _ => ih e⟩
      · cases e
  | @named x' nm i y n b₀ np pos' hds l hi hln hc he hy hsu r ih =>
    unfold mHs at e
    split at e
    · rename_i hcy
      subst hcy
      refine ⟨true, by rw [he _ hy, decide_eq_true rfl], fun _ a na => ?_, fun z => by cases z⟩
      unfold mH at e
      simp only at e
      split at e
      rotate_left
      · cases e
      rename_i hl
      rw [s.len] at hl
      split at e
      · rename_i fl2 ρ2 e2
        cases e
        refine ⟨rfl, c.2, ⟨fun j z => (by cases z; exact List.getElem?_set_self hl), hd⟩, ρ.set i none, M, O, π, f, ρ2, hole s i (some (.ref a)), e2, ?_⟩
        cases f with
        | next => exact fun σ' H' M' x' s' => q _ H' M' (x.trans x') (hole s' i none)
        | brk => exact fun σ' H' M' x' s' => q _ H' M' (x.trans x') (hole s' i none)
        | cont => exact fun σ' H' M' x' s' => q _ H' M' (x.trans x') (hole s' i none)
        | ret r => exact fun v σ' H' M' x' s' r' => q v _ H' M' (x.trans x') (hole s' i none) (RV_hole r' i none)
      · cases e
    · rename_i hcy
      split at e
      · rename_i hys
        exact ⟨false, by rw [he _ (List.contains_iff_mem.mp hys), decide_eq_false hcy], fun z => by (cases z), fun _ => ih e⟩
      · cases e
theorem ds_tryC {body : List Stmt} {h₀ : ExceptHandler} {m : MS} {x : MX} {pos : Pos} (hs : X.stack = X.env :: X.outer) (hf : X.env.frame = some X.env.locals) (hN : X.N.Nodup)
    (hb : ∀ (W : WX) (pn : List (Addr × Obj)) (xe : Value → Shared → Prop), Takes (X.tr pn xe) W → PassesOwn (model X.prog X.w) X.A X.env xe → DSXs (X.tr pn xe) body m x cv fl W)
    (hh : HsOk X cv fl ys (h₀ :: hds) l) : DS X (.Try body (h₀ :: hds) [] [] pos) (mTryC ys m x l) :=
  PS.imp (ps_try_cls (Wout := fun _ _ _ _ => False) (tb := fun W => tSX X.K m x cv fl W) hs hf hN takes_none5 hb hh.cls) fun D σ H ⟨ρ, M, O, π, f, ρ', h, e, q⟩ => by
    unfold mTryC at e
    split at e
    · rename_i r e1
      cases e
      exact .inl ⟨ρ, M, O, π, f, ρ', h, e1, q⟩
    · split at e
      · rename_i c ρ1 e1
        refine .inr ⟨ρ, M, O, π, c, ρ1, h, e1, fun σ1 H1 M1 x1 s1 => ?_⟩
        show eE cv fl _ c H1
        unfold eE
        cases hc : c.2 with
        | none => exact wCls_ok hh x1 s1 e q (by rw [hc])
        | some k => exact fun qa hq => wCls_ok hh (x1.trans (.alloc s1 hq)) (s1.alloc hq) e q (by rw [hc]; exact ⟨qa, rfl, upd_same⟩)
      · cases e
theorem dsx_set {st : Stmt} {e : Expr} {i : Nat} {me : ME} {xe : MX} (h : ∀ te, PE X e te → PS X st (tAsg te (gName i))) (he : DEX X e me xe cv fl W) : DSX X st (mSet i me) xe cv fl W := PS.imp (h _ he) fun D σ H q => by
  rcases q with ⟨ρ, M, O, π, f, ρ', h, e, q⟩ | q
  · refine .inl ?_
    unfold mSet at e
    split at e
    · rename_i pr ρ1 e1
      split at e
      · rename_i ρ2 e2
        cases e
        refine ⟨ρ, M, O, π, pr, ρ1, h, e1, fun v H1 M1 x1 s1 r1 => ?_⟩
        obtain ⟨M2, x2, s2⟩ := put_ok s1 r1 e2
        exact q _ H1 M2 (x1.trans x2) s2
      · cases e
    · cases e
  · exact .inr q
theorem dsx_expr {e : Expr} {me : ME} {xe : MX} {pos : Pos} (he : DEX X e me xe cv fl W) (hs : swapsWith e none pos.line X.env = pure false := by rfl) : DSX X (.Expr e pos) (mDrop me) xe cv fl W := PS.imp (ps_expr he hs) fun D σ H q => by
  rcases q with ⟨ρ, M, O, π, f, ρ', h, e, q⟩ | q
  · refine .inl ?_
    unfold mDrop at e
    split at e
    · rename_i pr ρ1 e1
      cases e
      exact ⟨ρ, M, O, π, pr, _, h, e1, fun v H1 M1 x1 s1 r1 => q σ H1 M1 x1 s1⟩
    · cases e
  · exact .inr q
theorem fnx_zero {P : Program} {w : World} {K : PySem.W.Frag} {mg : Str → Option Value} {base : Heap} {f : Addr} {fd : FuncData} {ps : List Str} {k : Nat} {cv : Nat → Value} {fl : Nat → Str} : FnOk P w K mg base (L2.CX P w) k f fd ps (spX K ps.length (fun _ => none) (fun _ => none) cv fl) :=
  ⟨fun vs H Q E h => by
    rcases h with ⟨M, O, π, args, r, os, hl, _⟩ | ⟨M, O, π, args, c, hl, _⟩
    · exact hl
    · exact hl, fun A outer s H args us vs Q E _ _ _ _ h => by
    rcases h with ⟨M, O, π, as, r, os, _, _, e, _⟩ | ⟨M, O, π, as, c, _, _, e, _⟩
    · cases e
    · cases e⟩
end
end Vi.P

namespace Vi
open PySem PySem.Spec PyProof.Rows L2
theorem boot_LookupError : bootBuiltins "LookupError" = some (.type "LookupError") := by decide +kernel
theorem boot_Exception : bootBuiltins "Exception" = some (.type "Exception") := by decide +kernel
theorem kit_sub {K : PySem.W.Frag} {C : Addr} {T : String} {r : Bool} (h : PySem.W.subIn K (.ref C) (.type T) = some r) (hm : PySem.W.kitMeta T = true := by decide +kernel) : PySem.W.kitOne K (.ref C) (.type T) = some r := by
  unfold PySem.W.kitOne
  have e : (Value.ref C == Value.type T) = false := rfl
  rw [e]
  show (if PySem.W.kitMeta T = true then PySem.W.subIn K (.ref C) (.type T) else none) = some r
  rw [if_pos hm, h]
theorem tail_VE : Tail [.type "ValueError", .type "Exception", .type "BaseException", .type "object"] where
  pass := fun self => F.store_ValueError.passes self
  obj := by decide +kernel
  ne := fun l h => by
    cases l with
    | nil => exact absurd h (by decide)
    | cons _ _ => rfl
end Vi

/-! all and any of a list of any data -/
namespace Vi
open PySem PySem.Spec PyProof.Rows L2
section
variable {X : Cx}
def rAllD (K : PySem.W.Frag) : List V → Hp → VK → Prop := fun vs H Q => ∃ (a : Addr) (xs : List V) (ds : List D), vs = [V.ref a] ∧ SqL K H a xs ∧ DpAll K H xs ds ∧ PyData.plainAll ds = true ∧ (∀ x ∈ ds, x.fits63) ∧ Q (.bl (ds.all PyData.truthy)) H
def rAnyD (K : PySem.W.Frag) : List V → Hp → VK → Prop := fun vs H Q => ∃ (a : Addr) (xs : List V) (ds : List D), vs = [V.ref a] ∧ SqL K H a xs ∧ DpAll K H xs ds ∧ PyData.plainAll ds = true ∧ (∀ x ∈ ds, x.fits63) ∧ Q (.bl (ds.any PyData.truthy)) H
theorem cr_allD (hc : X.calm = true) : CallR X (.builtin "all") (rAllD X.K) := by
  intro pins s σ H vs us Q I r h
  obtain ⟨a, xs, ds, rfl, hs, hd, hp, hf, q⟩ := h
  obtain ⟨its, rv, hl, _⟩ := I.list hs
  rw [Vals.ref1 r]
  obtain ⟨as, hr⟩ := Dp.readsAll I ds xs its hd rv
  exact PySem.W.all_list_data (I.ok.hd hc) hl.isList (by simpa using hr) hp hf fun h' tk hk => ⟨.bl _, H, I.kept fun b o eo => hk b o eo, rfl, q⟩
theorem cr_anyD (hc : X.calm = true) : CallR X (.builtin "any") (rAnyD X.K) := by
  intro pins s σ H vs us Q I r h
  obtain ⟨a, xs, ds, rfl, hs, hd, hp, hf, q⟩ := h
  obtain ⟨its, rv, hl, _⟩ := I.list hs
  rw [Vals.ref1 r]
  obtain ⟨as, hr⟩ := Dp.readsAll I ds xs its hd rv
  exact PySem.W.any_list_data (I.ok.hd hc) hl.isList (by simpa using hr) hp hf fun h' tk hk => ⟨.bl _, H, I.kept fun b o eo => hk b o eo, rfl, q⟩
def fits6 : D → Bool
  | .str x => decide (x.length < 9223372036854775808)
  | .list xs => decide (xs.length < 9223372036854775808)
  | .tuple xs => decide (xs.length < 9223372036854775808)
  | _ => true
theorem fits6_ok {d : D} (h : fits6 d = true) : d.fits63 := by
  have k : ∀ n : Nat, decide (n < 9223372036854775808) = true → (n : Int) < 2 ^ 63 := fun n h => by
    have := of_decide_eq_true h
    omega
  cases d with
  | str x => exact k _ h
  | list x => exact k _ h
  | tuple x => exact k _ h
  | _ => exact True.intro
def okTru (ds : List D) : Bool := PyData.canLayAll0 ds && (PyData.plainAll ds && ds.all fits6)
def dAllD : D → Option Sv
  | .list ds => if okTru ds = true then some (.imm (.bool (ds.all PyData.truthy))) else none
  | _ => none
def dAnyD : D → Option Sv
  | .list ds => if okTru ds = true then some (.imm (.bool (ds.any PyData.truthy))) else none
  | _ => none
theorem us_allD : UnS X (fun v H Q => rAllD X.K [v] H Q) dAllD := by
  intro H M O π ρ σ v1 d1 res Q h r1 e q
  unfold dAllD at e
  split at e
  · split at e
    · rename_i ds hz
      cases e
      obtain ⟨a, vs, rfl, rd, rs⟩ := r1.inL
      obtain ⟨z1, z2⟩ := Bool.and_eq_true_iff.mp hz
      obtain ⟨z2, z3⟩ := Bool.and_eq_true_iff.mp z2
      exact ⟨a, vs, ds, rfl, .inl rd, rs.dp z1, z2, fun x hx => fits6_ok (List.all_eq_true.mp z3 x hx), Post.now q h (.bl _)⟩
    · cases e
  · cases e
theorem us_anyD : UnS X (fun v H Q => rAnyD X.K [v] H Q) dAnyD := by
  intro H M O π ρ σ v1 d1 res Q h r1 e q
  unfold dAnyD at e
  split at e
  · split at e
    · rename_i ds hz
      cases e
      obtain ⟨a, vs, rfl, rd, rs⟩ := r1.inL
      obtain ⟨z1, z2⟩ := Bool.and_eq_true_iff.mp hz
      obtain ⟨z2, z3⟩ := Bool.and_eq_true_iff.mp z2
      exact ⟨a, vs, ds, rfl, .inl rd, rs.dp z1, z2, fun x hx => fits6_ok (List.all_eq_true.mp z3 x hx), Post.now q h (.bl _)⟩
    · cases e
  · cases e
end
end Vi

/-! x is True, x a truth value -/
namespace Vi
open PySem PySem.Spec PyProof.Rows L2
def dIsB : D → D → Option Sv
  | .bool a, .bool b => some (.imm (.bool (decide (a = b))))
  | _, _ => none
theorem os_isB {X : Cx} : OpS X (fun x y H Q => ∃ a b, x = .bl a ∧ y = .bl b ∧ Q (.bl (decide (a = b))) H) dIsB := by
  intro H M O π ρ σ v1 v2 d1 d2 res Q h r1 r2 e q
  unfold dIsB at e
  split at e
  · cases e
    cases r1.inB
    cases r2.inB
    exact ⟨_, _, rfl, rfl, Post.now q h (.bl _)⟩
  · cases e
end Vi

/-! exceptions of one's own classes as values -/
namespace Vi
open PySem PySem.Spec PyProof.Rows L2
section
variable {X : Cx}
def tOxV (C : Addr) (sp : Sp) (ta : TA) : TE := fun σ H Q => ta σ H fun vs H1 => vs.length ≤ 1000 ∧ ∀ a, H1 a = none → sp (.ref a :: vs) (upd H1 a (exo a C none)) (fun v H2 => v = .non ∧ Q (.ref a) H2) (fun _ _ _ => False)
theorem run_oxV {C fI : Addr} {k : Nat} {fd : FuncData} {ps : List Str} {sp : Sp} {B newId initId : String} {bmB : List Value} {pins : List (Addr × Obj)} {σ : L2.St} {H1 : Hp} {s1 : Shared} {us : List Value} {vs : List V} {Q : VK} (F : ExcBaseFacts B newId initId bmB) (T : OxC X.K C newId bmB) (iC : PySem.W.findIn X.K (.ref C) "__init__" = some (some (.ref fI))) (tI : PySem.W.typeIn X.K (.ref fI) = some (.type "function"))
    (F1 : FnOk X.prog X.w X.K X.mg X.base CX0 k fI fd ps sp) (hr : Room (k + 1) X.A) (hb : Binds X.K fd ps []) (I1 : Inv X pins σ H1 s1) (r1 : Vals vs us) (hz : vs.length ≤ 1000)
    (q1 : ∀ a, H1 a = none → sp (.ref a :: vs) (upd H1 a (exo a C none)) (fun v H2 => v = .non ∧ Q (.ref a) H2) (fun _ _ _ => False)) : wpAny (model X.prog X.w) X.A (call (.ref C) us) (EP X pins σ Q) X.xe s1 := by
  obtain ⟨nm, q, N, bs, bm, sn, sub, ab, col, dd, k0, k1, k2, k3, k5, hC, hbm⟩ := T.cls
  obtain ⟨hp, g, dr, tk, os⟩ := s1
  have hsz : hp.objs.size ≤ hp.objs.size + 1 := Nat.le_succ _
  have hq := q1 (hp.objs.size + 1) (I1.hok.fresh hsz)
  have kk : ∀ b o, hp.get? b = some o → ((hp.push (PySem.W.kdv_tup us)).push (PySem.HandSPX.excO C hp.objs.size)).get? b = some o := fun b o e => Heap.get?_push_of_some _ (Heap.get?_push_of_some _ e)
  have hget : ((hp.push (PySem.W.kdv_tup us)).push (PySem.HandSPX.excO C hp.objs.size)).get? (hp.objs.size + 1) = some (PySem.HandSPX.excO C hp.objs.size) := by heap_get
  have I2 : Inv X pins σ (upd H1 (hp.objs.size + 1) (exo (hp.objs.size + 1) C none)) ⟨(hp.push (PySem.W.kdv_tup us)).push (PySem.HandSPX.excO C hp.objs.size), g, dr, tk, os⟩ :=
    I1.laid (t' := tk) (a := hp.objs.size + 1) (o := exo (hp.objs.size + 1) C none) (h' := (hp.push (PySem.W.kdv_tup us)).push (PySem.HandSPX.excO C hp.objs.size)) kk hsz (exo_ok hget)
  have r2 : Vals (V.ref (hp.objs.size + 1) :: vs) (Value.ref (hp.objs.size + 1) :: us) := .cons rfl r1
  have hl : (Value.ref (hp.objs.size + 1) :: us).length = ps.length := by
    have e := r2.length
    rw [F1.len _ _ _ _ hq] at e
    exact e.symm
  have hus : us.length ≤ sizeLine := by
    rw [← Paired.length r1, sizeLine_eq]
    omega
  refine wpAny_call (PySem.HandSPX.call_own F (fun Y => PySem.W.excTail_contains Y bm hbm) (I1.kIn _ _ hC) (PySem.W.looks_findIn I1.kIn iC) (fun self => PySem.W.bind_fn I1.kIn self tI) hus
    (codeAny_mono (F1.run _ X.stack _ _ ⟨Value.ref (hp.objs.size + 1) :: us, []⟩ (Value.ref (hp.objs.size + 1) :: us) _ _ (fun _ _ _ => False) (hr.make C us []) (I2.env0.make C us []) (by have z := hb _ (Value.ref (hp.objs.size + 1) :: us) I2.kIn (by simpa using hl); rwa [List.append_nil] at z) r2 hq) fun r s' hq' => ?_))
  cases r with
  | error er => exact hq'.elim
  | ok fl =>
    cases fl with
    | ret u =>
      obtain ⟨v, H2, J2, rv, ev, q3⟩ := I2.after hq'
      subst ev
      exact ⟨rv, .ref _, H2, J2, rfl, q3⟩
    | next => exact False.elim hq'
    | brk => exact False.elim hq'
    | cont => exact False.elim hq'
theorem pe_oxV {x : Str} {C fI : Addr} {k : Nat} {fd : FuncData} {ps : List Str} {sp : Sp} {p pos : Pos} {B newId initId : String} {bmB : List Value} {e : Expr} {es : List Expr} {ta : TA} (F : ExcBaseFacts B newId initId bmB) (T : OxC X.K C newId bmB) (iC : PySem.W.findIn X.K (.ref C) "__init__" = some (some (.ref fI))) (tI : PySem.W.typeIn X.K (.ref fI) = some (.type "function"))
    (F1 : FnOk X.prog X.w X.K X.mg X.base CX0 k fI fd ps sp) (hr : Room (k + 1) X.A) (hb : Binds X.K fd ps []) (hg : Gl X x) (hm : X.mg x = some (.ref C)) (ha : PA X (e :: es) ta)
    (hdb : (x == ("__debug__" : Str)) = false := by decide) (he : starEach (e :: es) X.env = (false, eval e X.env) :: starEach es X.env := by rfl) (hpl : (PySem.backTo pos (starEach es X.env)).any (·.1) = false := by rfl) :
    PE X (.Call (.Name x p) (e :: es) [] pos) (tOxV C sp ta) := by
  refine ⟨fun pins s σ H Q I h => ?_⟩
  refine wpAny_Call_Name_kw (ld_glob I hg hm ?_ hdb)
  exact PySem.W.callWith_K (h₀ := X.base) I.ok.mod.kin T.kC (thn (ha.run pos pins s σ H _ I h) fun us s1 ⟨vs, H1, I1, r1, hz, q1⟩ => ⟨I1.kIn, run_oxV F T iC tI F1 hr hb I1 r1 hz q1⟩) he hpl
theorem pe_oxV0 {x : Str} {C fI : Addr} {k : Nat} {fd : FuncData} {ps : List Str} {sp : Sp} {p pos : Pos} {B newId initId : String} {bmB : List Value} (F : ExcBaseFacts B newId initId bmB) (T : OxC X.K C newId bmB) (iC : PySem.W.findIn X.K (.ref C) "__init__" = some (some (.ref fI))) (tI : PySem.W.typeIn X.K (.ref fI) = some (.type "function"))
    (F1 : FnOk X.prog X.w X.K X.mg X.base CX0 k fI fd ps sp) (hr : Room (k + 1) X.A) (hb : Binds X.K fd ps []) (hg : Gl X x) (hm : X.mg x = some (.ref C)) (hdb : (x == ("__debug__" : Str)) = false := by decide) :
    PE X (.Call (.Name x p) [] [] pos) (tOxV C sp tNil) := by
  refine ⟨fun pins s σ H Q I h => ?_⟩
  refine wpAny_Call_Name_kw (ld_glob I hg hm ?_ hdb)
  obtain ⟨hz, q1⟩ := h
  exact PySem.W.callWith_K0 I.kIn T.kC (run_oxV (us := []) F T iC tI F1 hr hb I .nil hz q1)
abbrev excD (nm : Str) : D := .dict [(.str nm, .bool true)]
/-- C(e), e a whole number, its __init__ stores it -/
def mExc1 (nm : Str) (me : ME) : ME := fun ρ => match me ρ with
  | some (pr, ρ1) => match peek ρ1 pr with
    | some (.int i) => some (.val (.imm (excD nm)), ρ1)
    | _ => none
  | none => none
def mExc0 (nm : Str) : ME := fun ρ => some (.val (.imm (excD nm)), ρ)
theorem de_exc1 {x f nm : Str} {C fI : Addr} {k : Nat} {fd : FuncData} {ps : List Str} {p pos : Pos} {B newId initId : String} {bmB : List Value} {e : Expr} {me : ME} (F : ExcBaseFacts B newId initId bmB) (T : OxC X.K C newId bmB) (iC : PySem.W.findIn X.K (.ref C) "__init__" = some (some (.ref fI))) (tI : PySem.W.typeIn X.K (.ref fI) = some (.type "function"))
    (hno : PySem.W.findIn X.K (.ref C) f = some none) (hx : PySem.W.nsIn X.K mainGlobals nm = some (some (.ref C))) (F1 : FnOk X.prog X.w X.K X.mg X.base CX0 k fI fd ps (spField X.K newId bmB f)) (hr : Room (k + 1) X.A) (hb : Binds X.K fd ps []) (hg : Gl X x) (hm : X.mg x = some (.ref C)) (he : DE X e me)
    (hdb : (x == ("__debug__" : Str)) = false := by decide) (hs : starEach [e] X.env = (false, eval e X.env) :: starEach [] X.env := by rfl) (hpl : (PySem.backTo pos (starEach [] X.env)).any (·.1) = false := by rfl) :
    DE X (.Call (.Name x p) [e] [] pos) (mExc1 nm me) := PE.imp (pe_oxV F T iC tI F1 hr hb hg hm (pa_cons he pa_nil hs) hdb hs hpl) fun σ H Q ⟨ρ, M, O, π, pr, ρ', h, e1, q⟩ => by
  unfold mExc1 at e1
  split at e1
  · rename_i pr1 ρ1 h2
    split at e1
    · rename_i i h3
      cases e1
      refine ⟨ρ, M, O, π, pr1, _, h, h2, fun v H1 M1 x1 s1 r1 => ?_⟩
      have hv : v = .int i := by
        cases peek_vw s1 r1 h3
        rfl
      subst hv
      refine ⟨by simp, fun a ha => ⟨a, C, .int i, rfl, T, hno, upd_same, fun dx hx' hne => ⟨rfl, ?_⟩⟩⟩
      have hd : H1 dx = none := by rwa [upd_ne hne] at hx'
      have eH : upd (upd (upd H1 a (exo a C none)) dx (exd dx [(f, .int i)])) a (exo a C (some dx)) = upd (upd H1 dx (exd dx [(f, .int i)])) a (exo a C (some dx)) := by
        funext b
        by_cases hb : b = a
        · subst hb; rw [upd_same, upd_same]
        · rw [upd_ne hb, upd_ne hb]
          by_cases hbd : b = dx
          · subst hbd; rw [upd_same, upd_same]
          · rw [upd_ne hbd, upd_ne hbd, upd_ne hb]
      rw [eH]
      have s2 := s1.alloc (o := exd dx [(f, .int i)]) hd
      have x2 : Ext O H1 M1 (upd H1 dx (exd dx [(f, .int i)])) M1 := .alloc s1 hd
      have ha2 : upd H1 dx (exd dx [(f, .int i)]) a = none := by rw [upd_ne (Ne.symm hne)]; exact ha
      have s3 := s2.alloc (o := exo a C (some dx)) ha2
      have x3 : Ext O (upd H1 dx (exd dx [(f, .int i)])) M1 (upd (upd H1 dx (exd dx [(f, .int i)])) a (exo a C (some dx))) M1 := .alloc s2 ha2
      refine q (.ref a) _ M1 (x1.trans (x2.trans x3)) s3 (.exc (.inl upd_same) (fun z => s1.live a z ha) (fun q e => ?_) hx)
      cases e
      exact ⟨_, .inl (by rw [upd_ne hne, upd_same]), fun z => s1.live _ z hd⟩
    · cases e1
  · cases e1
theorem de_exc0 {x nm : Str} {C fI : Addr} {k : Nat} {fd : FuncData} {p pos : Pos} {B newId initId : String} {bmB : List Value} (F : ExcBaseFacts B newId initId bmB) (T : OxC X.K C newId bmB) (iC : PySem.W.findIn X.K (.ref C) "__init__" = some (some (.ref fI))) (tI : PySem.W.typeIn X.K (.ref fI) = some (.type "function"))
    (hx : PySem.W.nsIn X.K mainGlobals nm = some (some (.ref C))) (F1 : FnOk X.prog X.w X.K X.mg X.base CX0 k fI fd ["self"] spInit) (hr : Room (k + 1) X.A) (hb : Binds X.K fd ["self"] []) (hg : Gl X x) (hm : X.mg x = some (.ref C)) (hdb : (x == ("__debug__" : Str)) = false := by decide) :
    DE X (.Call (.Name x p) [] [] pos) (mExc0 nm) := PE.imp (pe_oxV0 F T iC tI F1 hr hb hg hm hdb) fun σ H Q ⟨ρ, M, O, π, pr, ρ', h, e1, q⟩ => by
  cases e1
  refine ⟨by simp, fun a ha => ⟨rfl, rfl, ?_⟩⟩
  exact q (.ref a) _ M (.alloc h ha) (h.alloc ha) (.exc (.inl upd_same) (fun z => h.live a z ha) (fun q e => by cases e) hx)
/-! isinstance of such a value -/
def rIsO (K : PySem.W.Frag) : List V → Hp → VK → Prop := fun xs H Q => ∃ (a C : Addr) (od : Option Addr) (c : V) (cv : Value) (b : Bool), xs = [.ref a, c] ∧ ExcC K C ∧ (∀ u, RelV c u → u = cv) ∧ Rd H a (exo a C od) ∧ (∀ q, od = some q → ∃ fs, Rd H q (exd q fs)) ∧ PySem.W.kitOne K (.ref C) cv = some b ∧ Q (.bl b) H
theorem call_isO : CallR X (.builtin "isinstance") (rIsO X.K) := by
  intro pins s σ H xs us Q I r h
  obtain ⟨a, C, od, c, cv, b, rfl, E, hcv, hr, hd, e, q⟩ := h
  cases r with
  | cons rx rr =>
    cases rr with
    | cons rt rr =>
      cases rr
      cases rx
      have ec := hcv _ rt
      subst ec
      obtain ⟨⟨t1, ho⟩, _⟩ := hr.ok I.hok
      have J : ∃ od', PySem.W.InstAt s.heap a { cls := .ref C, dict := od, data := .fields #[.ref t1, .none, .none, .none, .bool false, .none] } C od' := by
        cases od with
        | none => exact ⟨none, ho, rfl, rfl, trivial⟩
        | some q1 =>
          obtain ⟨fs, hq⟩ := hd q1 rfl
          obtain ⟨⟨mA, hns, _⟩, _⟩ := hq.ok I.hok
          obtain ⟨od', ho', _⟩ := lookIn_ns hns
          exact ⟨some od', ho, rfl, rfl, ho'⟩
      obtain ⟨od', J⟩ := J
      have hcl : (PySem.W.clsIn X.K C).isSome = true := by obtain ⟨cd, hc, _⟩ := PySem.W.any_some E.hd; rw [hc]; rfl
      exact PySem.W.kia_one (PySem.W.kitx_exc hcl E.hg E.hk E.hs E.ha E.hn E.ht E.hm) I.kIn J e (fun z => nomatch z) fun tk => ⟨.bl b, H, I.kept (t' := tk) fun _ _ z => z, rfl, q⟩
def dIsE (tab : List (Str × Bool)) : D → Option Sv
  | .dict [(.str nm, .bool true)] => (tab.find? fun p => p.1 = nm).map fun p => .imm (.bool p.2)
  | _ => none
/-- what a class is for each of the table's classes -/
def TabE (K : PySem.W.Frag) (cv : Value) (tab : List (Str × Bool)) : Prop := ∀ p ∈ tab, ∀ C, PySem.W.nsIn K mainGlobals p.1 = some (some (.ref C)) → ExcC K C ∧ PySem.W.kitOne K (.ref C) cv = some p.2
theorem one_of {K : PySem.W.Frag} {nm : Str} {C0 : Addr} {P : Addr → Prop} (hx : PySem.W.nsIn K mainGlobals nm = some (some (.ref C0))) (q : P C0) : ∀ C, PySem.W.nsIn K mainGlobals nm = some (some (.ref C)) → P C := fun C h => by
  rw [hx] at h
  cases h
  exact q
theorem de_isE {a b : Expr} {ma : ME} {x : Str} {p pos : Pos} {c : V} {cv : Value} {tab : List (Str × Bool)} (hT : TabE X.K cv tab) (hcv : ∀ u, RelV c u → u = cv) (hg : Gl X x) (hm : X.mg x = none) (hv : bootBuiltins x = some (.builtin "isinstance")) (ha : DE X a ma) (ht : PE X b (tC c))
    (hn : x ≠ "__name__" := by decide) (hd : (x == ("__debug__" : Str)) = false := by decide) (he : starEach [a, b] X.env = (false, eval a X.env) :: starEach [b] X.env := by rfl) (he2 : starEach [b] X.env = (false, eval b X.env) :: starEach [] X.env := by rfl) (hpl : (PySem.backTo pos (starEach [b] X.env)).any (·.1) = false := by rfl) :
    DE X (.Call (.Name x p) [a, b] [] pos) (un (dIsE tab) ma) :=
  PE.imp (pe_callB call_isO hg hm hv (pa_cons ha (pa_cons ht pa_nil he2) he) hn hd he hpl) fun σ H Q h => tC_two (tE_un (r := fun v H Q => rIsO X.K [v, c] H Q) (by
    intro H M O π ρ σ v1 d1 res Q h r1 e q
    unfold dIsE at e
    split at e
    · rename_i nm
      obtain ⟨pr, e1, rfl⟩ := Option.map_eq_some_iff.mp e
      have hp := List.mem_of_find?_eq_some e1
      have he : pr.1 = nm := of_decide_eq_true (List.find?_some (p := fun p : Str × Bool => decide (p.1 = nm)) e1)
      cases (show Rep X.K H M v1 (.dict [(.str nm, .bool true)]) from r1) with
      | scr x _ _ => cases x
      | exc h1 h2 h3 h4 =>
        obtain ⟨k1, k2⟩ := hT pr hp _ (by rw [he]; exact h4)
        exact ⟨_, _, _, c, cv, pr.2, rfl, k1, hcv, h1, fun q e => let ⟨fs, z, _⟩ := h3 q e; ⟨fs, z⟩, k2, Post.now q h (.bl _)⟩
    · cases e) h)
/-- a class of one's own, named -/
theorem pe_cls {x : Str} {C : Addr} {p : Pos} (hg : Gl X x) (hm : X.mg x = some (.ref C)) (hdb : (x == ("__debug__" : Str)) = false := by decide) : PE X (.Name x p) (tC (.ref C)) :=
  ⟨fun pins s σ H Q I h => ld_glob I hg hm ⟨.ref C, H, I, rfl, h⟩ hdb⟩
end
end Vi

/-! C(f = e): an exception made by keyword -/
namespace PySem.HandSPX
open PySem PySem.W PySem.Calls PyProof.Rows
section
variable {M : Model} {A : Around} {E : Value → Shared → Prop} {h : Heap} {g : Array GenState} {d : Drawn} {t : Nat} {os : OsState}
variable {nm q : Str} {C N : Addr} {bs bm bmB : List Value} {hdct : Bool} {sn : List Str} {sub : List Value} {ab : Bool} {col : Option Bool} {dd : Option Addr} {k0 k1 k2 k3 k5 : Option Value} {B newId initId : String}
theorem check_new_kw (F : ExcBaseFacts B newId initId bmB) (hT : ∀ X : String, bm.contains (.type X) = bmB.contains (.type X)) {rest : List Value} {kw : List (Str × Value)} {Q : Unit → Shared → Prop}
    (hC : h.get? C = some (excClassObj nm q C N bs bm hdct sn sub ab col dd k0 k1 k2 k3 k5 newId)) (hq : Q () ⟨h, g, d, t, os⟩) : wpAny M A (checkBuiltinCall newId ⟨.ref C :: rest, kw⟩) Q E ⟨h, g, d, t, os⟩ := by
  have hcont : (Value.ref C :: bm).contains (.type B) = true := by rw [List.contains_cons, hT, F.hasB, Bool.or_true]
  have hstar := F.noStar
  simp only [checkBuiltinCall, F.newKind, F.newSplit, F.newRow]
  repeat (first | refine wpAny_loadPart_at hC ?_ | (refine wpAny_isSubtype_exc hC ?_; rw [hcont]) | refine wpAny_staticBase_exc hC ?_ | refine wpAny_madeBy_exc hC ?_ | simp only [bne_self_eq_false, Bool.false_eq_true, if_false] | wp_step)
  exact hq
end
section
variable {prog : Program} {w : World} {A : Around} {E : Value → Shared → Prop} {R : Result → Shared → Prop} {h : Heap} {g : Array GenState} {d : Drawn} {t : Nat} {os : OsState}
variable {nm q : Str} {C N : Addr} {bs bm bmB : List Value} {hdct : Bool} {sn : List Str} {sub : List Value} {ab : Bool} {col : Option Bool} {dd : Option Addr} {k0 k1 k2 k3 k5 : Option Value} {B newId initId : String}
theorem new_kw (F : ExcBaseFacts B newId initId bmB) (hT : ∀ X : String, bm.contains (.type X) = bmB.contains (.type X)) {rest : List Value} {kw : List (Str × Value)}
    (hC : h.get? C = some (excClassObj nm q C N bs bm hdct sn sub ab col dd k0 k1 k2 k3 k5 newId))
    (hq : R (.ok (.ret (.ref (h.objs.size + 1)))) ⟨(h.push { cls := .type "tuple", data := .seq rest.toArray }).push
      { cls := .ref C, data := .fields #[.ref h.objs.size, .none, .none, .none, .bool false, .none] }, g, d, t, os⟩) (hrest : rest.length ≤ sizeLine) :
    codeAny (model prog w) A (.builtin newId ⟨.ref C :: rest, kw⟩) R ⟨h, g, d, t, os⟩ := by
  have hends := F.ends
  have hcB : (Value.ref C :: bm).contains (.type B) = true := by rw [List.contains_cons, hT, F.hasB, Bool.or_true]
  have hcA : (Value.ref C :: bm).contains (.type "AttributeError") = false := by rw [List.contains_cons, hT, F.noAttr]; rfl
  have hcN : (Value.ref C :: bm).contains (.type "NameError") = false := by rw [List.contains_cons, hT, F.noName]; rfl
  refine codeAny_builtinAt F.entry ?_
  unfold Builtin.«BaseException.__new__»
  refine wpAt_bind ?_
  show wpAt _ _ _ (stack >>= _) _ _ _
  refine wpAt_bind (wpAt_stack fun p below => wpAt_of_wpAny ?_)
  wp_walk
  refine wpAt_of_wpAny ?_
  rw [F.owner]
  repeat (first | with_reducible refine wpAny_madeHere_exc F.canon hC ?_ | with_reducible refine wpAny_loadPart_at hC ?_ | (with_reducible refine wpAny_isSubtype_exc hC ?_; first | rw [hcB] | rw [hcA] | rw [hcN]) | wp_step)
  show R _ _
  rw [Heap.size_push]
  exact hq
theorem check_call_kw {M : Model} {rest : List Value} {kw : List (Str × Value)} {Q : Unit → Shared → Prop} (hC : h.get? C = some (excClassObj nm q C N bs bm hdct sn sub ab col dd k0 k1 k2 k3 k5 newId))
    (hq : Q () ⟨h, g, d, t, os⟩) : wpAny M A (checkBuiltinCall "type.__call__" ⟨.ref C :: rest, kw⟩) Q E ⟨h, g, d, t, os⟩ := by
  have f3 := tc_sub
  have hT : (⟨h, g, d, t, os⟩ : Shared).TypeIs (.ref C) "type" := ⟨_, hC, rfl⟩
  simp only [checkBuiltinCall, tc_kind, tc_split]
  repeat (any_goals (first | assumption | with_reducible refine wpAny_loadPart_at hC ?_ | with_reducible refine wpAny_onRaise ?_ | with_reducible refine wpAny_map ?_ | wp_step))
theorem type_call_kw (F : ExcBaseFacts B newId initId bmB) (hT : ∀ X : String, bm.contains (.type X) = bmB.contains (.type X)) {rest : List Value} {kw : List (Str × Value)} {fI : Addr} {Q : Fin → Shared → Prop}
    (hC : h.get? C = some (excClassObj nm q C N bs bm hdct sn sub ab col dd k0 k1 k2 k3 k5 newId))
    (hi : W.Looks (model prog w) h (typeLookup (.ref C) "__init__") (some (.ref fI))) (hb : ∀ self, W.Looks (model prog w) h (bindSpecial (.ref fI) self) (.ref fI, [self])) (hrest : rest.length ≤ sizeLine)
    (hq : codeAny (model prog w) A (.call (.ref fI) ⟨.ref (h.objs.size + 1) :: rest, kw⟩)
      (fun r s' => match r with | .ok (.ret v) => v = .none ∧ Q (.done (.ret (.ref (h.objs.size + 1)))) s' | .ok _ => False | .error e => E e s')
      ⟨(h.push (W.kdv_tup rest)).push (excO C h.objs.size), g, d, t, os⟩) :
    wpAny (model prog w) A (Builtin.«type.__call__» ⟨.ref C :: rest, kw⟩) Q E ⟨h, g, d, t, os⟩ := by
  repeat (first | with_reducible refine wpAny_loadPart_at hC ?_ | with_reducible refine wpAny_madeBy_exc hC ?_ | wp_step)
  refine codeAny_call_builtin_code (Code.quiet_builtin _ F.quiet) (check_new_kw F hT hC ?_)
  refine new_kw F hT hC ?_ hrest
  show wpAny _ _ _ _ _ _
  have k : ∀ b o, h.get? b = some o → ((h.push (W.kdv_tup rest)).push (excO C h.objs.size)).get? b = some o := fun b o e => Heap.get?_push_of_some _ (Heap.get?_push_of_some _ e)
  have hC₁ := k _ _ hC
  have hget : ((h.push (W.kdv_tup rest)).push (excO C h.objs.size)).get? (h.objs.size + 1) = some (excO C h.objs.size) := by heap_get
  have hcC : (Value.ref C :: bm).contains (.ref C) = true := by simp
  have i1 := hi.keeps k
  have b1 := (hb (.ref (h.objs.size + 1))).keeps k
  unfold isInstance
  repeat (first | with_reducible refine wpAny_loadPart_at hget ?_ | (with_reducible refine wpAny_isSubtype_exc hC₁ ?_; rw [hcC]) | wp_step)
  show wpAny _ _ (typeLookup (.ref C) _) _ _ _
  refine i1.at ?_
  refine wpAny_holding (wpAny_bind (b1.at ?_))
  refine wpAny_bind (wpAny_call (codeAny_mono hq fun r s' z => ?_))
  rcases r with e | (v | _ | _ | _) <;> first | exact z | exact z.elim | skip
  obtain ⟨rfl, z⟩ := z
  first
    | exact wpAny_pure (wpAny_pure z)
    | (wp_walk; exact z)
theorem call_kw (F : ExcBaseFacts B newId initId bmB) (hT : ∀ X : String, bm.contains (.type X) = bmB.contains (.type X)) {rest : List Value} {kw : List (Str × Value)} {fI : Addr}
    (hC : h.get? C = some (excClassObj nm q C N bs bm hdct sn sub ab col dd k0 k1 k2 k3 k5 newId))
    (hi : W.Looks (model prog w) h (typeLookup (.ref C) "__init__") (some (.ref fI))) (hb : ∀ self, W.Looks (model prog w) h (bindSpecial (.ref fI) self) (.ref fI, [self])) (hrest : rest.length ≤ sizeLine)
    (hq : codeAny (model prog w) (A.under (.builtin "type.__call__" ⟨.ref C :: rest, kw⟩)) (.call (.ref fI) ⟨.ref (h.objs.size + 1) :: rest, kw⟩) (W.InitBack (h.objs.size + 1) R)
      ⟨(h.push (W.kdv_tup rest)).push (excO C h.objs.size), g, d, t, os⟩) :
    codeAny (model prog w) A (.call (.ref C) ⟨rest, kw⟩) R ⟨h, g, d, t, os⟩ := by
  have f1 := tc_lookup
  have f2 := tc_bind (.ref C)
  have hTy : (⟨h, g, d, t, os⟩ : Shared).TypeIs (.ref C) "type" := ⟨_, hC, rfl⟩
  refine codeAny_of_tree ?_
  show wpAny _ _ (callAny (.ref C) _) _ _ _
  repeat (any_goals (first | assumption | with_reducible refine wpAny_loadPart_at hC ?_ | wp_step))
  refine ⟨rfl, ?_⟩
  refine codeAny_call_builtin_at (Code.quiet_builtin _ (by decide +kernel)) entry_typeCall (check_call_kw hC (type_call_kw F hT hC hi hb hrest ?_))
  refine codeAny_mono hq fun r s' z => ?_
  rcases r with e | (v | _ | _ | _) <;> exact z
end
end PySem.HandSPX

/-! raise C(f = e) -/
namespace Vi
open PySem PySem.Spec PyProof.Rows L2
section
variable {X : Cx}
def tMkK (C : Addr) (sp : Sp) (gV : List V → List V → List V) (tk : TA) : L2.St → Hp → XK → Prop := fun σ H Q => tk σ H fun zs H1 => zs.length ≤ 1000 ∧ ∀ a, H1 a = none → sp (gV [.ref a] zs) (upd H1 a (exo a C none))
  (fun v H2 => v = .non ∧ ∃ (d : Addr) (fs : List (Str × V)), H2 a = some (exo a C (some d)) ∧ H2 d = some (exd d fs) ∧ H1 d = none ∧ Q (.ref C) (some d) (upd (L2.del H2 a) d (.xd fs))) (fun _ _ _ => False)
theorem pmk_oxk {x : Str} {C fI : Addr} {k : Nat} {fd : FuncData} {ps ks : List Str} {sp : Sp} {g : List Value → List Value → List Value} {gV : List V → List V → List V} {p pos : Pos} {B newId initId : String} {bmB : List Value} {kws : List Keyword} {tk : TA} (F : ExcBaseFacts B newId initId bmB) (T : OxC X.K C newId bmB) (iC : PySem.W.findIn X.K (.ref C) "__init__" = some (some (.ref fI))) (tI : PySem.W.typeIn X.K (.ref fI) = some (.type "function"))
    (F1 : FnOk X.prog X.w X.K X.mg X.base CX0 k fI fd ps sp) (hr : Room (k + 1) X.A) (hb : KBinds X.K fd ps ks g gV) (hg : Gl X x) (hm : X.mg x = some (.ref C)) (hkw : PK X kws tk)
    (hall : (PySem.backToKw pos (keywordEach kws X.env)).all (·.1.isSome) = true := by rfl) (hks : (PySem.backToKw pos (keywordEach kws X.env)).filterMap (·.1) = ks := by rfl) (hdb : (x == ("__debug__" : Str)) = false := by decide)
    (hpl : ((PySem.backTo pos (starEach [] X.env)).any (·.1) || (PySem.backToKw pos (keywordEach kws X.env)).any (·.1.isNone)) = false := by rfl) :
    PMk X (.Call (.Name x p) [] kws pos) (tMkK C sp gV tk) := by
  intro pins s σ H Q I h
  obtain ⟨nm, q, N, bs, bm, sn, sub, ab, col, dd, k0, k1, k2, k3, k5, hC, hbm⟩ := T.cls
  refine wpAny_Call_Name_kw (ld_glob I hg hm ?_ hdb)
  refine PySem.W.callWith_KW0 (h₀ := X.base) I.ok.mod.kin T.kC hall (thn (hkw.run pos pins s σ H _ I h) fun ws s1 ⟨zs, H1, I1, rz, hz, q1⟩ => ⟨I1.kIn, ?_⟩) hpl
  rw [hks]
  show wpAny _ _ (call (.ref C) [] (ks.zip ws)) _ _ _
  obtain ⟨hp, g', dr, tk', os⟩ := s1
  have hsz : hp.objs.size ≤ hp.objs.size + 1 := Nat.le_succ _
  have hq := q1 (hp.objs.size + 1) (I1.hok.fresh hsz)
  have kk : ∀ b o, hp.get? b = some o → ((hp.push (PySem.W.kdv_tup [])).push (PySem.HandSPX.excO C hp.objs.size)).get? b = some o := fun b o e => Heap.get?_push_of_some _ (Heap.get?_push_of_some _ e)
  have hget : ((hp.push (PySem.W.kdv_tup [])).push (PySem.HandSPX.excO C hp.objs.size)).get? (hp.objs.size + 1) = some (PySem.HandSPX.excO C hp.objs.size) := by heap_get
  have I2 : Inv X pins σ (upd H1 (hp.objs.size + 1) (exo (hp.objs.size + 1) C none)) ⟨(hp.push (PySem.W.kdv_tup [])).push (PySem.HandSPX.excO C hp.objs.size), g', dr, tk', os⟩ :=
    I1.laid (t' := tk') (a := hp.objs.size + 1) (o := exo (hp.objs.size + 1) C none) (h' := (hp.push (PySem.W.kdv_tup [])).push (PySem.HandSPX.excO C hp.objs.size)) kk hsz (exo_ok hget)
  have r2 := hb.rel (vs := [V.ref (hp.objs.size + 1)]) (us := [Value.ref (hp.objs.size + 1)]) (.cons rfl .nil) rz
  have hl : (g [Value.ref (hp.objs.size + 1)] ws).length = ps.length := by rw [← r2.length]; exact F1.len _ _ _ _ hq
  have hus : ([] : List Value).length ≤ sizeLine := Nat.zero_le _
  refine wpAny_call (PySem.HandSPX.call_kw F (fun Y => PySem.W.excTail_contains Y bm hbm) (I1.kIn _ _ hC) (PySem.W.looks_findIn I1.kIn iC) (fun self => PySem.W.bind_fn I1.kIn self tI) hus
    (codeAny_mono (F1.run _ X.stack _ _ ⟨Value.ref (hp.objs.size + 1) :: [], ks.zip ws⟩ _ _ _ (fun _ _ _ => False) (hr.make C [] (ks.zip ws)) (I2.env0.make C [] (ks.zip ws)) (hb.to _ [Value.ref (hp.objs.size + 1)] ws I2.kIn hl) r2 hq) fun r s' hq' => ?_))
  cases r with
  | error er => exact hq'.elim
  | ok fl =>
    cases fl with
    | ret u =>
      obtain ⟨v, H2, os2, bare2, un2, hok2, rv, ev, d, fs, ea, ed, hd1, q2⟩ := hq'
      subst ev
      obtain ⟨h2, g2, d2, t2, os'⟩ := s'
      exact ⟨rv, mk_end (raises_own T.exC T.tyC) I1 hsz kk un2 hok2 os2 bare2 ea ed hd1 q2⟩
    | next => exact False.elim hq'
    | brk => exact False.elim hq'
    | cont => exact False.elim hq'
theorem pmk_intk {x f : Str} {C fI : Addr} {k : Nat} {fd : FuncData} {ps : List Str} {p pos kp : Pos} {B newId initId : String} {bmB : List Value} {e : Expr} {me : ME} {kn : Option Str} (F : ExcBaseFacts B newId initId bmB) (T : OxC X.K C newId bmB) (iC : PySem.W.findIn X.K (.ref C) "__init__" = some (some (.ref fI))) (tI : PySem.W.typeIn X.K (.ref fI) = some (.type "function"))
    (hno : PySem.W.findIn X.K (.ref C) f = some none) (F1 : FnOk X.prog X.w X.K X.mg X.base CX0 k fI fd ps (spField X.K newId bmB f)) (hr : Room (k + 1) X.A) (hb : KBinds X.K fd ps [f] (perm 1 1 [0, 1]) (perm 1 1 [0, 1])) (hg : Gl X x) (hm : X.mg x = some (.ref C)) (he : DE X e me)
    (hall : (PySem.backToKw pos (keywordEach [⟨kn, e, kp⟩] X.env)).all (·.1.isSome) = true := by rfl) (hks : (PySem.backToKw pos (keywordEach [⟨kn, e, kp⟩] X.env)).filterMap (·.1) = [f] := by rfl) (hdb : (x == ("__debug__" : Str)) = false := by decide)
    (hpl : ((PySem.backTo pos (starEach [] X.env)).any (·.1) || (PySem.backToKw pos (keywordEach [⟨kn, e, kp⟩] X.env)).any (·.1.isNone)) = false := by rfl) :
    PMk X (.Call (.Name x p) [] [⟨kn, e, kp⟩] pos) (fun σ H Q => ∃ ρ M O π pr ρ' i, SR X.K H M O π ρ σ ∧ me ρ = some (pr, ρ') ∧ peek ρ' pr = some (.int i) ∧ ∀ H' M', Ext O H M H' M' → SR X.K H' M' O π ρ' σ → ∀ q, H' q = none → Q (.ref C) (some q) (upd H' q (.xd [(f, .int i)]))) := by
  intro pins s σ H Q I h
  refine pmk_oxk F T iC tI F1 hr hb hg hm (pk_cons he pk_nil) hall hks hdb hpl pins s σ H Q I ?_
  obtain ⟨ρ, M, O, π, pr, ρ', i, h1, h2, h3, h4⟩ := h
  refine ⟨ρ, M, O, π, pr, ρ', h1, h2, fun v H1 M1 x1 s1 r1 => ?_⟩
  have hv : v = .int i := by
    cases peek_vw s1 r1 h3
    rfl
  subst hv
  refine ⟨by simp, fun a ha => ⟨a, C, .int i, rfl, T, hno, upd_same, fun dx hx hne => ⟨rfl, dx, [(f, .int i)], upd_same, by rw [upd_ne hne, upd_same], ?_, ?_⟩⟩⟩
  · rwa [upd_ne hne] at hx
  · rw [xd_end ha hne]
    exact h4 H1 M1 x1 s1 dx (by rwa [upd_ne hne] at hx)
end
end Vi

namespace Vi
open PySem PySem.Spec PyProof.Rows L2
theorem boot_KeyError : bootBuiltins "KeyError" = some (.type "KeyError") := by decide +kernel
theorem boot_IndexError : bootBuiltins "IndexError" = some (.type "IndexError") := by decide +kernel
theorem kit_same {K : PySem.W.Frag} {A : Addr} : PySem.W.kitOne K (.ref A) (.ref A) = some true := by
  unfold PySem.W.kitOne
  rw [show (Value.ref A == Value.ref A) = true from beq_self_eq_true _]
  rfl
theorem kit_other {K : PySem.W.Frag} {A B : Addr} (h1 : PySem.W.isClsIn K B = true) (h2 : PySem.W.typeIn K (.ref B) = some (.type "type")) (h3 : PySem.W.subIn K (.ref A) (.ref B) = some false) (hs : PySem.W.subIn K (.ref B) (.ref B) = some true) : PySem.W.kitOne K (.ref A) (.ref B) = some false := by
  have ne : (Value.ref A == Value.ref B) = false := by
    rw [beq_eq_false_iff_ne]
    intro e
    cases e
    rw [h3] at hs; cases hs
  have h1' : (PySem.W.clsIn K B).isSome = true := h1
  unfold PySem.W.kitOne
  rw [ne]
  show (if ((PySem.W.clsIn K B).isSome && PySem.W.typeIn K (.ref B) == some (.type "type")) = true then PySem.W.subIn K (.ref A) (.ref B) else none) = some false
  rw [h1', h2, h3]
  rfl
end Vi

namespace K00
open PySem PySem.Spec PyProof.Rows L2 RT Vi

def topS (i : Nat) : Stmt := PySem.Challenge.pw_everychange_k00_errors.main.body.getD i (.Pass ⟨0, 0, 0, 0⟩)
theorem sc8 : FnScope ["got", "goal", "mine_so", "own"] ["got", "goal"] (defScope (topS 8)) := ⟨rfl, rfl, rfl, by decide +kernel, rfl, by decide +kernel, by decide +kernel⟩
theorem sc9 : FnScope ["way_so", "worth", "error"] ["way_so", "worth"] (defScope (topS 9)) := ⟨rfl, rfl, rfl, by decide +kernel, rfl, by decide +kernel, by decide +kernel⟩
theorem sc10 : FnScope ["error"] ["error"] (defScope (topS 10)) := ⟨rfl, rfl, rfl, by decide +kernel, rfl, by decide +kernel, by decide +kernel⟩
theorem sc11 : FnScope ["error"] ["error"] (defScope (topS 11)) := ⟨rfl, rfl, rfl, by decide +kernel, rfl, by decide +kernel, by decide +kernel⟩
theorem sc12 : FnScope ["made_so", "told", "due", "own", "k", "far"] [] (defScope (topS 12)) := ⟨rfl, rfl, rfl, by decide +kernel, rfl, by decide +kernel, by decide +kernel⟩
theorem sc13 : FnScope ["script", "cell", "place_so", "line_so", "told"] ["script"] (defScope (topS 13)) := ⟨rfl, rfl, rfl, by decide +kernel, rfl, by decide +kernel, by decide +kernel⟩
def topI3 : Stmt := (clsB (topS 3)).getD 0 (.Pass ⟨0, 0, 0, 0⟩)
theorem scI3 : FnScope ["self", "line"] ["self", "line"] (defScope topI3) := ⟨rfl, rfl, rfl, by decide +kernel, rfl, by decide +kernel, by decide +kernel⟩
def topI4 : Stmt := (clsB (topS 4)).getD 0 (.Pass ⟨0, 0, 0, 0⟩)
theorem scI4 : FnScope ["self"] ["self"] (defScope topI4) := ⟨rfl, rfl, rfl, by decide +kernel, rfl, by decide +kernel, by decide +kernel⟩
def topI1 : Stmt := (clsB (topS 1)).getD 0 (.Pass ⟨0, 0, 0, 0⟩)
theorem scI1 : FnScope ["self", "place"] ["self", "place"] (defScope topI1) := ⟨rfl, rfl, rfl, by decide +kernel, rfl, by decide +kernel, by decide +kernel⟩
def topI2 : Stmt := (clsB (topS 2)).getD 0 (.Pass ⟨0, 0, 0, 0⟩)
theorem scI2 : FnScope ["self"] ["self"] (defScope topI2) := ⟨rfl, rfl, rfl, by decide +kernel, rfl, by decide +kernel, by decide +kernel⟩
def topI5 : Stmt := (clsB (topS 5)).getD 0 (.Pass ⟨0, 0, 0, 0⟩)
theorem scI5 : FnScope ["self"] ["self"] (defScope topI5) := ⟨rfl, rfl, rfl, by decide +kernel, rfl, by decide +kernel, by decide +kernel⟩
def topI6 : Stmt := (clsB (topS 6)).getD 0 (.Pass ⟨0, 0, 0, 0⟩)
theorem scI6 : FnScope ["self"] ["self"] (defScope topI6) := ⟨rfl, rfl, rfl, by decide +kernel, rfl, by decide +kernel, by decide +kernel⟩
/-- _law_same -/
def fn8 (cl : Nat → Fn) : Fn := mFn 4 2 ((mSeq (mIfS (mTru (un (dIsi2 Ty.list Ty.tuple) (mVar 1))) (mSeq (mIfS (mOrT (mB (bin dNe (un (dIsi Ty.list) (mVar 0)) (un (dIsi Ty.list) (mVar 1)))) (mB (bin dNe (un (dIsi Ty.tuple) (mVar 0)) (un (dIsi Ty.tuple) (mVar 1))))) (mRet (mC (.bool false))) mNext) (mRet (mAnd (bin dEq (un dLen (mVar 0)) (un dLen (mVar 1))) (un dAll (mComp (mIZip (mCons (mVar 0) (mCons (mVar 1) mNil))) (mGtup 2 (mGcons (mN 2) (mGcons (mN 3) mGnil))) mYes (mCall (cl 8) (rVal (mVar 2) (rVal (mVar 3) rNil))) [2, 3]))))) mNext) (mSeq (mIfS (mOrT (mB (bin dIs (mVar 1) (mC .none))) (mTru (un (dIsi2 Ty.bool Ty.str) (mVar 1)))) (mRet (mAnd (bin dEq (mVar 0) (mVar 1)) (mAnd (bin dEq (un (dIsi Ty.bool) (mVar 0)) (un (dIsi Ty.bool) (mVar 1))) (bin dEq (bin dIs (mVar 0) (mC .none)) (bin dIs (mVar 1) (mC .none)))))) mNext) (mRet (mAnd (un (dIsi Ty.int) (mVar 0)) (mAnd (un dNot (un (dIsi Ty.bool) (mVar 0))) (bin dEq (mVar 0) (mVar 1))))))))
/-- _law_caught -/
def fn9 (cl : Nat → Fn) : Fn := mFn 3 2 ((Vi.P.mTryC [1, 2, 3, 4, 5, 6] (mSeq (mIfS (mB (bin dEq (mVar 0) (mC (.int 0)))) mNever mNext) (mSeq (mIfS (mB (bin dEq (mVar 0) (mC (.int 1)))) mNever mNext) (mSeq (mIfS (mB (bin dEq (mVar 0) (mC (.int 2)))) mNever mNext) mNever))) (Vi.P.xSeq (mIfS (mB (bin dEq (mVar 0) (mC (.int 0)))) mNever mNext) (Vi.P.xIf (mB (bin dEq (mVar 0) (mC (.int 0)))) (Vi.P.xRaise1 1 (mVar 1)) Vi.P.xNo) (Vi.P.xSeq (mIfS (mB (bin dEq (mVar 0) (mC (.int 1)))) mNever mNext) (Vi.P.xIf (mB (bin dEq (mVar 0) (mC (.int 1)))) (Vi.P.xRaise1 3 (mVar 1)) Vi.P.xNo) (Vi.P.xSeq (mIfS (mB (bin dEq (mVar 0) (mC (.int 2)))) mNever mNext) (Vi.P.xIf (mB (bin dEq (mVar 0) (mC (.int 2)))) (Vi.P.xRaise1 1 (mVar 1)) Vi.P.xNo) (Vi.P.xRaise1 3 (mVar 1))))) [(1, some 2, fun o => mRet (Vi.P.mLstC [(some (.str "place")), (o.map .int)])), (3, some 2, fun o => mRet (Vi.P.mLstC [(some (.str "line")), (o.map .int)]))]))
/-- _law_plain -/
def fn10 (cl : Nat → Fn) : Fn := mFn 1 1 ((mRet (mLst (mCons (un (dIsE [("NoPlace", true), ("NothingDone", true), ("BadLine", false), ("CanNot", false), ("TooMuch", false), ("Unfit", false)]) (mVar 0)) (mCons (un (dIsE [("NoPlace", false), ("NothingDone", false), ("BadLine", true), ("CanNot", true), ("TooMuch", true), ("Unfit", true)]) (mVar 0)) (mCons (un (dIsE [("NoPlace", false), ("NothingDone", false), ("BadLine", false), ("CanNot", false), ("TooMuch", false), ("Unfit", false)]) (mVar 0)) (mCons (un (dIsE [("NoPlace", false), ("NothingDone", false), ("BadLine", false), ("CanNot", false), ("TooMuch", false), ("Unfit", false)]) (mVar 0)) mNil)))))))
/-- _law_kinds -/
def fn11 (cl : Nat → Fn) : Fn := mFn 1 1 ((mRet (mLst (mCons (un (dIsE [("NoPlace", true), ("NothingDone", false), ("BadLine", false), ("CanNot", false), ("TooMuch", false), ("Unfit", false)]) (mVar 0)) (mCons (un (dIsE [("NoPlace", false), ("NothingDone", true), ("BadLine", false), ("CanNot", false), ("TooMuch", false), ("Unfit", false)]) (mVar 0)) (mCons (un (dIsE [("NoPlace", false), ("NothingDone", false), ("BadLine", true), ("CanNot", false), ("TooMuch", false), ("Unfit", false)]) (mVar 0)) (mCons (un (dIsE [("NoPlace", false), ("NothingDone", false), ("BadLine", false), ("CanNot", true), ("TooMuch", false), ("Unfit", false)]) (mVar 0)) (mCons (un (dIsE [("NoPlace", false), ("NothingDone", false), ("BadLine", false), ("CanNot", false), ("TooMuch", true), ("Unfit", false)]) (mVar 0)) (mCons (un (dIsE [("NoPlace", false), ("NothingDone", false), ("BadLine", false), ("CanNot", false), ("TooMuch", false), ("Unfit", true)]) (mVar 0)) mNil)))))))))
/-- _law_by_hand_right -/
def fn12 (cl : Nat → Fn) : Fn := mFn 6 0 ((mSeq (mSet 0 (mLst (mCons (mExc1 "NoPlace" (mC (.int 7))) (mCons (mExc0 "NothingDone") (mCons (mExc1 "BadLine" (mC (.int 7))) (mCons (mExc0 "CanNot") (mCons (mExc0 "TooMuch") (mCons (mExc0 "Unfit") mNil)))))))) (mSeq (mSet 1 (mComp (mISeq (mVar 0)) (mN 3) mYes (mCall (cl 10) (rVal (mVar 3) rNil)) [3])) (mSeq (mSet 2 (bin dAdd (mRep (mLst (mCons (mLst (mCons (mC (.bool true)) (mCons (mC (.bool false)) (mCons (mC (.bool false)) (mCons (mC (.bool false)) mNil))))) mNil)) (mC (.int 2))) (mRep (mLst (mCons (mLst (mCons (mC (.bool false)) (mCons (mC (.bool true)) (mCons (mC (.bool false)) (mCons (mC (.bool false)) mNil))))) mNil)) (mC (.int 4))))) (mSeq (mSet 1 (bin dAdd (mVar 1) (mComp (mISeq (mVar 0)) (mN 3) mYes (mCall (cl 11) (rVal (mVar 3) rNil)) [3]))) (mSeq (mSet 2 (bin dAdd (mVar 2) (mComp (mIRng1 (mCons (mC (.int 6)) mNil)) (mN 4) mYes (mComp (mIRng1 (mCons (mC (.int 6)) mNil)) (mN 5) mYes (bin dEq (mVar 4) (mVar 5)) [5]) [4]))) (mRet (mCall (cl 8) (rVal (mVar 1) (rVal (mVar 2) rNil))))))))))
/-- law -/
def fn13 (cl : Nat → Fn) : Fn := mFn 5 1 ((mSeq (mIfS (mNotT (mTru (mCall (cl 12) rNil))) (mRet (mC (.bool false))) mNext) (mSeq (mFor (mISeq (bin dAdd (un dList (mSl (mVar 0) mNoPart (mPart (mC (.int 8))))) (mLst (mCons (mC (.int 0)) (mCons (mC (.int 1)) (mCons (mC (.int 999)) mNil)))))) (mN 1) (mSeq (mSet 2 (bin dMod (un dInt (un dAbs (mVar 1))) (mC (.int 1000)))) (mSeq (mSet 3 (bin dAdd (mVar 2) (mC (.int 1)))) (mSeq (mSet 4 (mLst (mCons (mCall (cl 9) (rVal (mC (.int 0)) (rVal (mVar 2) rNil))) (mCons (mCall (cl 9) (rVal (mC (.int 1)) (rVal (mVar 3) rNil))) (mCons (mCall (cl 9) (rVal (mC (.int 2)) (rVal (mVar 2) rNil))) (mCons (mCall (cl 9) (rVal (mC (.int 3)) (rVal (mVar 3) rNil))) mNil)))))) (mIfS (mNotT (mTru (mCall (cl 8) (rVal (mVar 4) (rVal (mRep (mLst (mCons (mLst (mCons (mC (.str "place")) (mCons (mVar 2) mNil))) (mCons (mLst (mCons (mC (.str "line")) (mCons (mVar 3) mNil))) mNil))) (mC (.int 2))) rNil))))) (mRet (mC (.bool false))) mNext))))) (mRet (mC (.bool true))))))
def runN (cl : Nat → Fn) (cx : Nat → Fn × Vi.P.FnX) (i : Nat) : Fn := match i with
    | 8 => fn8 cl
    | 9 => fn9 cl
    | 10 => fn10 cl
    | 11 => fn11 cl
    | 12 => fn12 cl
    | 13 => fn13 cl
    | _ => fun _ => none
def xZ : Fn × Vi.P.FnX := (fun _ => none, fun _ => none)
def runY (cl : Nat → Fn) (cx : Nat → Fn × Vi.P.FnX) (i : Nat) : Fn × Vi.P.FnX := match i with
    | _ => xZ
def runP : Nat → (Nat → Fn) × (Nat → Fn × Vi.P.FnX)
  | 0 => (fun _ _ => none, fun _ => xZ)
  | k + 1 => ((fun i => if (i == 9 || i == 12) = true then (match k with
    | 0 => fun _ => none
    | 1 => fun _ => none
    | _ + 2 => runN (runP k).1 (runP k).2 i) else runN (runP k).1 (runP k).2 i), match k with
    | 0 => fun _ => xZ
    | 1 => fun _ => xZ
    | _ + 2 => runY (runP k).1 (runP k).2)
def run (k : Nat) : Nat → Fn := (runP k).1
def runX (k : Nat) : Nat → Fn × Vi.P.FnX := (runP k).2
theorem rs8 (k : Nat) : run (k + 1) 8 = fn8 (run k) := rfl
theorem rs9 (k : Nat) : run (k + 3) 9 = fn9 (run (k + 2)) := rfl
theorem rs10 (k : Nat) : run (k + 1) 10 = fn10 (run k) := rfl
theorem rs11 (k : Nat) : run (k + 1) 11 = fn11 (run k) := rfl
theorem rs12 (k : Nat) : run (k + 3) 12 = fn12 (run (k + 2)) := rfl
theorem rs13 (k : Nat) : run (k + 1) 13 = fn13 (run k) := rfl
abbrev cvs (fa : Nat → Addr) : Nat → Value := fun j => .ref (fa (1000 + j))
abbrev fls : Nat → Str := fun j => match j with | 3 => "line" | 1 => "place" | _ => ""
/-- what the top has written -/
structure Top (K : PySem.W.Frag) (mg : Str → Option Value) (fa : Nat → Addr) (fd : Nat → FuncData) : Prop where
  F8 : Fun K "_law_same" "_law_same" (topS 8) (fa 8) (fd 8)
  g8 : mg "_law_same" = some (.ref (fa 8))
  b8 : Binds K (fd 8) ["got", "goal"] []
  F9 : Fun K "_law_caught" "_law_caught" (topS 9) (fa 9) (fd 9)
  g9 : mg "_law_caught" = some (.ref (fa 9))
  b9 : Binds K (fd 9) ["way_so", "worth"] []
  F10 : Fun K "_law_plain" "_law_plain" (topS 10) (fa 10) (fd 10)
  g10 : mg "_law_plain" = some (.ref (fa 10))
  b10 : Binds K (fd 10) ["error"] []
  F11 : Fun K "_law_kinds" "_law_kinds" (topS 11) (fa 11) (fd 11)
  g11 : mg "_law_kinds" = some (.ref (fa 11))
  b11 : Binds K (fd 11) ["error"] []
  F12 : Fun K "_law_by_hand_right" "_law_by_hand_right" (topS 12) (fa 12) (fd 12)
  g12 : mg "_law_by_hand_right" = some (.ref (fa 12))
  b12 : Binds K (fd 12) [] []
  F13 : Fun K "law" "law" (topS 13) (fa 13) (fd 13)
  g13 : mg "law" = some (.ref (fa 13))
  b13 : Binds K (fd 13) ["script"] []
  O3 : OxC K (fa (1000 + 3)) "ValueError.__new__" [.type "ValueError", .type "Exception", .type "BaseException", .type "object"]
  g3 : mg "BadLine" = some (.ref (fa (1000 + 3)))
  i3 : PySem.W.findIn K (.ref (fa (1000 + 3))) "__init__" = some (some (.ref (fa (2000 + 3))))
  t3 : PySem.W.typeIn K (.ref (fa (2000 + 3))) = some (.type "function")
  e3 : ∀ c ∈ [1, 2, 3, 4, 5, 6], PySem.W.exmOne K (cvs fa c) (cvs fa 3) = some (decide (c = 3))
  I3 : Fun K "__init__" "BadLine.__init__" topI3 (fa (2000 + 3)) (fd (2000 + 3))
  n3 : Binds K (fd (2000 + 3)) ["self", "line"] []
  h3 : PySem.W.findIn K (.ref (fa (1000 + 3))) "line" = some none
  X3 : XfC K (fa (1000 + 3))
  E3 : ExcC K (fa (1000 + 3))
  N3 : PySem.W.nsIn K mainGlobals "BadLine" = some (some (.ref (fa (1000 + 3))))
  K3 : KBinds K (fd (2000 + 3)) ["self", "line"] ["line"] (perm 1 1 [0, 1]) (perm 1 1 [0, 1])
  O4 : OxC K (fa (1000 + 4)) "ValueError.__new__" [.type "ValueError", .type "Exception", .type "BaseException", .type "object"]
  g4 : mg "CanNot" = some (.ref (fa (1000 + 4)))
  i4 : PySem.W.findIn K (.ref (fa (1000 + 4))) "__init__" = some (some (.ref (fa (2000 + 4))))
  t4 : PySem.W.typeIn K (.ref (fa (2000 + 4))) = some (.type "function")
  e4 : ∀ c ∈ [1, 2, 3, 4, 5, 6], PySem.W.exmOne K (cvs fa c) (cvs fa 4) = some (decide (c = 4))
  I4 : Fun K "__init__" "CanNot.__init__" topI4 (fa (2000 + 4)) (fd (2000 + 4))
  n4 : Binds K (fd (2000 + 4)) ["self"] []
  E4 : ExcC K (fa (1000 + 4))
  N4 : PySem.W.nsIn K mainGlobals "CanNot" = some (some (.ref (fa (1000 + 4))))
  O1 : OxC K (fa (1000 + 1)) "LookupError.__new__" [.type "LookupError", .type "Exception", .type "BaseException", .type "object"]
  g1 : mg "NoPlace" = some (.ref (fa (1000 + 1)))
  i1 : PySem.W.findIn K (.ref (fa (1000 + 1))) "__init__" = some (some (.ref (fa (2000 + 1))))
  t1 : PySem.W.typeIn K (.ref (fa (2000 + 1))) = some (.type "function")
  e1 : ∀ c ∈ [1, 2, 3, 4, 5, 6], PySem.W.exmOne K (cvs fa c) (cvs fa 1) = some (decide (c = 1))
  I1 : Fun K "__init__" "NoPlace.__init__" topI1 (fa (2000 + 1)) (fd (2000 + 1))
  n1 : Binds K (fd (2000 + 1)) ["self", "place"] []
  h1 : PySem.W.findIn K (.ref (fa (1000 + 1))) "place" = some none
  X1 : XfC K (fa (1000 + 1))
  E1 : ExcC K (fa (1000 + 1))
  N1 : PySem.W.nsIn K mainGlobals "NoPlace" = some (some (.ref (fa (1000 + 1))))
  K1 : KBinds K (fd (2000 + 1)) ["self", "place"] ["place"] (perm 1 1 [0, 1]) (perm 1 1 [0, 1])
  O2 : OxC K (fa (1000 + 2)) "LookupError.__new__" [.type "LookupError", .type "Exception", .type "BaseException", .type "object"]
  g2 : mg "NothingDone" = some (.ref (fa (1000 + 2)))
  i2 : PySem.W.findIn K (.ref (fa (1000 + 2))) "__init__" = some (some (.ref (fa (2000 + 2))))
  t2 : PySem.W.typeIn K (.ref (fa (2000 + 2))) = some (.type "function")
  e2 : ∀ c ∈ [1, 2, 3, 4, 5, 6], PySem.W.exmOne K (cvs fa c) (cvs fa 2) = some (decide (c = 2))
  I2 : Fun K "__init__" "NothingDone.__init__" topI2 (fa (2000 + 2)) (fd (2000 + 2))
  n2 : Binds K (fd (2000 + 2)) ["self"] []
  E2 : ExcC K (fa (1000 + 2))
  N2 : PySem.W.nsIn K mainGlobals "NothingDone" = some (some (.ref (fa (1000 + 2))))
  O5 : OxC K (fa (1000 + 5)) "ValueError.__new__" [.type "ValueError", .type "Exception", .type "BaseException", .type "object"]
  g5 : mg "TooMuch" = some (.ref (fa (1000 + 5)))
  i5 : PySem.W.findIn K (.ref (fa (1000 + 5))) "__init__" = some (some (.ref (fa (2000 + 5))))
  t5 : PySem.W.typeIn K (.ref (fa (2000 + 5))) = some (.type "function")
  e5 : ∀ c ∈ [1, 2, 3, 4, 5, 6], PySem.W.exmOne K (cvs fa c) (cvs fa 5) = some (decide (c = 5))
  I5 : Fun K "__init__" "TooMuch.__init__" topI5 (fa (2000 + 5)) (fd (2000 + 5))
  n5 : Binds K (fd (2000 + 5)) ["self"] []
  E5 : ExcC K (fa (1000 + 5))
  N5 : PySem.W.nsIn K mainGlobals "TooMuch" = some (some (.ref (fa (1000 + 5))))
  O6 : OxC K (fa (1000 + 6)) "ValueError.__new__" [.type "ValueError", .type "Exception", .type "BaseException", .type "object"]
  g6 : mg "Unfit" = some (.ref (fa (1000 + 6)))
  i6 : PySem.W.findIn K (.ref (fa (1000 + 6))) "__init__" = some (some (.ref (fa (2000 + 6))))
  t6 : PySem.W.typeIn K (.ref (fa (2000 + 6))) = some (.type "function")
  e6 : ∀ c ∈ [1, 2, 3, 4, 5, 6], PySem.W.exmOne K (cvs fa c) (cvs fa 6) = some (decide (c = 6))
  I6 : Fun K "__init__" "Unfit.__init__" topI6 (fa (2000 + 6)) (fd (2000 + 6))
  n6 : Binds K (fd (2000 + 6)) ["self"] []
  E6 : ExcC K (fa (1000 + 6))
  N6 : PySem.W.nsIn K mainGlobals "Unfit" = some (some (.ref (fa (1000 + 6))))
  W_BadLine : TabE K (.ref (fa (1000 + 3))) [("NoPlace", false), ("NothingDone", false), ("BadLine", true), ("CanNot", false), ("TooMuch", false), ("Unfit", false)]
  W_CanNot : TabE K (.ref (fa (1000 + 4))) [("NoPlace", false), ("NothingDone", false), ("BadLine", false), ("CanNot", true), ("TooMuch", false), ("Unfit", false)]
  W_IndexError : TabE K (.type "IndexError") [("NoPlace", false), ("NothingDone", false), ("BadLine", false), ("CanNot", false), ("TooMuch", false), ("Unfit", false)]
  W_KeyError : TabE K (.type "KeyError") [("NoPlace", false), ("NothingDone", false), ("BadLine", false), ("CanNot", false), ("TooMuch", false), ("Unfit", false)]
  W_LookupError : TabE K (.type "LookupError") [("NoPlace", true), ("NothingDone", true), ("BadLine", false), ("CanNot", false), ("TooMuch", false), ("Unfit", false)]
  W_NoPlace : TabE K (.ref (fa (1000 + 1))) [("NoPlace", true), ("NothingDone", false), ("BadLine", false), ("CanNot", false), ("TooMuch", false), ("Unfit", false)]
  W_NothingDone : TabE K (.ref (fa (1000 + 2))) [("NoPlace", false), ("NothingDone", true), ("BadLine", false), ("CanNot", false), ("TooMuch", false), ("Unfit", false)]
  W_TooMuch : TabE K (.ref (fa (1000 + 5))) [("NoPlace", false), ("NothingDone", false), ("BadLine", false), ("CanNot", false), ("TooMuch", true), ("Unfit", false)]
  W_Unfit : TabE K (.ref (fa (1000 + 6))) [("NoPlace", false), ("NothingDone", false), ("BadLine", false), ("CanNot", false), ("TooMuch", false), ("Unfit", true)]
  W_ValueError : TabE K (.type "ValueError") [("NoPlace", false), ("NothingDone", false), ("BadLine", true), ("CanNot", true), ("TooMuch", true), ("Unfit", true)]
  z_IndexError : mg "IndexError" = none
  z_KeyError : mg "KeyError" = none
  z_LookupError : mg "LookupError" = none
  z_ValueError : mg "ValueError" = none
  z_abs : mg "abs" = none
  z_all : mg "all" = none
  z_bool : mg "bool" = none
  z_int : mg "int" = none
  z_isinstance : mg "isinstance" = none
  z_len : mg "len" = none
  z_list : mg "list" = none
  z_range : mg "range" = none
  z_str : mg "str" = none
  z_tuple : mg "tuple" = none
  z_zip : mg "zip" = none
structure Gs (P : Program) (w : World) (K : PySem.W.Frag) (mg : Str → Option Value) (base : Heap) (fa : Nat → Addr) (fd : Nat → FuncData) (k : Nat) (cl : Nat → Fn) (cx : Nat → Fn × Vi.P.FnX) : Prop where
  c8 : FnOk P w K mg base CX0 k (fa 8) (fd 8) ["got", "goal"] (spD K 2 (cl 8))
  c9 : FnOk P w K mg base CX0 k (fa 9) (fd 9) ["way_so", "worth"] (spD K 2 (cl 9))
  c10 : FnOk P w K mg base CX0 k (fa 10) (fd 10) ["error"] (spD K 1 (cl 10))
  c11 : FnOk P w K mg base CX0 k (fa 11) (fd 11) ["error"] (spD K 1 (cl 11))
  c12 : FnOk P w K mg base CX0 k (fa 12) (fd 12) [] (spD K 0 (cl 12))
  c13 : FnOk P w K mg base CX0 k (fa 13) (fd 13) ["script"] (spD K 1 (cl 13))
section
variable {P : Program} {w : World} {K : PySem.W.Frag} {mg : Str → Option Value} {base : Heap} {fa : Nat → Addr} {fd : Nat → FuncData} {k : Nat} {cl : Nat → Fn} {cx : Nat → Fn × Vi.P.FnX}
theorem ok8 (T : Top K mg fa fd) (G : Gs P w K mg base fa fd k cl cx) : FnOk P w K mg base CX0 (k + 1) (fa 8) (fd 8) ["got", "goal"] (spD K 2 (fn8 cl)) :=
  fn_ok T.F8 sc8 fun cdv A outer s H E hr => (dss_cons (ds_if (dt_tru (de_isi2 (t := Ty.list) (u := Ty.tuple) (by rfl) T.z_isinstance boot_isinstance (de_var (pv 1)) (pe_bltn (by rfl) T.z_list boot_list rfl) (pe_bltn (by rfl) T.z_tuple boot_tuple rfl))) (dss_cons (ds_if (dt_w (dw_or (dt_cmp (op_neD (room64 hr)) os_ne (de_isi (t := Ty.list) (by rfl) T.z_isinstance boot_isinstance (de_var (pv 0)) (pe_bltn (by rfl) T.z_list boot_list rfl)) (de_isi (t := Ty.list) (by rfl) T.z_isinstance boot_isinstance (de_var (pv 1)) (pe_bltn (by rfl) T.z_list boot_list rfl)) (nomark _)) (dw_or1 (dt_cmp (op_neD (room64 hr)) os_ne (de_isi (t := Ty.tuple) (by rfl) T.z_isinstance boot_isinstance (de_var (pv 0)) (pe_bltn (by rfl) T.z_tuple boot_tuple rfl)) (de_isi (t := Ty.tuple) (by rfl) T.z_isinstance boot_isinstance (de_var (pv 1)) (pe_bltn (by rfl) T.z_tuple boot_tuple rfl)) (nomark _))))) (dss_one (ds_ret de_bl)) dss_nil)
    (dss_one (ds_ret (de_and (de_cmp (op_eqD (room64 hr)) os_eq (de_call1 call_len_seq us_len (by rfl) T.z_len boot_len (de_var (pv 0))) (de_call1 call_len_seq us_len (by rfl) T.z_len boot_len (de_var (pv 1))) (nomark _)) (de_one (de_call1 (cr_all rfl) us_all (by rfl) T.z_all boot_all (de_lc rfl sc8.nd (di_zip (by rfl) T.z_zip (da_cons (de_var (pv 0)) (da_cons (de_var (pv 1)) da_nil))) (own := [("mine_so", 2), ("own", 3)]) (blkOk_by (by kernel_rfl)) (fun _ _ _ _ _ => (dg_tup rfl (dgs_cons (dg_name (pg_name sc8.nd rfl (by first | exact Or.inl rfl | exact Or.inr rfl))) (dgs_cons (dg_name (pg_name sc8.nd rfl (by first | exact Or.inl rfl | exact Or.inr rfl))) dgs_nil)))) (fun _ _ _ _ _ => dts_nil) (fun _ _ _ _ _ => (de_call G.c8 hr (by rfl) T.g8 T.F8.kp T.b8 (dr_val (de_var (pv 2)) (dr_val (de_var (pv 3)) dr_nil)) (rl_val (rl_val (rl_nil rfl))))) (by decide)))))))) dss_nil)
    (dss_cons (ds_if (dt_w (dw_or (dt_cmp op_isN os_is (de_var (pv 1)) de_non (nomark _)) (dw_or1 (dt_tru (de_isi2 (t := Ty.bool) (u := Ty.str) (by rfl) T.z_isinstance boot_isinstance (de_var (pv 1)) (pe_bltn (by rfl) T.z_bool boot_bool rfl) (pe_bltn (by rfl) T.z_str boot_str rfl)))))) (dss_one (ds_ret (de_and (de_cmp (op_eqD (room64 hr)) os_eq (de_var (pv 0)) (de_var (pv 1)) (nomark _)) (de_and (de_cmp (op_eqD (room64 hr)) os_eq (de_isi (t := Ty.bool) (by rfl) T.z_isinstance boot_isinstance (de_var (pv 0)) (pe_bltn (by rfl) T.z_bool boot_bool rfl)) (de_isi (t := Ty.bool) (by rfl) T.z_isinstance boot_isinstance (de_var (pv 1)) (pe_bltn (by rfl) T.z_bool boot_bool rfl)) (nomark _)) (de_one (de_cmp (op_eqD (room64 hr)) os_eq (de_cmp op_isN os_is (de_var (pv 0)) de_non (nomark _)) (de_cmp op_isN os_is (de_var (pv 1)) de_non (nomark _)) (nomark _))))))) dss_nil)
    (dss_one (ds_ret (de_and (de_isi (t := Ty.int) (by rfl) T.z_isinstance boot_isinstance (de_var (pv 0)) (pe_bltn (by rfl) T.z_int boot_int rfl)) (de_and (de_not (de_isi (t := Ty.bool) (by rfl) T.z_isinstance boot_isinstance (de_var (pv 0)) (pe_bltn (by rfl) T.z_bool boot_bool rfl))) (de_one (de_cmp (op_eqD (room64 hr)) os_eq (de_var (pv 0)) (de_var (pv 1)) (nomark _)))))))))
theorem ok9 (T : Top K mg fa fd) (G : Gs P w K mg base fa fd (k + 2) cl cx) : FnOk P w K mg base CX0 (k + 3) (fa 9) (fd 9) ["way_so", "worth"] (spD K 2 (fn9 cl)) :=
  fn_ok T.F9 sc9 fun cdv A outer s H E hr => (dss_one (Vi.P.ds_tryC (cv := cvs fa) (fl := fls) (ys := [1, 2, 3, 4, 5, 6]) rfl rfl sc9.nd (fun W pn xe tk po => (Vi.P.dsxs_cons (Vi.P.dsx_if (dt_cmp (op_eqD (room64 hr)) os_eq (de_var (pv 0)) de_int (nomark _)) (Vi.P.dsxs_one (Vi.P.dsx_raise1 (cv := cvs fa) (fl := fls) (c := 1) rfl tk (pmk_int F.excBase_LookupError T.O1 T.i1 T.t1 T.h1 (init_field (k := k) tail_LE T.I1 scI1 rfl (by decide) (by decide) (.inl rfl) (.inl rfl)) hr T.n1 (by rfl) T.g1 (de_var (pv 1))))) Vi.P.dsxs_nil)
    (Vi.P.dsxs_cons (Vi.P.dsx_if (dt_cmp (op_eqD (room64 hr)) os_eq (de_var (pv 0)) de_int (nomark _)) (Vi.P.dsxs_one (Vi.P.dsx_raise1 (cv := cvs fa) (fl := fls) (c := 3) rfl tk (pmk_int F.excBase_ValueError T.O3 T.i3 T.t3 T.h3 (init_field (k := k) tail_VE T.I3 scI3 rfl (by decide) (by decide) (.inl rfl) (.inl rfl)) hr T.n3 (by rfl) T.g3 (de_var (pv 1))))) Vi.P.dsxs_nil)
    (Vi.P.dsxs_cons (Vi.P.dsx_if (dt_cmp (op_eqD (room64 hr)) os_eq (de_var (pv 0)) de_int (nomark _)) (Vi.P.dsxs_one (Vi.P.dsx_raise1 (cv := cvs fa) (fl := fls) (c := 1) rfl tk (pmk_intk F.excBase_LookupError T.O1 T.i1 T.t1 T.h1 (init_field (k := k) tail_LE T.I1 scI1 rfl (by decide) (by decide) (.inl rfl) (.inl rfl)) hr T.K1 (by rfl) T.g1 (de_var (pv 1))))) Vi.P.dsxs_nil)
    (Vi.P.dsxs_one (Vi.P.dsx_raise1 (cv := cvs fa) (fl := fls) (c := 3) rfl tk (pmk_intk F.excBase_ValueError T.O3 T.i3 T.t3 T.h3 (init_field (k := k) tail_VE T.I3 scI3 rfl (by decide) (by decide) (.inl rfl) (.inl rfl)) hr T.K3 (by rfl) T.g3 (de_var (pv 1))))))))) (.named (nm := "error") (by rfl) (by rfl) ⟨by rfl, by decide, .inl T.g1⟩ T.e1 (by decide) (fun a oe d o pn hz hf => (Vi.P.dsi_ret (Vi.P.dei_lst (Vi.P.ca_cons (Vi.P.ce_c pe_str rfl) (Vi.P.ca_cons (Vi.P.ce_fld (C := fa (1000 + 1)) (f := "place") T.X1 T.h1 hz hf (pv 2)) Vi.P.ca_nil))))) (.named (nm := "error") (by rfl) (by rfl) ⟨by rfl, by decide, .inl T.g3⟩ T.e3 (by decide) (fun a oe d o pn hz hf => (Vi.P.dsi_ret (Vi.P.dei_lst (Vi.P.ca_cons (Vi.P.ce_c pe_str rfl) (Vi.P.ca_cons (Vi.P.ce_fld (C := fa (1000 + 3)) (f := "line") T.X3 T.h3 hz hf (pv 2)) Vi.P.ca_nil))))) .nil))))
theorem ok10 (T : Top K mg fa fd) (G : Gs P w K mg base fa fd k cl cx) : FnOk P w K mg base CX0 (k + 1) (fa 10) (fd 10) ["error"] (spD K 1 (fn10 cl)) :=
  fn_ok T.F10 sc10 fun cdv A outer s H E hr => (dss_one (ds_ret (de_lst (da_cons (de_isE (c := .ty "LookupError") T.W_LookupError (fun u z => z) (by rfl) T.z_isinstance boot_isinstance (de_var (pv 0)) (pe_bltn (by rfl) T.z_LookupError boot_LookupError rfl)) (da_cons (de_isE (c := .ty "ValueError") T.W_ValueError (fun u z => z) (by rfl) T.z_isinstance boot_isinstance (de_var (pv 0)) (pe_bltn (by rfl) T.z_ValueError boot_ValueError rfl)) (da_cons (de_isE (c := .ty "KeyError") T.W_KeyError (fun u z => z) (by rfl) T.z_isinstance boot_isinstance (de_var (pv 0)) (pe_bltn (by rfl) T.z_KeyError Vi.boot_KeyError rfl)) (da_cons (de_isE (c := .ty "IndexError") T.W_IndexError (fun u z => z) (by rfl) T.z_isinstance boot_isinstance (de_var (pv 0)) (pe_bltn (by rfl) T.z_IndexError Vi.boot_IndexError rfl)) da_nil)))))))
theorem ok11 (T : Top K mg fa fd) (G : Gs P w K mg base fa fd k cl cx) : FnOk P w K mg base CX0 (k + 1) (fa 11) (fd 11) ["error"] (spD K 1 (fn11 cl)) :=
  fn_ok T.F11 sc11 fun cdv A outer s H E hr => (dss_one (ds_ret (de_lst (da_cons (de_isE (c := .ref (fa (1000 + 1))) T.W_NoPlace (fun u z => z) (by rfl) T.z_isinstance boot_isinstance (de_var (pv 0)) (pe_cls (by rfl) T.g1)) (da_cons (de_isE (c := .ref (fa (1000 + 2))) T.W_NothingDone (fun u z => z) (by rfl) T.z_isinstance boot_isinstance (de_var (pv 0)) (pe_cls (by rfl) T.g2)) (da_cons (de_isE (c := .ref (fa (1000 + 3))) T.W_BadLine (fun u z => z) (by rfl) T.z_isinstance boot_isinstance (de_var (pv 0)) (pe_cls (by rfl) T.g3)) (da_cons (de_isE (c := .ref (fa (1000 + 4))) T.W_CanNot (fun u z => z) (by rfl) T.z_isinstance boot_isinstance (de_var (pv 0)) (pe_cls (by rfl) T.g4)) (da_cons (de_isE (c := .ref (fa (1000 + 5))) T.W_TooMuch (fun u z => z) (by rfl) T.z_isinstance boot_isinstance (de_var (pv 0)) (pe_cls (by rfl) T.g5)) (da_cons (de_isE (c := .ref (fa (1000 + 6))) T.W_Unfit (fun u z => z) (by rfl) T.z_isinstance boot_isinstance (de_var (pv 0)) (pe_cls (by rfl) T.g6)) da_nil)))))))))
theorem ok12 (T : Top K mg fa fd) (G : Gs P w K mg base fa fd (k + 2) cl cx) : FnOk P w K mg base CX0 (k + 3) (fa 12) (fd 12) [] (spD K 0 (fn12 cl)) :=
  fn_ok T.F12 sc12 fun cdv A outer s H E hr => (dss_cons (ds_set (fun te h => ps_set sc12.nd rfl (by first | exact Or.inl rfl | exact Or.inr rfl) h) (de_lst (da_cons (de_exc1 F.excBase_LookupError T.O1 T.i1 T.t1 T.h1 T.N1 (init_field (k := 0) tail_LE T.I1 scI1 rfl (by decide) (by decide) (.inl rfl) (.inl rfl)) (hr.mono (by omega)) T.n1 (by rfl) T.g1 de_int) (da_cons (de_exc0 F.excBase_LookupError T.O2 T.i2 T.t2 T.N2 (init_ok (k := 0) T.I2 scI2 rfl) (hr.mono (by omega)) T.n2 (by rfl) T.g2) (da_cons (de_exc1 F.excBase_ValueError T.O3 T.i3 T.t3 T.h3 T.N3 (init_field (k := 0) tail_VE T.I3 scI3 rfl (by decide) (by decide) (.inl rfl) (.inl rfl)) (hr.mono (by omega)) T.n3 (by rfl) T.g3 de_int) (da_cons (de_exc0 F.excBase_ValueError T.O4 T.i4 T.t4 T.N4 (init_ok (k := 0) T.I4 scI4 rfl) (hr.mono (by omega)) T.n4 (by rfl) T.g4) (da_cons (de_exc0 F.excBase_ValueError T.O5 T.i5 T.t5 T.N5 (init_ok (k := 0) T.I5 scI5 rfl) (hr.mono (by omega)) T.n5 (by rfl) T.g5) (da_cons (de_exc0 F.excBase_ValueError T.O6 T.i6 T.t6 T.N6 (init_ok (k := 0) T.I6 scI6 rfl) (hr.mono (by omega)) T.n6 (by rfl) T.g6) da_nil))))))))
    (dss_cons (ds_setLc rfl sc12.nd rfl rfl (sw_true rfl rfl rfl (by decide +kernel)) (di_seq (de_var (pv 0))) (own := [("own", 3)]) (blkOk_by (by kernel_rfl)) (fun _ _ _ _ _ => (dg_name (pg_name sc12.nd rfl (by first | exact Or.inl rfl | exact Or.inr rfl)))) (fun _ _ _ _ _ => dts_nil) (fun _ _ _ _ _ => (de_call G.c10 hr (by rfl) T.g10 T.F10.kp T.b10 (dr_val (de_var (pv 3)) dr_nil) (rl_val (rl_nil rfl)))) (by decide))
    (dss_cons (ds_set (fun te h => ps_set sc12.nd rfl (by first | exact Or.inl rfl | exact Or.inr rfl) h) (de_op op_addA os_add (de_rep (de_lst (da_cons (de_lst (da_cons de_bl (da_cons de_bl (da_cons de_bl (da_cons de_bl da_nil))))) da_nil)) de_int) (de_rep (de_lst (da_cons (de_lst (da_cons de_bl (da_cons de_bl (da_cons de_bl (da_cons de_bl da_nil))))) da_nil)) de_int)))
    (dss_cons (ds_set (fun te h => ps_set sc12.nd rfl (by first | exact Or.inl rfl | exact Or.inr rfl) h) (de_op op_addA os_add (de_var (pv 1)) (de_lc rfl sc12.nd (di_seq (de_var (pv 0))) (own := [("own", 3)]) (blkOk_by (by kernel_rfl)) (fun _ _ _ _ _ => (dg_name (pg_name sc12.nd rfl (by first | exact Or.inl rfl | exact Or.inr rfl)))) (fun _ _ _ _ _ => dts_nil) (fun _ _ _ _ _ => (de_call G.c11 hr (by rfl) T.g11 T.F11.kp T.b11 (dr_val (de_var (pv 3)) dr_nil) (rl_val (rl_nil rfl)))) (by decide))))
    (dss_cons (ds_set (fun te h => ps_set sc12.nd rfl (by first | exact Or.inl rfl | exact Or.inr rfl) h) (de_op op_addA os_add (de_var (pv 2)) (de_lc rfl sc12.nd (di_rng1 (by rfl) T.z_range (da_cons de_int da_nil)) (own := [("k", 4)]) (blkOk_by (by kernel_rfl)) (fun _ _ _ _ _ => (dg_name (pg_name sc12.nd rfl (by first | exact Or.inl rfl | exact Or.inr rfl)))) (fun _ _ _ _ _ => dts_nil) (fun _ _ _ _ _ => (de_lc rfl sc12.nd (di_rng1 (by rfl) T.z_range (da_cons de_int da_nil)) (own := [("far", 5)]) (blkOk_by (by kernel_rfl)) (fun _ _ _ _ _ => (dg_name (pg_name sc12.nd rfl (by first | exact Or.inl rfl | exact Or.inr rfl)))) (fun _ _ _ _ _ => dts_nil) (fun _ _ _ _ _ => (de_cmp (op_eqD (room64 hr)) os_eq (de_var (pv 4)) (de_var (pv 5)) (nomark _))) (by decide))) (by decide))))
    (dss_one (ds_ret (de_call G.c8 hr (by rfl) T.g8 T.F8.kp T.b8 (dr_val (de_var (pv 1)) (dr_val (de_var (pv 2)) dr_nil)) (rl_val (rl_val (rl_nil rfl)))))))))))
theorem ok13 (T : Top K mg fa fd) (G : Gs P w K mg base fa fd k cl cx) : FnOk P w K mg base CX0 (k + 1) (fa 13) (fd 13) ["script"] (spD K 1 (fn13 cl)) :=
  fn_ok T.F13 sc13 fun cdv A outer s H E hr => (dss_cons (ds_if (dt_not (dt_tru (de_call0 G.c12 hr (by rfl) T.g12 T.F12.kp T.b12))) (dss_one (ds_ret de_bl)) dss_nil)
    (dss_cons (ds_for PassesOwn.never rfl (di_seq (de_op op_addA os_add (de_callT1 call_list_of us_list (by rfl) T.z_list boot_list (de_sl (de_var (pv 0)) do_none (do_some de_int))) (de_lst (da_cons de_int (da_cons de_int (da_cons de_int da_nil)))))) (dg_name (pg_name sc13.nd rfl (by first | exact Or.inl rfl | exact Or.inr rfl))) (dss_cons (ds_set (fun te h => ps_set sc13.nd rfl (by first | exact Or.inl rfl | exact Or.inr rfl) h) (de_op op_mod os_mod (de_callT1 call_int1 us_int (by rfl) T.z_int boot_int (de_call1 call_abs us_abs (by rfl) T.z_abs boot_abs (de_var (pv 1)))) de_int))
    (dss_cons (ds_set (fun te h => ps_set sc13.nd rfl (by first | exact Or.inl rfl | exact Or.inr rfl) h) (de_op op_addA os_add (de_var (pv 2)) de_int))
    (dss_cons (ds_set (fun te h => ps_set sc13.nd rfl (by first | exact Or.inl rfl | exact Or.inr rfl) h) (de_lst (da_cons (de_call G.c9 hr (by rfl) T.g9 T.F9.kp T.b9 (dr_val de_int (dr_val (de_var (pv 2)) dr_nil)) (rl_val (rl_val (rl_nil rfl)))) (da_cons (de_call G.c9 hr (by rfl) T.g9 T.F9.kp T.b9 (dr_val de_int (dr_val (de_var (pv 3)) dr_nil)) (rl_val (rl_val (rl_nil rfl)))) (da_cons (de_call G.c9 hr (by rfl) T.g9 T.F9.kp T.b9 (dr_val de_int (dr_val (de_var (pv 2)) dr_nil)) (rl_val (rl_val (rl_nil rfl)))) (da_cons (de_call G.c9 hr (by rfl) T.g9 T.F9.kp T.b9 (dr_val de_int (dr_val (de_var (pv 3)) dr_nil)) (rl_val (rl_val (rl_nil rfl)))) da_nil))))))
    (dss_one (ds_if (dt_not (dt_tru (de_call G.c8 hr (by rfl) T.g8 T.F8.kp T.b8 (dr_val (de_var (pv 4)) (dr_val (de_rep (de_lst (da_cons (de_lst (da_cons de_str (da_cons (de_var (pv 2)) da_nil))) (da_cons (de_lst (da_cons de_str (da_cons (de_var (pv 3)) da_nil))) da_nil))) de_int) dr_nil)) (rl_val (rl_val (rl_nil rfl)))))) (dss_one (ds_ret de_bl)) dss_nil))))))
    (dss_one (ds_ret de_bl))))
theorem all_ok (T : Top K mg fa fd) : ∀ k : Nat, Gs P w K mg base fa fd k (run k) (runX k)
  | 0 => ⟨fn_zero, fn_zero, fn_zero, fn_zero, fn_zero, fn_zero⟩
  | 1 => ⟨ok8 T (all_ok T 0), fn_zero, ok10 T (all_ok T 0), ok11 T (all_ok T 0), fn_zero, ok13 T (all_ok T 0)⟩
  | 2 => ⟨ok8 T (all_ok T 1), fn_zero, ok10 T (all_ok T 1), ok11 T (all_ok T 1), fn_zero, ok13 T (all_ok T 1)⟩
  | k + 3 => ⟨ok8 T (all_ok T (k + 2)), ok9 T (all_ok T (k + 2)), ok10 T (all_ok T (k + 2)), ok11 T (all_ok T (k + 2)), ok12 T (all_ok T (k + 2)), ok13 T (all_ok T (k + 2))⟩
end
/-! ### what the top has written -/
theorem all_mk {l : PySem.W.OpenLaw} {w : World} {K : PySem.W.Frag} {h : Heap} {mg : Str → Option Value} {fl f8 f9 f10 f11 f12 f13 : Addr} (X : K.In h) (G : h.Ns mainGlobals mg) (hfa : mg "law" = some (.ref fl))
    {od8 an8 od9 an9 od10 an10 od11 an11 od12 an12 od13 an13 : Option Addr} {sl8 sl9 sl10 sl11 sl12 sl13 : Array (Option Value)} {oc8 kV8 dc8 pm8 cd8 ct8 oc9 kV9 dc9 pm9 cd9 ct9 oc10 kV10 dc10 pm10 cd10 ct10 oc11 kV11 dc11 pm11 cd11 ct11 oc12 kV12 dc12 pm12 cd12 ct12 oc13 kV13 dc13 pm13 cd13 ct13 : Value}
    (a8 : PySem.W.nsIn K mainGlobals "_law_same" = some (some (.ref f8))) (l8 : K.lookup f8 = some ⟨oc8, od8, .func (PySem.W.fnOf "_law_same" "_law_same" (defArgs (topS 8)) (defBody (topS 8)) (defScope (topS 8)) .none kV8 dc8 pm8 an8 cd8 ct8), sl8⟩) (c8 : PySem.W.codeIn K cd8 "_law_same" = true) (k8 : PySem.W.keepIn K (.ref f8) = true)
    (a9 : PySem.W.nsIn K mainGlobals "_law_caught" = some (some (.ref f9))) (l9 : K.lookup f9 = some ⟨oc9, od9, .func (PySem.W.fnOf "_law_caught" "_law_caught" (defArgs (topS 9)) (defBody (topS 9)) (defScope (topS 9)) .none kV9 dc9 pm9 an9 cd9 ct9), sl9⟩) (c9 : PySem.W.codeIn K cd9 "_law_caught" = true) (k9 : PySem.W.keepIn K (.ref f9) = true)
    (a10 : PySem.W.nsIn K mainGlobals "_law_plain" = some (some (.ref f10))) (l10 : K.lookup f10 = some ⟨oc10, od10, .func (PySem.W.fnOf "_law_plain" "_law_plain" (defArgs (topS 10)) (defBody (topS 10)) (defScope (topS 10)) .none kV10 dc10 pm10 an10 cd10 ct10), sl10⟩) (c10 : PySem.W.codeIn K cd10 "_law_plain" = true) (k10 : PySem.W.keepIn K (.ref f10) = true)
    (a11 : PySem.W.nsIn K mainGlobals "_law_kinds" = some (some (.ref f11))) (l11 : K.lookup f11 = some ⟨oc11, od11, .func (PySem.W.fnOf "_law_kinds" "_law_kinds" (defArgs (topS 11)) (defBody (topS 11)) (defScope (topS 11)) .none kV11 dc11 pm11 an11 cd11 ct11), sl11⟩) (c11 : PySem.W.codeIn K cd11 "_law_kinds" = true) (k11 : PySem.W.keepIn K (.ref f11) = true)
    (a12 : PySem.W.nsIn K mainGlobals "_law_by_hand_right" = some (some (.ref f12))) (l12 : K.lookup f12 = some ⟨oc12, od12, .func (PySem.W.fnOf "_law_by_hand_right" "_law_by_hand_right" (defArgs (topS 12)) (defBody (topS 12)) (defScope (topS 12)) .none kV12 dc12 pm12 an12 cd12 ct12), sl12⟩) (c12 : PySem.W.codeIn K cd12 "_law_by_hand_right" = true) (k12 : PySem.W.keepIn K (.ref f12) = true)
    (a13 : PySem.W.nsIn K mainGlobals "law" = some (some (.ref f13))) (l13 : K.lookup f13 = some ⟨oc13, od13, .func (PySem.W.fnOf "law" "law" (defArgs (topS 13)) (defBody (topS 13)) (defScope (topS 13)) .none kV13 dc13 pm13 an13 cd13 ct13), sl13⟩) (c13 : PySem.W.codeIn K cd13 "law" = true) (k13 : PySem.W.keepIn K (.ref f13) = true)
    {C3 E3 N3 : Addr} {nm3 q3 : Str} {bs3 : List Value} {sn3 : List Str} {sub3 : List Value} {ab3 : Bool} {col3 : Option Bool} {dd3 : Option Addr} {ma3 mb3 mc3 md3 me3 : Option Value} {oI3 dI3 pI3 uI3 tI3 : Value} {ad3 an3 : Option Addr} {sI3 : Array (Option Value)}
    (xa3 : PySem.W.nsIn K mainGlobals "BadLine" = some (some (.ref C3))) (xl3 : K.lookup C3 = some (excClassObj nm3 q3 C3 N3 bs3 [.type "ValueError", .type "Exception", .type "BaseException", .type "object"] true sn3 sub3 ab3 col3 dd3 ma3 mb3 mc3 md3 me3 "ValueError.__new__"))
    (xs3 : PySem.W.findIn K (.ref C3) "__setattr__" = some (some (.builtin "object.__setattr__"))) (xi3 : PySem.W.findIn K (.ref C3) "__init__" = some (some (.ref E3))) (xt3 : PySem.W.typeIn K (.ref E3) = some (.type "function"))
    (xf3 : K.lookup E3 = some ⟨oI3, ad3, .func (PySem.W.fnOf "__init__" "BadLine.__init__" (defArgs topI3) (defBody topI3) (defScope topI3) .none .none dI3 pI3 an3 uI3 tI3), sI3⟩) (xc3 : PySem.W.codeIn K uI3 "BadLine.__init__" = true) (xk3 : PySem.W.keepIn K (.ref E3) = true)
    (xK3 : PySem.W.keepIn K (.ref C3) = true) (xe3 : PySem.W.subIn K (.ref C3) (.type "BaseException") = some true) (xy3 : PySem.W.typeIn K (.ref C3) = some (.type "type")) (xz3 : PySem.W.isClsIn K C3 = true) (xw3 : PySem.W.subIn K (.ref C3) (.ref C3) = some true)
    {C4 E4 N4 : Addr} {nm4 q4 : Str} {bs4 : List Value} {sn4 : List Str} {sub4 : List Value} {ab4 : Bool} {col4 : Option Bool} {dd4 : Option Addr} {ma4 mb4 mc4 md4 me4 : Option Value} {oI4 dI4 pI4 uI4 tI4 : Value} {ad4 an4 : Option Addr} {sI4 : Array (Option Value)}
    (xa4 : PySem.W.nsIn K mainGlobals "CanNot" = some (some (.ref C4))) (xl4 : K.lookup C4 = some (excClassObj nm4 q4 C4 N4 bs4 [.type "ValueError", .type "Exception", .type "BaseException", .type "object"] true sn4 sub4 ab4 col4 dd4 ma4 mb4 mc4 md4 me4 "ValueError.__new__"))
    (xs4 : PySem.W.findIn K (.ref C4) "__setattr__" = some (some (.builtin "object.__setattr__"))) (xi4 : PySem.W.findIn K (.ref C4) "__init__" = some (some (.ref E4))) (xt4 : PySem.W.typeIn K (.ref E4) = some (.type "function"))
    (xf4 : K.lookup E4 = some ⟨oI4, ad4, .func (PySem.W.fnOf "__init__" "CanNot.__init__" (defArgs topI4) (defBody topI4) (defScope topI4) .none .none dI4 pI4 an4 uI4 tI4), sI4⟩) (xc4 : PySem.W.codeIn K uI4 "CanNot.__init__" = true) (xk4 : PySem.W.keepIn K (.ref E4) = true)
    (xK4 : PySem.W.keepIn K (.ref C4) = true) (xe4 : PySem.W.subIn K (.ref C4) (.type "BaseException") = some true) (xy4 : PySem.W.typeIn K (.ref C4) = some (.type "type")) (xz4 : PySem.W.isClsIn K C4 = true) (xw4 : PySem.W.subIn K (.ref C4) (.ref C4) = some true)
    {C1 E1 N1 : Addr} {nm1 q1 : Str} {bs1 : List Value} {sn1 : List Str} {sub1 : List Value} {ab1 : Bool} {col1 : Option Bool} {dd1 : Option Addr} {ma1 mb1 mc1 md1 me1 : Option Value} {oI1 dI1 pI1 uI1 tI1 : Value} {ad1 an1 : Option Addr} {sI1 : Array (Option Value)}
    (xa1 : PySem.W.nsIn K mainGlobals "NoPlace" = some (some (.ref C1))) (xl1 : K.lookup C1 = some (excClassObj nm1 q1 C1 N1 bs1 [.type "LookupError", .type "Exception", .type "BaseException", .type "object"] true sn1 sub1 ab1 col1 dd1 ma1 mb1 mc1 md1 me1 "LookupError.__new__"))
    (xs1 : PySem.W.findIn K (.ref C1) "__setattr__" = some (some (.builtin "object.__setattr__"))) (xi1 : PySem.W.findIn K (.ref C1) "__init__" = some (some (.ref E1))) (xt1 : PySem.W.typeIn K (.ref E1) = some (.type "function"))
    (xf1 : K.lookup E1 = some ⟨oI1, ad1, .func (PySem.W.fnOf "__init__" "NoPlace.__init__" (defArgs topI1) (defBody topI1) (defScope topI1) .none .none dI1 pI1 an1 uI1 tI1), sI1⟩) (xc1 : PySem.W.codeIn K uI1 "NoPlace.__init__" = true) (xk1 : PySem.W.keepIn K (.ref E1) = true)
    (xK1 : PySem.W.keepIn K (.ref C1) = true) (xe1 : PySem.W.subIn K (.ref C1) (.type "BaseException") = some true) (xy1 : PySem.W.typeIn K (.ref C1) = some (.type "type")) (xz1 : PySem.W.isClsIn K C1 = true) (xw1 : PySem.W.subIn K (.ref C1) (.ref C1) = some true)
    {C2 E2 N2 : Addr} {nm2 q2 : Str} {bs2 : List Value} {sn2 : List Str} {sub2 : List Value} {ab2 : Bool} {col2 : Option Bool} {dd2 : Option Addr} {ma2 mb2 mc2 md2 me2 : Option Value} {oI2 dI2 pI2 uI2 tI2 : Value} {ad2 an2 : Option Addr} {sI2 : Array (Option Value)}
    (xa2 : PySem.W.nsIn K mainGlobals "NothingDone" = some (some (.ref C2))) (xl2 : K.lookup C2 = some (excClassObj nm2 q2 C2 N2 bs2 [.type "LookupError", .type "Exception", .type "BaseException", .type "object"] true sn2 sub2 ab2 col2 dd2 ma2 mb2 mc2 md2 me2 "LookupError.__new__"))
    (xs2 : PySem.W.findIn K (.ref C2) "__setattr__" = some (some (.builtin "object.__setattr__"))) (xi2 : PySem.W.findIn K (.ref C2) "__init__" = some (some (.ref E2))) (xt2 : PySem.W.typeIn K (.ref E2) = some (.type "function"))
    (xf2 : K.lookup E2 = some ⟨oI2, ad2, .func (PySem.W.fnOf "__init__" "NothingDone.__init__" (defArgs topI2) (defBody topI2) (defScope topI2) .none .none dI2 pI2 an2 uI2 tI2), sI2⟩) (xc2 : PySem.W.codeIn K uI2 "NothingDone.__init__" = true) (xk2 : PySem.W.keepIn K (.ref E2) = true)
    (xK2 : PySem.W.keepIn K (.ref C2) = true) (xe2 : PySem.W.subIn K (.ref C2) (.type "BaseException") = some true) (xy2 : PySem.W.typeIn K (.ref C2) = some (.type "type")) (xz2 : PySem.W.isClsIn K C2 = true) (xw2 : PySem.W.subIn K (.ref C2) (.ref C2) = some true)
    {C5 E5 N5 : Addr} {nm5 q5 : Str} {bs5 : List Value} {sn5 : List Str} {sub5 : List Value} {ab5 : Bool} {col5 : Option Bool} {dd5 : Option Addr} {ma5 mb5 mc5 md5 me5 : Option Value} {oI5 dI5 pI5 uI5 tI5 : Value} {ad5 an5 : Option Addr} {sI5 : Array (Option Value)}
    (xa5 : PySem.W.nsIn K mainGlobals "TooMuch" = some (some (.ref C5))) (xl5 : K.lookup C5 = some (excClassObj nm5 q5 C5 N5 bs5 [.type "ValueError", .type "Exception", .type "BaseException", .type "object"] true sn5 sub5 ab5 col5 dd5 ma5 mb5 mc5 md5 me5 "ValueError.__new__"))
    (xs5 : PySem.W.findIn K (.ref C5) "__setattr__" = some (some (.builtin "object.__setattr__"))) (xi5 : PySem.W.findIn K (.ref C5) "__init__" = some (some (.ref E5))) (xt5 : PySem.W.typeIn K (.ref E5) = some (.type "function"))
    (xf5 : K.lookup E5 = some ⟨oI5, ad5, .func (PySem.W.fnOf "__init__" "TooMuch.__init__" (defArgs topI5) (defBody topI5) (defScope topI5) .none .none dI5 pI5 an5 uI5 tI5), sI5⟩) (xc5 : PySem.W.codeIn K uI5 "TooMuch.__init__" = true) (xk5 : PySem.W.keepIn K (.ref E5) = true)
    (xK5 : PySem.W.keepIn K (.ref C5) = true) (xe5 : PySem.W.subIn K (.ref C5) (.type "BaseException") = some true) (xy5 : PySem.W.typeIn K (.ref C5) = some (.type "type")) (xz5 : PySem.W.isClsIn K C5 = true) (xw5 : PySem.W.subIn K (.ref C5) (.ref C5) = some true)
    {C6 E6 N6 : Addr} {nm6 q6 : Str} {bs6 : List Value} {sn6 : List Str} {sub6 : List Value} {ab6 : Bool} {col6 : Option Bool} {dd6 : Option Addr} {ma6 mb6 mc6 md6 me6 : Option Value} {oI6 dI6 pI6 uI6 tI6 : Value} {ad6 an6 : Option Addr} {sI6 : Array (Option Value)}
    (xa6 : PySem.W.nsIn K mainGlobals "Unfit" = some (some (.ref C6))) (xl6 : K.lookup C6 = some (excClassObj nm6 q6 C6 N6 bs6 [.type "ValueError", .type "Exception", .type "BaseException", .type "object"] true sn6 sub6 ab6 col6 dd6 ma6 mb6 mc6 md6 me6 "ValueError.__new__"))
    (xs6 : PySem.W.findIn K (.ref C6) "__setattr__" = some (some (.builtin "object.__setattr__"))) (xi6 : PySem.W.findIn K (.ref C6) "__init__" = some (some (.ref E6))) (xt6 : PySem.W.typeIn K (.ref E6) = some (.type "function"))
    (xf6 : K.lookup E6 = some ⟨oI6, ad6, .func (PySem.W.fnOf "__init__" "Unfit.__init__" (defArgs topI6) (defBody topI6) (defScope topI6) .none .none dI6 pI6 an6 uI6 tI6), sI6⟩) (xc6 : PySem.W.codeIn K uI6 "Unfit.__init__" = true) (xk6 : PySem.W.keepIn K (.ref E6) = true)
    (xK6 : PySem.W.keepIn K (.ref C6) = true) (xe6 : PySem.W.subIn K (.ref C6) (.type "BaseException") = some true) (xy6 : PySem.W.typeIn K (.ref C6) = some (.type "type")) (xz6 : PySem.W.isClsIn K C6 = true) (xw6 : PySem.W.subIn K (.ref C6) (.ref C6) = some true)
    (xd3 : PySem.W.hasDictIn K C3 = true) (vg3 : PySem.W.findIn K (.ref C3) "__getattribute__" = some (some (.builtin "BaseException.__getattribute__"))) (vh3 : PySem.W.findIn K (.ref C3) "__getattr__" = some none) (va3 : PySem.W.findIn K (.ref C3) "__class__" = some (some (.builtin "object.__class__"))) (vm3 : PySem.W.mroIn K C3 (.type "object") = some true)
    (vf3 : PySem.W.findIn K (.ref C3) "line" = some none)
    (xp1_3 : PySem.W.subIn K (.ref C1) (.ref C3) = some false)
    (xp2_3 : PySem.W.subIn K (.ref C2) (.ref C3) = some false)
    (xp3_3 : PySem.W.subIn K (.ref C3) (.ref C3) = some true)
    (xp4_3 : PySem.W.subIn K (.ref C4) (.ref C3) = some false)
    (xp5_3 : PySem.W.subIn K (.ref C5) (.ref C3) = some false)
    (xp6_3 : PySem.W.subIn K (.ref C6) (.ref C3) = some false)
    (xd4 : PySem.W.hasDictIn K C4 = true) (vg4 : PySem.W.findIn K (.ref C4) "__getattribute__" = some (some (.builtin "BaseException.__getattribute__"))) (vh4 : PySem.W.findIn K (.ref C4) "__getattr__" = some none) (va4 : PySem.W.findIn K (.ref C4) "__class__" = some (some (.builtin "object.__class__"))) (vm4 : PySem.W.mroIn K C4 (.type "object") = some true)
    (xp1_4 : PySem.W.subIn K (.ref C1) (.ref C4) = some false)
    (xp2_4 : PySem.W.subIn K (.ref C2) (.ref C4) = some false)
    (xp3_4 : PySem.W.subIn K (.ref C3) (.ref C4) = some false)
    (xp4_4 : PySem.W.subIn K (.ref C4) (.ref C4) = some true)
    (xp5_4 : PySem.W.subIn K (.ref C5) (.ref C4) = some false)
    (xp6_4 : PySem.W.subIn K (.ref C6) (.ref C4) = some false)
    (xd1 : PySem.W.hasDictIn K C1 = true) (vg1 : PySem.W.findIn K (.ref C1) "__getattribute__" = some (some (.builtin "BaseException.__getattribute__"))) (vh1 : PySem.W.findIn K (.ref C1) "__getattr__" = some none) (va1 : PySem.W.findIn K (.ref C1) "__class__" = some (some (.builtin "object.__class__"))) (vm1 : PySem.W.mroIn K C1 (.type "object") = some true)
    (vf1 : PySem.W.findIn K (.ref C1) "place" = some none)
    (xp1_1 : PySem.W.subIn K (.ref C1) (.ref C1) = some true)
    (xp2_1 : PySem.W.subIn K (.ref C2) (.ref C1) = some false)
    (xp3_1 : PySem.W.subIn K (.ref C3) (.ref C1) = some false)
    (xp4_1 : PySem.W.subIn K (.ref C4) (.ref C1) = some false)
    (xp5_1 : PySem.W.subIn K (.ref C5) (.ref C1) = some false)
    (xp6_1 : PySem.W.subIn K (.ref C6) (.ref C1) = some false)
    (xd2 : PySem.W.hasDictIn K C2 = true) (vg2 : PySem.W.findIn K (.ref C2) "__getattribute__" = some (some (.builtin "BaseException.__getattribute__"))) (vh2 : PySem.W.findIn K (.ref C2) "__getattr__" = some none) (va2 : PySem.W.findIn K (.ref C2) "__class__" = some (some (.builtin "object.__class__"))) (vm2 : PySem.W.mroIn K C2 (.type "object") = some true)
    (xp1_2 : PySem.W.subIn K (.ref C1) (.ref C2) = some false)
    (xp2_2 : PySem.W.subIn K (.ref C2) (.ref C2) = some true)
    (xp3_2 : PySem.W.subIn K (.ref C3) (.ref C2) = some false)
    (xp4_2 : PySem.W.subIn K (.ref C4) (.ref C2) = some false)
    (xp5_2 : PySem.W.subIn K (.ref C5) (.ref C2) = some false)
    (xp6_2 : PySem.W.subIn K (.ref C6) (.ref C2) = some false)
    (xd5 : PySem.W.hasDictIn K C5 = true) (vg5 : PySem.W.findIn K (.ref C5) "__getattribute__" = some (some (.builtin "BaseException.__getattribute__"))) (vh5 : PySem.W.findIn K (.ref C5) "__getattr__" = some none) (va5 : PySem.W.findIn K (.ref C5) "__class__" = some (some (.builtin "object.__class__"))) (vm5 : PySem.W.mroIn K C5 (.type "object") = some true)
    (xp1_5 : PySem.W.subIn K (.ref C1) (.ref C5) = some false)
    (xp2_5 : PySem.W.subIn K (.ref C2) (.ref C5) = some false)
    (xp3_5 : PySem.W.subIn K (.ref C3) (.ref C5) = some false)
    (xp4_5 : PySem.W.subIn K (.ref C4) (.ref C5) = some false)
    (xp5_5 : PySem.W.subIn K (.ref C5) (.ref C5) = some true)
    (xp6_5 : PySem.W.subIn K (.ref C6) (.ref C5) = some false)
    (xd6 : PySem.W.hasDictIn K C6 = true) (vg6 : PySem.W.findIn K (.ref C6) "__getattribute__" = some (some (.builtin "BaseException.__getattribute__"))) (vh6 : PySem.W.findIn K (.ref C6) "__getattr__" = some none) (va6 : PySem.W.findIn K (.ref C6) "__class__" = some (some (.builtin "object.__class__"))) (vm6 : PySem.W.mroIn K C6 (.type "object") = some true)
    (xp1_6 : PySem.W.subIn K (.ref C1) (.ref C6) = some false)
    (xp2_6 : PySem.W.subIn K (.ref C2) (.ref C6) = some false)
    (xp3_6 : PySem.W.subIn K (.ref C3) (.ref C6) = some false)
    (xp4_6 : PySem.W.subIn K (.ref C4) (.ref C6) = some false)
    (xp5_6 : PySem.W.subIn K (.ref C5) (.ref C6) = some false)
    (xp6_6 : PySem.W.subIn K (.ref C6) (.ref C6) = some true)
    (xq3_IndexError : PySem.W.subIn K (.ref C3) (.type "IndexError") = some false)
    (xq4_IndexError : PySem.W.subIn K (.ref C4) (.type "IndexError") = some false)
    (xq1_IndexError : PySem.W.subIn K (.ref C1) (.type "IndexError") = some false)
    (xq2_IndexError : PySem.W.subIn K (.ref C2) (.type "IndexError") = some false)
    (xq5_IndexError : PySem.W.subIn K (.ref C5) (.type "IndexError") = some false)
    (xq6_IndexError : PySem.W.subIn K (.ref C6) (.type "IndexError") = some false)
    (xq3_KeyError : PySem.W.subIn K (.ref C3) (.type "KeyError") = some false)
    (xq4_KeyError : PySem.W.subIn K (.ref C4) (.type "KeyError") = some false)
    (xq1_KeyError : PySem.W.subIn K (.ref C1) (.type "KeyError") = some false)
    (xq2_KeyError : PySem.W.subIn K (.ref C2) (.type "KeyError") = some false)
    (xq5_KeyError : PySem.W.subIn K (.ref C5) (.type "KeyError") = some false)
    (xq6_KeyError : PySem.W.subIn K (.ref C6) (.type "KeyError") = some false)
    (xq3_LookupError : PySem.W.subIn K (.ref C3) (.type "LookupError") = some false)
    (xq4_LookupError : PySem.W.subIn K (.ref C4) (.type "LookupError") = some false)
    (xq1_LookupError : PySem.W.subIn K (.ref C1) (.type "LookupError") = some true)
    (xq2_LookupError : PySem.W.subIn K (.ref C2) (.type "LookupError") = some true)
    (xq5_LookupError : PySem.W.subIn K (.ref C5) (.type "LookupError") = some false)
    (xq6_LookupError : PySem.W.subIn K (.ref C6) (.type "LookupError") = some false)
    (xq3_ValueError : PySem.W.subIn K (.ref C3) (.type "ValueError") = some true)
    (xq4_ValueError : PySem.W.subIn K (.ref C4) (.type "ValueError") = some true)
    (xq1_ValueError : PySem.W.subIn K (.ref C1) (.type "ValueError") = some false)
    (xq2_ValueError : PySem.W.subIn K (.ref C2) (.type "ValueError") = some false)
    (xq5_ValueError : PySem.W.subIn K (.ref C5) (.type "ValueError") = some true)
    (xq6_ValueError : PySem.W.subIn K (.ref C6) (.type "ValueError") = some true)
    (vn : PySem.W.specialIn K (.builtin "object.__class__") "__get__" = some (some (.builtin "getset_descriptor.__get__"))) (vt : PySem.W.takesIn K (.builtin "object.__class__") = some true)
    (z_IndexError : PySem.W.nsIn K mainGlobals "IndexError" = some none) (z_KeyError : PySem.W.nsIn K mainGlobals "KeyError" = some none) (z_LookupError : PySem.W.nsIn K mainGlobals "LookupError" = some none) (z_ValueError : PySem.W.nsIn K mainGlobals "ValueError" = some none) (z_abs : PySem.W.nsIn K mainGlobals "abs" = some none) (z_all : PySem.W.nsIn K mainGlobals "all" = some none) (z_bool : PySem.W.nsIn K mainGlobals "bool" = some none) (z_int : PySem.W.nsIn K mainGlobals "int" = some none) (z_isinstance : PySem.W.nsIn K mainGlobals "isinstance" = some none) (z_len : PySem.W.nsIn K mainGlobals "len" = some none) (z_list : PySem.W.nsIn K mainGlobals "list" = some none) (z_range : PySem.W.nsIn K mainGlobals "range" = some none) (z_str : PySem.W.nsIn K mainGlobals "str" = some none) (z_tuple : PySem.W.nsIn K mainGlobals "tuple" = some none) (z_zip : PySem.W.nsIn K mainGlobals "zip" = some none) :
    ∃ fd : FuncData, (∀ (s : Shared) (v : Value), BindsTo s fd ⟨[v], []⟩ [("script", v)]) ∧ ∀ base : Heap, K.In base → base.Ns mainGlobals mg → FnOk l.prog w K mg base CX0 60 fl fd ["script"] (spD K 1 (run 60 13)) := by
  have e : fl = f13 := by
    have e := hfa.symm.trans (PySem.W.mg_of X G a13)
    injection e with e
    injection e with e
  rw [e]
  let fa : Nat → Addr := fun i => match i with | 8 => f8 | 9 => f9 | 10 => f10 | 11 => f11 | 12 => f12 | 13 => f13 | 1003 => C3 | 2003 => E3 | 1004 => C4 | 2004 => E4 | 1001 => C1 | 2001 => E1 | 1002 => C2 | 2002 => E2 | 1005 => C5 | 2005 => E5 | 1006 => C6 | 2006 => E6 | _ => f13
  let fd : Nat → FuncData := fun i => match i with | 8 => PySem.W.fnOf "_law_same" "_law_same" (defArgs (topS 8)) (defBody (topS 8)) (defScope (topS 8)) .none kV8 dc8 pm8 an8 cd8 ct8 | 9 => PySem.W.fnOf "_law_caught" "_law_caught" (defArgs (topS 9)) (defBody (topS 9)) (defScope (topS 9)) .none kV9 dc9 pm9 an9 cd9 ct9 | 10 => PySem.W.fnOf "_law_plain" "_law_plain" (defArgs (topS 10)) (defBody (topS 10)) (defScope (topS 10)) .none kV10 dc10 pm10 an10 cd10 ct10 | 11 => PySem.W.fnOf "_law_kinds" "_law_kinds" (defArgs (topS 11)) (defBody (topS 11)) (defScope (topS 11)) .none kV11 dc11 pm11 an11 cd11 ct11 | 12 => PySem.W.fnOf "_law_by_hand_right" "_law_by_hand_right" (defArgs (topS 12)) (defBody (topS 12)) (defScope (topS 12)) .none kV12 dc12 pm12 an12 cd12 ct12 | 13 => PySem.W.fnOf "law" "law" (defArgs (topS 13)) (defBody (topS 13)) (defScope (topS 13)) .none kV13 dc13 pm13 an13 cd13 ct13 | 2003 => PySem.W.fnOf "__init__" "BadLine.__init__" (defArgs topI3) (defBody topI3) (defScope topI3) .none .none dI3 pI3 an3 uI3 tI3 | 2004 => PySem.W.fnOf "__init__" "CanNot.__init__" (defArgs topI4) (defBody topI4) (defScope topI4) .none .none dI4 pI4 an4 uI4 tI4 | 2001 => PySem.W.fnOf "__init__" "NoPlace.__init__" (defArgs topI1) (defBody topI1) (defScope topI1) .none .none dI1 pI1 an1 uI1 tI1 | 2002 => PySem.W.fnOf "__init__" "NothingDone.__init__" (defArgs topI2) (defBody topI2) (defScope topI2) .none .none dI2 pI2 an2 uI2 tI2 | 2005 => PySem.W.fnOf "__init__" "TooMuch.__init__" (defArgs topI5) (defBody topI5) (defScope topI5) .none .none dI5 pI5 an5 uI5 tI5 | 2006 => PySem.W.fnOf "__init__" "Unfit.__init__" (defArgs topI6) (defBody topI6) (defScope topI6) .none .none dI6 pI6 an6 uI6 tI6 | _ => PySem.W.fnOf "law" "law" (defArgs (topS 13)) (defBody (topS 13)) (defScope (topS 13)) .none kV13 dc13 pm13 an13 cd13 ct13
  have F8 : Fun K "_law_same" "_law_same" (topS 8) (fa 8) (fd 8) := fun_mk (st := topS 8) l8 c8 k8
  have F9 : Fun K "_law_caught" "_law_caught" (topS 9) (fa 9) (fd 9) := fun_mk (st := topS 9) l9 c9 k9
  have F10 : Fun K "_law_plain" "_law_plain" (topS 10) (fa 10) (fd 10) := fun_mk (st := topS 10) l10 c10 k10
  have F11 : Fun K "_law_kinds" "_law_kinds" (topS 11) (fa 11) (fd 11) := fun_mk (st := topS 11) l11 c11 k11
  have F12 : Fun K "_law_by_hand_right" "_law_by_hand_right" (topS 12) (fa 12) (fd 12) := fun_mk (st := topS 12) l12 c12 k12
  have F13 : Fun K "law" "law" (topS 13) (fa 13) (fd 13) := fun_mk (st := topS 13) l13 c13 k13
  have I3 : Fun K "__init__" "BadLine.__init__" topI3 (fa 2003) (fd 2003) := fun_mk (st := topI3) xf3 xc3 xk3
  have I4 : Fun K "__init__" "CanNot.__init__" topI4 (fa 2004) (fd 2004) := fun_mk (st := topI4) xf4 xc4 xk4
  have I1 : Fun K "__init__" "NoPlace.__init__" topI1 (fa 2001) (fd 2001) := fun_mk (st := topI1) xf1 xc1 xk1
  have I2 : Fun K "__init__" "NothingDone.__init__" topI2 (fa 2002) (fd 2002) := fun_mk (st := topI2) xf2 xc2 xk2
  have I5 : Fun K "__init__" "TooMuch.__init__" topI5 (fa 2005) (fd 2005) := fun_mk (st := topI5) xf5 xc5 xk5
  have I6 : Fun K "__init__" "Unfit.__init__" topI6 (fa 2006) (fd 2006) := fun_mk (st := topI6) xf6 xc6 xk6
  have T : Top K mg fa fd := ⟨F8,
    PySem.W.mg_of X G a8,
    (F8.binds (ps := ["got", "goal"]) fun _ _ _ _ _ _ us hl => match us, hl with | [_, _], _ => rfl),
    F9,
    PySem.W.mg_of X G a9,
    (F9.binds (ps := ["way_so", "worth"]) fun _ _ _ _ _ _ us hl => match us, hl with | [_, _], _ => rfl),
    F10,
    PySem.W.mg_of X G a10,
    (F10.binds (ps := ["error"]) fun _ _ _ _ _ _ us hl => match us, hl with | [_], _ => rfl),
    F11,
    PySem.W.mg_of X G a11,
    (F11.binds (ps := ["error"]) fun _ _ _ _ _ _ us hl => match us, hl with | [_], _ => rfl),
    F12,
    PySem.W.mg_of X G a12,
    (F12.binds (ps := []) fun _ _ _ _ _ _ us hl => match us, hl with | [], _ => rfl),
    F13,
    PySem.W.mg_of X G a13,
    (F13.binds (ps := ["script"]) fun _ _ _ _ _ _ us hl => match us, hl with | [_], _ => rfl),
    ⟨⟨_, _, _, _, _, _, _, _, _, _, _, _, _, _, _, xl3, by decide +kernel⟩, xs3, xe3, xy3, xK3⟩,
    PySem.W.mg_of X G xa3,
    xi3,
    xt3,
    (List.forall_mem_cons.mpr ⟨PySem.W.exm_ref xe3 xd3 xy3 xp1_3, (List.forall_mem_cons.mpr ⟨PySem.W.exm_ref xe3 xd3 xy3 xp2_3, (List.forall_mem_cons.mpr ⟨PySem.W.exm_ref xe3 xd3 xy3 xp3_3, (List.forall_mem_cons.mpr ⟨PySem.W.exm_ref xe3 xd3 xy3 xp4_3, (List.forall_mem_cons.mpr ⟨PySem.W.exm_ref xe3 xd3 xy3 xp5_3, (List.forall_mem_cons.mpr ⟨PySem.W.exm_ref xe3 xd3 xy3 xp6_3, (List.forall_mem_nil _)⟩)⟩)⟩)⟩)⟩)⟩),
    I3,
    (I3.binds (ps := ["self", "line"]) fun _ _ _ _ _ _ us hl => match us, hl with | [_, _], _ => rfl),
    vf3,
    ⟨vg3, vh3, xe3, xd3⟩,
    ⟨vg3, vh3, xe3, xd3, va3, vn, vt, vm3⟩,
    xa3,
    (I3.kbinds (n1 := 1) (n2 := 1) (is := [0, 1]) (by decide) fun _ _ _ _ _ _ us ws h1 h2 => match us, h1, ws, h2 with | [_], _, [_], _ => rfl),
    ⟨⟨_, _, _, _, _, _, _, _, _, _, _, _, _, _, _, xl4, by decide +kernel⟩, xs4, xe4, xy4, xK4⟩,
    PySem.W.mg_of X G xa4,
    xi4,
    xt4,
    (List.forall_mem_cons.mpr ⟨PySem.W.exm_ref xe4 xd4 xy4 xp1_4, (List.forall_mem_cons.mpr ⟨PySem.W.exm_ref xe4 xd4 xy4 xp2_4, (List.forall_mem_cons.mpr ⟨PySem.W.exm_ref xe4 xd4 xy4 xp3_4, (List.forall_mem_cons.mpr ⟨PySem.W.exm_ref xe4 xd4 xy4 xp4_4, (List.forall_mem_cons.mpr ⟨PySem.W.exm_ref xe4 xd4 xy4 xp5_4, (List.forall_mem_cons.mpr ⟨PySem.W.exm_ref xe4 xd4 xy4 xp6_4, (List.forall_mem_nil _)⟩)⟩)⟩)⟩)⟩)⟩),
    I4,
    (I4.binds (ps := ["self"]) fun _ _ _ _ _ _ us hl => match us, hl with | [_], _ => rfl),
    ⟨vg4, vh4, xe4, xd4, va4, vn, vt, vm4⟩,
    xa4,
    ⟨⟨_, _, _, _, _, _, _, _, _, _, _, _, _, _, _, xl1, by decide +kernel⟩, xs1, xe1, xy1, xK1⟩,
    PySem.W.mg_of X G xa1,
    xi1,
    xt1,
    (List.forall_mem_cons.mpr ⟨PySem.W.exm_ref xe1 xd1 xy1 xp1_1, (List.forall_mem_cons.mpr ⟨PySem.W.exm_ref xe1 xd1 xy1 xp2_1, (List.forall_mem_cons.mpr ⟨PySem.W.exm_ref xe1 xd1 xy1 xp3_1, (List.forall_mem_cons.mpr ⟨PySem.W.exm_ref xe1 xd1 xy1 xp4_1, (List.forall_mem_cons.mpr ⟨PySem.W.exm_ref xe1 xd1 xy1 xp5_1, (List.forall_mem_cons.mpr ⟨PySem.W.exm_ref xe1 xd1 xy1 xp6_1, (List.forall_mem_nil _)⟩)⟩)⟩)⟩)⟩)⟩),
    I1,
    (I1.binds (ps := ["self", "place"]) fun _ _ _ _ _ _ us hl => match us, hl with | [_, _], _ => rfl),
    vf1,
    ⟨vg1, vh1, xe1, xd1⟩,
    ⟨vg1, vh1, xe1, xd1, va1, vn, vt, vm1⟩,
    xa1,
    (I1.kbinds (n1 := 1) (n2 := 1) (is := [0, 1]) (by decide) fun _ _ _ _ _ _ us ws h1 h2 => match us, h1, ws, h2 with | [_], _, [_], _ => rfl),
    ⟨⟨_, _, _, _, _, _, _, _, _, _, _, _, _, _, _, xl2, by decide +kernel⟩, xs2, xe2, xy2, xK2⟩,
    PySem.W.mg_of X G xa2,
    xi2,
    xt2,
    (List.forall_mem_cons.mpr ⟨PySem.W.exm_ref xe2 xd2 xy2 xp1_2, (List.forall_mem_cons.mpr ⟨PySem.W.exm_ref xe2 xd2 xy2 xp2_2, (List.forall_mem_cons.mpr ⟨PySem.W.exm_ref xe2 xd2 xy2 xp3_2, (List.forall_mem_cons.mpr ⟨PySem.W.exm_ref xe2 xd2 xy2 xp4_2, (List.forall_mem_cons.mpr ⟨PySem.W.exm_ref xe2 xd2 xy2 xp5_2, (List.forall_mem_cons.mpr ⟨PySem.W.exm_ref xe2 xd2 xy2 xp6_2, (List.forall_mem_nil _)⟩)⟩)⟩)⟩)⟩)⟩),
    I2,
    (I2.binds (ps := ["self"]) fun _ _ _ _ _ _ us hl => match us, hl with | [_], _ => rfl),
    ⟨vg2, vh2, xe2, xd2, va2, vn, vt, vm2⟩,
    xa2,
    ⟨⟨_, _, _, _, _, _, _, _, _, _, _, _, _, _, _, xl5, by decide +kernel⟩, xs5, xe5, xy5, xK5⟩,
    PySem.W.mg_of X G xa5,
    xi5,
    xt5,
    (List.forall_mem_cons.mpr ⟨PySem.W.exm_ref xe5 xd5 xy5 xp1_5, (List.forall_mem_cons.mpr ⟨PySem.W.exm_ref xe5 xd5 xy5 xp2_5, (List.forall_mem_cons.mpr ⟨PySem.W.exm_ref xe5 xd5 xy5 xp3_5, (List.forall_mem_cons.mpr ⟨PySem.W.exm_ref xe5 xd5 xy5 xp4_5, (List.forall_mem_cons.mpr ⟨PySem.W.exm_ref xe5 xd5 xy5 xp5_5, (List.forall_mem_cons.mpr ⟨PySem.W.exm_ref xe5 xd5 xy5 xp6_5, (List.forall_mem_nil _)⟩)⟩)⟩)⟩)⟩)⟩),
    I5,
    (I5.binds (ps := ["self"]) fun _ _ _ _ _ _ us hl => match us, hl with | [_], _ => rfl),
    ⟨vg5, vh5, xe5, xd5, va5, vn, vt, vm5⟩,
    xa5,
    ⟨⟨_, _, _, _, _, _, _, _, _, _, _, _, _, _, _, xl6, by decide +kernel⟩, xs6, xe6, xy6, xK6⟩,
    PySem.W.mg_of X G xa6,
    xi6,
    xt6,
    (List.forall_mem_cons.mpr ⟨PySem.W.exm_ref xe6 xd6 xy6 xp1_6, (List.forall_mem_cons.mpr ⟨PySem.W.exm_ref xe6 xd6 xy6 xp2_6, (List.forall_mem_cons.mpr ⟨PySem.W.exm_ref xe6 xd6 xy6 xp3_6, (List.forall_mem_cons.mpr ⟨PySem.W.exm_ref xe6 xd6 xy6 xp4_6, (List.forall_mem_cons.mpr ⟨PySem.W.exm_ref xe6 xd6 xy6 xp5_6, (List.forall_mem_cons.mpr ⟨PySem.W.exm_ref xe6 xd6 xy6 xp6_6, (List.forall_mem_nil _)⟩)⟩)⟩)⟩)⟩)⟩),
    I6,
    (I6.binds (ps := ["self"]) fun _ _ _ _ _ _ us hl => match us, hl with | [_], _ => rfl),
    ⟨vg6, vh6, xe6, xd6, va6, vn, vt, vm6⟩,
    xa6,
    (List.forall_mem_cons.mpr ⟨one_of xa1 ⟨⟨vg1, vh1, xe1, xd1, va1, vn, vt, vm1⟩, kit_other xz3 xy3 xp1_3 xw3⟩,
      (List.forall_mem_cons.mpr ⟨one_of xa2 ⟨⟨vg2, vh2, xe2, xd2, va2, vn, vt, vm2⟩, kit_other xz3 xy3 xp2_3 xw3⟩,
      (List.forall_mem_cons.mpr ⟨one_of xa3 ⟨⟨vg3, vh3, xe3, xd3, va3, vn, vt, vm3⟩, kit_same⟩,
      (List.forall_mem_cons.mpr ⟨one_of xa4 ⟨⟨vg4, vh4, xe4, xd4, va4, vn, vt, vm4⟩, kit_other xz3 xy3 xp4_3 xw3⟩,
      (List.forall_mem_cons.mpr ⟨one_of xa5 ⟨⟨vg5, vh5, xe5, xd5, va5, vn, vt, vm5⟩, kit_other xz3 xy3 xp5_3 xw3⟩,
      (List.forall_mem_cons.mpr ⟨one_of xa6 ⟨⟨vg6, vh6, xe6, xd6, va6, vn, vt, vm6⟩, kit_other xz3 xy3 xp6_3 xw3⟩,
      (List.forall_mem_nil _)⟩)⟩)⟩)⟩)⟩)⟩),
    (List.forall_mem_cons.mpr ⟨one_of xa1 ⟨⟨vg1, vh1, xe1, xd1, va1, vn, vt, vm1⟩, kit_other xz4 xy4 xp1_4 xw4⟩,
      (List.forall_mem_cons.mpr ⟨one_of xa2 ⟨⟨vg2, vh2, xe2, xd2, va2, vn, vt, vm2⟩, kit_other xz4 xy4 xp2_4 xw4⟩,
      (List.forall_mem_cons.mpr ⟨one_of xa3 ⟨⟨vg3, vh3, xe3, xd3, va3, vn, vt, vm3⟩, kit_other xz4 xy4 xp3_4 xw4⟩,
      (List.forall_mem_cons.mpr ⟨one_of xa4 ⟨⟨vg4, vh4, xe4, xd4, va4, vn, vt, vm4⟩, kit_same⟩,
      (List.forall_mem_cons.mpr ⟨one_of xa5 ⟨⟨vg5, vh5, xe5, xd5, va5, vn, vt, vm5⟩, kit_other xz4 xy4 xp5_4 xw4⟩,
      (List.forall_mem_cons.mpr ⟨one_of xa6 ⟨⟨vg6, vh6, xe6, xd6, va6, vn, vt, vm6⟩, kit_other xz4 xy4 xp6_4 xw4⟩,
      (List.forall_mem_nil _)⟩)⟩)⟩)⟩)⟩)⟩),
    (List.forall_mem_cons.mpr ⟨one_of xa1 ⟨⟨vg1, vh1, xe1, xd1, va1, vn, vt, vm1⟩, kit_sub xq1_IndexError⟩,
      (List.forall_mem_cons.mpr ⟨one_of xa2 ⟨⟨vg2, vh2, xe2, xd2, va2, vn, vt, vm2⟩, kit_sub xq2_IndexError⟩,
      (List.forall_mem_cons.mpr ⟨one_of xa3 ⟨⟨vg3, vh3, xe3, xd3, va3, vn, vt, vm3⟩, kit_sub xq3_IndexError⟩,
      (List.forall_mem_cons.mpr ⟨one_of xa4 ⟨⟨vg4, vh4, xe4, xd4, va4, vn, vt, vm4⟩, kit_sub xq4_IndexError⟩,
      (List.forall_mem_cons.mpr ⟨one_of xa5 ⟨⟨vg5, vh5, xe5, xd5, va5, vn, vt, vm5⟩, kit_sub xq5_IndexError⟩,
      (List.forall_mem_cons.mpr ⟨one_of xa6 ⟨⟨vg6, vh6, xe6, xd6, va6, vn, vt, vm6⟩, kit_sub xq6_IndexError⟩,
      (List.forall_mem_nil _)⟩)⟩)⟩)⟩)⟩)⟩),
    (List.forall_mem_cons.mpr ⟨one_of xa1 ⟨⟨vg1, vh1, xe1, xd1, va1, vn, vt, vm1⟩, kit_sub xq1_KeyError⟩,
      (List.forall_mem_cons.mpr ⟨one_of xa2 ⟨⟨vg2, vh2, xe2, xd2, va2, vn, vt, vm2⟩, kit_sub xq2_KeyError⟩,
      (List.forall_mem_cons.mpr ⟨one_of xa3 ⟨⟨vg3, vh3, xe3, xd3, va3, vn, vt, vm3⟩, kit_sub xq3_KeyError⟩,
      (List.forall_mem_cons.mpr ⟨one_of xa4 ⟨⟨vg4, vh4, xe4, xd4, va4, vn, vt, vm4⟩, kit_sub xq4_KeyError⟩,
      (List.forall_mem_cons.mpr ⟨one_of xa5 ⟨⟨vg5, vh5, xe5, xd5, va5, vn, vt, vm5⟩, kit_sub xq5_KeyError⟩,
      (List.forall_mem_cons.mpr ⟨one_of xa6 ⟨⟨vg6, vh6, xe6, xd6, va6, vn, vt, vm6⟩, kit_sub xq6_KeyError⟩,
      (List.forall_mem_nil _)⟩)⟩)⟩)⟩)⟩)⟩),
    (List.forall_mem_cons.mpr ⟨one_of xa1 ⟨⟨vg1, vh1, xe1, xd1, va1, vn, vt, vm1⟩, kit_sub xq1_LookupError⟩,
      (List.forall_mem_cons.mpr ⟨one_of xa2 ⟨⟨vg2, vh2, xe2, xd2, va2, vn, vt, vm2⟩, kit_sub xq2_LookupError⟩,
      (List.forall_mem_cons.mpr ⟨one_of xa3 ⟨⟨vg3, vh3, xe3, xd3, va3, vn, vt, vm3⟩, kit_sub xq3_LookupError⟩,
      (List.forall_mem_cons.mpr ⟨one_of xa4 ⟨⟨vg4, vh4, xe4, xd4, va4, vn, vt, vm4⟩, kit_sub xq4_LookupError⟩,
      (List.forall_mem_cons.mpr ⟨one_of xa5 ⟨⟨vg5, vh5, xe5, xd5, va5, vn, vt, vm5⟩, kit_sub xq5_LookupError⟩,
      (List.forall_mem_cons.mpr ⟨one_of xa6 ⟨⟨vg6, vh6, xe6, xd6, va6, vn, vt, vm6⟩, kit_sub xq6_LookupError⟩,
      (List.forall_mem_nil _)⟩)⟩)⟩)⟩)⟩)⟩),
    (List.forall_mem_cons.mpr ⟨one_of xa1 ⟨⟨vg1, vh1, xe1, xd1, va1, vn, vt, vm1⟩, kit_same⟩,
      (List.forall_mem_cons.mpr ⟨one_of xa2 ⟨⟨vg2, vh2, xe2, xd2, va2, vn, vt, vm2⟩, kit_other xz1 xy1 xp2_1 xw1⟩,
      (List.forall_mem_cons.mpr ⟨one_of xa3 ⟨⟨vg3, vh3, xe3, xd3, va3, vn, vt, vm3⟩, kit_other xz1 xy1 xp3_1 xw1⟩,
      (List.forall_mem_cons.mpr ⟨one_of xa4 ⟨⟨vg4, vh4, xe4, xd4, va4, vn, vt, vm4⟩, kit_other xz1 xy1 xp4_1 xw1⟩,
      (List.forall_mem_cons.mpr ⟨one_of xa5 ⟨⟨vg5, vh5, xe5, xd5, va5, vn, vt, vm5⟩, kit_other xz1 xy1 xp5_1 xw1⟩,
      (List.forall_mem_cons.mpr ⟨one_of xa6 ⟨⟨vg6, vh6, xe6, xd6, va6, vn, vt, vm6⟩, kit_other xz1 xy1 xp6_1 xw1⟩,
      (List.forall_mem_nil _)⟩)⟩)⟩)⟩)⟩)⟩),
    (List.forall_mem_cons.mpr ⟨one_of xa1 ⟨⟨vg1, vh1, xe1, xd1, va1, vn, vt, vm1⟩, kit_other xz2 xy2 xp1_2 xw2⟩,
      (List.forall_mem_cons.mpr ⟨one_of xa2 ⟨⟨vg2, vh2, xe2, xd2, va2, vn, vt, vm2⟩, kit_same⟩,
      (List.forall_mem_cons.mpr ⟨one_of xa3 ⟨⟨vg3, vh3, xe3, xd3, va3, vn, vt, vm3⟩, kit_other xz2 xy2 xp3_2 xw2⟩,
      (List.forall_mem_cons.mpr ⟨one_of xa4 ⟨⟨vg4, vh4, xe4, xd4, va4, vn, vt, vm4⟩, kit_other xz2 xy2 xp4_2 xw2⟩,
      (List.forall_mem_cons.mpr ⟨one_of xa5 ⟨⟨vg5, vh5, xe5, xd5, va5, vn, vt, vm5⟩, kit_other xz2 xy2 xp5_2 xw2⟩,
      (List.forall_mem_cons.mpr ⟨one_of xa6 ⟨⟨vg6, vh6, xe6, xd6, va6, vn, vt, vm6⟩, kit_other xz2 xy2 xp6_2 xw2⟩,
      (List.forall_mem_nil _)⟩)⟩)⟩)⟩)⟩)⟩),
    (List.forall_mem_cons.mpr ⟨one_of xa1 ⟨⟨vg1, vh1, xe1, xd1, va1, vn, vt, vm1⟩, kit_other xz5 xy5 xp1_5 xw5⟩,
      (List.forall_mem_cons.mpr ⟨one_of xa2 ⟨⟨vg2, vh2, xe2, xd2, va2, vn, vt, vm2⟩, kit_other xz5 xy5 xp2_5 xw5⟩,
      (List.forall_mem_cons.mpr ⟨one_of xa3 ⟨⟨vg3, vh3, xe3, xd3, va3, vn, vt, vm3⟩, kit_other xz5 xy5 xp3_5 xw5⟩,
      (List.forall_mem_cons.mpr ⟨one_of xa4 ⟨⟨vg4, vh4, xe4, xd4, va4, vn, vt, vm4⟩, kit_other xz5 xy5 xp4_5 xw5⟩,
      (List.forall_mem_cons.mpr ⟨one_of xa5 ⟨⟨vg5, vh5, xe5, xd5, va5, vn, vt, vm5⟩, kit_same⟩,
      (List.forall_mem_cons.mpr ⟨one_of xa6 ⟨⟨vg6, vh6, xe6, xd6, va6, vn, vt, vm6⟩, kit_other xz5 xy5 xp6_5 xw5⟩,
      (List.forall_mem_nil _)⟩)⟩)⟩)⟩)⟩)⟩),
    (List.forall_mem_cons.mpr ⟨one_of xa1 ⟨⟨vg1, vh1, xe1, xd1, va1, vn, vt, vm1⟩, kit_other xz6 xy6 xp1_6 xw6⟩,
      (List.forall_mem_cons.mpr ⟨one_of xa2 ⟨⟨vg2, vh2, xe2, xd2, va2, vn, vt, vm2⟩, kit_other xz6 xy6 xp2_6 xw6⟩,
      (List.forall_mem_cons.mpr ⟨one_of xa3 ⟨⟨vg3, vh3, xe3, xd3, va3, vn, vt, vm3⟩, kit_other xz6 xy6 xp3_6 xw6⟩,
      (List.forall_mem_cons.mpr ⟨one_of xa4 ⟨⟨vg4, vh4, xe4, xd4, va4, vn, vt, vm4⟩, kit_other xz6 xy6 xp4_6 xw6⟩,
      (List.forall_mem_cons.mpr ⟨one_of xa5 ⟨⟨vg5, vh5, xe5, xd5, va5, vn, vt, vm5⟩, kit_other xz6 xy6 xp5_6 xw6⟩,
      (List.forall_mem_cons.mpr ⟨one_of xa6 ⟨⟨vg6, vh6, xe6, xd6, va6, vn, vt, vm6⟩, kit_same⟩,
      (List.forall_mem_nil _)⟩)⟩)⟩)⟩)⟩)⟩),
    (List.forall_mem_cons.mpr ⟨one_of xa1 ⟨⟨vg1, vh1, xe1, xd1, va1, vn, vt, vm1⟩, kit_sub xq1_ValueError⟩,
      (List.forall_mem_cons.mpr ⟨one_of xa2 ⟨⟨vg2, vh2, xe2, xd2, va2, vn, vt, vm2⟩, kit_sub xq2_ValueError⟩,
      (List.forall_mem_cons.mpr ⟨one_of xa3 ⟨⟨vg3, vh3, xe3, xd3, va3, vn, vt, vm3⟩, kit_sub xq3_ValueError⟩,
      (List.forall_mem_cons.mpr ⟨one_of xa4 ⟨⟨vg4, vh4, xe4, xd4, va4, vn, vt, vm4⟩, kit_sub xq4_ValueError⟩,
      (List.forall_mem_cons.mpr ⟨one_of xa5 ⟨⟨vg5, vh5, xe5, xd5, va5, vn, vt, vm5⟩, kit_sub xq5_ValueError⟩,
      (List.forall_mem_cons.mpr ⟨one_of xa6 ⟨⟨vg6, vh6, xe6, xd6, va6, vn, vt, vm6⟩, kit_sub xq6_ValueError⟩,
      (List.forall_mem_nil _)⟩)⟩)⟩)⟩)⟩)⟩),
    PySem.W.mg_none_of X G z_IndexError,
    PySem.W.mg_none_of X G z_KeyError,
    PySem.W.mg_none_of X G z_LookupError,
    PySem.W.mg_none_of X G z_ValueError,
    PySem.W.mg_none_of X G z_abs,
    PySem.W.mg_none_of X G z_all,
    PySem.W.mg_none_of X G z_bool,
    PySem.W.mg_none_of X G z_int,
    PySem.W.mg_none_of X G z_isinstance,
    PySem.W.mg_none_of X G z_len,
    PySem.W.mg_none_of X G z_list,
    PySem.W.mg_none_of X G z_range,
    PySem.W.mg_none_of X G z_str,
    PySem.W.mg_none_of X G z_tuple,
    PySem.W.mg_none_of X G z_zip⟩
  exact ⟨fd 13, fun s v => .of_eq rfl, fun base _ _ => (all_ok T 60).c13⟩
end K00

namespace K00
open PySem Vi PyProof.Rows
theorem c_skip {ρ : Fm} : mNext ρ = some (.next, ρ) := rfl
def EV (me : ME) (ρ : Fm) (d : D) : Prop := ∃ pr, me ρ = some (pr, ρ) ∧ frz ρ pr = some (d, ρ) ∧ peek ρ pr = some d
theorem ev_val {me : ME} {ρ : Fm} {d : D} (h : me ρ = some (.val (.imm d), ρ)) : EV me ρ d := ⟨_, h, rfl, rfl⟩
theorem ev_own {me : ME} {ρ : Fm} {ds : List D} {b : Kd} (h : me ρ = some (.val (.own b ds), ρ)) (hb : b.isL = true := by rfl) : EV me ρ (.list ds) := by
  cases b <;> first | exact absurd hb (by decide) | exact ⟨_, h, rfl, rfl⟩
theorem ev_var {ρ : Fm} {i : Nat} {d : D} (h : ρ[i]? = some (some (.imm d))) : EV (mVar i) ρ d := by
  refine ⟨.slot i, ?_, ?_, ?_⟩
  · unfold mVar; rw [h]
  · unfold frz; simp only [h]
  · unfold peek; simp only [h]; rfl
theorem ev_c {ρ : Fm} {d : D} : EV (mC d) ρ d := ev_val rfl
theorem v_call1 {me : ME} {ρ : Fm} {d : D} {r : Sv} {f : Fn} (h : EV me ρ d) (e : f [.imm d] = some (r, [none])) : mCall f (rVal me rNil) ρ = some (.val r, ρ) := by
  obtain ⟨pr, h1, h2, _⟩ := h
  exact c_call (c_rval h1 h2 rfl) rfl rfl e rfl
theorem v_call2 {me mf : ME} {ρ : Fm} {d e : D} {r : Sv} {f : Fn} (h : EV me ρ d) (k : EV mf ρ e) (q : f [.imm d, .imm e] = some (r, [none, none])) : mCall f (rVal me (rVal mf rNil)) ρ = some (.val r, ρ) := by
  obtain ⟨pr, h1, h2, _⟩ := h
  obtain ⟨ps, k1, k2, _⟩ := k
  exact c_call (c_rval h1 h2 (c_rval k1 k2 rfl)) rfl rfl q rfl
theorem v_call3 {me mf mg : ME} {ρ : Fm} {d e g : D} {r : Sv} {f : Fn} (h : EV me ρ d) (k : EV mf ρ e) (l : EV mg ρ g) (q : f [.imm d, .imm e, .imm g] = some (r, [none, none, none])) : mCall f (rVal me (rVal mf (rVal mg rNil))) ρ = some (.val r, ρ) := by
  obtain ⟨pr, h1, h2, _⟩ := h
  obtain ⟨ps, k1, k2, _⟩ := k
  obtain ⟨pt, l1, l2, _⟩ := l
  exact c_call (c_rval h1 h2 (c_rval k1 k2 (c_rval l1 l2 rfl))) rfl rfl q rfl
theorem e_call1 {me : ME} {ρ : Fm} {d r : D} {f : Fn} (h : EV me ρ d) (e : f [.imm d] = some (.imm r, [none])) : EV (mCall f (rVal me rNil)) ρ r := ev_val (v_call1 h e)
theorem e_call2 {me mf : ME} {ρ : Fm} {d e r : D} {f : Fn} (h : EV me ρ d) (k : EV mf ρ e) (q : f [.imm d, .imm e] = some (.imm r, [none, none])) : EV (mCall f (rVal me (rVal mf rNil))) ρ r := ev_val (v_call2 h k q)
theorem e_call3 {me mf mg : ME} {ρ : Fm} {d e g r : D} {f : Fn} (h : EV me ρ d) (k : EV mf ρ e) (l : EV mg ρ g) (q : f [.imm d, .imm e, .imm g] = some (.imm r, [none, none, none])) : EV (mCall f (rVal me (rVal mf (rVal mg rNil)))) ρ r := ev_val (v_call3 h k l q)
def EA (ma : MA) (ρ : Fm) (ds : List D) : Prop := ma ρ = some (ds, ρ)
theorem ea_nil {ρ : Fm} : EA mNil ρ [] := rfl
theorem ea_cons {me : ME} {ma : MA} {ρ : Fm} {d : D} {ds : List D} (h : EV me ρ d) (k : EA ma ρ ds) : EA (mCons me ma) ρ (d :: ds) := by
  obtain ⟨pr, h1, h2, _⟩ := h
  exact c_acons h1 h2 k
theorem v_lst {ma : MA} {ρ : Fm} {ds : List D} (h : EA ma ρ ds) (hl : ds.length ≤ 10000) : mLst ma ρ = some (.val (.own .loc ds), ρ) := c_lst h (c_fits hl)
theorem e_tup {ma : MA} {ρ : Fm} {ds : List D} (h : EA ma ρ ds) (hl : ds.length ≤ 10000) : EV (mTup ma) ρ (.tuple ds) := ev_val (c_tup h (c_fits hl))
theorem e_bin {f : D → D → Option Sv} {ma mb : ME} {ρ : Fm} {d e r : D} (h : EV ma ρ d) (k : EV mb ρ e) (q : f d e = some (.imm r)) : EV (bin f ma mb) ρ r := by
  obtain ⟨pr, h1, _, h3⟩ := h
  obtain ⟨ps, k1, _, k3⟩ := k
  exact ev_val (c_bin h1 k1 h3 k3 q)
theorem e_un {f : D → Option Sv} {ma : ME} {ρ : Fm} {d r : D} (h : EV ma ρ d) (q : f d = some (.imm r)) : EV (un f ma) ρ r := by
  obtain ⟨pr, h1, _, h3⟩ := h
  exact ev_val (c_un h1 h3 q)
/-- an own list grows -/
theorem s_grow {i : Nat} {me : ME} {ρ : Fm} {b b2 : Kd} {ds es : List D} (h0 : ρ[i]? = some (some (.own b ds))) (h : me ρ = some (.val (.own b2 es), ρ)) (hl : ds.length + es.length ≤ 10000) (hb : b.isL = true := by rfl) (hb2 : b2.isL = true := by rfl) : mSet i (bin dAdd (mVar i) me) ρ = some (.next, ρ.set i (some (.own .loc (ds ++ es)))) := by
  cases b <;> cases b2 <;> first | exact absurd hb (by decide) | exact absurd hb2 (by decide) | (
    have hv : mVar i ρ = some (.slot i, ρ) := by unfold mVar; rw [h0]
    have hp : peek ρ (.slot i) = some (.list ds) := by unfold peek; simp only [h0]; rfl
    exact c_set (c_bin hv h hp rfl (c_addL hl)) rfl)
theorem e_grow {i : Nat} {me : ME} {ρ : Fm} {b b2 : Kd} {ds es : List D} (h0 : ρ[i]? = some (some (.own b ds))) (h : me ρ = some (.val (.own b2 es), ρ)) (hl : ds.length + es.length ≤ 10000) (hb : b.isL = true := by rfl) (hb2 : b2.isL = true := by rfl) : bin dAdd (mVar i) me ρ = some (.val (.own .loc (ds ++ es)), ρ) := by
  cases b <;> cases b2 <;> first | exact absurd hb (by decide) | exact absurd hb2 (by decide) | (
    have hv : mVar i ρ = some (.slot i, ρ) := by unfold mVar; rw [h0]
    have hp : peek ρ (.slot i) = some (.list ds) := by unfold peek; simp only [h0]; rfl
    exact c_bin hv h hp rfl (c_addL hl))
theorem v_rep {ma : MA} {ρ : Fm} {d : D} {k : Nat} (h : EA ma ρ [d]) (hk : k ≤ 1000) : mRep (mLst ma) (mC (.int (k : Int))) ρ = some (.val (.own .loc (List.replicate k d)), ρ) := by
  have h1 := v_lst h (by simp)
  have hd : decide (-(2 ^ 63) ≤ (k : Int) ∧ (k : Int) < 2 ^ 63 ∧ ([d] : List D).length * ((k : Int)).toNat ≤ sizeLine) = true := decide_eq_true ⟨by omega, by omega, by rw [Int.toNat_natCast]; simp [sizeLine]; omega⟩
  have hf : ∀ n : Nat, (List.replicate n [d]).flatten = List.replicate n d := fun n => by
    induction n with
    | zero => rfl
    | succ n ih => rw [List.replicate_succ, List.flatten_cons, ih]; rfl
  unfold mRep
  rw [h1]
  show (if decide (-(2 ^ 63) ≤ (k : Int) ∧ (k : Int) < 2 ^ 63 ∧ ([d] : List D).length * ((k : Int)).toNat ≤ sizeLine) = true then some (PR.val (Sv.own .loc (List.replicate ((k : Int)).toNat [d]).flatten), ρ) else none) = _
  rw [if_pos hd, Int.toNat_natCast, hf]

theorem c_orTT {a b : MT} {ρ ρ1 : Fm} (h : a ρ = some (true, ρ1)) : mOrT a b ρ = some (true, ρ1) := by unfold mOrT; rw [h]
theorem c_orTF {a b : MT} {ρ ρ1 : Fm} {x : Option (Bool × Fm)} (h : a ρ = some (false, ρ1)) (h2 : b ρ1 = x) : mOrT a b ρ = x := by unfold mOrT; rw [h]; exact h2
theorem t_call {me : ME} {ρ : Fm} {b : Bool} (h : me ρ = some (.val (.imm (.bool b)), ρ)) : mNotT (mTru me) ρ = some (!b, ρ) := c_not (c_tru h rfl (by cases b <;> rfl))
theorem t_tru {me : ME} {ρ : Fm} {b : Bool} (h : me ρ = some (.val (.imm (.bool b)), ρ)) : mTru me ρ = some (b, ρ) := c_tru h rfl (by cases b <;> rfl)

theorem mif_T {t : MT} {a b : ME} {ρ ρ1 : Fm} {x : Option (PR × Fm)} (h : t ρ = some (true, ρ1)) (h2 : a ρ1 = x) : mIf t a b ρ = x := by unfold mIf; rw [h]; exact h2
theorem mif_F {t : MT} {a b : ME} {ρ ρ1 : Fm} {x : Option (PR × Fm)} (h : t ρ = some (false, ρ1)) (h2 : b ρ1 = x) : mIf t a b ρ = x := by unfold mIf; rw [h]; exact h2

theorem c_cmap {α : Type} {mg : MG} {me : ME} {vs : List Nat} {ρ : Fm} (f g : α → D) : ∀ (l : List α), (∀ a ∈ l, ∃ ρ1 pr ρ3 ρ4, mg (f a) ρ = some ρ1 ∧ me ρ1 = some (pr, ρ3) ∧ frz ρ3 pr = some (g a, ρ4) ∧ wipeA ρ4 vs = ρ) → cloop mg mYes me vs (l.map f) ρ = some (l.map g, ρ)
  | [], _ => rfl
  | a :: l, h => by
    obtain ⟨ρ1, pr, ρ3, ρ4, h1, h2, h3, h4⟩ := h a (List.mem_cons_self ..)
    have ih := c_cmap f g l fun b hb => h b (List.mem_cons_of_mem _ hb)
    exact c_ccons (ρ2 := ρ1) h1 rfl h2 h3 (by rw [h4]; exact ih)

theorem v_bin {f : D → D → Option Sv} {ma mb : ME} {ρ : Fm} {d e : D} {r : Sv} (h : EV ma ρ d) (k : EV mb ρ e) (q : f d e = some r) : bin f ma mb ρ = some (.val r, ρ) := by
  obtain ⟨pr, h1, _, h3⟩ := h
  obtain ⟨ps, k1, _, k3⟩ := k
  exact c_bin h1 k1 h3 k3 q


theorem bools_of {α : Type} (g : α → Bool) : ∀ l : List α, boolsOf (l.map fun d => .bool (g d)) = some (l.map g)
  | [] => rfl
  | d :: l => by rw [List.map_cons, boolsOf, bools_of g l]; rfl
theorem all_of {α : Type} (g : α → Bool) (l : List α) : dAll (.list (l.map fun d => .bool (g d))) = some (.imm (.bool (l.all g))) := by
  show (boolsOf (l.map fun d => .bool (g d))).map _ = _
  rw [bools_of]
  simp [List.all_map, Function.comp_def]

theorem cut_to (L : List D) (k : Nat) (h : k ≤ L.length) : Vi.cutD L none (some (k : Int)) = L.take k := by
  unfold Vi.cutD
  rw [HT.sIx_none, HT.sIx_nat, Nat.min_eq_left h]
  simp

theorem c_andTT {a b : MT} {ρ ρ1 : Fm} {x : Option (Bool × Fm)} (h : a ρ = some (true, ρ1)) (h2 : b ρ1 = x) : mAndT a b ρ = x := by unfold mAndT; rw [h]; exact h2
theorem c_andTF {a b : MT} {ρ ρ1 : Fm} (h : a ρ = some (false, ρ1)) : mAndT a b ρ = some (false, ρ1) := by unfold mAndT; rw [h]
theorem fits_of {n : Nat} (h : n ≤ 10000) : fits n = true := decide_eq_true (by unfold sizeLine; omega)

end K00

namespace K00
open PySem Vi PyProof.Rows
abbrev dd (d : D) : Option Sv := some (.imm d)
abbrev ii (i : Int) : Option Sv := some (.imm (.int i))
theorem eqv_int (i j : Int) : PyData.eqv (.int i) (.int j) = (i == j) := by rw [PyData.eqv]
theorem eq_int (i j : Int) : dEq (.int i) (.int j) = some (.imm (.bool (i == j))) := by
  show some (Sv.imm (.bool (PyData.eqv (.int i) (.int j)))) = _
  rw [eqv_int]
theorem c_cons_ret {mg : MG} {m : MS} {d : D} {ds : List D} {ρ ρ1 ρ2 : Fm} {r : Sv} (h1 : mg d ρ = some ρ1) (h2 : m ρ1 = some (.ret r, ρ2)) : loop mg m (d :: ds) ρ = some (.ret r, ρ2) := by
  rw [loop, h1]
  simp only [h2]
theorem c_seqR {m n : MS} {ρ ρ1 : Fm} {r : Sv} (h : m ρ = some (.ret r, ρ1)) : mSeq m n ρ = some (.ret r, ρ1) := by unfold mSeq; rw [h]
end K00

namespace K00
open PySem Vi PyProof.Rows
def SameP (f : Fn) (d : D) : Prop := f [.imm d, .imm d] = some (.imm (.bool true), [none, none])
theorem zip_self : ∀ ds : List D, zipD ds ds = ds.map fun d => .tuple [d, d]
  | [] => rfl
  | d :: ds => by rw [zipD, zip_self ds]; rfl
theorem same_c {cl : Nat → Fn} (ds : List D) (x y : Option Sv) (h : ∀ d ∈ ds, SameP (cl 8) d) : cloop (mGtup 2 (mGcons (mN 2) (mGcons (mN 3) mGnil))) mYes (mCall (cl 8) (rVal (mVar 2) (rVal (mVar 3) rNil))) [2, 3] (zipD ds ds) [x, y, none, none] = some (ds.map fun _ => .bool true, [x, y, none, none]) := by
  rw [zip_self]
  exact c_cmap (fun d => .tuple [d, d]) (fun _ => .bool true) ds fun d hd => ⟨[x, y, dd d, dd d], _, _, _, rfl, v_call2 (ev_var (i := 2) rfl) (ev_var (i := 3) rfl) (h d hd), rfl, rfl⟩
theorem same_seq {cl : Nat → Fn} (ds : List D) (hl : ds.length ≤ 10000) (h : ∀ d ∈ ds, SameP (cl 8) d) : SameP (fn8 cl) (.list ds) ∧ SameP (fn8 cl) (.tuple ds) := by
  have ha : dAll (.list (ds.map fun _ => .bool true)) = some (.imm (.bool true)) := by
    rw [all_of (fun _ : D => true) ds, show (ds.all fun _ => true) = true from List.all_eq_true.mpr fun _ _ => rfl]
  have ee := eq_int (ds.length : Int) (ds.length : Int)
  rw [show (((ds.length : Int)) == (ds.length : Int)) = true by simp] at ee
  constructor
  · have hz : mIZip (mCons (mVar 0) (mCons (mVar 1) mNil)) [dd (.list ds), dd (.list ds), none, none] = some (zipD ds ds, [dd (.list ds), dd (.list ds), none, none]) := rfl
    have he : bin dEq (un dLen (mVar 0)) (un dLen (mVar 1)) [dd (.list ds), dd (.list ds), none, none] = some (.val (.imm (.bool true)), [dd (.list ds), dd (.list ds), none, none]) := v_bin (e_un (ev_var (i := 0) rfl) rfl) (e_un (ev_var (i := 1) rfl) rfl) ee
    have hall : un dAll (mComp (mIZip (mCons (mVar 0) (mCons (mVar 1) mNil))) (mGtup 2 (mGcons (mN 2) (mGcons (mN 3) mGnil))) mYes (mCall (cl 8) (rVal (mVar 2) (rVal (mVar 3) rNil))) [2, 3]) [dd (.list ds), dd (.list ds), none, none] = some (.val (.imm (.bool true)), [dd (.list ds), dd (.list ds), none, none]) :=
      c_un (c_comp hz rfl (same_c ds _ _ h) (c_fits (by rw [List.length_map]; exact hl)) rfl) rfl ha
    exact c_fn (ρ0 := [dd (.list ds), dd (.list ds), none, none]) rfl rfl (c_seqR (c_ifT (c_tru (d := .bool true) rfl rfl rfl) (c_seq (c_ifF (c_orTF (c_b (b := false) rfl) (c_b (b := false) rfl)) c_skip) (c_ret (c_andB (a := true) (b := true) he fun _ => hall) rfl)))) rfl
  · have hz : mIZip (mCons (mVar 0) (mCons (mVar 1) mNil)) [dd (.tuple ds), dd (.tuple ds), none, none] = some (zipD ds ds, [dd (.tuple ds), dd (.tuple ds), none, none]) := rfl
    have he : bin dEq (un dLen (mVar 0)) (un dLen (mVar 1)) [dd (.tuple ds), dd (.tuple ds), none, none] = some (.val (.imm (.bool true)), [dd (.tuple ds), dd (.tuple ds), none, none]) := v_bin (e_un (ev_var (i := 0) rfl) rfl) (e_un (ev_var (i := 1) rfl) rfl) ee
    have hall : un dAll (mComp (mIZip (mCons (mVar 0) (mCons (mVar 1) mNil))) (mGtup 2 (mGcons (mN 2) (mGcons (mN 3) mGnil))) mYes (mCall (cl 8) (rVal (mVar 2) (rVal (mVar 3) rNil))) [2, 3]) [dd (.tuple ds), dd (.tuple ds), none, none] = some (.val (.imm (.bool true)), [dd (.tuple ds), dd (.tuple ds), none, none]) :=
      c_un (c_comp hz rfl (same_c ds _ _ h) (c_fits (by rw [List.length_map]; exact hl)) rfl) rfl ha
    exact c_fn (ρ0 := [dd (.tuple ds), dd (.tuple ds), none, none]) rfl rfl (c_seqR (c_ifT (c_tru (d := .bool true) rfl rfl rfl) (c_seq (c_ifF (c_orTF (c_b (b := false) rfl) (c_b (b := false) rfl)) c_skip) (c_ret (c_andB (a := true) (b := true) he fun _ => hall) rfl)))) rfl
theorem same_int {cl : Nat → Fn} (i : Int) : SameP (fn8 cl) (.int i) := by
  have ee := eq_int i i
  rw [show (i == i) = true by simp] at ee
  have h : mAnd (un (dIsi Ty.int) (mVar 0)) (mAnd (un dNot (un (dIsi Ty.bool) (mVar 0))) (bin dEq (mVar 0) (mVar 1))) [ii i, ii i, none, none] = some (.val (.imm (.bool true)), [ii i, ii i, none, none]) :=
    c_andB (a := true) (b := true) rfl fun _ => c_andB (a := true) (b := true) rfl fun _ => v_bin (ev_var (i := 0) rfl) (ev_var (i := 1) rfl) ee
  exact c_fn (ρ0 := [ii i, ii i, none, none]) rfl rfl (c_seq (c_ifF (c_tru (d := .bool false) rfl rfl rfl) c_skip) (c_seq (c_ifF (c_orTF (c_b (b := false) rfl) (c_tru (d := .bool false) rfl rfl rfl)) c_skip) (c_ret h rfl))) rfl


theorem same_bool {cl : Nat → Fn} (b : Bool) : SameP (fn8 cl) (.bool b) := by
  show fn8 cl [.imm (.bool b), .imm (.bool b)] = some (.imm (.bool true), [none, none])
  cases b <;> kernel_rfl
/-! lists of everything -/

end K00

namespace K00
open PySem Vi PyProof.Rows
abbrev pl (i : Int) : D := .list [.str "place", .int i]
abbrev ln (i : Int) : D := .list [.str "line", .int i]
abbrev toldD (p : Int) : D := .list [pl p, ln (p + 1), pl p, ln (p + 1)]
structure LawP (cl : Nat → Fn) : Prop where
  hand : cl 12 [] = some (.imm (.bool true), [])
  c0 : ∀ i : Int, cl 9 [.imm (.int 0), .imm (.int i)] = some (.own .loc [.str "place", .int i], [none, none])
  c1 : ∀ i : Int, cl 9 [.imm (.int 1), .imm (.int i)] = some (.own .loc [.str "line", .int i], [none, none])
  c2 : ∀ i : Int, cl 9 [.imm (.int 2), .imm (.int i)] = some (.own .loc [.str "place", .int i], [none, none])
  c3 : ∀ i : Int, cl 9 [.imm (.int 3), .imm (.int i)] = some (.own .loc [.str "line", .int i], [none, none])
  same : ∀ p : Int, cl 8 [.imm (toldD p), .imm (toldD p)] = some (.imm (.bool true), [none, none])
def b1 : MS := (mSet 2 (bin dMod (un dInt (un dAbs (mVar 1))) (mC (.int 1000))))
def b2 : MS := (mSet 3 (bin dAdd (mVar 2) (mC (.int 1))))
def b3 (cl : Nat → Fn) : MS := (mSet 4 (mLst (mCons (mCall (cl 9) (rVal (mC (.int 0)) (rVal (mVar 2) rNil))) (mCons (mCall (cl 9) (rVal (mC (.int 1)) (rVal (mVar 3) rNil))) (mCons (mCall (cl 9) (rVal (mC (.int 2)) (rVal (mVar 2) rNil))) (mCons (mCall (cl 9) (rVal (mC (.int 3)) (rVal (mVar 3) rNil))) mNil))))))
def b4R : ME := (mRep (mLst (mCons (mLst (mCons (mC (.str "place")) (mCons (mVar 2) mNil))) (mCons (mLst (mCons (mC (.str "line")) (mCons (mVar 3) mNil))) mNil))) (mC (.int 2)))
def b4 (cl : Nat → Fn) : MS := (mIfS (mNotT (mTru (mCall (cl 8) (rVal (mVar 4) (rVal b4R rNil))))) (mRet (mC (.bool false))) mNext)
def bB (cl : Nat → Fn) : MS := mSeq b1 (mSeq b2 (mSeq (b3 cl) (b4 cl)))
def lI : ME := (bin dAdd (un dList (mSl (mVar 0) mNoPart (mPart (mC (.int 8))))) (mLst (mCons (mC (.int 0)) (mCons (mC (.int 1)) (mCons (mC (.int 999)) mNil)))))
theorem law_fn (cl : Nat → Fn) : fn13 cl = mFn 5 1 (mSeq (mIfS (mNotT (mTru (mCall (cl 12) rNil))) (mRet (mC (.bool false))) mNext) (mSeq (mFor (mISeq lI) (mN 1) (bB cl)) (mRet (mC (.bool true))))) := rfl
theorem body_ok {cl : Nat → Fn} (P : LawP cl) {x0 s2 s3 s4 : Option Sv} (c : Int) : ∃ y2 y3 y4, bB cl [x0, ii c, s2, s3, s4] = some (.next, [x0, ii c, y2, y3, y4]) := by
  obtain ⟨p, hp⟩ : ∃ p : Int, (if c < 0 then -c else c) % 1000 = p := ⟨_, rfl⟩
  have k1 : b1 [x0, ii c, s2, s3, s4] = some (.next, [x0, ii c, ii p, s3, s4]) := by
    have habs : dAbs (.int c) = some (.imm (.int (if c < 0 then -c else c))) := rfl
    have hmod : dMod (.int (if c < 0 then -c else c)) (.int 1000) = some (.imm (.int p)) := by rw [← hp]; rfl
    exact c_set (v_bin (e_un (f := dInt) (e_un (f := dAbs) (ev_var (i := 1) rfl) habs) rfl) ev_c hmod) rfl
  have k2 : b2 [x0, ii c, ii p, s3, s4] = some (.next, [x0, ii c, ii p, ii (p + 1), s4]) := c_set (v_bin (f := dAdd) (ev_var (i := 2) rfl) (ev_c (d := .int 1)) rfl) rfl
  have k3 : b3 cl [x0, ii c, ii p, ii (p + 1), s4] = some (.next, [x0, ii c, ii p, ii (p + 1), some (.own .loc [pl p, ln (p + 1), pl p, ln (p + 1)])]) :=
    c_set (v_lst (ea_cons (ev_own (v_call2 ev_c (ev_var (i := 2) rfl) (P.c0 p))) (ea_cons (ev_own (v_call2 ev_c (ev_var (i := 3) rfl) (P.c1 (p + 1)))) (ea_cons (ev_own (v_call2 ev_c (ev_var (i := 2) rfl) (P.c2 p))) (ea_cons (ev_own (v_call2 ev_c (ev_var (i := 3) rfl) (P.c3 (p + 1)))) ea_nil)))) (by simp)) rfl
  have hr : b4R [x0, ii c, ii p, ii (p + 1), dd (toldD p)] = some (.val (.own .loc [pl p, ln (p + 1), pl p, ln (p + 1)]), [x0, ii c, ii p, ii (p + 1), dd (toldD p)]) := rfl
  have k4 : b4 cl [x0, ii c, ii p, ii (p + 1), some (.own .loc [pl p, ln (p + 1), pl p, ln (p + 1)])] = some (.next, [x0, ii c, ii p, ii (p + 1), dd (toldD p)]) := by
    have hc : mCall (cl 8) (rVal (mVar 4) (rVal b4R rNil)) [x0, ii c, ii p, ii (p + 1), some (.own .loc [pl p, ln (p + 1), pl p, ln (p + 1)])] = some (.val (.imm (.bool true)), [x0, ii c, ii p, ii (p + 1), dd (toldD p)]) :=
      c_call (as := [.v (toldD p), .v (toldD p)]) (args := [.imm (toldD p), .imm (toldD p)]) (c_rval (ρ2 := [x0, ii c, ii p, ii (p + 1), dd (toldD p)]) rfl rfl (c_rval hr rfl rfl)) rfl rfl (P.same p) rfl
    exact c_ifF (c_not (c_tru (d := .bool true) hc rfl rfl)) rfl
  exact ⟨_, _, _, c_seq k1 (c_seq k2 (c_seq k3 k4))⟩
theorem law_loop {cl : Nat → Fn} (P : LawP cl) {x0 : Option Sv} : ∀ (cs : List Int) (s1 s2 s3 s4 : Option Sv), ∃ y1 y2 y3 y4, loop (mN 1) (bB cl) (cs.map .int) [x0, s1, s2, s3, s4] = some (.next, [x0, y1, y2, y3, y4])
  | [], s1, s2, s3, s4 => ⟨s1, s2, s3, s4, rfl⟩
  | c :: cs, s1, s2, s3, s4 => by
    obtain ⟨z2, z3, z4, e1⟩ := body_ok P (x0 := x0) (s2 := s2) (s3 := s3) (s4 := s4) c
    obtain ⟨y1, y2, y3, y4, e2⟩ := law_loop P (x0 := x0) cs (ii c) z2 z3 z4
    exact ⟨y1, y2, y3, y4, c_cons (ρ1 := [x0, ii c, s2, s3, s4]) rfl e1 e2⟩
abbrev scD (ns : List Int) : D := .dict (ns.map fun n => (.int n, .none))
theorem cut_ints (ns : List Int) (lo hi : Option Int) : ∃ ms : List Int, Vi.cutD (ns.map .int) lo hi = ms.map .int ∧ ms.length ≤ ns.length := by
  refine ⟨(ns.drop (HT.sIx ns.length 0 lo)).take (HT.sIx ns.length ns.length hi - HT.sIx ns.length 0 lo), ?_, ?_⟩
  · unfold Vi.cutD
    rw [List.length_map, ← List.map_drop, ← List.map_take]
  · rw [List.length_take, List.length_drop]; omega
theorem sc_keys (ns : List Int) : (ns.map fun n => ((.int n : D), (.none : D))).map Prod.fst = ns.map .int := by rw [List.map_map]; rfl
theorem items_ok (ns : List Int) (h : ns.length ≤ 63) : ∃ cs : List Int, mISeq lI [dd (scD ns), none, none, none, none] = some (cs.map .int, [dd (scD ns), none, none, none, none]) := by
  obtain ⟨ms, e, hl⟩ := cut_ints ns none (some 8)
  have hx := isExc_ns ns
  refine ⟨ms ++ [0, 1, 999], ?_⟩
  rw [← sc_keys] at e
  unfold scD
  generalize (ns.map fun n => ((.int n : D), (.none : D))) = kv at e hx ⊢
  have hs : mSl (mVar 0) mNoPart (mPart (mC (.int 8))) [dd (.dict kv), none, none, none, none] = some (.val (.own .loc (ms.map .int)), [dd (.dict kv), none, none, none, none]) := by
    have hc : dCut none (some 8) (.dict kv) = some (.own .loc (ms.map .int)) := by
      show (if isExc kv = false then some (Sv.own .loc (Vi.cutD (kv.map Prod.fst) none (some 8))) else none) = _
      rw [if_pos hx, e]
    show (match dCut none (some 8) (.dict kv) with
      | some s => some (PR.val s, [dd (.dict kv), none, none, none, none])
      | none => none) = _
    rw [hc]
  have h1 : un dList (mSl (mVar 0) mNoPart (mPart (mC (.int 8)))) [dd (.dict kv), none, none, none, none] = some (.val (.own .loc (ms.map .int)), [dd (.dict kv), none, none, none, none]) := c_un hs rfl rfl
  have h2 : lI [dd (.dict kv), none, none, none, none] = some (.val (.own .loc (ms.map .int ++ [.int 0, .int 1, .int 999])), [dd (.dict kv), none, none, none, none]) :=
    c_bin (s := .list (ms.map .int)) (t := .list [.int 0, .int 1, .int 999]) h1 (v_lst (ea_cons ev_c (ea_cons ev_c (ea_cons ev_c ea_nil))) (by simp)) rfl rfl (c_addL (by rw [List.length_map]; simp; omega))
  unfold mISeq
  rw [h2, List.map_append]
  rfl
theorem law_gen {cl : Nat → Fn} (P : LawP cl) (ns : List Int) (hl : ns.length ≤ 63) : fn13 cl [.imm (scD ns)] = some (.imm (.bool true), [none]) := by
  obtain ⟨cs, e⟩ := items_ok ns hl
  obtain ⟨y1, y2, y3, y4, e2⟩ := law_loop P (x0 := dd (scD ns)) cs none none none none
  have h : mCall (cl 12) rNil [dd (scD ns), none, none, none, none] = some (.val (.imm (.bool true)), [dd (scD ns), none, none, none, none]) := c_call rfl rfl rfl P.hand rfl
  rw [law_fn]
  exact c_fn (ρ0 := [dd (scD ns), none, none, none, none]) rfl rfl (c_seq (c_ifF (c_not (c_tru (d := .bool true) h rfl rfl)) rfl) (c_seq (c_for e e2) (c_ret rfl rfl))) rfl
theorem same_str {cl : Nat → Fn} : SameP (fn8 cl) (.str "place") ∧ SameP (fn8 cl) (.str "line") := by
  constructor
  · show fn8 cl [.imm (.str "place"), .imm (.str "place")] = some (.imm (.bool true), [none, none])
    kernel_rfl
  · show fn8 cl [.imm (.str "line"), .imm (.str "line")] = some (.imm (.bool true), [none, none])
    kernel_rfl
theorem told_same (K : Nat) (p : Int) : SameP (run (K + 3) 8) (toldD p) := by
  have hp : ∀ i : Int, SameP (run (K + 2) 8) (pl i) := fun i => by
    rw [rs8]
    refine (same_seq _ (by simp) fun d hd => ?_).1
    simp only [List.mem_cons, List.not_mem_nil, or_false] at hd
    rcases hd with rfl | rfl
    · rw [rs8]; exact same_str.1
    · rw [rs8]; exact same_int i
  have hl : ∀ i : Int, SameP (run (K + 2) 8) (ln i) := fun i => by
    rw [rs8]
    refine (same_seq _ (by simp) fun d hd => ?_).1
    simp only [List.mem_cons, List.not_mem_nil, or_false] at hd
    rcases hd with rfl | rfl
    · rw [rs8]; exact same_str.2
    · rw [rs8]; exact same_int i
  rw [rs8]
  refine (same_seq _ (by simp) fun d hd => ?_).1
  simp only [List.mem_cons, List.not_mem_nil, or_false] at hd
  rcases hd with rfl | rfl | rfl | rfl
  · exact hp p
  · exact hl (p + 1)
  · exact hp p
  · exact hl (p + 1)
theorem law_calls : LawP (run 59) := ⟨by kernel_rfl, fun i => by kernel_rfl, fun i => by kernel_rfl, fun i => by kernel_rfl, fun i => by kernel_rfl, fun p => told_same 56 p⟩
theorem law_true (ns : List Int) (hl : ns.length ≤ 63) : ∃ os, run 60 13 [.imm (.dict (ns.map fun n => (.int n, .none)))] = some (.imm (.bool true), os) := ⟨[none], by rw [rs13]; exact law_gen law_calls ns hl⟩
end K00

open PySem PySem.W PyProof.Rows
set_option maxHeartbeats 0 in
theorem PySem.Challenge.cw_everychange_k00_errors_holds : PySem.Challenge.rw_everychange_k00_errors.Holds := by
  w_on; o_law; k_head; (case hw => w_witness2)
  k_fill
  refine L2.walk_of (l := PySem.Challenge.rw_everychange_k00_errors) (n := 63) (k := 60) (x := "script") (CX := fun _ => L2.CX0) (sp := fun w => Vi.spD _ 1 (K00.run 60 13)) rfl (by decide) rfl ⟨rfl, by decide, by decide⟩ (fun w h Y => PySem.W.kIn_of Y) ?F (fun _ _ a ns hl _ hS => Vi.law_sp hS (K00.law_true ns hl)) (fun _ _ _ _ _ h => h)
  case F =>
    intro w mg fa h KX G hmg
    refine' K00.all_mk KX G hmg ?a8 ?l8 ?c8 ?k8 ?a9 ?l9 ?c9 ?k9 ?a10 ?l10 ?c10 ?k10 ?a11 ?l11 ?c11 ?k11 ?a12 ?l12 ?c12 ?k12 ?a13 ?l13 ?c13 ?k13 ?xa3 ?xl3 ?xs3 ?xi3 ?xt3 ?xf3 ?xc3 ?xk3 ?xK3 ?xe3 ?xy3 ?xz3 ?xw3 ?xa4 ?xl4 ?xs4 ?xi4 ?xt4 ?xf4 ?xc4 ?xk4 ?xK4 ?xe4 ?xy4 ?xz4 ?xw4 ?xa1 ?xl1 ?xs1 ?xi1 ?xt1 ?xf1 ?xc1 ?xk1 ?xK1 ?xe1 ?xy1 ?xz1 ?xw1 ?xa2 ?xl2 ?xs2 ?xi2 ?xt2 ?xf2 ?xc2 ?xk2 ?xK2 ?xe2 ?xy2 ?xz2 ?xw2 ?xa5 ?xl5 ?xs5 ?xi5 ?xt5 ?xf5 ?xc5 ?xk5 ?xK5 ?xe5 ?xy5 ?xz5 ?xw5 ?xa6 ?xl6 ?xs6 ?xi6 ?xt6 ?xf6 ?xc6 ?xk6 ?xK6 ?xe6 ?xy6 ?xz6 ?xw6 ?xd3 ?vg3 ?vh3 ?va3 ?vm3 ?vf3 ?xp1_3 ?xp2_3 ?xp3_3 ?xp4_3 ?xp5_3 ?xp6_3 ?xd4 ?vg4 ?vh4 ?va4 ?vm4 ?xp1_4 ?xp2_4 ?xp3_4 ?xp4_4 ?xp5_4 ?xp6_4 ?xd1 ?vg1 ?vh1 ?va1 ?vm1 ?vf1 ?xp1_1 ?xp2_1 ?xp3_1 ?xp4_1 ?xp5_1 ?xp6_1 ?xd2 ?vg2 ?vh2 ?va2 ?vm2 ?xp1_2 ?xp2_2 ?xp3_2 ?xp4_2 ?xp5_2 ?xp6_2 ?xd5 ?vg5 ?vh5 ?va5 ?vm5 ?xp1_5 ?xp2_5 ?xp3_5 ?xp4_5 ?xp5_5 ?xp6_5 ?xd6 ?vg6 ?vh6 ?va6 ?vm6 ?xp1_6 ?xp2_6 ?xp3_6 ?xp4_6 ?xp5_6 ?xp6_6 ?xq3_IndexError ?xq4_IndexError ?xq1_IndexError ?xq2_IndexError ?xq5_IndexError ?xq6_IndexError ?xq3_KeyError ?xq4_KeyError ?xq1_KeyError ?xq2_KeyError ?xq5_KeyError ?xq6_KeyError ?xq3_LookupError ?xq4_LookupError ?xq1_LookupError ?xq2_LookupError ?xq5_LookupError ?xq6_LookupError ?xq3_ValueError ?xq4_ValueError ?xq1_ValueError ?xq2_ValueError ?xq5_ValueError ?xq6_ValueError ?vn ?vt ?z_IndexError ?z_KeyError ?z_LookupError ?z_ValueError ?z_abs ?z_all ?z_bool ?z_int ?z_isinstance ?z_len ?z_list ?z_range ?z_str ?z_tuple ?z_zip
    (case a8 => k_is); (case l8 => k_is); (case c8 => k_is); (case k8 => k_is); (case a9 => k_is); (case l9 => k_is); (case c9 => k_is); (case k9 => k_is); (case a10 => k_is); (case l10 => k_is); (case c10 => k_is); (case k10 => k_is); (case a11 => k_is); (case l11 => k_is); (case c11 => k_is); (case k11 => k_is); (case a12 => k_is); (case l12 => k_is); (case c12 => k_is); (case k12 => k_is); (case a13 => k_is); (case l13 => k_is); (case c13 => k_is); (case k13 => k_is); (case xa3 => k_is); (case xl3 => k_is); (case xs3 => k_is); (case xi3 => k_is); (case xt3 => k_is); (case xf3 => k_is); (case xc3 => k_is); (case xk3 => k_is); (case xK3 => k_is); (case xe3 => k_is); (case xy3 => k_is); (case xz3 => k_is); (case xw3 => k_is); (case xa4 => k_is); (case xl4 => k_is); (case xs4 => k_is); (case xi4 => k_is); (case xt4 => k_is); (case xf4 => k_is); (case xc4 => k_is); (case xk4 => k_is); (case xK4 => k_is); (case xe4 => k_is); (case xy4 => k_is); (case xz4 => k_is); (case xw4 => k_is); (case xa1 => k_is); (case xl1 => k_is); (case xs1 => k_is); (case xi1 => k_is); (case xt1 => k_is); (case xf1 => k_is); (case xc1 => k_is); (case xk1 => k_is); (case xK1 => k_is); (case xe1 => k_is); (case xy1 => k_is); (case xz1 => k_is); (case xw1 => k_is); (case xa2 => k_is); (case xl2 => k_is); (case xs2 => k_is); (case xi2 => k_is); (case xt2 => k_is); (case xf2 => k_is); (case xc2 => k_is); (case xk2 => k_is); (case xK2 => k_is); (case xe2 => k_is); (case xy2 => k_is); (case xz2 => k_is); (case xw2 => k_is); (case xa5 => k_is); (case xl5 => k_is); (case xs5 => k_is); (case xi5 => k_is); (case xt5 => k_is); (case xf5 => k_is); (case xc5 => k_is); (case xk5 => k_is); (case xK5 => k_is); (case xe5 => k_is); (case xy5 => k_is); (case xz5 => k_is); (case xw5 => k_is); (case xa6 => k_is); (case xl6 => k_is); (case xs6 => k_is); (case xi6 => k_is); (case xt6 => k_is); (case xf6 => k_is); (case xc6 => k_is); (case xk6 => k_is); (case xK6 => k_is); (case xe6 => k_is); (case xy6 => k_is); (case xz6 => k_is); (case xw6 => k_is); (case xd3 => k_is); (case vg3 => k_is); (case vh3 => k_is); (case va3 => k_is); (case vm3 => k_is); (case vf3 => k_is); (case xp1_3 => k_is); (case xp2_3 => k_is); (case xp3_3 => k_is); (case xp4_3 => k_is); (case xp5_3 => k_is); (case xp6_3 => k_is); (case xd4 => k_is); (case vg4 => k_is); (case vh4 => k_is); (case va4 => k_is); (case vm4 => k_is); (case xp1_4 => k_is); (case xp2_4 => k_is); (case xp3_4 => k_is); (case xp4_4 => k_is); (case xp5_4 => k_is); (case xp6_4 => k_is); (case xd1 => k_is); (case vg1 => k_is); (case vh1 => k_is); (case va1 => k_is); (case vm1 => k_is); (case vf1 => k_is); (case xp1_1 => k_is); (case xp2_1 => k_is); (case xp3_1 => k_is); (case xp4_1 => k_is); (case xp5_1 => k_is); (case xp6_1 => k_is); (case xd2 => k_is); (case vg2 => k_is); (case vh2 => k_is); (case va2 => k_is); (case vm2 => k_is); (case xp1_2 => k_is); (case xp2_2 => k_is); (case xp3_2 => k_is); (case xp4_2 => k_is); (case xp5_2 => k_is); (case xp6_2 => k_is); (case xd5 => k_is); (case vg5 => k_is); (case vh5 => k_is); (case va5 => k_is); (case vm5 => k_is); (case xp1_5 => k_is); (case xp2_5 => k_is); (case xp3_5 => k_is); (case xp4_5 => k_is); (case xp5_5 => k_is); (case xp6_5 => k_is); (case xd6 => k_is); (case vg6 => k_is); (case vh6 => k_is); (case va6 => k_is); (case vm6 => k_is); (case xp1_6 => k_is); (case xp2_6 => k_is); (case xp3_6 => k_is); (case xp4_6 => k_is); (case xp5_6 => k_is); (case xp6_6 => k_is); (case xq3_IndexError => k_is); (case xq4_IndexError => k_is); (case xq1_IndexError => k_is); (case xq2_IndexError => k_is); (case xq5_IndexError => k_is); (case xq6_IndexError => k_is); (case xq3_KeyError => k_is); (case xq4_KeyError => k_is); (case xq1_KeyError => k_is); (case xq2_KeyError => k_is); (case xq5_KeyError => k_is); (case xq6_KeyError => k_is); (case xq3_LookupError => k_is); (case xq4_LookupError => k_is); (case xq1_LookupError => k_is); (case xq2_LookupError => k_is); (case xq5_LookupError => k_is); (case xq6_LookupError => k_is); (case xq3_ValueError => k_is); (case xq4_ValueError => k_is); (case xq1_ValueError => k_is); (case xq2_ValueError => k_is); (case xq5_ValueError => k_is); (case xq6_ValueError => k_is); (case vn => k_is); (case vt => k_is); (case z_IndexError => k_is); (case z_KeyError => k_is); (case z_LookupError => k_is); (case z_ValueError => k_is); (case z_abs => k_is); (case z_all => k_is); (case z_bool => k_is); (case z_int => k_is); (case z_isinstance => k_is); (case z_len => k_is); (case z_list => k_is); (case z_range => k_is); (case z_str => k_is); (case z_tuple => k_is); (case z_zip => k_is)

