import PyProof.Rows.All
import Wide.All
import OpenK.AllK
import Wide.FinOn
import PyProof.EqAt
import PyProof.EqKinds
import PyProof.TupleCall
import KE.BitLaws
import PyProof.ListRange
import PyProof.ListMulRoad
import PyProof.Rows.RuleM_int
import PyProof.Rows.FStr
import KE.KRevSl
import PyProof.Rows.SetFrom
import PyProof.SetRoads
import PyProof.MaxThree
import PyProof.P3Eq
import PyProof.AttrMissHeap
import PyProof.FactsAll.zip
import KE.KDictSum
import PyProof.Rows.CallKwBuiltin
import PySem.Challenge.RW_somesay_k03_deep_and_named
-- CHANGE: your row's module here, as the last of these rows
set_option Elab.async false
set_option linter.all false
set_option maxRecDepth 100000
namespace L2
open PySem PySem.Spec PyProof.Rows
abbrev Key := Sum Int Str
def keyIs : Key → Value → Bool
  | .inl k, v => Value.isInt k v
  | .inr x, v => Value.isStrOf x v
def keyH (w : World) : Key → Int
  | .inl k => hashInt k
  | .inr x => hashStr w x
theorem keyIs_shape : ∀ {k : Key} {v : Value}, keyIs k v = true → (∃ i t, k = Sum.inl i ∧ v = Value.int i t) ∨ (∃ x t, k = Sum.inr x ∧ v = Value.str x t)
  | .inl i, v, h => by
    obtain ⟨t, e⟩ := Value.isInt_shape (k := i) (v := v) h
    exact .inl ⟨i, t, rfl, e⟩
  | .inr x, v, h => by
    obtain ⟨t, e⟩ := Value.isStrOf_shape (x := x) (v := v) h
    exact .inr ⟨x, t, rfl, e⟩
theorem keyIs_int (i : Int) (t : Tok) : keyIs (.inl i) (.int i t) = true := by simp [keyIs, Value.isInt]
theorem keyIs_str (x : Str) (t : Tok) : keyIs (.inr x) (.str x t) = true := by simp [keyIs, Value.isStrOf]
theorem key_ll (a b : Int) : decide ((Sum.inl a : Key) = Sum.inl b) = (a == b) := by
  by_cases e : a = b
  · subst e; simp
  · have h : ¬ (Sum.inl a : Key) = Sum.inl b := fun q => e (Sum.inl.inj q)
    rw [decide_eq_false h]
    exact (beq_eq_false_iff_ne.mpr e).symm
theorem key_rr (a b : Str) : decide ((Sum.inr a : Key) = Sum.inr b) = decide (a = b) := by
  by_cases e : a = b
  · subst e; simp
  · have h : ¬ (Sum.inr a : Key) = Sum.inr b := fun q => e (Sum.inr.inj q)
    rw [decide_eq_false h, decide_eq_false e]
theorem key_lr (a : Int) (b : Str) : decide ((Sum.inl a : Key) = Sum.inr b) = false := decide_eq_false (fun q => nomatch q)
theorem key_rl (a : Str) (b : Int) : decide ((Sum.inr a : Key) = Sum.inl b) = false := decide_eq_false (fun q => nomatch q)
def mixKind (prog : Program) (w : World) : PySem.KeyKind prog w Key where
  is := keyIs
  hash := keyH w
  inj := fun v a b ha hb => by
    rcases keyIs_shape ha with ⟨i, t, rfl, rfl⟩ | ⟨x, t, rfl, rfl⟩
    · rcases keyIs_shape hb with ⟨j, u, rfl, e⟩ | ⟨y, u, rfl, e⟩
      · injection e with e1 _; rw [e1]
      · exact nomatch e
    · rcases keyIs_shape hb with ⟨j, u, rfl, e⟩ | ⟨y, u, rfl, e⟩
      · exact nomatch e
      · injection e with e1 _; rw [e1]
  byValue := fun k v h => by
    rcases keyIs_shape h with ⟨i, t, rfl, rfl⟩ | ⟨x, t, rfl, rfl⟩ <;> rfl
  pyHash := fun hv h => by
    rcases keyIs_shape hv with ⟨i, t, rfl, rfl⟩ | ⟨x, t, rfl, rfl⟩
    · exact wpAny_pyHash_int h
    · exact wpAny_pyHash_str h
  eqBool := fun hu hv h => by
    rcases keyIs_shape hu with ⟨i, t, rfl, rfl⟩ | ⟨x, t, rfl, rfl⟩
    · rcases keyIs_shape hv with ⟨j, u, rfl, rfl⟩ | ⟨y, u, rfl, rfl⟩
      · rw [key_ll] at h; exact wpAny_eqBool_int h
      · rw [key_lr] at h; exact SeqAt.EqAt.int_str i t y u _ _ _ _ h
    · rcases keyIs_shape hv with ⟨j, u, rfl, rfl⟩ | ⟨y, u, rfl, rfl⟩
      · rw [key_rl] at h; exact SeqAt.EqAt.str_int x t j u _ _ _ _ h
      · rw [key_rr] at h; exact wpAny_eqBool_str h
  «strs» := fun k x t v h => by
    rcases keyIs_shape h with ⟨i, u, rfl, e⟩ | ⟨y, u, rfl, e⟩
    · exact nomatch e
    · injection e with e1 _
      subst e1
      cases v <;> rfl
theorem mixKind_int (prog : Program) (w : World) (i : Int) (t : Tok) : (mixKind prog w).is (.inl i) (.int i t) = true := keyIs_int i t
theorem mixKind_str (prog : Program) (w : World) (x : Str) (t : Tok) : (mixKind prog w).is (.inr x) (.str x t) = true := keyIs_str x t
end L2
namespace L2
open PySem PySem.Spec PyProof.Rows
inductive V where
  | non | bl (b : Bool) | int (i : Int) | str (x : Str) | byt (b : Array UInt8) | flt (b : UInt64) | ref (a : Addr) | ty (n : String)
  deriving DecidableEq
def RelV : V → Value → Prop
  | .non, u => u = Value.none
  | .bl b, u => u = Value.bool b
  | .int i, u => ∃ t, u = Value.int i t
  | .str x, u => ∃ t, u = Value.str x t
  | .byt b, u => ∃ t, u = Value.bytes b t
  | .flt b, u => ∃ t, u = Value.float b t
  | .ref a, u => u = Value.ref a
  | .ty n, u => u = Value.type n
abbrev Vals : List V → List Value → Prop := Paired RelV
theorem Vals.length {xs : List V} {us : List Value} (r : Vals xs us) : xs.length = us.length := Paired.length r
theorem Vals.get : ∀ {xs : List V} {us : List Value} {i : Nat} {x : V}, Vals xs us → xs[i]? = some x → ∃ u, us[i]? = some u ∧ RelV x u
  | _, _, _, _, .nil, e => by simp at e
  | _, _, 0, _, .cons r _, e => by simp at e; subst e; exact ⟨_, rfl, r⟩
  | _, _, i + 1, x, .cons _ t, e => by
    obtain ⟨u, h1, h2⟩ := Vals.get (i := i) (x := x) t (by simpa using e)
    exact ⟨u, by simpa using h1, h2⟩
theorem Vals.set {x : V} {u : Value} (r : RelV x u) : ∀ {xs : List V} {us : List Value} (i : Nat), Vals xs us → Vals (xs.set i x) (us.set i u)
  | _, _, _, .nil => .nil
  | _, _, 0, .cons _ t => .cons r t
  | _, _, i + 1, .cons q t => .cons q (Vals.set r i t)
theorem Vals.append : ∀ {xs ys : List V} {us ws : List Value}, Vals xs us → Vals ys ws → Vals (xs ++ ys) (us ++ ws)
  | _, _, _, _, .nil, s => s
  | _, _, _, _, .cons r t, s => .cons r (Vals.append t s)
theorem Vals.take : ∀ {xs : List V} {us : List Value} (n : Nat), Vals xs us → Vals (xs.take n) (us.take n)
  | _, _, 0, _ => .nil
  | _, _, _ + 1, .nil => .nil
  | _, _, n + 1, .cons r t => .cons r (Vals.take n t)
theorem Vals.drop : ∀ {xs : List V} {us : List Value} (n : Nat), Vals xs us → Vals (xs.drop n) (us.drop n)
  | _, _, 0, r => r
  | _, _, _ + 1, .nil => .nil
  | _, _, n + 1, .cons _ t => Vals.drop n t
theorem Vals.none_of : ∀ {xs : List V} {us : List Value} {i : Nat}, Vals xs us → xs[i]? = none → us[i]? = none := fun {xs us i} r e => by
  have h1 := r.length
  have h2 : xs.length ≤ i := List.getElem?_eq_none_iff.mp e
  exact List.getElem?_eq_none_iff.mpr (by omega)
def RelO : Option V → Option Value → Prop
  | some v, some u => RelV v u
  | none, none => True
  | _, _ => False
def KV {κ : Type} : List (κ × V) → List (κ × Value) → Prop := Paired fun (p : κ × V) (q : κ × Value) => p.1 = q.1 ∧ RelV p.2 q.2
def kV : Key → V
  | .inl i => .int i
  | .inr x => .str x
inductive HO where
  | lst (xs : List V)
  | tup (xs : List V)
  | dK (kvs : List (Key × V)) | dT (kvs : List (List Key × V))
  | set (S : Int → Bool) (n : Nat)
  | ins (C dx : Addr) (fs : List (Str × V))
  | own (x : Addr)
  | xd (fs : List (Str × V))
  | met (f x : Addr)
  | rng (lo hi : Int)
  | frz (o : Obj) (u : HO)
  | tbl (ps : Array Value)
  | ext (φ : Heap → Prop)
abbrev Hp := Addr → Option HO
def upd (H : Hp) (a : Addr) (o : HO) : Hp := fun b => if b = a then some o else H b
theorem upd_same {H : Hp} {a : Addr} {o : HO} : upd H a o a = some o := by unfold upd; rw [if_pos rfl]
theorem upd_ne {H : Hp} {a b : Addr} {o : HO} (h : b ≠ a) : upd H a o b = H b := by unfold upd; rw [if_neg h]
theorem ne_of {H : Hp} {a b : Addr} {o u : HO} (h : H a = some o) (h' : H b = some u) (d : o ≠ u) : a ≠ b := by
  intro e; subst e; rw [h] at h'; exact d (Option.some.inj h')
theorem ne_of_none {H : Hp} {a b : Addr} {o : HO} (h : H a = some o) (h' : H b = none) : a ≠ b := by
  intro e; subst e; rw [h] at h'; cases h'
section
variable (P : Program) (w : World)
def ObjOk (H : Hp) (h : Heap) (a : Addr) : HO → Prop
  | .lst xs => xs.length ≤ sizeLine ∧ ∃ (its : List Value) (n : Nat), Vals xs its ∧ h.get? a = some { cls := .type "list", data := .seq its.toArray n }
  | .tup xs => xs.length ≤ sizeLine ∧ ∃ its : List Value, Vals xs its ∧ IsTup h a its.toArray
  | .dK kvs => kvs.length ≤ sizeLine ∧ (a == sysModules) = false ∧ ∃ vs, KV kvs vs ∧ h.DictOf (mixKind P w) a vs
  | .dT kvs => kvs.length ≤ sizeLine ∧ (a == sysModules) = false ∧ ∃ xs : List (List Key × Addr × Value),
      Paired (fun (p : List Key × V) (q : List Key × Addr × Value) => p.1 = q.1 ∧ H q.2.1 = some (.tup (p.1.map kV)) ∧ RelV p.2 q.2.2) kvs xs ∧
      ∃ o es ep, h.get? a = some o ∧ o.ExactDict ∧ o.data = .dict es ep ∧ es.toList = xs.map (entryOfKey (tupleKind (mixKind P w))) ∧ (xs.map (·.1)).Nodup
  | .set S n => h.SetOf (intKind P w) a S n
  | .ins C dx fs => H dx = some (.own a) ∧ fs.length ≤ 1000 ∧ dx ≠ a ∧ h.get? a = some (PySem.W.instObj C dx) ∧
      ∃ mA, h.Ns1 dx mA ∧ (∀ f, RelO (fs.lookup f) (mA f)) ∧ PySem.Within mA (fs.map (·.1))
  | .own _ => ∃ o, h.get? a = some o
  | .xd fs => ∃ mA, h.Ns1 a mA ∧ ∀ f, RelO (fs.lookup f) (mA f)
  | .rng lo hi => ∃ t u v, h.get? a = some { cls := .type "range", data := .fields #[.int lo t, .int hi u, .int 1 v] }
  | .frz o u => h.get? a = some o ∧ ObjOk H h a u
  | .tbl ps => h.get? a = some { cls := .none, data := .fields ps }
  | .met f x => h.get? a = some (PySem.W.methodObj (.ref f) (.ref x))
  | .ext φ => φ h ∧ (∃ o, h.get? a = some o) ∧ ∀ h1 h2 : Heap, φ h1 → (∀ o, h1.get? a = some o → h2.get? a = some o) → φ h2
def HOk (H : Hp) (h : Heap) : Prop := ∀ a o, H a = some o → ObjOk P w H h a o
end
section
variable {P : Program} {w : World} {H H' : Hp} {h h' : Heap} {a : Addr} {o : HO}
theorem ObjOk.lt (x : ObjOk P w H h a o) : a < h.objs.size := by
  cases o with
  | lst xs => obtain ⟨_, _, _, _, e⟩ := x; exact Heap.lt_size e
  | tup xs => obtain ⟨_, _, _, p⟩ := x; exact p.lt
  | dK kvs => obtain ⟨_, _, _, _, o, _, _, e, _⟩ := x; exact Heap.lt_size e
  | dT kvs => obtain ⟨_, _, _, _, o, _, _, e, _⟩ := x; exact Heap.lt_size e
  | set S n => obtain ⟨o, _, _, _, e, _⟩ := x; exact Heap.lt_size e
  | ins C dx fs => obtain ⟨_, _, _, e, _⟩ := x; exact Heap.lt_size e
  | own y => obtain ⟨_, e⟩ := x; exact Heap.lt_size e
  | xd fs => obtain ⟨_, ⟨_, _, _, e, _⟩, _⟩ := x; exact Heap.lt_size e
  | rng lo hi => obtain ⟨_, _, _, e⟩ := x; exact Heap.lt_size e
  | frz ob u => obtain ⟨e, _⟩ := x; exact Heap.lt_size e
  | tbl ps => exact Heap.lt_size (show h.get? a = some _ from x)
  | met f y => exact Heap.lt_size (show h.get? a = some _ from x)
  | ext φ => obtain ⟨_, ⟨_, e⟩, _⟩ := x; exact Heap.lt_size e
theorem Paired.mapP {α β : Type} {F G : α → β → Prop} : ∀ {l₁ : List α} {l₂ : List β}, Paired F l₁ l₂ → (∀ a b, F a b → G a b) → Paired G l₁ l₂
  | _, _, .nil, _ => .nil
  | _, _, .cons r t, f => .cons (f _ _ r) (Paired.mapP t f)
theorem ObjOk.stay (x : ObjOk P w H h a o) (k : ∀ b u, (b = a ∨ H b = some (.own a)) → h.get? b = some u → h'.get? b = some u)
    (ho : ∀ b, H b = some (.own a) → H' b = some (.own a)) (ht : ∀ b xs, H b = some (.tup xs) → H' b = some (.tup xs)) : ObjOk P w H' h' a o := by
  induction o with
  | lst xs => obtain ⟨z, its, n, r, e⟩ := x; exact ⟨z, its, n, r, k _ _ (.inl rfl) e⟩
  | tup xs => obtain ⟨z, its, r, ob, e, c⟩ := x; exact ⟨z, its, r, ob, k _ _ (.inl rfl) e, c⟩
  | dK kvs => obtain ⟨z, y, vs, r, ob, es, ep, e, c⟩ := x; exact ⟨z, y, vs, r, ob, es, ep, k _ _ (.inl rfl) e, c⟩
  | dT kvs =>
    obtain ⟨z, y, xs, r, ob, es, ep, e, c⟩ := x
    exact ⟨z, y, xs, Paired.mapP r fun p q z => ⟨z.1, ht _ _ z.2.1, z.2.2⟩, ob, es, ep, k _ _ (.inl rfl) e, c⟩
  | set S n => obtain ⟨ob, es, ep, t, e, c⟩ := x; exact ⟨ob, es, ep, t, k _ _ (.inl rfl) e, c⟩
  | ins C dx fs =>
    obtain ⟨d, z, ne, e, mA, ⟨od, es, ep, e2, c⟩, r⟩ := x
    exact ⟨ho _ d, z, ne, k _ _ (.inl rfl) e, mA, ⟨od, es, ep, k _ _ (.inr d) e2, c⟩, r⟩
  | own y => obtain ⟨ob, e⟩ := x; exact ⟨ob, k _ _ (.inl rfl) e⟩
  | xd fs => obtain ⟨mA, ⟨od, es, ep, e, c⟩, r⟩ := x; exact ⟨mA, ⟨od, es, ep, k _ _ (.inl rfl) e, c⟩, r⟩
  | rng lo hi => obtain ⟨t, u, v, e⟩ := x; exact ⟨t, u, v, k _ _ (.inl rfl) e⟩
  | frz ob u ih => obtain ⟨e, q⟩ := x; exact ⟨k _ _ (.inl rfl) e, ih q⟩
  | tbl ps =>
    have e : h.get? a = some { cls := .none, data := .fields ps } := x
    show h'.get? a = some { cls := .none, data := .fields ps }
    exact k a _ (.inl rfl) e
  | met f y =>
    have e : h.get? a = some (PySem.W.methodObj (.ref f) (.ref y)) := x
    show h'.get? a = some (PySem.W.methodObj (.ref f) (.ref y))
    exact k a _ (.inl rfl) e
  | ext φ => obtain ⟨p, ⟨o, e⟩, st⟩ := x; exact ⟨st _ _ p fun o q => k _ _ (.inl rfl) q, ⟨o, k _ _ (.inl rfl) e⟩, st⟩
theorem HOk.lt (x : HOk P w H h) (e : H a = some o) : a < h.objs.size := (x a o e).lt
theorem HOk.fresh (x : HOk P w H h) (e : h.objs.size ≤ a) : H a = none := by
  cases q : H a with
  | none => rfl
  | some u => exact absurd (Nat.lt_of_lt_of_le (x.lt q) e) (Nat.lt_irrefl _)
theorem HOk.kept (x : HOk P w H h) (k : ∀ b u, h.get? b = some u → h'.get? b = some u) : HOk P w H h' := fun a o e =>
  (x a o e).stay (fun b u _ q => k b u q) (fun _ q => q) fun _ _ q => q
theorem HOk.laid (x : HOk P w H h) (k : ∀ b u, h.get? b = some u → h'.get? b = some u) (hp : h.objs.size ≤ a) (new : ObjOk P w (upd H a o) h' a o) : HOk P w (upd H a o) h' := fun b u e => by
  have hn := x.fresh hp
  by_cases hb : b = a
  · subst hb; rw [upd_same] at e; cases e; exact new
  · rw [upd_ne hb] at e
    exact (x b u e).stay (fun c v _ q => k c v q) (fun c q => by rw [upd_ne (ne_of_none q hn)]; exact q) fun c xs q => by rw [upd_ne (ne_of_none q hn)]; exact q
end
def Rd (H : Hp) (a : Addr) (u : HO) : Prop := H a = some u ∨ ∃ o, H a = some (.frz o u)
theorem Rd.of {H : Hp} {a : Addr} {u : HO} (h : H a = some u) : Rd H a u := .inl h
theorem Rd.ok {P : Program} {w : World} {H : Hp} {h : Heap} {a : Addr} {u : HO} (r : Rd H a u) (x : HOk P w H h) : ObjOk P w H h a u := by
  rcases r with r | ⟨o, r⟩
  · exact x a u r
  · obtain ⟨_, q⟩ := x a _ r
    exact q
def Mut : Option HO → Prop
  | some (.lst _) => True
  | some (.dK _) => True
  | some (.dT _) => True
  | some (.set _ _) => True
  | some (.ins _ _ _) => True
  | some (.ext _) => True
  | _ => False
section
variable {P : Program} {w : World} {H : Hp} {h h' : Heap} {x e : Addr} {o' : HO}
theorem HOk.write (ok : HOk P w H h) (mu : Mut (H x)) (he : e = x ∨ H e = some (.own x)) (k : ∀ b u, b ≠ e → h.get? b = some u → h'.get? b = some u) (heo : ∃ u, h'.get? e = some u)
    (new : ObjOk P w (upd H x o') h' x o') : HOk P w (upd H x o') h' := fun b u q => by
  have nown : ∀ c y, H c = some (.own y) → c ≠ x := fun c y r z => by subst z; rw [r] at mu; exact mu
  have ntup : ∀ c xs, H c = some (.tup xs) → c ≠ x := fun c xs r z => by subst z; rw [r] at mu; exact mu
  by_cases hb : b = x
  · subst hb; rw [upd_same] at q; cases q; exact new
  · rw [upd_ne hb] at q
    by_cases hbe : b = e
    · have q' : H b = some (.own x) := by
        rcases he with z | z
        · exact absurd (hbe.trans z) hb
        · rw [hbe]; exact z
      rw [q] at q'; cases q'
      obtain ⟨v, hv⟩ := heo
      exact ⟨v, by rw [hbe]; exact hv⟩
    · refine (ok b u q).stay (fun c v hc r => k c v ?_ r) (fun c r => by rw [upd_ne (nown c b r)]; exact r) fun c xs r => by rw [upd_ne (ntup c xs r)]; exact r
      rcases hc with rfl | hc
      · exact hbe
      · rintro rfl
        rcases he with z | z
        · exact nown c b hc z
        · rw [hc] at z; cases z; exact hb rfl
end
structure Un (fs ex : List Addr) (H H' : Hp) (h h' : Heap) : Prop where
  keep : ∀ b o, h.get? b = some o → H b = none → b ∉ fs → b ∉ ex → h'.get? b = some o
  slot : ∀ b o, h.get? b = some o → H b = none → b ∈ fs → b ∉ ex → ∃ sl, h'.get? b = some { o with slots := sl }
  free : ∀ b o, h.get? b = some o → H b = none → b ∉ ex → H' b = none
  there : ∀ b o, h.get? b = some o → b ∉ ex → ∃ o', h'.get? b = some o'
  tups : ∀ b xs, H b = some (.tup xs) → H' b = some (.tup xs)
  frzs : ∀ b o u, H b = some (.frz o u) → H' b = some (.frz o u)
  tbls : ∀ b ps, H b = some (.tbl ps) → ∃ more, H' b = some (.tbl (ps ++ more))
section
variable {fs fs' ex ex' : List Addr} {H H1 H2 : Hp} {h h1 h2 h' : Heap} {a x e : Addr} {o : HO}
theorem Un.any (u : Un fs ex H H1 h h1) {b : Addr} {ob : Obj} (q : h.get? b = some ob) (n : H b = none) (hx : b ∉ ex) : ∃ sl, h1.get? b = some { ob with slots := sl } := by
  by_cases hb : b ∈ fs
  · exact u.slot b ob q n hb hx
  · exact ⟨ob.slots, u.keep b ob q n hb hx⟩
theorem Un.trans (a : Un fs ex H H1 h h1) (b : Un fs ex H1 H2 h1 h2) : Un fs ex H H2 h h2 where
  keep := fun c ob q n hc hx => b.keep c ob (a.keep c ob q n hc hx) (a.free c ob q n hx) hc hx
  slot := fun c ob q n hc hx => by
    obtain ⟨sl, e1⟩ := a.slot c ob q n hc hx
    obtain ⟨sl', e2⟩ := b.slot c _ e1 (a.free c ob q n hx) hc hx
    exact ⟨sl', e2⟩
  free := fun c ob q n hx => by
    obtain ⟨o', e1⟩ := a.there c ob q hx
    exact b.free c o' e1 (a.free c ob q n hx) hx
  there := fun c ob q hx => by
    obtain ⟨o', e1⟩ := a.there c ob q hx
    exact b.there c o' e1 hx
  tups := fun c xs q => b.tups c xs (a.tups c xs q)
  frzs := fun c ob xs q => b.frzs c ob xs (a.frzs c ob xs q)
  tbls := fun c ps q => by
    obtain ⟨m1, e1⟩ := a.tbls c ps q
    obtain ⟨m2, e2⟩ := b.tbls c _ e1
    exact ⟨m1 ++ m2, by rw [e2, Array.append_assoc]⟩
theorem Un.kept (k : ∀ b u, h.get? b = some u → h'.get? b = some u) : Un fs ex H H h h' :=
  ⟨fun b ob q _ _ _ => k b ob q, fun b ob q _ _ _ => ⟨ob.slots, k b ob q⟩, fun _ _ _ n _ => n, fun b ob q _ => ⟨ob, k b ob q⟩, fun _ _ q => q, fun _ _ _ q => q, fun _ ps q => ⟨#[], by rw [q]; simp⟩⟩
theorem Un.refl : Un fs ex H H h h := Un.kept fun _ _ q => q
theorem Un.laid (k : ∀ b u, h.get? b = some u → h'.get? b = some u) (hp : h.objs.size ≤ a) (hn : H a = none) : Un fs ex H (upd H a o) h h' where
  keep := fun b u q _ _ _ => k b u q
  slot := fun b u q _ _ _ => ⟨u.slots, k b u q⟩
  free := fun b u q n _ => by rw [upd_ne (Nat.ne_of_lt (Nat.lt_of_lt_of_le (Heap.lt_size q) hp))]; exact n
  there := fun b u q _ => ⟨u, k b u q⟩
  tups := fun b xs q => by rw [upd_ne (ne_of_none q hn)]; exact q
  frzs := fun b u xs q => by rw [upd_ne (ne_of_none q hn)]; exact q
  tbls := fun b ps q => ⟨#[], by rw [upd_ne (ne_of_none q hn), q]; simp⟩
theorem Un.write (mu : Mut (H x)) (he : e = x ∨ H e = some (.own x)) (k : ∀ b u, b ≠ e → h.get? b = some u → h'.get? b = some u) (heo : ∃ u, h'.get? e = some u) : Un fs ex H (upd H x o) h h' := by
  have hx : ∀ b, H b = none → b ≠ x := fun b n z => by subst z; rw [n] at mu; exact mu
  have hb : ∀ b, H b = none → b ≠ e := fun b n z => by
    subst z
    rcases he with r | r
    · exact hx b n r
    · rw [n] at r; cases r
  have hm : ∀ b u, H b = some u → ¬ Mut (some u) → b ≠ x := fun b u q nm z => by subst z; rw [q] at mu; exact nm mu
  refine ⟨fun b u q n _ _ => k b u (hb b n) q, fun b u q n _ _ => ⟨u.slots, k b u (hb b n) q⟩, fun b u q n _ => by rw [upd_ne (hx b n)]; exact n, fun b u q _ => ?_,
    fun b xs q => by rw [upd_ne (hm b _ q fun z => z)]; exact q, fun b u xs q => by rw [upd_ne (hm b _ q fun z => z)]; exact q, fun b ps q => ⟨#[], by rw [upd_ne (hm b _ q fun z => z), q]; simp⟩⟩
  by_cases hbe : b = e
  · subst hbe; exact heo
  · exact ⟨u, k b u hbe q⟩
theorem Un.mono (u : Un fs ex H H1 h h1) (hs : ∀ b ∈ fs, b ∈ fs') (hx : ∀ b ∈ ex, b ∈ ex') : Un fs' ex' H H1 h h1 :=
  ⟨fun b ob q n hb he => u.keep b ob q n (fun z => hb (hs b z)) fun z => he (hx b z), fun _ _ q n _ he => u.any q n fun z => he (hx _ z), fun b ob q n he => u.free b ob q n fun z => he (hx b z), fun b ob q he => u.there b ob q fun z => he (hx b z), u.tups, u.frzs, u.tbls⟩
end
def trk (h : Heap) (H : Hp) : List Addr := (List.range h.objs.size).filter fun a => (H a).isSome
def hidT (h : Heap) (H : Hp) : Heap := PySem.W.hideAll h (trk h H)
theorem hidT_size (h : Heap) (H : Hp) : (hidT h H).objs.size = h.objs.size := PySem.W.hideAll_size _ _
theorem hidT_get {h : Heap} {H : Hp} {b : Addr} {o : Obj} (e : h.get? b = some o) (n : H b = none) : (hidT h H).get? b = some o :=
  PySem.W.hideAll_get _ e fun hm => by
    have q : (H b).isSome = true := (List.mem_filter.mp hm).2
    rw [n] at q; simp at q
theorem of_hidT {h : Heap} {H : Hp} {b : Addr} {o : Obj} (e : (hidT h H).get? b = some o) : h.get? b = some o ∧ H b = none := by
  have e' : h.get? b = some o := PySem.W.of_hideAll (trk h H) e
  refine ⟨e', ?_⟩
  cases q : H b with
  | none => rfl
  | some x =>
    have hm : b ∈ trk h H := List.mem_filter.mpr ⟨List.mem_range.mpr (Heap.lt_size e'), by simp [q]⟩
    have z : (hidT h H).get? b = none := PySem.W.hideAll_none (trk h H) hm
    rw [z] at e; cases e
def allNews (g h : Heap) (L : Addr) : List (Addr × Obj) := (List.range h.objs.size).filterMap fun a => if a = L ∨ (g.get? a).isSome = true then none else (h.get? a).map fun o => (a, o)
def rest (g h : Heap) (L d : Addr) : List (Addr × Obj) := (allNews g h L).filter fun p => decide (p.1 ≠ d)
end L2
namespace L2
open PySem PySem.Spec PyProof.Rows
structure Mod (K : PySem.W.Frag) (mg : Str → Option Value) (base : Heap) : Prop where
  kin : K.In base
  glob : base.Ns mainGlobals mg
  blt : ∃ mb, base.Ns builtinsNs mb ∧ ∀ x : Str, x ≠ "__name__" → mb x = bootBuiltins x
  nolimit : base.NoLimit
/-- the context: a def's body (or a comprehension's block) running. base: fixed through the whole law; s₀, H₀: the entry; outer: the frames whose slots others may change (a def's callers); stack: all frames that run;
   ex: iterators that were made ahead of the entry and are walked here (a comprehension's); fn: the names whose cells were made at the entry (a def: all; a comprehension's block: its own); calm: not within an except suite; pn: pins that every state bears; xe: what is wanted of an exception that leaves the code -/
structure Cx where
  prog : Program
  w : World
  K : PySem.W.Frag
  mg : Str → Option Value
  base : Heap
  A : Around
  N : List Str
  s_0 : Shared
  H_0 : Hp
  env : Env
  outer : List Env
  stack : List Env
  ex : List Addr
  fn : Str → Bool
  calm : Bool
  pn : List (Addr × Obj)
  xe : Value → Shared → Prop
def frs (l : List Env) : List Addr := l.filterMap (·.frame)
abbrev Cx.fs (X : Cx) : List Addr := frs X.outer
def Vis (sc : Scope) (x : Str) : Prop := sc.names.lookup x = some .local ∨ sc.names.lookup x = some .cell ∨ sc.names.lookup x = some .free
def Loc (sc : Scope) (x : Str) : Prop := sc.names.lookup x = some .local ∨ sc.names.lookup x = some .cell
def Look (env : Env) (h : Heap) (m : Str → Option Value) (x : Str) (u : Value) : Prop :=
  (env.kindOf x = some .local ∧ m x = some u) ∨ ((env.kindOf x = some .cell ∨ env.kindOf x = some .free) ∧ ∃ c, env.cells.lookup x = some c ∧ h.IsCell c (some u))
structure Cx.Ok (X : Cx) : Prop where
  mod : Mod X.K X.mg X.base
  kind : X.env.scope.kind = .function
  glob : X.env.globals = mainGlobals
  blt : X.env.builtins = builtinsNs
  above : X.s_0.heap.objs.size ≤ X.env.locals
  inj : ∀ x y c, X.env.cells.lookup x = some c → X.env.cells.lookup y = some c → x = y
  has : ∀ x, (X.env.kindOf x = some .cell ∨ X.env.kindOf x = some .free) → ∃ c, X.env.cells.lookup x = some c
  cab : ∀ x c, X.fn x = true → X.env.cells.lookup x = some c → X.s_0.heap.objs.size ≤ c
  hd : X.calm = true → X.A.handled = none
  frames : X.A.frames = some X.stack
  stk : X.stack = X.outer ∨ (X.stack = X.env :: X.outer ∧ X.env.frame = some X.env.locals)
  exf : ∀ b ∈ X.ex, b ≠ X.env.locals ∧ ∀ x c, X.env.cells.lookup x = some c → c ≠ b
  bs : ∀ b o, X.base.get? b = some o → X.s_0.heap.get? b = some o ∧ X.H_0 b = none
  bsz : X.base.objs.size ≤ X.s_0.heap.objs.size
  noex : ∀ b o, X.base.get? b = some o → b ∉ X.ex
  exfs : ∀ b ∈ X.ex, b ∉ X.fs
  funs : X.s_0.heap.FunFrames X.base X.outer
  frf : ∀ b ∈ X.fs, X.H_0 b = none
def GOk (a b : Array GenState) : Prop := AllBare b ∧ a.size ≤ b.size
theorem GOk.tr {a b c : Array GenState} (x : GOk a b) (y : GOk b c) : GOk a c := ⟨y.1, Nat.le_trans x.2 y.2⟩
structure Inv (X : Cx) (pins : List (Addr × Obj)) (σ : List (Option V)) (H : Hp) (s : Shared) : Prop where
  ok : X.Ok
  os : s.os = X.s_0.os
  bare : GOk X.s_0.gens s.gens
  base : Un X.fs X.ex X.H_0 H X.s_0.heap s.heap
  loc : ∃ m, s.heap.Ns X.env.locals m ∧ ∀ (i : Nat) (x : Str) (v : V), X.N[i]? = some x → σ[i]? = some (some v) → Vis X.env.scope x → ∃ u, RelV v u ∧ Look X.env s.heap m x u
  cell : ∀ x c, X.env.cells.lookup x = some c → ∃ v, s.heap.IsCell c v
  free : H X.env.locals = none
  freeC : ∀ x c, X.env.cells.lookup x = some c → H c = none
  pin : ∀ p ∈ X.pn ++ pins, s.heap.get? p.1 = some p.2 ∧ H p.1 = none ∧ p.1 ≠ X.env.locals ∧ p.1 ∉ X.fs ∧ ∀ v, p.2.data ≠ .cell v
  hok : HOk X.prog X.w H s.heap
  len : σ.length = X.N.length
section
variable {X : Cx} {pins : List (Addr × Obj)} {σ : List (Option V)} {H H' : Hp} {s : Shared} {h' : Heap}
theorem Cx.Ok.nofr (ok : X.Ok) {b : Addr} {o : Obj} (e : X.base.get? b = some o) : b ∉ X.fs := fun hb => by
  have := (ok.funs.mem hb).1
  rw [e] at this; cases this
theorem Inv.bs (I : Inv X pins σ H s) : ∀ b o, X.base.get? b = some o → s.heap.get? b = some o ∧ H b = none := fun b o e =>
  ⟨I.base.keep b o (I.ok.bs b o e).1 (I.ok.bs b o e).2 (I.ok.nofr e) (I.ok.noex b o e), I.base.free b o (I.ok.bs b o e).1 (I.ok.bs b o e).2 (I.ok.noex b o e)⟩
theorem Inv.bk (I : Inv X pins σ H s) : ∀ b o, X.base.get? b = some o → s.heap.get? b = some o := fun b o e => (I.bs b o e).1
theorem Inv.mod (I : Inv X pins σ H s) : Mod X.K X.mg X.base := I.ok.mod
theorem Inv.kIn (I : Inv X pins σ H s) : X.K.In s.heap := I.ok.mod.kin.keeps I.bk
theorem Inv.nolimit (I : Inv X pins σ H s) : s.heap.NoLimit := I.ok.mod.nolimit.keeps I.bk
theorem Inv.fr (I : Inv X pins σ H s) : ∃ m, Fr X.base X.env.locals s.heap m :=
  let ⟨m, hn, _⟩ := I.loc
  ⟨m, hn, I.bk, Nat.le_trans I.ok.bsz I.ok.above⟩
theorem Inv.lt (I : Inv X pins σ H s) : X.env.locals < s.heap.objs.size := let ⟨_, hn, _⟩ := I.loc; hn.lt
theorem Inv.sz (I : Inv X pins σ H s) : X.s_0.heap.objs.size ≤ s.heap.objs.size := Nat.le_trans I.ok.above (Nat.le_of_lt I.lt)
theorem Inv.nofs (I : Inv X pins σ H s) {a : Addr} (h : s.heap.objs.size ≤ a) : a ∉ X.fs := fun hb => by
  obtain ⟨_, o, ho, _⟩ := I.ok.funs.mem hb
  exact absurd (Nat.lt_of_lt_of_le (Heap.lt_size ho) (Nat.le_trans I.sz h)) (Nat.lt_irrefl _)
theorem Inv.cne (I : Inv X pins σ H s) : ∀ x c, X.env.cells.lookup x = some c → c ≠ X.env.locals := fun x c e z => by
  obtain ⟨v, o, ho, hd⟩ := I.cell x c e
  obtain ⟨m, ⟨o', es, ep, ho', hd', _⟩, _⟩ := I.loc
  rw [z, ho'] at ho; cases ho; rw [hd'] at hd; cases hd
theorem Inv.funs (I : Inv X pins σ H s) : s.heap.FunFrames X.base X.outer := by
  have all : ∀ (l : List Env), (∀ b ∈ frs l, b ∈ X.fs) → X.s_0.heap.FunFrames X.base l → s.heap.FunFrames X.base l := by
    intro l
    induction l with
    | nil => intro _ _; trivial
    | cons env r ih =>
      intro hs hl
      obtain ⟨hk, ⟨L, o, hf, hn, ho, hd⟩, hr⟩ := hl
      have hL : L ∈ X.fs := hs L (by unfold frs; rw [List.filterMap_cons, hf]; exact List.mem_cons_self)
      obtain ⟨sl, e⟩ := I.base.slot L o ho (I.ok.frf L hL) hL fun z => I.ok.exfs L z hL
      exact ⟨hk, ⟨L, _, hf, hn, e, hd⟩, ih (fun b hb => hs b (by unfold frs; rw [List.filterMap_cons, hf]; exact List.mem_cons_of_mem _ hb)) hr⟩
  exact all X.outer (fun _ hb => hb) I.ok.funs
theorem Inv.stack (I : Inv X pins σ H s) : s.heap.FunFrames X.base X.stack := by
  rcases I.ok.stk with e | ⟨e, hf⟩
  · rw [e]; exact I.funs
  · rw [e]
    obtain ⟨m, hn, _⟩ := I.loc
    refine .cons (by rw [I.ok.kind]; decide) hf hn ?_ I.funs
    exact Heap.get?_none_of_le (Nat.le_trans I.ok.bsz I.ok.above)
theorem Inv.stkSub (I : Inv X pins σ H s) : ∀ b ∈ frs X.stack, b ∈ X.env.locals :: X.fs := fun b hb => by
  rcases I.ok.stk with e | ⟨e, hf⟩
  · rw [e] at hb; exact List.mem_cons_of_mem _ hb
  · rw [e] at hb
    unfold frs at hb
    rw [List.filterMap_cons, hf] at hb
    exact hb
theorem Inv.stkFree (I : Inv X pins σ H s) : ∀ b ∈ frs X.stack, H b = none := fun b hb => by
  rcases List.mem_cons.mp (I.stkSub b hb) with e | hb
  · rw [e]; exact I.free
  · obtain ⟨_, o, ho, _⟩ := I.ok.funs.mem hb
    exact I.base.free b o ho (I.ok.frf b hb) fun z => I.ok.exfs b z hb
theorem Inv.step {g' : Array GenState} {t' : Nat} {d' : Drawn} {ch : List Addr} (I : Inv X pins σ H s)
    (hch : ∀ b ∈ ch, (b ∈ X.ex ∨ X.s_0.heap.objs.size ≤ b) ∧ b ≠ X.env.locals ∧ (∀ x c, X.env.cells.lookup x = some c → c ≠ b) ∧ ∀ p ∈ X.pn ++ pins, p.1 ≠ b)
    (keep : ∀ b o, b ≠ X.env.locals → b ∉ X.fs → b ∉ ch → s.heap.get? b = some o → H b = none → h'.get? b = some o)
    (slot : ∀ b o, b ≠ X.env.locals → b ∈ X.fs → b ∉ ch → s.heap.get? b = some o → H b = none → ∃ sl, h'.get? b = some { o with slots := sl }) (free : ∀ b o, b ∉ ch → s.heap.get? b = some o → H b = none → H' b = none)
    (there : ∀ b o, b ∉ ch → s.heap.get? b = some o → ∃ o', h'.get? b = some o')
    (tups : ∀ b xs, H b = some (.tup xs) → H' b = some (.tup xs)) (frzs : ∀ b o u, H b = some (.frz o u) → H' b = some (.frz o u)) (tbls : ∀ b ps, H b = some (.tbl ps) → ∃ more, H' b = some (.tbl (ps ++ more)))
    (ns : ∀ m, s.heap.Ns X.env.locals m → h'.Ns X.env.locals m) (hok : HOk X.prog X.w H' h') (hg : GOk X.s_0.gens g') :
    Inv X pins σ H' { s with heap := h', gens := g', drawn := d', toks := t' } := by
  have neL : ∀ b o, X.s_0.heap.get? b = some o → b ≠ X.env.locals := fun b o e => Nat.ne_of_lt (Nat.lt_of_lt_of_le (Heap.lt_size e) I.ok.above)
  have neC : ∀ b o, X.s_0.heap.get? b = some o → b ∉ X.ex → b ∉ ch := fun b o e hx hb => by
    rcases (hch b hb).1 with z | z
    · exact hx z
    · exact absurd (Nat.lt_of_lt_of_le (Heap.lt_size e) z) (Nat.lt_irrefl _)
  have cellK : ∀ x c, X.env.cells.lookup x = some c → ∀ v, s.heap.IsCell c v → h'.IsCell c v := fun x c e v ⟨o, ho, hd⟩ => by
    have nch : c ∉ ch := fun z => (hch c z).2.2.1 x c e rfl
    by_cases hc : c ∈ X.fs
    · obtain ⟨sl, q⟩ := slot c o (I.cne x c e) hc nch ho (I.freeC x c e)
      exact ⟨_, q, hd⟩
    · exact ⟨o, keep c o (I.cne x c e) hc nch ho (I.freeC x c e), hd⟩
  refine ⟨I.ok, I.os, hg, ⟨fun b o e n hb hx => ?_, fun b o e n hb hx => ?_, fun b o e n hx => ?_, fun b o e hx => ?_, fun b xs e => tups b xs (I.base.tups b xs e), fun b o xs e => frzs b o xs (I.base.frzs b o xs e), fun b ps e => ?_⟩, ?_, fun x c e => ?_, ?_, fun x c e => ?_, fun p hp => ?_, hok, I.len⟩
  · exact keep b o (neL b o e) hb (neC b o e hx) (I.base.keep b o e n hb hx) (I.base.free b o e n hx)
  · obtain ⟨sl, e1⟩ := I.base.slot b o e n hb hx
    obtain ⟨sl', e2⟩ := slot b _ (neL b o e) hb (neC b o e hx) e1 (I.base.free b o e n hx)
    exact ⟨sl', e2⟩
  · obtain ⟨o', e1⟩ := I.base.there b o e hx
    exact free b o' (neC b o e hx) e1 (I.base.free b o e n hx)
  · obtain ⟨o', e1⟩ := I.base.there b o e hx
    exact there b o' (neC b o e hx) e1
  · obtain ⟨m1, e1⟩ := I.base.tbls b ps e
    obtain ⟨m2, e2⟩ := tbls b _ e1
    exact ⟨m1 ++ m2, by rw [e2, Array.append_assoc]⟩
  · obtain ⟨m, hn, hl⟩ := I.loc
    refine ⟨m, ns m hn, fun i x v e1 e2 e3 => ?_⟩
    obtain ⟨u, r, l⟩ := hl i x v e1 e2 e3
    refine ⟨u, r, ?_⟩
    rcases l with l | ⟨k, c, e, z⟩
    · exact .inl l
    · exact .inr ⟨k, c, e, cellK x c e _ z⟩
  · obtain ⟨v, z⟩ := I.cell x c e
    exact ⟨v, cellK x c e v z⟩
  · obtain ⟨m, ⟨o, _, _, ho, _⟩, _⟩ := I.loc
    exact free _ o (fun z => (hch _ z).2.1 rfl) ho I.free
  · obtain ⟨v, o, ho, hd⟩ := I.cell x c e
    exact free c o (fun z => (hch c z).2.2.1 x c e rfl) ho (I.freeC x c e)
  · obtain ⟨e, n, ne, nf, d⟩ := I.pin p hp
    have nch : p.1 ∉ ch := fun z => (hch p.1 z).2.2.2 p hp rfl
    exact ⟨keep p.1 p.2 ne nf nch e n, free p.1 p.2 nch e n, ne, nf, d⟩
theorem Inv.un {t' : Nat} (I : Inv X pins σ H s) (u : Un X.fs [] H H' s.heap h') (hok : HOk X.prog X.w H' h') : Inv X pins σ H' { s with heap := h', toks := t' } := by
  obtain ⟨m, ⟨o, es, ep, ho, r⟩, _⟩ := id I.loc
  obtain ⟨sl, hL⟩ := u.any ho I.free (by simp)
  exact I.step (g' := s.gens) (d' := s.drawn) (ch := []) (fun _ z => nomatch z) (fun b o _ hb _ e n => u.keep b o e n hb (by simp)) (fun b o _ hb _ e n => u.slot b o e n hb (by simp)) (fun b o _ e n => u.free b o e n (by simp)) (fun b o _ e => u.there b o e (by simp)) u.tups u.frzs u.tbls (fun m' hm => by
    obtain ⟨o', es', ep', ho', r'⟩ := hm
    rw [ho] at ho'; cases ho'
    exact ⟨_, es', ep', hL, r'⟩) hok I.bare
theorem Inv.call {g' : Array GenState} {t' : Nat} {d' : Drawn} {ch : List Addr} (I : Inv X pins σ H s) (u : Un (frs X.stack) ch H H' s.heap h') (hok : HOk X.prog X.w H' h') (hg : GOk X.s_0.gens g')
    (hch : ∀ b ∈ ch, (b ∈ X.ex ∨ X.s_0.heap.objs.size ≤ b) ∧ b ≠ X.env.locals ∧ (∀ x c, X.env.cells.lookup x = some c → c ≠ b) ∧ ∀ p ∈ X.pn ++ pins, p.1 ≠ b) :
    Inv X pins σ H' { s with heap := h', gens := g', drawn := d', toks := t' } := by
  obtain ⟨m, ⟨o, es, ep, ho, r⟩, _⟩ := id I.loc
  obtain ⟨sl, hL⟩ := u.any ho I.free fun z => (hch _ z).2.1 rfl
  exact I.step (ch := ch) hch (fun b o hL hb hc e n => u.keep b o e n (fun z => (List.mem_cons.mp (I.stkSub b z)).elim hL hb) hc) (fun b o _ _ hc e n => u.any e n hc) (fun b o hc e n => u.free b o e n hc) (fun b o hc e => u.there b o e hc) u.tups u.frzs u.tbls (fun m' hm => by
    obtain ⟨o', es', ep', ho', r'⟩ := hm
    rw [ho] at ho'; cases ho'
    exact ⟨_, es', ep', hL, r'⟩) hok hg
theorem Inv.turned {t' : Nat} {it : Addr} (I : Inv X pins σ H s) (k : ∀ b o, b ≠ it → s.heap.get? b = some o → h'.get? b = some o) (hn : H it = none) (hL : it ≠ X.env.locals)
    (h1 : it ∈ X.ex ∨ X.s_0.heap.objs.size ≤ it) (h2 : ∀ x c, X.env.cells.lookup x = some c → c ≠ it) (h3 : ∀ p ∈ X.pn ++ pins, p.1 ≠ it) : Inv X pins σ H { s with heap := h', toks := t' } := by
  have nit : ∀ b u, H b = some u → b ≠ it := fun b u e z => by rw [z, hn] at e; cases e
  refine I.step (g' := s.gens) (d' := s.drawn) (ch := [it]) (fun b hb => ?_) (fun b o _ _ hc e _ => k b o (fun z => hc (by simp [z])) e) (fun b o _ _ hc e _ => ⟨o.slots, k b o (fun z => hc (by simp [z])) e⟩) (fun _ _ _ _ n => n)
    (fun b o hc e => ⟨o, k b o (fun z => hc (by simp [z])) e⟩) (fun _ _ e => e) (fun _ _ _ e => e) (fun b ps e => ⟨#[], by rw [e]; simp⟩) (fun m hm => ?_) (fun b u e => ?_) I.bare
  · have e : b = it := by simpa using hb
    subst e
    exact ⟨h1, hL, h2, h3⟩
  · obtain ⟨o, es, ep, ho, r⟩ := hm
    exact ⟨o, es, ep, k _ o (Ne.symm hL) ho, r⟩
  · refine (I.hok b u e).stay (fun c v hc q => k c v ?_ q) (fun _ q => q) fun _ _ q => q
    rcases hc with z | z
    · rw [z]; exact nit b u e
    · exact nit c _ z
theorem Inv.tok (I : Inv X pins σ H s) (t : Nat) : Inv X pins σ H { s with toks := t } := I.un (h' := s.heap) (t' := t) Un.refl I.hok
theorem Inv.kept {t' : Nat} (I : Inv X pins σ H s) (k : ∀ b u, s.heap.get? b = some u → h'.get? b = some u) : Inv X pins σ H { s with heap := h', toks := t' } := I.un (Un.kept k) (I.hok.kept k)
theorem Inv.laid {a : Addr} {o : HO} {t' : Nat} (I : Inv X pins σ H s) (k : ∀ b u, s.heap.get? b = some u → h'.get? b = some u) (hp : s.heap.objs.size ≤ a) (new : ObjOk X.prog X.w (upd H a o) h' a o) :
    Inv X pins σ (upd H a o) { s with heap := h', toks := t' } := I.un (Un.laid k hp (I.hok.fresh hp)) (I.hok.laid k hp new)
theorem Inv.write {x e : Addr} {o : HO} {t' : Nat} (I : Inv X pins σ H s) (mu : Mut (H x)) (he : e = x ∨ H e = some (.own x)) (k : ∀ b u, b ≠ e → s.heap.get? b = some u → h'.get? b = some u) (heo : ∃ u, h'.get? e = some u)
    (new : ObjOk X.prog X.w (upd H x o) h' x o) : Inv X pins σ (upd H x o) { s with heap := h', toks := t' } := I.un (Un.write mu he k heo) (I.hok.write mu he k heo new)
theorem Inv.weak {σ' : List (Option V)} (I : Inv X pins σ H s) (hl : σ'.length = σ.length) (w : ∀ (i : Nat) v, σ'[i]? = some (some v) → σ[i]? = some (some v)) : Inv X pins σ' H s :=
  ⟨I.ok, I.os, I.bare, I.base, let ⟨m, hn, hl'⟩ := I.loc; ⟨m, hn, fun i x v e1 e2 e3 => hl' i x v e1 (w i v e2) e3⟩, I.cell, I.free, I.freeC, I.pin, I.hok, hl.trans I.len⟩
theorem Inv.pins_of {pins' : List (Addr × Obj)} (I : Inv X pins σ H s) (h : ∀ p ∈ pins', s.heap.get? p.1 = some p.2 ∧ H p.1 = none ∧ p.1 ≠ X.env.locals ∧ p.1 ∉ X.fs ∧ ∀ v, p.2.data ≠ .cell v) : Inv X pins' σ H s :=
  ⟨I.ok, I.os, I.bare, I.base, I.loc, I.cell, I.free, I.freeC, fun p hp => (List.mem_append.mp hp).elim (fun z => I.pin p (List.mem_append_left _ z)) (h p), I.hok, I.len⟩
theorem nodup_ix {N : List Str} (hN : N.Nodup) {i j : Nat} {x : Str} (a : N[i]? = some x) (b : N[j]? = some x) : i = j := by
  obtain ⟨h1, e1⟩ := List.getElem?_eq_some_iff.mp a
  obtain ⟨h2, e2⟩ := List.getElem?_eq_some_iff.mp b
  exact (List.getElem_inj hN).mp (e1.trans e2.symm)
theorem store_ok2 {M : Model} {A : Around} {E : Value → Shared → Prop} {i : Nat} {x : Str} {v : V} {u : Value} {Q : Unit → Shared → Prop} (I : Inv X pins σ H s) (hN : X.N.Nodup) (hi : X.N[i]? = some x) (hx : Loc X.env.scope x) (r : RelV v u)
    (h : ∀ s', Inv X pins (σ.set i (some v)) H s' → (∃ a, Heap.SameBut a s.heap s'.heap ∧ (a = X.env.locals ∨ X.env.cells.lookup x = some a)) → Q () s') (hf : X.fn x = true ∨ X.env.scope.names.lookup x = some .local := by first | exact .inl rfl | exact .inr rfl | assumption) : wpAny M A (storeName X.env x u) Q E s := by
  obtain ⟨m, hn, hl⟩ := id I.loc
  have hcls : (X.env.scope.kind == .class || (X.env.scope.kind == .module && X.env.locals != X.env.globals)) = false := by rw [I.ok.kind]; rfl
  have hiσ : i < σ.length := by rw [I.len]; exact (List.getElem?_eq_some_iff.mp hi).1
  have cne := I.cne
  have tracked : ∀ {a : Addr} {h' : Heap}, (∃ o, s.heap.get? a = some o ∧ H a = none) → Heap.SameBut a s.heap h' → HOk X.prog X.w H h' := fun {a h'} ha hs b ob e => by
    obtain ⟨_, _, hfree⟩ := ha
    refine (I.hok b ob e).stay (fun c w' hc q => (hs.2 c ?_).trans q) (fun _ q => q) fun _ _ q => q
    rintro rfl
    rcases hc with rfl | hc
    · rw [hfree] at e; cases e
    · rw [hfree] at hc; cases hc
  rcases hx with hk | hk
  · refine wpAny_storeName_local hk hn (fun h' hn' hs => ?_) hcls
    obtain ⟨oL, _, _, hoL, _⟩ := id hn
    refine h _ ⟨I.ok, I.os, I.bare, ⟨fun b o e n hb hx => ?_, fun b o e n hb hx => ?_, I.base.free, fun b o e hx => ?_, I.base.tups, I.base.frzs, I.base.tbls⟩, ⟨_, hn', fun j y v' e1 e2 e3 => ?_⟩, fun y c e => ?_, I.free, I.freeC, fun p hp => ?_, tracked ⟨oL, hoL, I.free⟩ hs, by simpa using I.len⟩ ⟨_, hs, .inl rfl⟩
    · exact (hs.2 b (Nat.ne_of_lt (Nat.lt_of_lt_of_le (Heap.lt_size e) I.ok.above))).trans (I.base.keep b o e n hb hx)
    · obtain ⟨sl, e1⟩ := I.base.slot b o e n hb hx
      exact ⟨sl, (hs.2 b (Nat.ne_of_lt (Nat.lt_of_lt_of_le (Heap.lt_size e) I.ok.above))).trans e1⟩
    · obtain ⟨o', e1⟩ := I.base.there b o e hx
      exact ⟨o', (hs.2 b (Nat.ne_of_lt (Nat.lt_of_lt_of_le (Heap.lt_size e) I.ok.above))).trans e1⟩
    · by_cases hj : j = i
      · subst hj
        rw [hi] at e1; cases e1
        rw [List.getElem?_set_self hiσ] at e2
        cases e2
        exact ⟨u, r, .inl ⟨hk, by simp⟩⟩
      · rw [List.getElem?_set_ne (Ne.symm hj)] at e2
        obtain ⟨u', r', q⟩ := hl j y v' e1 e2 e3
        refine ⟨u', r', ?_⟩
        rcases q with ⟨k, e⟩ | ⟨k, c, e, z⟩
        · refine .inl ⟨k, ?_⟩
          have : y ≠ x := fun e => hj (nodup_ix hN e1 (e ▸ hi))
          simp [this, e]
        · exact .inr ⟨k, c, e, z.sameBut hs (cne y c e)⟩
    · obtain ⟨w', z⟩ := I.cell y c e
      exact ⟨w', z.sameBut hs (cne y c e)⟩
    · obtain ⟨e, n, ne, nf, d⟩ := I.pin p hp
      exact ⟨(hs.2 p.1 ne).trans e, n, ne, nf, d⟩
  · have hfn : X.fn x = true := by
      rcases hf with z | z
      · exact z
      · rw [z] at hk; cases hk
    obtain ⟨c, hc⟩ := I.ok.has x (.inl hk)
    obtain ⟨w', z⟩ := I.cell x c hc
    refine wpAny_storeName_cell I.ok.kind hk hc z (fun h' hc' hs => ?_)
    obtain ⟨oc, hoc, hocd⟩ := id z
    refine h { s with heap := h' } ⟨I.ok, I.os, I.bare, ⟨fun b o e n hb hx => ?_, fun b o e n hb hx => ?_, I.base.free, fun b o e hx => ?_, I.base.tups, I.base.frzs, I.base.tbls⟩, ⟨m, hn.sameBut hs (Ne.symm (cne x c hc)), fun j y v' e1 e2 e3 => ?_⟩, fun y c' e => ?_, I.free, I.freeC, fun p hp => ?_, tracked ⟨oc, hoc, I.freeC x c hc⟩ hs, by simpa using I.len⟩ ⟨c, hs, .inr hc⟩
    · exact (hs.2 b (Nat.ne_of_lt (Nat.lt_of_lt_of_le (Heap.lt_size e) (I.ok.cab x c hfn hc)))).trans (I.base.keep b o e n hb hx)
    · obtain ⟨sl, e1⟩ := I.base.slot b o e n hb hx
      exact ⟨sl, (hs.2 b (Nat.ne_of_lt (Nat.lt_of_lt_of_le (Heap.lt_size e) (I.ok.cab x c hfn hc)))).trans e1⟩
    · obtain ⟨o', e1⟩ := I.base.there b o e hx
      exact ⟨o', (hs.2 b (Nat.ne_of_lt (Nat.lt_of_lt_of_le (Heap.lt_size e) (I.ok.cab x c hfn hc)))).trans e1⟩
    · by_cases hj : j = i
      · subst hj
        rw [hi] at e1; cases e1
        rw [List.getElem?_set_self hiσ] at e2
        cases e2
        exact ⟨u, r, .inr ⟨.inl hk, c, hc, hc'⟩⟩
      · rw [List.getElem?_set_ne (Ne.symm hj)] at e2
        obtain ⟨u', r', q⟩ := hl j y v' e1 e2 e3
        refine ⟨u', r', ?_⟩
        rcases q with q | ⟨k, c', e, z'⟩
        · exact .inl q
        · refine .inr ⟨k, c', e, z'.sameBut hs ?_⟩
          rintro rfl
          exact hj (nodup_ix hN e1 (I.ok.inj _ _ _ e hc ▸ hi))
    · by_cases hcc : c' = c
      · subst hcc; exact ⟨_, hc'⟩
      · obtain ⟨w2, z2⟩ := I.cell y c' e
        exact ⟨w2, z2.sameBut hs hcc⟩
    · obtain ⟨e, n, ne, nf, d⟩ := I.pin p hp
      refine ⟨(hs.2 p.1 ?_).trans e, n, ne, nf, d⟩
      intro q
      rw [q, hoc] at e
      have q' : oc = p.2 := Option.some.inj e
      exact d w' (by rw [← q']; exact hocd)
theorem store_ok {M : Model} {A : Around} {E : Value → Shared → Prop} {i : Nat} {x : Str} {v : V} {u : Value} {Q : Unit → Shared → Prop} (I : Inv X pins σ H s) (hN : X.N.Nodup) (hi : X.N[i]? = some x) (hx : Loc X.env.scope x) (r : RelV v u)
    (h : ∀ s', Inv X pins (σ.set i (some v)) H s' → Q () s') (hf : X.fn x = true ∨ X.env.scope.names.lookup x = some .local := by first | exact .inl rfl | exact .inr rfl | assumption) : wpAny M A (storeName X.env x u) Q E s :=
  store_ok2 I hN hi hx r (fun s' I' _ => h s' I') hf
theorem Inv.call' {s' : Shared} {ch : List Addr} (I : Inv X pins σ H s) (ho : s'.os = s.os) (u : Un (frs X.stack) ch H H' s.heap s'.heap) (hok : HOk X.prog X.w H' s'.heap) (hg : GOk X.s_0.gens s'.gens)
    (hch : ∀ b ∈ ch, (b ∈ X.ex ∨ X.s_0.heap.objs.size ≤ b) ∧ b ≠ X.env.locals ∧ (∀ x c, X.env.cells.lookup x = some c → c ≠ b) ∧ ∀ p ∈ X.pn ++ pins, p.1 ≠ b) : Inv X pins σ H' s' := by
  obtain ⟨h', g', d', t', o'⟩ := s'
  have e : o' = s.os := ho
  subst e
  exact I.call (g' := g') (t' := t') (d' := d') u hok hg hch
end
abbrev XK := Value → Option Addr → Hp → Prop
abbrev St := List (Option V)
abbrev VK := V → Hp → Prop
abbrev TE := St → Hp → VK → Prop
abbrev TT := St → Hp → (Bool → Hp → Prop) → Prop
abbrev TA := St → Hp → (List V → Hp → Prop) → Prop
structure Ends where
  nx : St → Hp → Prop
  rt : VK
  bk : St → Hp → Prop := fun _ _ => False
  ct : St → Hp → Prop := fun _ _ => False
abbrev TS := Ends → St → Hp → Prop
def EP (X : Cx) (pins : List (Addr × Obj)) (σ : St) (Q : VK) (u : Value) (s' : Shared) : Prop := ∃ v H', Inv X pins σ H' s' ∧ RelV v u ∧ Q v H'
def TP (X : Cx) (pins : List (Addr × Obj)) (σ : St) (Q : Bool → Hp → Prop) (b : Bool) (s' : Shared) : Prop := ∃ H', Inv X pins σ H' s' ∧ Q b H'
def AP (X : Cx) (pins : List (Addr × Obj)) (σ : St) (Q : List V → Hp → Prop) (us : List Value) (s' : Shared) : Prop := ∃ vs H', Inv X pins σ H' s' ∧ Vals vs us ∧ Q vs H'
def SP (X : Cx) (pins : List (Addr × Obj)) (D : Ends) (f : Flow) (s' : Shared) : Prop :=
  match f with
  | .next => ∃ σ' H', Inv X pins σ' H' s' ∧ D.nx σ' H'
  | .brk => ∃ σ' H', Inv X pins σ' H' s' ∧ D.bk σ' H'
  | .cont => ∃ σ' H', Inv X pins σ' H' s' ∧ D.ct σ' H'
  | .ret u => ∃ v σ' H', Inv X pins σ' H' s' ∧ RelV v u ∧ D.rt v H'
def PE (X : Cx) (e : Expr) (t : TE) : Prop :=
  ∀ (pins : List (Addr × Obj)) (s : Shared) (σ : St) (H : Hp) (Q : VK), Inv X pins σ H s → t σ H Q → wpAny (model X.prog X.w) X.A (eval e X.env) (EP X pins σ Q) X.xe s
def PT (X : Cx) (e : Expr) (t : TT) : Prop :=
  ∀ (pins : List (Addr × Obj)) (s : Shared) (σ : St) (H : Hp) (Q : Bool → Hp → Prop), Inv X pins σ H s → t σ H Q → wpAny (model X.prog X.w) X.A (isTrue e X.env (eval e X.env)) (TP X pins σ Q) X.xe s
def PW (X : Cx) (e : Expr) (t : TT) : Prop :=
  ∀ (whole : Sem Value) (pins : List (Addr × Obj)) (s : Shared) (σ : St) (H : Hp) (Q : Bool → Hp → Prop), Inv X pins σ H s → t σ H Q → wpAny (model X.prog X.w) X.A (isTrue e X.env whole) (TP X pins σ Q) X.xe s
theorem PW.pt {X : Cx} {e : Expr} {t : TT} (h : PW X e t) : PT X e t := h _
def PA (X : Cx) (es : List Expr) (t : TA) : Prop :=
  ∀ (pos : Pos) (pins : List (Addr × Obj)) (s : Shared) (σ : St) (H : Hp) (Q : List V → Hp → Prop), Inv X pins σ H s → t σ H Q → wpAny (model X.prog X.w) X.A (spliced (backTo pos (starEach es X.env))) (AP X pins σ Q) X.xe s
def PS (X : Cx) (st : Stmt) (t : TS) : Prop :=
  ∀ (pins : List (Addr × Obj)) (s : Shared) (σ : St) (H : Hp) (D : Ends), Inv X pins σ H s → t D σ H → wpAny (model X.prog X.w) X.A (exec st X.env) (SP X pins D) X.xe s
def PSs (X : Cx) (st : List Stmt) (t : TS) : Prop :=
  ∀ (pins : List (Addr × Obj)) (s : Shared) (σ : St) (H : Hp) (D : Ends), Inv X pins σ H s → t D σ H → wpAny (model X.prog X.w) X.A (execs st X.env) (SP X pins D) X.xe s
theorem thn {α : Type} {t : Sem α} {Q Q' : α → Shared → Prop} {M : Model} {A : Around} {E : Value → Shared → Prop} {s : Shared} (h : wpAny M A t Q E s) (hQ : ∀ a s, Q a s → Q' a s) : wpAny M A t Q' E s := wpAny_mono h hQ fun _ _ x => x
end L2
namespace L2
open PySem PySem.Spec PyProof.Rows
section
variable {X : Cx}
def tVar (i : Nat) : TE := fun σ H Q => ∃ v, σ[i]? = some (some v) ∧ Q v H
def tC (v : V) : TE := fun _ H Q => Q v H
theorem pe_var {i : Nat} {x : Str} {pos : Pos} (hN : X.N[i]? = some x) (hv : Vis X.env.scope x) (hd : (x == ("__debug__" : Str)) = false := by decide) (hcd : (x == ("__classdict__" : Str)) = false := by decide) : PE X (.Name x pos) (tVar i) := by
  intro pins s σ H Q I h
  obtain ⟨v, e, h⟩ := h
  obtain ⟨m, hn, hl⟩ := I.loc
  obtain ⟨u, r, l⟩ := hl i x v hN e hv
  have fin : EP X pins σ Q u s := ⟨v, H, I, r, h⟩
  rcases l with ⟨hk, hm⟩ | ⟨hk, c, hc, hcell⟩
  · exact wpAny_Name (wpAny_loadName_local I.ok.kind hk hn hm fin) hd
  · rcases hk with hk | hk
    · exact wpAny_Name (wpAny_loadName_cell I.ok.kind hk hc hcell fin) hd
    · exact wpAny_Name (wpAny_loadName_free I.ok.kind hk hc hcell fin hcd) hd
theorem pe_int {i j pos} : PE X (.Constant (.int i) j pos) (tC (.int i)) := fun _ _ _ H _ I h => wpAny_Constant_int ⟨.int i, H, I.tok _, ⟨_, rfl⟩, h⟩
theorem pe_bl {b j pos} : PE X (.Constant (.bool b) j pos) (tC (.bl b)) := fun _ _ _ H _ I h => Constant_bool ⟨.bl b, H, I, rfl, h⟩
theorem pe_non {j pos} : PE X (.Constant .none j pos) (tC .non) := fun _ _ _ H _ I h => Constant_none ⟨.non, H, I, rfl, h⟩
theorem pe_str {x j pos} : PE X (.Constant (.str x) j pos) (tC (.str x)) := fun _ _ _ H _ I h => Calls.Constant_str ⟨.str x, H, I.tok _, ⟨_, rfl⟩, h⟩
def Gl (X : Cx) (x : Str) : Prop := X.env.kindOf x = some .globalImplicit
theorem ld_glob {E : Value → Shared → Prop} {pins : List (Addr × Obj)} {s : Shared} {σ : St} {H : Hp} {x : Str} {u : Value} {pos : Pos} {Q : Value → Shared → Prop} (I : Inv X pins σ H s) (hg : Gl X x) (hm : X.mg x = some u) (h : Q u s)
    (hd : (x == ("__debug__" : Str)) = false := by decide) : wpAny (model X.prog X.w) X.A (eval (.Name x pos) X.env) Q E s :=
  Calls.Name_function_global I.ok.kind hg (Calls.loadGlobal_global (by rw [I.ok.glob]; exact I.mod.glob.keeps I.bk) hm h) hd
theorem ld_blt {E : Value → Shared → Prop} {pins : List (Addr × Obj)} {s : Shared} {σ : St} {H : Hp} {x : Str} {u : Value} {pos : Pos} {Q : Value → Shared → Prop} (I : Inv X pins σ H s) (hg : Gl X x) (hm : X.mg x = none) (hv : bootBuiltins x = some u) (h : Q u s)
    (hn : x ≠ "__name__" := by decide) (hd : (x == ("__debug__" : Str)) = false := by decide) : wpAny (model X.prog X.w) X.A (eval (.Name x pos) X.env) Q E s := by
  obtain ⟨mb, h1, h2⟩ := I.mod.blt
  exact Calls.Name_function_global I.ok.kind hg (Calls.loadGlobal_builtin (by rw [I.ok.glob]; exact I.mod.glob.keeps I.bk) hm (by rw [I.ok.blt]; exact h1.keeps I.bk) ((h2 x hn).trans hv) h) hd
theorem pe_glob {x : Str} {v : V} {u : Value} {pos : Pos} (hg : Gl X x) (hm : X.mg x = some u) (r : RelV v u) (hd : (x == ("__debug__" : Str)) = false := by decide) : PE X (.Name x pos) (tC v) :=
  fun _ _ _ H _ I h => ld_glob I hg hm ⟨v, H, I, r, h⟩ hd
theorem pe_bltn {x : Str} {v : V} {u : Value} {pos : Pos} (hg : Gl X x) (hm : X.mg x = none) (hv : bootBuiltins x = some u) (r : RelV v u) (hn : x ≠ "__name__" := by decide) (hd : (x == ("__debug__" : Str)) = false := by decide) : PE X (.Name x pos) (tC v) :=
  fun _ _ _ H _ I h => ld_blt I hg hm hv ⟨v, H, I, r, h⟩ hn hd
def t2I (ta tb : TE) (k : Int → Int → Hp → Prop) : St → Hp → Prop := fun σ H => ta σ H fun x H1 => tb σ H1 fun y H2 => ∃ i j, x = .int i ∧ y = .int j ∧ k i j H2
def tAdd (ta tb : TE) : TE := fun σ H Q => t2I ta tb (fun i j H2 => Q (.int (i + j)) H2) σ H
def tSub (ta tb : TE) : TE := fun σ H Q => t2I ta tb (fun i j H2 => Q (.int (i - j)) H2) σ H
def tMul (ta tb : TE) : TE := fun σ H Q => t2I ta tb (fun i j H2 => (-(2 ^ 64) < i ∧ i < 2 ^ 64) ∧ Q (.int (i * j)) H2) σ H
variable {a b : Expr} {ta tb : TE} {pos : Pos}
def PC (X : Cx) (op : CmpOp) (a b : Expr) (t : TE) : Prop :=
  ∀ (pins : List (Addr × Obj)) (s : Shared) (σ : St) (H : Hp) (Q : VK), Inv X pins σ H s → t σ H Q →
    wpAny (model X.prog X.w) X.A (eval a X.env) (fun v s₁ => wpAny (model X.prog X.w) X.A (eval b X.env) (fun u s₂ => wpAny (model X.prog X.w) X.A (compareOp op v u) (EP X pins σ Q) X.xe s₂) X.xe s₁) X.xe s
def tCmp (p : Int → Int → Bool) (ta tb : TE) : TE := fun σ H Q => t2I ta tb (fun i j H2 => Q (.bl (p i j)) H2) σ H
abbrev tLt : TE → TE → TE := tCmp fun i j => decide (i < j)
abbrev tLe : TE → TE → TE := tCmp fun i j => decide (i ≤ j)
abbrev tGt : TE → TE → TE := tCmp fun i j => decide (j < i)
abbrev tGe : TE → TE → TE := tCmp fun i j => decide (j ≤ i)
abbrev tEqI : TE → TE → TE := tCmp fun i j => decide (i = j)
abbrev tNeI : TE → TE → TE := tCmp fun i j => !decide (i = j)
def tIsN (ta : TE) : TE := fun σ H Q => ta σ H fun x H1 => Q (.bl (decide (x = .non))) H1
def tNotN (ta : TE) : TE := fun σ H Q => ta σ H fun x H1 => Q (.bl (!decide (x = .non))) H1
def tB (t : TE) : TT := fun σ H Q => t σ H fun x H1 => ∃ c, x = .bl c ∧ Q c H1
variable {tA tB' : TT} {rest : List Expr}
def tAnd (t u : TT) : TT := fun σ H Q => t σ H fun c H1 => if c = true then u σ H1 Q else Q false H1
def tOr (t u : TT) : TT := fun σ H Q => t σ H fun c H1 => if c = true then Q true H1 else u σ H1 Q
def tNot (t : TT) : TT := fun σ H Q => t σ H fun c H1 => Q (!c) H1
theorem pw_or1 (ha : PT X a tA) : PW X (.BoolOp .Or [a] pos) tA := by
  intro wh pins s σ H Q I h
  refine isTrue_or (thn (ha pins s σ H Q I h) fun c s1 e => ?_)
  cases c with
  | false => exact isTrue_or_nil e
  | true => exact e
theorem pw_or (ha : PT X a tA) (hb : PW X (.BoolOp .Or (b :: rest) pos) tB') : PW X (.BoolOp .Or (a :: b :: rest) pos) (tOr tA tB') := by
  intro wh pins s σ H Q I h
  refine isTrue_or (thn (ha pins s σ H _ I h) fun c s1 ⟨H1, I1, q1⟩ => ?_)
  cases c with
  | true => exact ⟨H1, I1, q1⟩
  | false => exact hb wh pins s1 σ H1 Q I1 q1
theorem pt_not (ha : PT X a tA) : PT X (.UnaryOp .Not a pos) (tNot tA) := by
  intro pins s σ H Q I h
  exact isTrue_not (ha pins s σ H (fun c H1 => Q (!c) H1) I h)
def tAndV (ta tb : TE) : TE := fun σ H Q => ta σ H fun x H1 => ∃ c, x = .bl c ∧ if c = true then tb σ H1 Q else Q (.bl false) H1
def tOrV (ta tb : TE) : TE := fun σ H Q => ta σ H fun x H1 => ∃ c, x = .bl c ∧ if c = true then Q (.bl true) H1 else tb σ H1 Q
def tNotV (ta : TE) : TE := fun σ H Q => ta σ H fun x H1 => ∃ c, x = .bl c ∧ Q (.bl (!c)) H1
theorem pe_one {op} {t : TE} (h : PE X a t) : PE X (.BoolOp op [a] pos) t := fun pins s σ H Q I hw => BoolOp_one (h pins s σ H Q I hw)
def tIf (t : TT) (ta tb : TE) : TE := fun σ H Q => t σ H fun c H1 => if c = true then ta σ H1 Q else tb σ H1 Q
end
end L2
namespace L2
open PySem PySem.Spec PyProof.Rows
def SqL (K : PySem.W.Frag) (H : Hp) (a : Addr) (xs : List V) : Prop :=
  Rd H a (.lst xs) ∨
    ∃ (o : Obj) (its : Array Value) (n : Nat), K.lookup a = some o ∧ o.cls = .type "list" ∧ o.dict = none ∧ o.data = .seq its n ∧ its.size ≤ sizeLine ∧ Vals xs its.toList
def SqT (K : PySem.W.Frag) (H : Hp) (a : Addr) (xs : List V) : Prop :=
  Rd H a (.tup xs) ∨
    ∃ (o : Obj) (its : Array Value) (n : Nat), K.lookup a = some o ∧ o.cls = .type "tuple" ∧ o.data = .seq its n ∧ its.size ≤ sizeLine ∧ Vals xs its.toList
def absV : Value → Option V
  | .none => some .non
  | .bool b => some (.bl b)
  | .int i _ => some (.int i)
  | .str x _ => some (.str x)
  | .bytes b _ => some (.byt b)
  | .float b _ => some (.flt b)
  | .ref a => some (.ref a)
  | .type n => some (.ty n)
  | _ => none
theorem RelV.abs {x : V} {u : Value} (r : RelV x u) : absV u = some x := by
  cases x with
  | non => cases r; rfl
  | bl _ => cases r; rfl
  | int _ => obtain ⟨t, rfl⟩ := r; rfl
  | str _ => obtain ⟨t, rfl⟩ := r; rfl
  | byt _ => obtain ⟨t, rfl⟩ := r; rfl
  | flt _ => obtain ⟨t, rfl⟩ := r; rfl
  | ref _ => cases r; rfl
  | ty _ => cases r; rfl
theorem RelV.inj {x y : V} {u : Value} (r : RelV x u) (q : RelV y u) : x = y := Option.some.inj (r.abs.symm.trans q.abs)
theorem Vals.inj : ∀ {xs ys : List V} {us : List Value}, Vals xs us → Vals ys us → xs = ys
  | _, _, _, .nil, .nil => rfl
  | _, _, _, .cons r t, .cons r' t' => by rw [r.inj r', Vals.inj t t']
section
variable {X : Cx} {pins : List (Addr × Obj)} {σ : St} {H : Hp} {s : Shared} {a : Addr} {xs ys : List V}
theorem SqL.of {K : PySem.W.Frag} (h : H a = some (.lst xs)) : SqL K H a xs := .inl (.inl h)
theorem SqT.of {K : PySem.W.Frag} (h : H a = some (.tup xs)) : SqT K H a xs := .inl (.inl h)
theorem Inv.list (I : Inv X pins σ H s) (h : SqL X.K H a xs) : ∃ its : List Value, Vals xs its ∧ PlainL s.heap a its.toArray ∧ xs.length ≤ sizeLine := by
  rcases h with h | ⟨o, its, n, hk, hc, hd, hs, hz, r⟩
  · obtain ⟨z, its, n, r, e⟩ := h.ok I.hok
    exact ⟨its, r, ⟨_, n, e, rfl, rfl, rfl⟩, z⟩
  · refine ⟨its.toList, r, ⟨o, n, I.kIn a o hk, hc, hd, by simpa using hs⟩, ?_⟩
    have e := r.length
    simp only [Array.length_toList] at e
    omega
theorem Inv.tuple (I : Inv X pins σ H s) (h : SqT X.K H a xs) : ∃ its : List Value, Vals xs its ∧ IsTup s.heap a its.toArray ∧ xs.length ≤ sizeLine := by
  rcases h with h | ⟨o, its, n, hk, hc, hs, hz, r⟩
  · obtain ⟨z, its, r, p⟩ := h.ok I.hok
    exact ⟨its, r, p, z⟩
  · refine ⟨its.toList, r, ⟨o, I.kIn a o hk, hc, n, by simpa using hs⟩, ?_⟩
    have e := r.length
    simp only [Array.length_toList] at e
    omega
theorem Inv.list_inj (I : Inv X pins σ H s) (h : SqL X.K H a xs) (h' : SqL X.K H a ys) : xs = ys := by
  obtain ⟨its, r, ⟨o, n, e, _, _, d⟩, _⟩ := I.list h
  obtain ⟨its', r', ⟨o', n', e', _, _, d'⟩, _⟩ := I.list h'
  rw [e] at e'; cases e'
  rw [d] at d'
  injection d' with d1 _
  have : its = its' := by simpa using congrArg Array.toList d1
  subst this
  exact r.inj r'
theorem Inv.tuple_inj (I : Inv X pins σ H s) (h : SqT X.K H a xs) (h' : SqT X.K H a ys) : xs = ys := by
  obtain ⟨its, r, ⟨o, e, _, n, d⟩, _⟩ := I.tuple h
  obtain ⟨its', r', ⟨o', e', _, n', d'⟩, _⟩ := I.tuple h'
  rw [e] at e'; cases e'
  rw [d] at d'
  injection d' with d1 _
  have : its = its' := by simpa using congrArg Array.toList d1
  subst this
  exact r.inj r'
end
abbrev Cx.wish (X : Cx) (E : Value → Shared → Prop) : Cx := { X with xe := E }
abbrev Cx.nox (X : Cx) : Cx := X.wish fun _ _ => False
theorem Cx.Ok.wish {X : Cx} (ok : X.Ok) (E : Value → Shared → Prop) : (X.wish E).Ok :=
  ⟨ok.mod, ok.kind, ok.glob, ok.blt, ok.above, ok.inj, ok.has, ok.cab, ok.hd, ok.frames, ok.stk, ok.exf, ok.bs, ok.bsz, ok.noex, ok.exfs, ok.funs, ok.frf⟩
theorem Cx.Ok.unwish {X : Cx} {E : Value → Shared → Prop} (ok : (X.wish E).Ok) : X.Ok :=
  ⟨ok.mod, ok.kind, ok.glob, ok.blt, ok.above, ok.inj, ok.has, ok.cab, ok.hd, ok.frames, ok.stk, ok.exf, ok.bs, ok.bsz, ok.noex, ok.exfs, ok.funs, ok.frf⟩
section
variable {X : Cx} {pins : List (Addr × Obj)} {σ : St} {H : Hp} {s : Shared} {E : Value → Shared → Prop}
theorem Inv.wish (I : Inv X pins σ H s) (E : Value → Shared → Prop) : Inv (X.wish E) pins σ H s := ⟨I.ok.wish E, I.os, I.bare, I.base, I.loc, I.cell, I.free, I.freeC, I.pin, I.hok, I.len⟩
theorem Inv.unwish (I : Inv (X.wish E) pins σ H s) : Inv X pins σ H s := ⟨I.ok.unwish, I.os, I.bare, I.base, I.loc, I.cell, I.free, I.freeC, I.pin, I.hok, I.len⟩
theorem SP.unwish {D : Ends} {f : Flow} {s' : Shared} (h : SP (X.wish E) pins D f s') : SP X pins D f s' := by
  cases f with
  | next => obtain ⟨σ', H', I, q⟩ := h; exact ⟨σ', H', I.unwish, q⟩
  | brk => obtain ⟨σ', H', I, q⟩ := h; exact ⟨σ', H', I.unwish, q⟩
  | cont => obtain ⟨σ', H', I, q⟩ := h; exact ⟨σ', H', I.unwish, q⟩
  | ret u => obtain ⟨v, σ', H', I, r, q⟩ := h; exact ⟨v, σ', H', I.unwish, r, q⟩
theorem PE.nox {e : Expr} {t : TE} (h : PE X.nox e t) : PE X e t := fun pins s σ H Q I hw =>
  wpAny_mono (h pins s σ H Q (I.wish _) hw) (fun _ _ ⟨v, H', I', r, q⟩ => ⟨v, H', I'.unwish, r, q⟩) fun _ _ z => False.elim z
theorem PT.nox {e : Expr} {t : TT} (h : PT X.nox e t) : PT X e t := fun pins s σ H Q I hw =>
  wpAny_mono (h pins s σ H Q (I.wish _) hw) (fun _ _ ⟨H', I', q⟩ => ⟨H', I'.unwish, q⟩) fun _ _ z => False.elim z
theorem PSs.nox {st : List Stmt} {t : TS} (h : PSs X.nox st t) : PSs X st t := fun pins s σ H D I hw =>
  wpAny_mono (h pins s σ H D (I.wish _) hw) (fun _ _ q => q.unwish) fun _ _ z => False.elim z
end
section
variable {X : Cx} {st : Stmt} {rest : List Stmt} {t u : TS} {e : Expr} {te : TE} {pos : Pos}
def tNext : TS := fun D σ H => D.nx σ H
def tSeq (t u : TS) : TS := fun D σ H => t { D with nx := u D } σ H
theorem pss_nil : PSs X [] tNext := fun _ _ σ H _ I h => wpAny_execs_nil ⟨σ, H, I, h⟩
theorem pss_cons (h1 : PS X st t) (h2 : PSs X rest u) : PSs X (st :: rest) (tSeq t u) := by
  intro pins s σ H D I h
  refine wpAny_execs_cons (thn (h1 pins s σ H { D with nx := u D } I h) fun f s1 q => ?_)
  cases f with
  | next =>
    obtain ⟨σ', H', I', q⟩ := q
    exact h2 pins s1 σ' H' D I' q
  | ret v => exact q
  | brk => exact q
  | cont => exact q
theorem pss_one (h1 : PS X st t) : PSs X [st] t := by
  intro pins s σ H D I h
  refine wpAny_execs_cons (thn (h1 pins s σ H D I h) fun f s1 q => ?_)
  cases f with
  | next => exact wpAny_execs_nil q
  | ret v => exact q
  | brk => exact q
  | cont => exact q
def tBreak : TS := fun D σ H => D.bk σ H
def tCont : TS := fun D σ H => D.ct σ H
theorem ps_break : PS X (.Break pos) tBreak := fun _ _ σ H _ I h => wpAny_Break ⟨σ, H, I, h⟩
theorem Inv.quiet {pins : List (Addr × Obj)} {σ : St} {H : Hp} {s : Shared} (I : Inv X pins σ H s) : interactive X.env = false := by simp [interactive, I.ok.kind]
def tDrop (te : TE) : TS := fun D σ H => te σ H fun _ H1 => D.nx σ H1
theorem ps_expr (he : PE X e te) (hs : swapsWith e none pos.line X.env = pure false := by rfl) : PS X (.Expr e pos) (tDrop te) := by
  intro pins s σ H D I h
  exact wpAny_Expr_any (thn (he pins s σ H _ I h) fun v s1 ⟨x, H1, I1, r1, q1⟩ => ⟨σ, H1, I1, q1⟩) I.quiet hs
def tRet (te : TE) : TS := fun D σ H => te σ H D.rt
theorem ps_ret (he : PE X e te) : PS X (.Return (some e) pos) (tRet te) := by
  intro pins s σ H D I h
  exact wpAny_Return_some (thn (he pins s σ H _ I h) fun v s1 ⟨x, H1, I1, r1, q1⟩ => ⟨x, σ, H1, I1, r1, q1⟩)
def tRetN : TS := fun D _ H => D.rt .non H
def tIfS (c : TT) (t u : TS) : TS := fun D σ H => c σ H fun b H1 => if b = true then t D σ H1 else u D σ H1
theorem ps_if {c : Expr} {a b : List Stmt} {tc : TT} (hc : PT X c tc) (ha : PSs X a t) (hb : PSs X b u) : PS X (.If c a b pos) (tIfS tc t u) := by
  intro pins s σ H D I h
  refine wpAny_If (thn (hc pins s σ H _ I h) fun d s1 ⟨H1, I1, q1⟩ => ?_)
  cases d with
  | true => exact ha pins s1 σ H1 D I1 q1
  | false => exact hb pins s1 σ H1 D I1 q1
def tNever : TS := fun _ _ _ => False
theorem ps_never : PS X st tNever := fun _ _ _ _ _ _ h => h.elim
end
abbrev TG := V → St → Hp → (St → Hp → Prop) → Prop
abbrev TGs := List V → St → Hp → (St → Hp → Prop) → Prop
def PG (X : Cx) (target : Expr) (t : TG) : Prop :=
  ∀ (pins : List (Addr × Obj)) (s : Shared) (σ : St) (H : Hp) (v : V) (u : Value) (Q : St → Hp → Prop), Inv X pins σ H s → RelV v u → t v σ H Q →
    wpAny (model X.prog X.w) X.A (assign target X.env u) (fun _ s' => ∃ σ' H', Inv X pins σ' H' s' ∧ Q σ' H') X.xe s
def PGs (X : Cx) (ts : List Expr) (t : TGs) : Prop :=
  ∀ (pins : List (Addr × Obj)) (s : Shared) (σ : St) (H : Hp) (vs : List V) (us : List Value) (Q : St → Hp → Prop), Inv X pins σ H s → Vals vs us → t vs σ H Q →
    wpAny (model X.prog X.w) X.A (assignInOrder ((assignEach ts X.env).map (·.2)) us) (fun _ s' => ∃ σ' H', Inv X pins σ' H' s' ∧ Q σ' H') X.xe s
abbrev TSet := V → V → V → Hp → (Hp → Prop) → Prop
def PSet (X : Cx) (t : TSet) : Prop :=
  ∀ (pins : List (Addr × Obj)) (s : Shared) (σ : St) (H : Hp) (o i v : V) (ov iv u : Value) (Q : Hp → Prop), Inv X pins σ H s → RelV o ov → RelV i iv → RelV v u → t o i v H Q →
    wpAny (model X.prog X.w) X.A (setItem ov iv u) (fun _ s' => ∃ H', Inv X pins σ H' s' ∧ Q H') X.xe s
abbrev TIp := V → V → Hp → VK → Prop
def PIp (X : Cx) (op : Operator) (t : TIp) : Prop :=
  ∀ (pins : List (Addr × Obj)) (s : Shared) (σ : St) (H : Hp) (x y : V) (v u : Value) (Q : VK), Inv X pins σ H s → RelV x v → RelV y u → t x y H Q →
    wpAny (model X.prog X.w) X.A (inplaceOp op v u) (EP X pins σ Q) X.xe s
section
variable {X : Cx} {pos : Pos}
def gName (i : Nat) : TG := fun v σ H Q => Q (σ.set i (some v)) H
theorem pg_name {i : Nat} {x : Str} (hN : X.N.Nodup) (hi : X.N[i]? = some x) (hx : Loc X.env.scope x) (hf : X.fn x = true ∨ X.env.scope.names.lookup x = some .local := by first | exact .inl rfl | exact .inr rfl | assumption) : PG X (.Name x pos) (gName i) := by
  intro pins s σ H v u Q I r h
  exact wpAny_assign_Name (store_ok I hN hi hx r (fun s' I' => ⟨_, H, I', h⟩) hf)
def gNil : TGs := fun vs σ H Q => vs = [] ∧ Q σ H
def gCons (t : TG) (u : TGs) : TGs := fun vs σ H Q => ∃ v r, vs = v :: r ∧ t v σ H fun σ' H' => u r σ' H' Q
theorem pgs_nil : PGs X [] gNil := by
  intro pins s σ H vs us Q I r h
  obtain ⟨e, h⟩ := h
  subst e
  cases r
  exact assignInOrder_nil ⟨σ, H, I, h⟩
theorem pgs_cons {e : Expr} {es : List Expr} {t : TG} {u : TGs} (h1 : PG X e t) (h2 : PGs X es u)
    (hs : (assignEach (e :: es) X.env).map (·.2) = assign e X.env :: (assignEach es X.env).map (·.2) := by rfl) : PGs X (e :: es) (gCons t u) := by
  intro pins s σ H vs us Q I r h
  obtain ⟨v, vr, e1, h⟩ := h
  subst e1
  cases r with
  | cons r rr =>
    rw [hs]
    refine assignInOrder_cons (thn (h1 pins s σ H _ _ _ I r h) fun _ s1 ⟨σ1, H1, I1, q1⟩ => ?_)
    exact h2 pins s1 σ1 H1 _ _ Q I1 rr q1
def gTup (K : PySem.W.Frag) (n : Nat) (t : TGs) : TG := fun v σ H Q => ∃ a xs, v = .ref a ∧ SqT K H a xs ∧ xs.length = n ∧ t xs σ H Q
theorem pg_tup {es : List Expr} {k : Nat} {t : TGs} {n : Nat} (hc : X.calm = true) (h : PGs X es t)
    (hn : (assignEach es X.env).length = n := by rfl) (hst : (assignEach es X.env).findIdx? (·.1) = none := by rfl) : PG X (.Tuple es k pos) (gTup X.K n t) := by
  intro pins s σ H v u Q I r hw
  obtain ⟨a, xs, e1, hq, hl, hw⟩ := hw
  subst e1
  cases r
  obtain ⟨its, rv, ht, hz⟩ := I.tuple hq
  refine assign_Tuple_tuple (I.ok.hd hc) ht (by simp [hn, ← hl, rv.length]) hst fun h' hx => ?_
  have I1 : Inv X pins σ H { s with heap := h' } := I.kept (t' := s.toks) fun b o e => hx b o (Nat.ne_of_lt (Heap.lt_size e)) e
  exact h pins _ σ H xs _ Q I1 (by simpa using rv) hw
def gSub (to ti : TE) (t : TSet) : TG := fun v σ H Q => to σ H fun o H1 => ti σ H1 fun i H2 => t o i v H2 fun H3 => Q σ H3
theorem pg_sub {o i : Expr} {to ti : TE} {t : TSet} (ho : PE X o to) (hi : PE X i ti) (hs : PSet X t)
    (ha : ∀ v, assign (.Subscript o i pos) X.env v = (do
      let ov ← holding [v] (eval o X.env)
      let iv ← holding [v, ov] (eval i X.env)
      standAt pos
      holding [v, ov, iv] (setItem ov iv v)
      release [v, ov, iv] []) := by intro _; rfl) : PG X (.Subscript o i pos) (gSub to ti t) := by
  intro pins s σ H v u Q I r h
  rw [ha]
  refine wpAny_bind (wpAny_holding (thn (ho pins s σ H _ I h) fun ov s1 ⟨x, H1, I1, r1, q1⟩ => ?_))
  refine wpAny_bind (wpAny_holding (thn (hi pins s1 σ H1 _ I1 q1) fun iv s2 ⟨y, H2, I2, r2, q2⟩ => ?_))
  refine wpAny_bind (wpAny_standAt (wpAny_bind (wpAny_holding (thn (hs pins s2 σ H2 x y v ov iv u _ I2 r1 r2 r q2) fun _ s3 ⟨H3, I3, q3⟩ => ?_))))
  exact wpAny_release ⟨σ, H3, I3, q3⟩
def tAsg (te : TE) (g : TG) : TS := fun D σ H => te σ H fun x H1 => g x σ H1 D.nx
theorem ps_asg {tg e : Expr} {te : TE} {g : TG} (he : PE X e te) (hg : PG X tg g) (hs : swapsWithSole [tg] e pos.line X.env = pure false := by rfl) (hw : swappedStores [tg] e X.env = pure none := by rfl)
    (h1 : (assignEach [tg] X.env).map (·.2) = [assign tg X.env] := by rfl) : PS X (.Assign [tg] e pos) (tAsg te g) := by
  intro pins s σ H D I h
  refine wpAny_Assign_stores (thn (he pins s σ H _ I h) fun v s1 ⟨x, H1, I1, r1, q1⟩ => ?_) hs hw
  rw [h1]
  exact thn (hg pins s1 σ H1 x v _ I1 r1 q1) fun _ s2 q => q
theorem ps_set {i : Nat} {x : Str} {e : Expr} {te : TE} {pos' : Pos} (hN : X.N.Nodup) (hi : X.N[i]? = some x) (hx : Loc X.env.scope x) (he : PE X e te) (hs : swapsWith e (some (.Name x pos')) pos.line X.env = pure false := by rfl) (hf : X.fn x = true ∨ X.env.scope.names.lookup x = some .local := by first | exact .inl rfl | exact .inr rfl | assumption) :
    PS X (.Assign [.Name x pos'] e pos) (tAsg te (gName i)) := by
  intro pins s σ H D I h
  refine wpAny_Assign_Name (thn (he pins s σ H _ I h) fun v s1 ⟨y, H1, I1, r1, q1⟩ => ?_) hs
  exact store_ok I1 hN hi hx r1 (fun s2 I2 => ⟨_, H1, I2, q1⟩) hf
def tPar (i j : Nat) (ta : TA) : TS := fun D σ H => ta σ H fun vs H1 => ∃ v w, vs = [v, w] ∧ D.nx ((σ.set i (some v)).set j (some w)) H1
def tAug (i : Nat) (te : TE) (ti : TIp) : TS := fun D σ H => ∃ x, σ[i]? = some (some x) ∧ te σ H fun y H1 => ti x y H1 fun z H2 => D.nx (σ.set i (some z)) H2
def tAugS (to ti te : TE) (tget : V → V → Hp → VK → Prop) (tip : TIp) (tset : TSet) : TS := fun D σ H => to σ H fun o H1 => ti σ H1 fun i H2 => tget o i H2 fun x H3 => te σ H3 fun y H4 => tip x y H4 fun z H5 => tset o i z H5 fun H6 => D.nx σ H6
def PGet (X : Cx) (t : V → V → Hp → VK → Prop) : Prop :=
  ∀ (pins : List (Addr × Obj)) (s : Shared) (σ : St) (H : Hp) (o i : V) (ov iv : Value) (Q : VK), Inv X pins σ H s → RelV o ov → RelV i iv → t o i H Q →
    wpAny (model X.prog X.w) X.A (getItem ov iv) (EP X pins σ Q) X.xe s
def ipI (f : Int → Int → Int) : TIp := fun x y H Q => ∃ i j, x = .int i ∧ y = .int j ∧ Q (.int (f i j)) H
end
section
variable {X : Cx} {pos : Pos}
def tWhile (c : TT) (tb : TS) : TS := fun D σ H => ∃ W : Nat → St → Hp → Prop, (∃ m, W m σ H) ∧ ∀ m σ H, W m σ H →
  c σ H fun b H1 => if b = true then ∃ N : St → Hp → Prop, (∀ σ' H', N σ' H' → ∃ m', m' < m ∧ W m' σ' H') ∧ tb { D with nx := N, ct := N, bk := D.nx } σ H1 else D.nx σ H1
theorem ps_while {c : Expr} {body : List Stmt} {tc : TT} {tb : TS} (hp : PassesOwn (model X.prog X.w) X.A X.env X.xe) (hc : PT X c tc) (hb : PSs X body tb) : PS X (.While c body [] pos) (tWhile tc tb) := by
  intro pins s σ H D I h
  obtain ⟨W, ⟨m0, w0⟩, turn⟩ := h
  refine wpAny_While (codeAny_whileLoop (fun n s' => ∃ σ' H', Inv X pins σ' H' s' ∧ W n σ' H') ?_ m0 ⟨σ, H, I, w0⟩)
  rintro n s1 ⟨σ1, H1, I1, w1⟩
  refine wpAny_passesOwn hp (thn (hc pins s1 σ1 H1 _ I1 (turn n σ1 H1 w1)) fun b s2 ⟨H2, I2, q2⟩ => ?_)
  cases b with
  | true =>
    obtain ⟨N, hN, q2⟩ := q2
    rw [if_pos rfl]
    refine wpAny_passesOwn hp (thn (hb pins s2 σ1 H2 _ I2 q2) fun f s3 q3 => ?_)
    cases f with
    | next =>
      obtain ⟨σ3, H3, I3, n3⟩ := q3
      obtain ⟨m', hm, w3⟩ := hN σ3 H3 n3
      exact ⟨m', hm, σ3, H3, I3, w3⟩
    | cont =>
      obtain ⟨σ3, H3, I3, n3⟩ := q3
      obtain ⟨m', hm, w3⟩ := hN σ3 H3 n3
      exact ⟨m', hm, σ3, H3, I3, w3⟩
    | brk => exact q3
    | ret v => exact q3
  | false =>
    rw [if_neg Bool.false_ne_true]
    exact wpAny_execs_nil ⟨σ1, H2, I2, q2⟩
end
structure It where
  go : Nat → Hp → Prop
  yld : Nat → Hp → V → Hp → Prop
  stop : Nat → Hp → Prop
def FpOk (X : Cx) (pins : List (Addr × Obj)) (H : Hp) (b : Addr) : Prop :=
  H b = none ∧ b ≠ X.env.locals ∧ b ∉ X.fs ∧ (b ∈ X.ex ∨ X.s_0.heap.objs.size ≤ b) ∧ (∀ x c, X.env.cells.lookup x = some c → c ≠ b) ∧ ∀ p ∈ X.pn ++ pins, p.1 ≠ b
theorem Inv.fpOk {X : Cx} {pins : List (Addr × Obj)} {σ : St} {H H' : Hp} {s : Shared} {b : Addr} (I : Inv X pins σ H s) (hb : s.heap.objs.size ≤ b) (hn : H' b = none) : FpOk X pins H' b := by
  refine ⟨hn, Nat.ne_of_gt (Nat.lt_of_lt_of_le I.lt hb), I.nofs hb, .inr (Nat.le_trans I.sz hb), fun x c e z => ?_, fun p hp z => ?_⟩
  · obtain ⟨v, q⟩ := I.cell x c e
    exact absurd (Nat.lt_of_lt_of_le q.lt (by rw [z]; exact hb)) (Nat.lt_irrefl _)
  · exact absurd (Nat.lt_of_lt_of_le (Heap.lt_size (I.pin p hp).1) (by rw [z]; exact hb)) (Nat.lt_irrefl _)
structure Turn (P : Program) (w : World) (K : PySem.W.Frag) (tg : Expr) (J : It) (fp : List Addr) (it : Addr) (tn : Nat → Heap → Prop) : Prop where
  mem : it ∈ fp
  obj : ∀ i h, tn i h → ∀ b ∈ fp, ∃ o, h.get? b = some o ∧ ∀ v, o.data ≠ .cell v
  keep : ∀ i h h', tn i h → (∀ b ∈ fp, ∀ o, h.get? b = some o → h'.get? b = some o) → tn i h'
  item : ∀ (X : Cx), X.prog = P → X.w = w → X.K = K → X.calm = true → ∀ (i : Nat) (pins : List (Addr × Obj)) (s : Shared) (σ : St) (H : Hp) (E : Value → Shared → Prop), Inv X pins σ H s → (∀ b ∈ fp, FpOk X pins H b) → tn i s.heap → J.go i H →
    wpAny (model P w) X.A (pyNext (.ref it)) (fun r s1 => ∃ u, r = some u ∧
      wpAny (model P w) X.A (letOwnedTupleGo tg (.ref it) u) (fun _ s2 => ∃ x H', Inv X pins σ H' s2 ∧ RelV x u ∧ J.yld i H x H' ∧ tn (i + 1) s2.heap ∧ ∀ b ∈ fp, H' b = none) E s1) E s
  done : ∀ (X : Cx), X.prog = P → X.w = w → X.K = K → X.calm = true → ∀ (i : Nat) (pins : List (Addr × Obj)) (s : Shared) (σ : St) (H : Hp) (E : Value → Shared → Prop), Inv X pins σ H s → (∀ b ∈ fp, FpOk X pins H b) → tn i s.heap → J.stop i H →
    wpAny (model P w) X.A (pyNext (.ref it)) (fun r s1 => r = none ∧ Inv X pins σ H s1) E s
  self : ∀ (A : Around) (i : Nat) (s : Shared) (Q : Value → Shared → Prop) (E : Value → Shared → Prop), tn i s.heap → Q (.ref it) s → wpAny (model P w) A (pyIter (.ref it)) Q E s
abbrev TI := St → Hp → (It → Hp → Prop) → Prop
def PIE (X : Cx) (pins : List (Addr × Obj)) (σ : St) (tg : Expr) (R : It → Hp → Prop) (itv : Value) (s2 : Shared) : Prop :=
  ∃ (it : Addr) (fp : List Addr) (tn : Nat → Heap → Prop) (J : It) (H' : Hp), itv = .ref it ∧ Inv X pins σ H' s2 ∧ Turn X.prog X.w X.K tg J fp it tn ∧ tn 0 s2.heap ∧ (∀ b ∈ fp, FpOk X pins H' b) ∧ R J H'
def PI (X : Cx) (tg iter : Expr) (wi : TI) : Prop :=
  ∀ (pins : List (Addr × Obj)) (s : Shared) (σ : St) (H : Hp) (R : It → Hp → Prop), Inv X pins σ H s → wi σ H R →
    wpAny (model X.prog X.w) X.A (eval iter X.env) (fun v s1 => wpAny (model X.prog X.w) X.A (pyIter v) (PIE X pins σ tg R) X.xe s1) X.xe s
theorem go_of {M : Model} {A : Around} {E : Value → Shared → Prop} {s : Shared} {tg : Expr} {it : Addr} {u : Value} {o : Obj} {n : String} {vs : Array Value} {Q : Unit → Shared → Prop} (ho : s.heap.get? it = some o) (hc : o.cls = .type n) (hd : o.data = .fields vs)
    (hn : ["enumerate", "zip", "dict_itemiterator", "dict_reverseitemiterator", "odict_iterator", "itertools.zip_longest", "itertools.pairwise"].contains n = false) (hQ : Q () s) : wpAny M A (letOwnedTupleGo tg (.ref it) u) Q E s := by
  unfold letOwnedTupleGo
  cases tg <;> first
    | exact wpAny_pure hQ
    | (cases u <;> first
        | exact wpAny_pure hQ
        | (refine wpAny_bind (wpAny_load ho ?_)
           rw [hc, hd]
           show wpAny M A (if (["enumerate", "zip", "dict_itemiterator", "dict_reverseitemiterator", "odict_iterator", "itertools.zip_longest", "itertools.pairwise"].contains n && vs[0]? == some (rawInt _)) = true then _ else _) Q E s
           rw [if_neg (by intro h; rw [hn, Bool.false_and] at h; cases h)]
           exact wpAny_pure hQ))
def Itl (K : PySem.W.Frag) (a : Addr) : It :=
  ⟨fun i H => ∃ xs x, SqL K H a xs ∧ xs[i]? = some x, fun i H x H' => H' = H ∧ ∀ xs, SqL K H a xs → xs[i]? = some x, fun i H => ∃ xs, SqL K H a xs ∧ xs.length ≤ i⟩
def Itt (K : PySem.W.Frag) (a : Addr) : It :=
  ⟨fun i H => ∃ xs x, SqT K H a xs ∧ xs[i]? = some x, fun i H x H' => H' = H ∧ ∀ xs, SqT K H a xs → xs[i]? = some x, fun i H => ∃ xs, SqT K H a xs ∧ xs.length ≤ i⟩
def Itr (lo : Int) (n : Nat) : It := ⟨fun i _ => i < n, fun i H x H' => H' = H ∧ x = .int (lo + i), fun i _ => n ≤ i⟩
theorem turn_list {P : Program} {w : World} {K : PySem.W.Frag} {tg : Expr} (a it : Addr) : Turn P w K tg (Itl K a) [it] it (fun i h => h.IsListIter it a i) where
  mem := by simp
  obj := fun i h st b hb => by
    have e : b = it := by simpa using hb
    subst e
    obtain ⟨o, e, c, d⟩ := st
    exact ⟨o, e, fun v z => by rw [d] at z; cases z⟩
  keep := fun i h h' st k => st.at fun o e => k it (by simp) o e
  item := by
    intro X hP hw hK hc i pins s σ H E I hf st hg
    subst hP hw hK
    obtain ⟨xs, x, hq, hx⟩ := hg
    obtain ⟨its, rv, p, hz⟩ := I.list hq
    obtain ⟨u, hu, ru⟩ := rv.get hx
    obtain ⟨f0, f1, f2, f3, f4, f5⟩ := hf it (by simp)
    refine wpAny_pyNext_list_item st p.isList (x := u) (by simpa using hu) fun h' st' sb => ?_
    have I1 : Inv X pins σ H { s with heap := h' } := I.turned (t' := s.toks) (fun b o hb e => (sb.2 b hb).trans e) f0 f1 f3 f4 f5
    obtain ⟨o, e, c, d⟩ := id st'
    exact ⟨u, rfl, go_of (s := { s with heap := h' }) e c d (by decide) ⟨x, H, I1, ru, ⟨rfl, fun ys hy => by rw [I.list_inj hy hq]; exact hx⟩, st', fun b hb => (hf b hb).1⟩⟩
  done := by
    intro X hP hw hK hc i pins s σ H E I hf st hg
    subst hP hw hK
    obtain ⟨xs, hq, hx⟩ := hg
    obtain ⟨its, rv, p, hz⟩ := I.list hq
    obtain ⟨f0, f1, f2, f3, f4, f5⟩ := hf it (by simp)
    have hl := rv.length
    exact wpAny_pyNext_list_end (I.ok.hd hc) st p.isList (by simp; omega) fun h' eb => ⟨rfl, I.turned (t' := s.toks) (fun b o hb e => eb b o hb e) f0 f1 f3 f4 f5⟩
  self := fun _ _ _ _ _ st h => wpAny_pyIter_listiter st h
theorem turn_tuple {P : Program} {w : World} {K : PySem.W.Frag} {tg : Expr} (a it : Addr) : Turn P w K tg (Itt K a) [it] it (fun i h => h.IsTupleIter it a i) where
  mem := by simp
  obj := fun i h st b hb => by
    have e : b = it := by simpa using hb
    subst e
    obtain ⟨o, e, c, d⟩ := st
    exact ⟨o, e, fun v z => by rw [d] at z; cases z⟩
  keep := fun i h h' st k => st.at fun o e => k it (by simp) o e
  item := by
    intro X hP hw hK hc i pins s σ H E I hf st hg
    subst hP hw hK
    obtain ⟨xs, x, hq, hx⟩ := hg
    obtain ⟨its, rv, p, hz⟩ := I.tuple hq
    obtain ⟨u, hu, ru⟩ := rv.get hx
    obtain ⟨f0, f1, f2, f3, f4, f5⟩ := hf it (by simp)
    refine wpAny_pyNext_tuple_item st (show s.heap.IsTuple a its.toArray from p) (x := u) (by simpa using hu) fun h' st' sb => ?_
    have I1 : Inv X pins σ H { s with heap := h' } := I.turned (t' := s.toks) (fun b o hb e => (sb.2 b hb).trans e) f0 f1 f3 f4 f5
    obtain ⟨o, e, c, d⟩ := id st'
    exact ⟨u, rfl, go_of (s := { s with heap := h' }) e c d (by decide) ⟨x, H, I1, ru, ⟨rfl, fun ys hy => by rw [I.tuple_inj hy hq]; exact hx⟩, st', fun b hb => (hf b hb).1⟩⟩
  done := by
    intro X hP hw hK hc i pins s σ H E I hf st hg
    subst hP hw hK
    obtain ⟨xs, hq, hx⟩ := hg
    obtain ⟨its, rv, p, hz⟩ := I.tuple hq
    obtain ⟨f0, f1, f2, f3, f4, f5⟩ := hf it (by simp)
    have hl := rv.length
    exact wpAny_pyNext_tuple_end (I.ok.hd hc) st (show s.heap.IsTuple a its.toArray from p) (by simp; omega) fun h' eb => ⟨rfl, I.turned (t' := s.toks) (fun b o hb e => eb b o hb e) f0 f1 f3 f4 f5⟩
  self := fun _ _ _ _ _ st h => wpAny_pyIter_tupleiter st h
theorem turn_range {P : Program} {w : World} {K : PySem.W.Frag} {tg : Expr} (it : Addr) (lo : Int) (n : Nat) : Turn P w K tg (Itr lo n) [it] it (fun i h => IsRangeIter h it (lo + (i : Nat) * 1) ((n : Int) - (i : Nat)) 1) where
  mem := by simp
  obj := fun i h st b hb => by
    have e : b = it := by simpa using hb
    subst e
    exact ⟨_, st, fun v z => by
      have z' : Data.fields _ = Data.cell v := z
      cases z'⟩
  keep := fun i h h' st k => k it (by simp) _ st
  item := by
    intro X hP hw hK hc i pins s σ H E I hf st hg
    subst hP hw hK
    obtain ⟨f0, f1, f2, f3, f4, f5⟩ := hf it (by simp)
    have W := Walks.range (prog := X.prog) (w := X.w) (I.ok.hd hc) it lo 1 n
    refine W.item i s _ _ hg st fun v h' tk hv st' kk => ?_
    obtain ⟨t, rfl⟩ := hv
    have I1 : Inv X pins σ H { s with heap := h', toks := tk } := I.turned (fun b o hb e => kk b o (by simpa using hb) e) f0 f1 f3 f4 f5
    refine ⟨_, rfl, go_of (s := { s with heap := h', toks := tk }) (n := "range_iterator") st' rfl rfl (by decide) ⟨.int (lo + i), H, I1, ⟨t, ?_⟩, ⟨rfl, rfl⟩, st', fun b hb => (hf b hb).1⟩⟩
    rw [Int.mul_one]
  done := by
    intro X hP hw hK hc i pins s σ H E I hf st hg
    subst hP hw hK
    obtain ⟨f0, f1, f2, f3, f4, f5⟩ := hf it (by simp)
    exact wpAny_pyNext_range_end (I.ok.hd hc) st (by have : n ≤ i := hg; omega) fun h' eb => ⟨rfl, I.turned (t' := s.toks) (fun b o hb e => eb b o hb e) f0 f1 f3 f4 f5⟩
  self := fun _ _ _ _ _ st h => wpAny_pyIter_rangeiter st h
end L2
namespace L2
open PySem PySem.Spec PyProof.Rows
section
variable {X : Cx} {tg : Expr}
def iList (K : PySem.W.Frag) (tl : TE) : TI := fun σ H R => tl σ H fun x H1 => ∃ a, x = .ref a ∧ (∃ xs, SqL K H1 a xs) ∧ R (Itl K a) H1
def iTup (K : PySem.W.Frag) (tl : TE) : TI := fun σ H R => tl σ H fun x H1 => ∃ a, x = .ref a ∧ (∃ xs, SqT K H1 a xs) ∧ R (Itt K a) H1
theorem range_it {pins : List (Addr × Obj)} {σ : St} {H : Hp} {s : Shared} {R : It → Hp → Prop} {E : Value → Shared → Prop} {lo hi : Int} {t u v : Tok} {tk : Nat} (I : Inv X pins σ H s) (h1 : -(2 ^ 62) ≤ lo) (h2 : lo < 2 ^ 62) (h3 : -(2 ^ 62) ≤ hi) (h4 : hi < 2 ^ 62)
    (q : R (Itr lo (hi - lo).toNat) H) : wpAny (model X.prog X.w) X.A (pyIter (.ref s.heap.objs.size)) (PIE X pins σ tg R) E { s with heap := s.heap.push { cls := .type "range", data := .fields #[.int lo t, .int hi u, .int 1 v] }, toks := tk } := by
  refine wpAny_pyIter_range (IsRange.new ..) (small_one h1 h2 h3 h4) ?_
  have I1 : Inv X pins σ H { s with heap := s.heap.push { cls := .type "range", data := .fields #[.int lo t, .int hi u, .int 1 v] }, toks := tk } := I.kept fun b o e => Heap.get?_push_of_some _ e
  refine ⟨(s.heap.push { cls := .type "range", data := .fields #[.int lo t, .int hi u, .int 1 v] }).objs.size, [(s.heap.push { cls := .type "range", data := .fields #[.int lo t, .int hi u, .int 1 v] }).objs.size], _, _, H, rfl,
    I1.kept (t' := tk) fun b o e => Heap.get?_push_of_some _ e, turn_range _ lo (hi - lo).toNat, ?_, fun b hb => ?_, q⟩
  · have e1 : lo + ((0 : Nat) : Int) * 1 = lo := by simp
    have e2 : (((hi - lo).toNat : Nat) : Int) - ((0 : Nat) : Int) = Builtin.Range.rangeSize lo hi 1 := by rw [rangeSize_one]; split <;> omega
    show IsRangeIter _ _ (lo + ((0 : Nat) : Int) * 1) ((((hi - lo).toNat : Nat) : Int) - ((0 : Nat) : Int)) 1
    rw [e1, e2]
    exact Heap.get?_push_size _ rfl
  · have e : b = (s.heap.push { cls := .type "range", data := .fields #[.int lo t, .int hi u, .int 1 v] }).objs.size := by simpa using hb
    subst e
    exact I1.fpOk (Nat.le_refl _) (I1.hok.fresh (Nat.le_refl _))
def iRng1 (ta : TA) : TI := fun σ H R => ta σ H fun vs H1 => ∃ j : Int, vs = [.int j] ∧ -(2 ^ 62) ≤ j ∧ j < 2 ^ 62 ∧ R (Itr 0 j.toNat) H1
def iRng2 (ta : TA) : TI := fun σ H R => ta σ H fun vs H1 => ∃ i j : Int, vs = [.int i, .int j] ∧ (-(2 ^ 62) ≤ i ∧ i < 2 ^ 62 ∧ -(2 ^ 62) ≤ j ∧ j < 2 ^ 62) ∧ R (Itr i (j - i).toNat) H1
theorem pi_range1 {a : Expr} {ta : TA} {p pos : Pos} (hg : Gl X "range") (hm : X.mg "range" = none) (ha : PA X [a] ta) (hs : starEach [a] X.env = [(false, eval a X.env)] := by rfl) : PI X tg (.Call (.Name "range" p) [a] [] pos) (iRng1 ta) := by
  intro pins s σ H R I h
  refine Call_ (ld_blt I hg hm boot_range (PyProof.Rows.callWith_type1 (thn (ha pos pins s σ H _ I h) fun us s1 ⟨vs, H1, I1, r1, q1⟩ => ?_) hs rfl))
  obtain ⟨j, e, q1, q2, q⟩ := q1
  subst e
  cases r1 with
  | cons r rr =>
    cases rr
    obtain ⟨t, rfl⟩ := r
    exact call_range_1 (range_it I1 (by omega) (by omega) q1 q2 (by simpa using q))
def tFor (wi : TI) (g : TG) (tb : TS) : TS := fun D σ H => wi σ H fun J H1 => ∃ W : Nat → Nat → St → Hp → Prop, (∃ m, W 0 m σ H1) ∧ ∀ i m σ H, W i m σ H →
  (J.stop i H ∧ D.nx σ H) ∨ (J.go i H ∧ ∃ N : St → Hp → Prop, (∀ σ' H', N σ' H' → ∃ m', m' < m ∧ W (i + 1) m' σ' H') ∧ ∀ x H', J.yld i H x H' → g x σ H' fun σ2 H2 => tb { D with nx := N, ct := N, bk := D.nx } σ2 H2)
def pinsAt (fp : List Addr) (h : Heap) : List (Addr × Obj) := fp.filterMap fun b => (h.get? b).map fun o => (b, o)
theorem mem_pinsAt {fp : List Addr} {h : Heap} {b : Addr} {o : Obj} (hb : b ∈ fp) (e : h.get? b = some o) : (b, o) ∈ pinsAt fp h := List.mem_filterMap.mpr ⟨b, hb, by rw [e]; rfl⟩
theorem of_pinsAt {fp : List Addr} {h : Heap} {p : Addr × Obj} (hp : p ∈ pinsAt fp h) : p.1 ∈ fp ∧ h.get? p.1 = some p.2 := by
  obtain ⟨b, hb, e⟩ := List.mem_filterMap.mp hp
  cases q : h.get? b with
  | none => rw [q] at e; cases e
  | some o =>
    rw [q] at e
    have e' : (b, o) = p := Option.some.inj e
    subst e'
    exact ⟨hb, q⟩
theorem Inv.pinned {pins : List (Addr × Obj)} {σ : St} {H : Hp} {s : Shared} {fp : List Addr} (I : Inv X pins σ H s) (hf : ∀ b ∈ fp, FpOk X pins H b) (ho : ∀ b ∈ fp, ∃ o, s.heap.get? b = some o ∧ ∀ v, o.data ≠ .cell v) : Inv X (pins ++ pinsAt fp s.heap) σ H s :=
  I.pins_of fun p hp => (List.mem_append.mp hp).elim (fun z => I.pin p (List.mem_append_right _ z)) fun z => by
    obtain ⟨hb, e⟩ := of_pinsAt z
    obtain ⟨f0, f1, f2, _⟩ := hf p.1 hb
    obtain ⟨o, e', d⟩ := ho p.1 hb
    rw [e] at e'; cases e'
    exact ⟨e, f0, f1, f2, d⟩
theorem Inv.unpinned {pins pl : List (Addr × Obj)} {σ : St} {H : Hp} {s : Shared} (I : Inv X (pins ++ pl) σ H s) : Inv X pins σ H s := I.pins_of fun p hp => I.pin p (List.mem_append_right _ (List.mem_append_left _ hp))
theorem ps_for {iter : Expr} {body : List Stmt} {wi : TI} {g : TG} {tb : TS} {pos : Pos} (hp : PassesOwn (model X.prog X.w) X.A X.env X.xe) (hc : X.calm = true) (hi : PI X tg iter wi) (hg : PG X tg g) (hb : PSs X body tb)
    (hs : ∀ x, foldedSetIterable iter X.env x = pure x := by intro _; rfl) : PS X (.For tg iter body [] pos) (tFor wi g tb) := by
  intro pins s σ H D I h
  refine wpAny_For (thn (hi pins s σ H _ I h) fun v s1 h1 => thn h1 fun itv s2 h2 => ?_) hs
  obtain ⟨it, fp, tn, J, H2, e, I2, T, st2, f2, W, ⟨m0, w0⟩, turn⟩ := h2
  subst e
  -- what stays true of the iterator's objects through the loop
  have stat : ∀ {H' : Hp}, (∀ b ∈ fp, H' b = none) → ∀ b ∈ fp, FpOk X pins H' b := fun hn b hb => ⟨hn b hb, (f2 b hb).2⟩
  refine codeAny_forLoop_any (fun n s' => ∃ i σ' H', Inv X pins σ' H' s' ∧ tn i s'.heap ∧ (∀ b ∈ fp, H' b = none) ∧ W i n σ' H') ?_ m0 ⟨0, σ, H2, I2, st2, fun b hb => (f2 b hb).1, w0⟩
  rintro n s3 ⟨i, σ3, H3, I3, st3, fr3, w3⟩
  rcases turn i n σ3 H3 w3 with ⟨stop, qn⟩ | ⟨go, N, hN, step⟩
  · refine wpAny_passesOwn hp (thn (T.done X rfl rfl rfl hc i pins s3 σ3 H3 X.xe I3 (stat fr3) st3 stop) fun r s4 ⟨hr, I4⟩ => ?_)
    subst hr
    exact wpAny_execs_nil ⟨σ3, H3, I4, qn⟩
  · refine wpAny_passesOwn hp (thn (T.item X rfl rfl rfl hc i pins s3 σ3 H3 X.xe I3 (stat fr3) st3 go) fun r s4 ⟨u, hr, h4⟩ => ?_)
    subst hr
    refine wpAny_passesOwn hp (thn h4 fun _ s5 ⟨x, H5, I5, r5, y5, st5, fr5⟩ => ?_)
    have I5' := I5.pinned (stat fr5) (T.obj _ _ st5)
    refine wpAny_passesOwn hp (thn (hg _ s5 σ3 H5 x u _ I5' r5 (step x H5 y5)) fun _ s6 ⟨σ6, H6, I6, q6⟩ => ?_)
    refine wpAny_passesOwn hp (thn (hb _ s6 σ6 H6 _ I6 q6) fun f s7 q7 => ?_)
    have again : ∀ {σ7 : St} {H7 : Hp}, Inv X (pins ++ pinsAt fp s5.heap) σ7 H7 s7 → N σ7 H7 → ∃ m, m < n ∧ ∃ i σ' H', Inv X pins σ' H' s7 ∧ tn i s7.heap ∧ (∀ b ∈ fp, H' b = none) ∧ W i m σ' H' := fun {σ7 H7} I7 n7 => by
      obtain ⟨m', hm, w7⟩ := hN σ7 H7 n7
      refine ⟨m', hm, i + 1, σ7, H7, I7.unpinned, T.keep _ _ _ st5 fun b hb o e => (I7.pin (b, o) (List.mem_append_right _ (List.mem_append_right _ (mem_pinsAt hb e)))).1, fun b hb => ?_, w7⟩
      obtain ⟨o, e, d⟩ := T.obj _ _ st5 b hb
      exact (I7.pin (b, o) (List.mem_append_right _ (List.mem_append_right _ (mem_pinsAt hb e)))).2.1
    cases f with
    | next => obtain ⟨σ7, H7, I7, n7⟩ := q7; exact again I7 n7
    | cont => obtain ⟨σ7, H7, I7, n7⟩ := q7; exact again I7 n7
    | brk => obtain ⟨σ7, H7, I7, q7⟩ := q7; exact ⟨σ7, H7, I7.unpinned, q7⟩
    | ret v => obtain ⟨x7, σ7, H7, I7, r7, q7⟩ := q7; exact ⟨x7, σ7, H7, I7.unpinned, r7, q7⟩
end
end L2
namespace L2
open PySem PySem.Spec PyProof.Rows
abbrev R2 := V → V → Hp → VK → Prop
def OpR (X : Cx) (f : Value → Value → Sem Value) (r : R2) : Prop :=
  ∀ (pins : List (Addr × Obj)) (s : Shared) (σ : St) (H : Hp) (x y : V) (v u : Value) (Q : VK), Inv X pins σ H s → RelV x v → RelV y u → r x y H Q →
    wpAny (model X.prog X.w) X.A (f v u) (EP X pins σ Q) X.xe s
def UnR (X : Cx) (f : Value → Sem Value) (r : V → Hp → VK → Prop) : Prop :=
  ∀ (pins : List (Addr × Obj)) (s : Shared) (σ : St) (H : Hp) (x : V) (v : Value) (Q : VK), Inv X pins σ H s → RelV x v → r x H Q →
    wpAny (model X.prog X.w) X.A (f v) (EP X pins σ Q) X.xe s
def CallR (X : Cx) (f : Value) (r : List V → Hp → VK → Prop) : Prop :=
  ∀ (pins : List (Addr × Obj)) (s : Shared) (σ : St) (H : Hp) (xs : List V) (us : List Value) (Q : VK), Inv X pins σ H s → Vals xs us → r xs H Q →
    wpAny (model X.prog X.w) X.A (call f us) (EP X pins σ Q) X.xe s
def TruR (X : Cx) (r : V → Hp → (Bool → Hp → Prop) → Prop) : Prop :=
  ∀ (pins : List (Addr × Obj)) (s : Shared) (σ : St) (H : Hp) (x : V) (v : Value) (Q : Bool → Hp → Prop), Inv X pins σ H s → RelV x v → r x H Q →
    wpAny (model X.prog X.w) X.A (truthy v) (TP X pins σ Q) X.xe s
def tOp (r : R2) (ta tb : TE) : TE := fun σ H Q => ta σ H fun x H1 => tb σ H1 fun y H2 => r x y H2 Q
def tUn (r : V → Hp → VK → Prop) (ta : TE) : TE := fun σ H Q => ta σ H fun x H1 => r x H1 Q
def rI (C : Int → Int → Prop) (g : Int → Int → V) : R2 := fun x y H Q => ∃ i j, x = .int i ∧ y = .int j ∧ C i j ∧ Q (g i j) H
def rI0 (g : Int → Int → V) : R2 := fun x y H Q => ∃ i j, x = .int i ∧ y = .int j ∧ Q (g i j) H
def rU (g : Int → V) : V → Hp → VK → Prop := fun x H Q => ∃ i, x = .int i ∧ Q (g i) H
section
variable {X : Cx} {a b c : Expr} {ta tb tc : TE} {pos : Pos}
theorem binT (ha : PE X a ta) (hb : PE X b tb) {pins : List (Addr × Obj)} {s : Shared} {σ : St} {H : Hp} {R : V → V → Hp → Prop} (I : Inv X pins σ H s)
    (h : ta σ H fun x H1 => tb σ H1 fun y H2 => R x y H2) {Q : Value → Shared → Prop} {f : Value → Value → Sem Value}
    (hf : ∀ v u s2 x y H2, Inv X pins σ H2 s2 → RelV x v → RelV y u → R x y H2 → wpAny (model X.prog X.w) X.A (f v u) Q X.xe s2) :
    wpAny (model X.prog X.w) X.A (eval a X.env) (fun v s₁ => wpAny (model X.prog X.w) X.A (eval b X.env) (fun u s₂ => wpAny (model X.prog X.w) X.A (f v u) Q X.xe s₂) X.xe s₁) X.xe s := by
  refine thn (ha pins s σ H _ I h) fun v s1 ⟨x, H1, I1, r1, q1⟩ => ?_
  refine thn (hb pins s1 σ H1 _ I1 q1) fun u s2 ⟨y, H2, I2, r2, q2⟩ => ?_
  exact hf v u s2 x y H2 I2 r1 r2 q2
theorem pe_op {op : Operator} {r : R2} (ho : OpR X (binaryOp op) r) (ha : PE X a ta) (hb : PE X b tb) : PE X (.BinOp a op b pos) (tOp r ta tb) := by
  intro pins s σ H Q I h
  exact wpAny_BinOp (binT ha hb I h fun v u s2 x y H2 I2 rx ry q => ho pins s2 σ H2 x y v u Q I2 rx ry q)
theorem pe_un {op : UnaryOp} {r : V → Hp → VK → Prop} (ho : UnR X (unaryOp op) r) (ha : PE X a ta) : PE X (.UnaryOp op a pos) (tUn r ta) := by
  intro pins s σ H Q I h
  exact UnaryOp_ (thn (ha pins s σ H _ I h) fun v s1 ⟨x, H1, I1, r1, q1⟩ => ho pins s1 σ H1 x v Q I1 r1 q1)
theorem opI {f : Value → Value → Sem Value} {C : Int → Int → Prop} {g : Int → Int → Int}
    (rule : ∀ (i j : Int) (t u : Tok) (s : Shared) (Q : Value → Shared → Prop) (E : Value → Shared → Prop), C i j → Q (.int (g i j) s.toks) { s with toks := s.toks + 1 } → wpAny (model X.prog X.w) X.A (f (.int i t) (.int j u)) Q E s) :
    OpR X f (rI C fun i j => .int (g i j)) := by
  intro pins s σ H x y v u Q I rx ry h
  obtain ⟨i, j, rfl, rfl, hc, q⟩ := h
  obtain ⟨t, rfl⟩ := rx
  obtain ⟨t', rfl⟩ := ry
  exact rule i j t t' s _ _ hc ⟨.int (g i j), H, I.tok _, ⟨_, rfl⟩, q⟩
theorem opI0 {f : Value → Value → Sem Value} {g : Int → Int → Int}
    (rule : ∀ (i j : Int) (t u : Tok) (s : Shared) (Q : Value → Shared → Prop) (E : Value → Shared → Prop), Q (.int (g i j) s.toks) { s with toks := s.toks + 1 } → wpAny (model X.prog X.w) X.A (f (.int i t) (.int j u)) Q E s) :
    OpR X f (rI0 fun i j => .int (g i j)) := by
  intro pins s σ H x y v u Q I rx ry h
  obtain ⟨i, j, rfl, rfl, q⟩ := h
  obtain ⟨t, rfl⟩ := rx
  obtain ⟨t', rfl⟩ := ry
  exact rule i j t t' s _ _ ⟨.int (g i j), H, I.tok _, ⟨_, rfl⟩, q⟩
theorem opB0 {f : Value → Value → Sem Value} {g : Int → Int → Bool}
    (rule : ∀ (i j : Int) (t u : Tok) (s : Shared) (Q : Value → Shared → Prop) (E : Value → Shared → Prop), Q (.bool (g i j)) s → wpAny (model X.prog X.w) X.A (f (.int i t) (.int j u)) Q E s) :
    OpR X f (rI0 fun i j => .bl (g i j)) := by
  intro pins s σ H x y v u Q I rx ry h
  obtain ⟨i, j, rfl, rfl, q⟩ := h
  obtain ⟨t, rfl⟩ := rx
  obtain ⟨t', rfl⟩ := ry
  exact rule i j t t' s _ _ ⟨.bl (g i j), H, I, rfl, q⟩
def CDiv (i j : Int) : Prop := 0 < j ∧ j < 1073741824
def CDivN (i j : Int) : Prop := j ≠ 0 ∧ j.natAbs < 1073741824
def CPow (i j : Int) : Prop := 0 ≤ j ∧ j ≤ 1000000 ∧ i.natAbs < 2 ^ 64
def CMul (i j : Int) : Prop := (-(2 ^ 64) < i ∧ i < 2 ^ 64) ∨ (-(2 ^ 64) < j ∧ j < 2 ^ 64)
theorem CMul.ok {i j : Int} (h : CMul i j) : IntMulOk i j := by
  rcases h with ⟨h1, h2⟩ | ⟨h1, h2⟩
  · exact .of_left (intBits_le_64 h1 h2)
  · exact .of_right (intBits_le_64 h1 h2)
theorem op_add : OpR X (binaryOp .Add) (rI0 fun i j => .int (i + j)) := opI0 fun _ _ _ _ _ _ _ q => add_int q
theorem op_sub : OpR X (binaryOp .Sub) (rI0 fun i j => .int (i - j)) := opI0 fun _ _ _ _ _ _ _ q => sub_int q
theorem op_mod : OpR X (binaryOp .Mod) (rI (fun _ j => 0 < j) fun i j => .int (i % j)) := opI fun i j _ _ _ _ _ hc q => by
  have h1 : (0 : Int) < j := hc
  exact mod_int' (by omega) (by rw [Int.fmod_eq_emod_of_nonneg i (by omega)]; exact q)
theorem op_pow : OpR X (binaryOp .Pow) (rI CPow fun i j => .int (i ^ j.toNat)) := opI fun _ _ _ _ _ _ _ hc q => pow_int_small hc.1 hc.2.1 hc.2.2 q
theorem unI {f : Value → Sem Value} {g : Int → Int}
    (rule : ∀ (i : Int) (t : Tok) (s : Shared) (Q : Value → Shared → Prop) (E : Value → Shared → Prop), Q (.int (g i) s.toks) { s with toks := s.toks + 1 } → wpAny (model X.prog X.w) X.A (f (.int i t)) Q E s) :
    UnR X f (rU fun i => .int (g i)) := by
  intro pins s σ H x v Q I rx h
  obtain ⟨i, rfl, q⟩ := h
  obtain ⟨t, rfl⟩ := rx
  exact rule i t s _ _ ⟨.int (g i), H, I.tok _, ⟨_, rfl⟩, q⟩
theorem un_neg : UnR X (unaryOp .USub) (rU fun i => .int (-i)) := unI fun _ _ _ _ _ q => neg_int q
end
def scal : V → V → Bool
  | .non, .non => true | .non, .int _ => true | .int _, .non => true | .non, .bl _ => true | .bl _, .non => true | .non, .str _ => true | .str _, .non => true
  | .int _, .int _ => true | .bl _, .bl _ => true | .str _, .str _ => true | .byt _, .byt _ => true
  | .int _, .str _ => true | .str _, .int _ => true | .bl _, .str _ => true | .str _, .bl _ => true
  | _, _ => false
def rEq : R2 := fun x y H Q => scal x y = true ∧ Q (.bl (decide (x = y))) H
def rNe : R2 := fun x y H Q => scal x y = true ∧ Q (.bl (!decide (x = y))) H
theorem dec_int {i j : Int} : decide (V.int i = V.int j) = (i == j) := by
  rw [Bool.eq_iff_iff]
  simp
theorem dec_bl {i j : Bool} : decide (V.bl i = V.bl j) = (i == j) := by
  rw [Bool.eq_iff_iff]
  simp
theorem dec_str {i j : Str} : decide (V.str i = V.str j) = (i == j) := by
  rw [Bool.eq_iff_iff]
  simp
theorem dec_byt {i j : Array UInt8} : decide (V.byt i = V.byt j) = (i.toList == j.toList) := by
  rw [Bool.eq_iff_iff]
  cases i
  cases j
  simp
section
variable {X : Cx} {a b c : Expr} {ta tb tc : TE} {pos : Pos}
theorem fin_bl {pins : List (Addr × Obj)} {σ : St} {H : Hp} {s : Shared} {Q : VK} {k k' : Bool} (I : Inv X pins σ H s) (q : Q (.bl k) H) (e : k = k') : EP X pins σ Q (.bool k') s := by
  subst e
  exact ⟨.bl k, H, I, rfl, q⟩
theorem op_eq : OpR X (compareOp .Eq) rEq := by
  intro pins s σ H x y v u Q I rx ry h
  obtain ⟨hs, q⟩ := h
  cases x with
  | non =>
    cases rx
    cases y with
    | non => cases ry; exact PySem.EqNone.eq_none_none (fin_bl I q (by simp))
    | bl j => cases ry; exact PySem.EqNone.eq_none_bool (fin_bl I q (by simp))
    | int j => obtain ⟨t', rfl⟩ := ry; exact PySem.EqNone.eq_none_int (fin_bl I q (by simp))
    | str j => obtain ⟨t', rfl⟩ := ry; exact PySem.EqNone.eq_none_str (fin_bl I q (by simp))
    | _ => exact absurd (show false = true from hs) Bool.false_ne_true
  | bl i =>
    cases rx
    cases y with
    | non => cases ry; exact PySem.EqNone.eq_bool_none (fin_bl I q (by simp))
    | bl j => cases ry; exact eq_bool (fin_bl I q dec_bl)
    | str j => obtain ⟨t', rfl⟩ := ry; exact PySem.EqMixed.eq_bool_str (fin_bl I q (by simp))
    | _ => exact absurd (show false = true from hs) Bool.false_ne_true
  | int i =>
    obtain ⟨t, rfl⟩ := rx
    cases y with
    | non => cases ry; exact PySem.EqNone.eq_int_none (fin_bl I q (by simp))
    | int j => obtain ⟨t', rfl⟩ := ry; exact eq_int (fin_bl I q dec_int)
    | str j => obtain ⟨t', rfl⟩ := ry; exact PySem.EqMixed.eq_int_str (fin_bl I q (by simp))
    | _ => exact absurd (show false = true from hs) Bool.false_ne_true
  | str i =>
    obtain ⟨t, rfl⟩ := rx
    cases y with
    | non => cases ry; exact PySem.EqNone.eq_str_none (fin_bl I q (by simp))
    | bl j => cases ry; exact PySem.EqMixed.eq_str_bool (fin_bl I q (by simp))
    | int j => obtain ⟨t', rfl⟩ := ry; exact PySem.EqMixed.eq_str_int (fin_bl I q (by simp))
    | str j => obtain ⟨t', rfl⟩ := ry; exact eq_str (fin_bl I q dec_str)
    | _ => exact absurd (show false = true from hs) Bool.false_ne_true
  | byt i =>
    obtain ⟨t, rfl⟩ := rx
    cases y with
    | byt j => obtain ⟨t', rfl⟩ := ry; exact PySem.W.eq_bytes (fin_bl I q dec_byt)
    | _ => exact absurd (show false = true from hs) Bool.false_ne_true
  | _ => cases y <;> exact absurd (show false = true from hs) Bool.false_ne_true
theorem op_ne : OpR X (compareOp .NotEq) rNe := by
  intro pins s σ H x y v u Q I rx ry h
  obtain ⟨hs, q⟩ := h
  cases x with
  | non =>
    cases rx
    cases y with
    | non => cases ry; exact PySem.EqNone.ne_none_none (fin_bl I q (by simp))
    | bl j => cases ry; exact PySem.EqNone.ne_none_bool (fin_bl I q (by simp))
    | int j => obtain ⟨t', rfl⟩ := ry; exact PySem.EqNone.ne_none_int (fin_bl I q (by simp))
    | str j => obtain ⟨t', rfl⟩ := ry; exact PySem.EqNone.ne_none_str (fin_bl I q (by simp))
    | _ => exact absurd (show false = true from hs) Bool.false_ne_true
  | bl i =>
    cases rx
    cases y with
    | non => cases ry; exact PySem.EqNone.ne_bool_none (fin_bl I q (by simp))
    | bl j => cases ry; exact ne_bool (fin_bl I q (congrArg not dec_bl))
    | str j => obtain ⟨t', rfl⟩ := ry; exact PySem.EqMixed.ne_bool_str (fin_bl I q (by simp))
    | _ => exact absurd (show false = true from hs) Bool.false_ne_true
  | int i =>
    obtain ⟨t, rfl⟩ := rx
    cases y with
    | non => cases ry; exact PySem.EqNone.ne_int_none (fin_bl I q (by simp))
    | int j => obtain ⟨t', rfl⟩ := ry; exact ne_int (fin_bl I q (congrArg not dec_int))
    | str j => obtain ⟨t', rfl⟩ := ry; exact PySem.EqMixed.ne_int_str (fin_bl I q (by simp))
    | _ => exact absurd (show false = true from hs) Bool.false_ne_true
  | str i =>
    obtain ⟨t, rfl⟩ := rx
    cases y with
    | non => cases ry; exact PySem.EqNone.ne_str_none (fin_bl I q (by simp))
    | bl j => cases ry; exact PySem.EqMixed.ne_str_bool (fin_bl I q (by simp))
    | int j => obtain ⟨t', rfl⟩ := ry; exact PySem.EqMixed.ne_str_int (fin_bl I q (by simp))
    | str j => obtain ⟨t', rfl⟩ := ry; exact ne_str (fin_bl I q (congrArg not dec_str))
    | _ => exact absurd (show false = true from hs) Bool.false_ne_true
  | byt i =>
    obtain ⟨t, rfl⟩ := rx
    cases y with
    | byt j => obtain ⟨t', rfl⟩ := ry; exact PySem.W.ne_bytes (fin_bl I q (congrArg not dec_byt))
    | _ => exact absurd (show false = true from hs) Bool.false_ne_true
  | _ => cases y <;> exact absurd (show false = true from hs) Bool.false_ne_true
theorem op_lt : OpR X (compareOp .Lt) (rI0 fun i j => .bl (decide (i < j))) := opB0 fun _ _ _ _ _ _ _ q => lt_int q
theorem op_gt : OpR X (compareOp .Gt) (rI0 fun i j => .bl (decide (j < i))) := opB0 fun _ _ _ _ _ _ _ q => gt_int q
theorem op_ge : OpR X (compareOp .GtE) (rI0 fun i j => .bl (decide (j ≤ i))) := opB0 fun _ _ _ _ _ _ _ q => ge_int q
theorem op_lt_str : OpR X (compareOp .Lt) (fun x y H Q => ∃ i j, x = .str i ∧ y = .str j ∧ Q (.bl (decide (i.cps.toList < j.cps.toList))) H) := by
  intro pins s σ H x y v u Q I rx ry h
  obtain ⟨i, j, rfl, rfl, q⟩ := h
  obtain ⟨t, rfl⟩ := rx
  obtain ⟨t', rfl⟩ := ry
  exact lt_str (fin_bl I q rfl)
theorem op_notN : OpR X (compareOp .IsNot) (fun x y H Q => y = .non ∧ Q (.bl (!decide (x = .non))) H) := by
  intro pins s σ H x y v u Q I rx ry h
  obtain ⟨rfl, q⟩ := h
  cases ry
  refine isnot_none_gen (fin_bl I q ?_)
  cases x <;> first
    | (cases rx; rfl)
    | (obtain ⟨t, rfl⟩ := rx; rfl)
def isObj : HO → Bool
  | .lst _ => true
  | .ins _ _ _ => true
  | _ => false
theorem OpR.or {f : Value → Value → Sem Value} {r r' : R2} (h : OpR X f r) (h' : OpR X f r') : OpR X f (fun x y H Q => r x y H Q ∨ r' x y H Q) := by
  intro pins s σ H x y v u Q I rx ry q
  rcases q with q | q
  · exact h pins s σ H x y v u Q I rx ry q
  · exact h' pins s σ H x y v u Q I rx ry q
theorem nomark (b : Expr) {op : CmpOp} (h : op ≠ .In := by decide) (h2 : op ≠ .NotIn := by decide) : behindInMarks op b = false := by
  have e1 : (op == CmpOp.In) = false := by cases op <;> first | rfl | exact absurd rfl h
  have e2 : (op == CmpOp.NotIn) = false := by cases op <;> first | rfl | exact absurd rfl h2
  cases b <;> simp [behindInMarks, e1, e2]
theorem pe_cmpR {op : CmpOp} {r : R2} (ho : OpR X (compareOp op) r) (ha : PE X a ta) (hb : PE X b tb) (hm : behindInMarks op b = false) : PE X (.Compare a [op] [b] pos) (tOp r ta tb) := by
  intro pins s σ H Q I h
  exact wpAny_Compare1 (binT ha hb I h fun v u s2 x y H2 I2 rx ry q => ho pins s2 σ H2 x y v u Q I2 rx ry q) hm
def tTest (t : TE) : TT := fun σ H Q => t σ H fun x H' => ∃ k, x = .bl k ∧ Q k H'
theorem pt_cmpR {op : CmpOp} {r : R2} (ho : OpR X (compareOp op) r) (ha : PE X a ta) (hb : PE X b tb) (hm : behindInMarks op b = false) : PT X (.Compare a [op] [b] pos) (tTest (tOp r ta tb)) := by
  intro pins s σ H Q I h
  refine wpAny_isTrue_Compare1 (thn (ha pins s σ H _ I h) fun v s1 ⟨x, H1, I1, r1, q1⟩ => thn (hb pins s1 σ H1 _ I1 q1) fun u s2 ⟨y, H2, I2, r2, q2⟩ =>
    thn (ho pins s2 σ H2 x y v u _ I2 r1 r2 q2) fun c s3 ⟨z, H3, I3, r3, k, e, q3⟩ => ?_) hm
  subst e
  cases r3
  exact wpAny_truthy_bool ⟨H3, I3, q3⟩
def tChain (r r' : R2) (ta tb tc : TE) : TE := fun σ H Q => ta σ H fun x H1 => tb σ H1 fun y H2 => r x y H2 fun z H3 => ∃ k, z = .bl k ∧
  (if k = true then tc σ H3 fun w' H4 => r' y w' H4 Q else Q (.bl false) H3)
def TruV (K : PySem.W.Frag) (x : V) (H : Hp) (k : Bool) : Prop :=
  match x with
  | .non => k = false
  | .bl b => k = b
  | .int i => k = (i != 0)
  | .str y => y.length ≤ sizeLine ∧ k = ((y.length : Int) != 0)
  | .byt y => y.size ≤ sizeLine ∧ k = ((y.size : Int) != 0)
  | .ref p => (∃ xs, SqL K H p xs ∧ k = !xs.isEmpty) ∨ (∃ xs, SqT K H p xs ∧ k = !xs.isEmpty) ∨ ∃ kvs, H p = some (.dK kvs) ∧ k = !kvs.isEmpty
  | _ => False
theorem isEmpty_kv {κ : Type} {kvs : List (κ × V)} {vs : List (κ × Value)} (r : KV kvs vs) : (!vs.isEmpty) = !kvs.isEmpty := by
  cases r <;> rfl
theorem isEmpty_of {xs : List V} {its : List Value} (r : Vals xs its) : (!its.toArray.isEmpty) = !xs.isEmpty := by
  cases r <;> simp
theorem line63 : (sizeLine : Nat) < 2 ^ 63 := by rw [sizeLine_eq]; decide
theorem tru_ok : TruR X (fun x H Q => ∃ k, TruV X.K x H k ∧ Q k H) := by
  intro pins s σ H x v Q I rx h
  obtain ⟨k, e, q⟩ := h
  have hl := line63
  have hs : sizeLine = 16777216 := sizeLine_eq
  cases x with
  | non =>
    cases rx
    have e' : k = false := e
    subst e'
    exact truthy_none ⟨H, I, q⟩
  | bl b =>
    cases rx
    have e' : k = b := e
    subst e'
    exact wpAny_truthy_bool ⟨H, I, q⟩
  | int i =>
    obtain ⟨t, rfl⟩ := rx
    have e' : k = (i != 0) := e
    subst e'
    exact PySem.P.truthy_int ⟨H, I, q⟩
  | str y =>
    obtain ⟨t, rfl⟩ := rx
    obtain ⟨hy, e'⟩ : y.length ≤ sizeLine ∧ k = ((y.length : Int) != 0) := e
    subst e'
    exact PySem.P.truthy_str (by omega) ⟨H, I.tok _, q⟩
  | byt y =>
    obtain ⟨t, rfl⟩ := rx
    obtain ⟨hy, e'⟩ : y.size ≤ sizeLine ∧ k = ((y.size : Int) != 0) := e
    subst e'
    exact PySem.W.truthy_bytes (by omega) ⟨H, I.tok _, q⟩
  | ref p =>
    cases rx
    have e' : (∃ xs, SqL X.K H p xs ∧ k = !xs.isEmpty) ∨ (∃ xs, SqT X.K H p xs ∧ k = !xs.isEmpty) ∨ ∃ kvs, H p = some (.dK kvs) ∧ k = !kvs.isEmpty := e
    rcases e' with ⟨xs, hx, e'⟩ | ⟨xs, hx, e'⟩ | ⟨kvs, hx, e'⟩
    · subst e'
      obtain ⟨its, r, pl, hz⟩ := I.list hx
      have hlen := r.length
      exact wpAny_truthy_list pl.isList (by simp only [List.size_toArray]; omega) ⟨H, I.tok _, by rw [isEmpty_of r]; exact q⟩
    · subst e'
      obtain ⟨its, r, pl, hz⟩ := I.tuple hx
      have hlen := r.length
      exact truthy_tuple pl (by simp only [List.size_toArray]; omega) ⟨H, I.tok _, by rw [isEmpty_of r]; exact q⟩
    · subst e'
      obtain ⟨hz, hS, vs, r, m⟩ : kvs.length ≤ sizeLine ∧ (p == sysModules) = false ∧ ∃ vs, KV kvs vs ∧ s.heap.DictOf (mixKind X.prog X.w) p vs := I.hok p _ hx
      have hlen : kvs.length = vs.length := Paired.length r
      exact wpAny_truthy_dict hS m (by omega) ⟨H, I.tok _, by rw [isEmpty_kv r]; exact q⟩
  | _ => exact (show False from e).elim
theorem pt_truth (ha : PE X a ta) (he : ∀ whole, isTrue a X.env whole = (do let v ← whole; standAt a.pos; holding [v] (truthy v))) :
    PT X a (fun σ H Q => ta σ H fun x H' => ∃ k, TruV X.K x H' k ∧ Q k H') := by
  intro pins s σ H Q I h
  exact isTrue_plain (thn (ha pins s σ H _ I h) fun v s1 ⟨x, H1, I1, r1, q1⟩ => tru_ok pins s1 σ H1 x v Q I1 r1 q1) (he _)
theorem op_add_str : OpR X (binaryOp .Add) (fun x y H Q => ∃ i j, x = .str i ∧ y = .str j ∧ i.length + j.length ≤ sizeLine ∧ Q (.str (i ++ j)) H) := by
  intro pins s σ H x y v u Q I rx ry h
  obtain ⟨i, j, rfl, rfl, hz, q⟩ := h
  obtain ⟨t, rfl⟩ := rx
  obtain ⟨t', rfl⟩ := ry
  exact add_str (fun t' tk => ⟨.str (i ++ j), H, I.tok _, ⟨_, rfl⟩, q⟩) hz
def PlainIxT (b : Expr) : Prop := ∀ o i, subscripted b false o i = operate [o, i] (getItem o i)
theorem vals1 {x : V} {us : List Value} (r : Vals [x] us) : ∃ u, us = [u] ∧ RelV x u := by
  cases r with
  | cons r1 r2 => cases r2; exact ⟨_, rfl, r1⟩
theorem vals2 {x y : V} {us : List Value} (r : Vals [x, y] us) : ∃ u w', us = [u, w'] ∧ RelV x u ∧ RelV y w' := by
  cases r with
  | cons r1 r2 =>
    cases r2 with
    | cons r3 r4 => cases r4; exact ⟨_, _, rfl, r1, r3⟩
theorem call_abs : CallR X (.builtin "abs") (fun xs H Q => ∃ i, xs = [.int i] ∧ Q (.int (if i < 0 then -i else i)) H) := by
  intro pins s σ H xs us Q I r h
  obtain ⟨i, rfl, q⟩ := h
  obtain ⟨u, rfl, t, rfl⟩ := vals1 r
  exact call_abs_int fun u tk => ⟨.int (if i < 0 then -i else i), H, I.tok _, ⟨_, rfl⟩, q⟩
theorem call_max2 (hc : X.calm = true) : CallR X (.builtin "max") (fun xs H Q => ∃ i j, xs = [.int i, .int j] ∧ Q (.int (if j > i then j else i)) H) := by
  intro pins s σ H xs us Q I r h
  obtain ⟨i, j, rfl, q⟩ := h
  obtain ⟨u, w', rfl, ⟨t, rfl⟩, ⟨t', rfl⟩⟩ := vals2 r
  refine max_two_ints (I.ok.hd hc) fun h' tk k => ⟨_, H, I.kept k, ?_, q⟩
  by_cases hj : j > i
  · rw [if_pos hj, if_pos hj]; exact ⟨_, rfl⟩
  · rw [if_neg hj, if_neg hj]; exact ⟨_, rfl⟩
theorem call_min2 (hc : X.calm = true) : CallR X (.builtin "min") (fun xs H Q => ∃ i j, xs = [.int i, .int j] ∧ Q (.int (if j < i then j else i)) H) := by
  intro pins s σ H xs us Q I r h
  obtain ⟨i, j, rfl, q⟩ := h
  obtain ⟨u, w', rfl, ⟨t, rfl⟩, ⟨t', rfl⟩⟩ := vals2 r
  refine min_two_ints (I.ok.hd hc) fun h' tk k => ⟨_, H, I.kept k, ?_, q⟩
  by_cases hj : j < i
  · rw [if_pos hj, if_pos hj]; exact ⟨_, rfl⟩
  · rw [if_neg hj, if_neg hj]; exact ⟨_, rfl⟩
theorem call_int1 : CallR X (.type "int") (fun xs H Q => (∃ i, xs = [.int i] ∧ Q (.int i) H) ∨ ∃ k, xs = [.bl k] ∧ Q (.int (if k then 1 else 0)) H) := by
  intro pins s σ H xs us Q I r h
  rcases h with ⟨i, rfl, q⟩ | ⟨k, rfl, q⟩
  · obtain ⟨u, rfl, t, rfl⟩ := vals1 r
    exact call_int_int ⟨.int i, H, I, ⟨_, rfl⟩, q⟩
  · obtain ⟨u, rfl, r1⟩ := vals1 r
    cases r1
    exact call_int_bool ⟨.int (if k then 1 else 0), H, I.tok _, ⟨_, rfl⟩, q⟩
def LenV (K : PySem.W.Frag) (x : V) (H : Hp) (n : Nat) : Prop :=
  match x with
  | .str y => y.length ≤ sizeLine ∧ n = y.length
  | .byt y => y.size ≤ sizeLine ∧ n = y.size
  | .ref p => (∃ xs, SqL K H p xs ∧ n = xs.length) ∨ ∃ xs, SqT K H p xs ∧ n = xs.length
  | _ => False
theorem call_divmod : CallR X (.builtin "divmod") (fun xs H Q => ∃ i j, xs = [.int i, .int j] ∧ CDiv i j ∧ ∀ p, H p = none → Q (.ref p) (upd H p (.tup [.int (i / j), .int (i % j)]))) := by
  intro pins s σ H xs us Q I r h
  obtain ⟨i, j, rfl, ⟨h1, h2⟩, q⟩ := h
  obtain ⟨u, w', rfl, ⟨t, rfl⟩, ⟨t', rfl⟩⟩ := vals2 r
  refine divmod_int (by omega) ?_ (.inl (PyProof.noPylong_small (by omega)))
  rw [Int.fdiv_eq_ediv_of_nonneg i (by omega), Int.fmod_eq_emod_of_nonneg i (by omega)]
  have hn : H s.heap.objs.size = none := I.hok.fresh (Nat.le_refl _)
  refine ⟨.ref s.heap.objs.size, _, ?_, rfl, q _ hn⟩
  refine I.laid (fun b o e => Heap.get?_push_of_some _ e) (Nat.le_refl _) ⟨by simp only [List.length_cons, List.length_nil]; rw [sizeLine_eq]; decide, [.int (i / j) s.toks, .int (i % j) (s.toks + 1)], .cons ⟨_, rfl⟩ (.cons ⟨_, rfl⟩ .nil), ?_⟩
  exact ⟨_, Heap.get?_push_size s.heap rfl, rfl, 0, rfl⟩
end
end L2
namespace L2
open PySem PySem.Spec PyProof.Rows
structure ObjM (h : Heap) (x dx C : Addr) (mA : Str → Option Value) : Prop where
  obj : h.get? x = some (PySem.W.instObj C dx)
  ns : h.Ns1 dx mA
  ne : dx ≠ x
theorem lookIn_ns {h : Heap} {dx : Addr} {mA : Str → Option Value} (n : h.Ns1 dx mA) : ∃ od, h.get? dx = some od ∧ ∀ name, PySem.W.lookIn name od = some (mA name) := by
  obtain ⟨o, es, ep, ho, hd, hk, _, hm⟩ := n
  refine ⟨o, ho, fun name => ?_⟩
  have e := hm name
  unfold nsFind findBy at e
  rw [← Array.find?_toList] at e
  unfold PySem.W.lookIn
  rw [hd]
  dsimp only
  split
  · rename_i y q
    rw [q] at e
    exact congrArg some e
  · rename_i q
    rw [q] at e
    have a : es.toList.any (·.refKey) = false := by
      rw [List.any_eq_false]
      intro y hy
      obtain ⟨z, t, hkey⟩ := hk y (Array.mem_toList_iff.mp hy)
      simp [DictEntry.refKey, hkey]
    have a' : ¬ es.toList.any (·.refKey) = true := by rw [a]; exact Bool.false_ne_true
    rw [if_neg a']
    exact congrArg some e
theorem ObjM.look {h : Heap} {x dx C : Addr} {mA : Str → Option Value} (I : ObjM h x dx C mA) : ∃ od, PySem.W.InstAt h x (PySem.W.instObj C dx) C (some od) ∧ ∀ name, PySem.W.lookIn name od = some (mA name) :=
  let ⟨od, ho, hl⟩ := lookIn_ns I.ns
  ⟨od, ⟨I.obj, rfl, rfl, ho⟩, hl⟩
section
variable {prog : Program} {w : World} {A : Around} {E : Value → Shared → Prop} {s : Shared} {K : PySem.W.Frag} {x dx C f : Addr} {mA : Str → Option Value} {name : Str} {v : Value}
end
def putF (f : Str) (v : V) : List (Str × V) → List (Str × V)
  | [] => [(f, v)]
  | (g, x) :: r => if g = f then (g, v) :: r else (g, x) :: putF f v r
theorem lookup_putF (f g : Str) (v : V) : ∀ fs : List (Str × V), (putF f v fs).lookup g = if g = f then some v else fs.lookup g
  | [] => by
    show List.lookup g [(f, v)] = _
    by_cases h : g = f
    · have hb : (g == f) = true := beq_iff_eq.mpr h
      simp only [List.lookup, hb, if_pos h]
    · have hb : (g == f) = false := beq_eq_false_iff_ne.mpr h
      simp only [List.lookup, hb, if_neg h]
  | (k, x) :: r => by
    have ih := lookup_putF f g v r
    rw [show putF f v ((k, x) :: r) = (if k = f then (k, v) :: r else (k, x) :: putF f v r) from rfl]
    by_cases hk : k = f
    · rw [if_pos hk]
      by_cases h : g = k
      · have hb : (g == k) = true := beq_iff_eq.mpr h
        simp only [List.lookup, hb, if_pos (h.trans hk)]
      · have hb : (g == k) = false := beq_eq_false_iff_ne.mpr h
        simp only [List.lookup, hb, if_neg (fun e : g = f => h (e.trans hk.symm))]
    · rw [if_neg hk]
      by_cases h : g = k
      · have hb : (g == k) = true := beq_iff_eq.mpr h
        simp only [List.lookup, hb, if_neg (fun e : g = f => hk (h.symm.trans e))]
      · have hb : (g == k) = false := beq_eq_false_iff_ne.mpr h
        simp only [List.lookup, hb]
        exact ih
theorem keys_putF (f : Str) (v : V) : ∀ fs : List (Str × V), f ∈ (putF f v fs).map (·.1) ∧ ∀ g, g ∈ fs.map (·.1) → g ∈ (putF f v fs).map (·.1)
  | [] => ⟨by simp [putF], fun g h => by simp at h⟩
  | (k, x) :: r => by
    obtain ⟨i1, i2⟩ := keys_putF f v r
    rw [show putF f v ((k, x) :: r) = (if k = f then (k, v) :: r else (k, x) :: putF f v r) from rfl]
    by_cases hk : k = f
    · rw [if_pos hk]
      subst hk
      exact ⟨by simp, fun g h => by simpa using h⟩
    · rw [if_neg hk]
      refine ⟨?_, fun g h => ?_⟩
      · rw [List.map_cons]
        exact List.mem_cons_of_mem _ i1
      · rw [List.map_cons] at h ⊢
        rcases List.mem_cons.mp h with e | e
        · exact List.mem_cons.mpr (.inl e)
        · exact List.mem_cons_of_mem _ (i2 g e)
theorem length_putF (f : Str) (v : V) : ∀ fs : List (Str × V), (putF f v fs).length ≤ fs.length + 1
  | [] => by simp [putF]
  | (k, x) :: r => by
    have ih := length_putF f v r
    rw [show putF f v ((k, x) :: r) = (if k = f then (k, v) :: r else (k, x) :: putF f v r) from rfl]
    by_cases hk : k = f
    · rw [if_pos hk, List.length_cons, List.length_cons]; omega
    · rw [if_neg hk, List.length_cons, List.length_cons]; omega
theorem RelO.some_of {v : V} {o : Option Value} (r : RelO (some v) o) : ∃ u, o = some u ∧ RelV v u := by
  cases o with
  | none => exact (show False from r).elim
  | some u => exact ⟨u, rfl, r⟩
theorem RelO.none_of {o : Option Value} (r : RelO none o) : o = none := by
  cases o with
  | none => rfl
  | some u => exact (show False from r).elim
section
variable {P : Program} {w : World} {H H' : Hp} {h h' : Heap} {a C dx : Addr} {fs fs' : List (Str × V)}
end
structure Cls (K : PySem.W.Frag) (C : Addr) : Prop where
  pg : PySem.W.plainGet K C Str.empty = true
  hd : PySem.W.hasDictIn K C = true
  po : PySem.W.plainOver K C = true
  sa : PySem.W.findIn K (.ref C) "__setattr__" = some (some (.builtin "object.__setattr__"))
theorem Cls.get {K : PySem.W.Frag} {C : Addr} (c : Cls K C) (f : Str) : PySem.W.plainGet K C f = true := c.pg
def NoAttr (K : PySem.W.Frag) (C : Addr) (f : Str) : Prop := PySem.W.findIn K (.ref C) f = some none
structure Con (K : PySem.W.Frag) (C : Addr) (f : Str) (v : V) (u : Value) : Prop where
  at_ : PySem.W.findIn K (.ref C) f = some (some u)
  rel : RelV v u
  get : PySem.W.specialIn K u "__get__" = some none
  cp : PySem.W.copiedNames.contains f = false
structure Meth (K : PySem.W.Frag) (C : Addr) (m : Str) (f : Addr) : Prop where
  at_ : PySem.W.findIn K (.ref C) m = some (some (.ref f))
  fn : PySem.W.isFn K (.ref f) = true
  kp : PySem.W.keepIn K (.ref f) = true
section
variable {X : Cx} {pins : List (Addr × Obj)} {σ : St} {H : Hp} {s : Shared} {a C dx : Addr} {fs : List (Str × V)} {f : Str} {v : V} {A : Around} {E : Value → Shared → Prop}
theorem Inv.made (I : Inv X pins σ H s) : Inv X pins σ (upd (upd H s.heap.objs.size (.own (s.heap.objs.size + 1))) (s.heap.objs.size + 1) (.ins C s.heap.objs.size []))
    { s with heap := (s.heap.push PySem.W.emptyDict).push (PySem.W.instObj C s.heap.objs.size) } := by
  have e1 : (s.heap.push PySem.W.emptyDict).get? s.heap.objs.size = some PySem.W.emptyDict := Heap.get?_push_size s.heap rfl
  have e2 : ((s.heap.push PySem.W.emptyDict).push (PySem.W.instObj C s.heap.objs.size)).get? (s.heap.objs.size + 1) = some (PySem.W.instObj C s.heap.objs.size) := by
    have := Heap.get?_push_size (s.heap.push PySem.W.emptyDict) (o := PySem.W.instObj C s.heap.objs.size) rfl
    rwa [Heap.size_push] at this
  have e3 : (s.heap.push PySem.W.emptyDict).Ns s.heap.objs.size (fun _ => none) := ⟨PySem.W.emptyDict, #[], _, e1, rfl, (fun e he => absurd he (by simp)), fun _ => rfl⟩
  have I1 := I.laid (a := s.heap.objs.size) (o := .own (s.heap.objs.size + 1)) (h' := s.heap.push PySem.W.emptyDict) (t' := s.toks) (fun b u q => Heap.get?_push_of_some _ q) (Nat.le_refl _) ⟨_, e1⟩
  refine I1.laid (a := s.heap.objs.size + 1) (o := .ins C s.heap.objs.size []) (t' := s.toks) (fun b u q => Heap.get?_push_of_some _ q) (Nat.le_of_eq (Heap.size_push _ _)) ?_
  have ne : s.heap.objs.size ≠ s.heap.objs.size + 1 := Nat.ne_of_lt (Nat.lt_succ_self _)
  refine ⟨by rw [upd_ne ne, upd_same], Nat.zero_le _, ne, e2, fun _ => none, (Heap.Ns1.of_empty e3).at fun o q => Heap.get?_push_of_some _ q, fun _ => True.intro, fun y hy => absurd rfl hy⟩
end
def tFld (K : PySem.W.Frag) (ta : TE) (f : Str) : TE := fun σ H Q => ta σ H fun x H1 => ∃ a C dx fs v, x = .ref a ∧ H1 a = some (.ins C dx fs) ∧ Cls K C ∧ NoAttr K C f ∧ fs.lookup f = some v ∧ Q v H1
def tCon (K : PySem.W.Frag) (ta : TE) (f : Str) : TE := fun σ H Q => ta σ H fun x H1 => ∃ a C dx fs v u, x = .ref a ∧ H1 a = some (.ins C dx fs) ∧ Cls K C ∧ Con K C f v u ∧ fs.lookup f = none ∧ Q v H1
def sFld (K : PySem.W.Frag) (ta tv : TE) (f : Str) : TS := fun D σ H => tv σ H fun y H1 => ta σ H1 fun x H2 => ∃ a C dx fs, x = .ref a ∧ H2 a = some (.ins C dx fs) ∧ Cls K C ∧ NoAttr K C f ∧ fs.length < 1000 ∧
  D.nx σ (upd H2 a (.ins C dx (putF f y fs)))
def InOp (X : Cx) (op : Operator) (rd : V → V → Hp → VK → Prop) : Prop :=
  ∀ (pins : List (Addr × Obj)) (s : Shared) (σ : St) (H : Hp) (x y : V) (u v : Value) (Q : VK), Inv X pins σ H s → RelV x u → RelV y v → rd x y H Q → wpAny (model X.prog X.w) X.A (inplaceOp op u v) (EP X pins σ Q) X.xe s
def sFldAug (K : PySem.W.Frag) (ta tv : TE) (rd : V → V → Hp → VK → Prop) (f : Str) : TS := fun D σ H => ta σ H fun x H1 => ∃ a C dx fs v, x = .ref a ∧ H1 a = some (.ins C dx fs) ∧ Cls K C ∧ NoAttr K C f ∧ fs.lookup f = some v ∧
  tv σ H1 fun y H2 => rd v y H2 fun z H3 => ∃ dx' fs', H3 a = some (.ins C dx' fs') ∧ fs'.length < 1000 ∧ D.nx σ (upd H3 a (.ins C dx' (putF f z fs')))
section
variable {X : Cx} {o e value : Expr} {f : Str} {pos pos' tpos : Pos} {ta tv : TE}
def rAdd : V → V → Hp → VK → Prop := fun x y H Q => ∃ i j, x = .int i ∧ y = .int j ∧ Q (.int (i + j)) H
def rSub : V → V → Hp → VK → Prop := fun x y H Q => ∃ i j, x = .int i ∧ y = .int j ∧ Q (.int (i - j)) H
end
section
variable {X : Cx} {pins : List (Addr × Obj)} {σ : St} {H : Hp} {s : Shared} {A : Around} {E : Value → Shared → Prop} {Q : Value → Shared → Prop} {c : Value} {b : Bool}
inductive TyOf (K : PySem.W.Frag) (H : Hp) : V → Value → Prop where
  | non : TyOf K H .non (.type "NoneType")
  | bl (x : Bool) : TyOf K H (.bl x) (.type "bool")
  | int (i : Int) : TyOf K H (.int i) (.type "int")
  | str (x : Str) : TyOf K H (.str x) (.type "str")
  | flt (x : UInt64) : TyOf K H (.flt x) (.type "float")
  | lst {a : Addr} {xs : List V} (e : H a = some (.lst xs)) : TyOf K H (.ref a) (.type "list")
  | frz {a : Addr} {o : Obj} {xs : List V} (e : H a = some (.frz o (.lst xs))) : TyOf K H (.ref a) (.type "list")
  | tup {a : Addr} {xs : List V} (e : H a = some (.tup xs)) : TyOf K H (.ref a) (.type "tuple")
  | dK {a : Addr} {kvs : List (Key × V)} (e : H a = some (.dK kvs)) : TyOf K H (.ref a) (.type "dict")
  | dT {a : Addr} {kvs : List (List Key × V)} (e : H a = some (.dT kvs)) : TyOf K H (.ref a) (.type "dict")
  | ins {a C dx : Addr} {fs : List (Str × V)} (e : H a = some (.ins C dx fs)) (cl : Cls K C) (ha : PySem.W.findIn K (.ref C) "__class__" = some (some (.builtin "object.__class__")))
      (hn : PySem.W.specialIn K (.builtin "object.__class__") "__get__" = some (some (.builtin "getset_descriptor.__get__"))) (htk : PySem.W.takesIn K (.builtin "object.__class__") = some true)
      (hm : PySem.W.mroIn K C (.type "object") = some true) : TyOf K H (.ref a) (.ref C)
end
end L2
namespace L2
open PySem PySem.Spec PyProof.Rows
structure Room (k : Nat) (A : Around) : Prop where
  hd : A.handled = none
  gu : A.guards = some []
  dp : A.depth + 3 * k + 5 < recursionLimit
  un : A.units + 16 * k + 200 < cLine
theorem Room.mono {j k : Nat} {A : Around} (r : Room k A) (h : j ≤ k) : Room j A := ⟨r.hd, r.gu, by have := r.dp; omega, by have := r.un; omega⟩
theorem Room.deeper {k : Nat} {A : Around} (r : Room (k + 1) A) (env : Env) : Room k (A.deeper env) :=
  ⟨r.hd, r.gu, by have := r.dp; show A.depth + 1 + 3 * k + 5 < _; omega, by have := r.un; show A.units + 3 + 16 * k + 200 < _; omega⟩
theorem Room.in1 {k : Nat} {A : Around} (r : Room (k + 1) A) : Room k A.in1 :=
  ⟨r.hd, r.gu, by have := r.dp; show A.depth + 3 * k + 5 < _; omega, by have := r.un; show A.units + 1 + 16 * k + 200 < _; omega⟩
theorem make_depth {A : Around} {C : Addr} {us : List Value} {kw : List (Str × Value)} : (A.under (.builtin "type.__call__" ⟨.ref C :: us, kw⟩)).depth = A.depth + 1 := by
  first | rfl | simp [Around.under, Code.weight, Code.isCreation, Code.isGuard, Code.isCaller, Code.frames, Code.isFrame, guardIds]
theorem make_units {A : Around} {C : Addr} {us : List Value} {kw : List (Str × Value)} : (A.under (.builtin "type.__call__" ⟨.ref C :: us, kw⟩)).units = A.units + 1 := by
  first | rfl | simp [Around.under, Code.cUnits, Code.frames, Code.isFrame]
theorem Room.make {k : Nat} {A : Around} (r : Room (k + 1) A) (C : Addr) (us : List Value) (kw : List (Str × Value)) : Room k (A.under (.builtin "type.__call__" ⟨.ref C :: us, kw⟩)) :=
  ⟨r.hd, r.gu, by have := r.dp; rw [make_depth]; omega, by have := r.un; rw [make_units]; omega⟩
theorem Room.depth {k : Nat} {A : Around} (r : Room k A) : A.depth < recursionLimit := by have := r.dp; omega
theorem Room.units {k : Nat} {A : Around} (r : Room k A) : A.units + 64 < cLine := by have := r.un; omega
def tNil : TA := fun _ H Q => Q [] H
def tCons (ta : TE) (tr : TA) : TA := fun σ H Q => ta σ H fun x H1 => tr σ H1 fun xs H2 => Q (x :: xs) H2
section
variable {X : Cx} {e : Expr} {es : List Expr} {te : TE} {t : TA} {pos : Pos}
theorem pa_nil : PA X [] tNil := fun _ _ _ _ H Q I h => Calls.spliced_nil ⟨[], H, I, .nil, h⟩
theorem pa_cons (ha : PE X e te) (hr : PA X es t) (hs : starEach (e :: es) X.env = (false, eval e X.env) :: starEach es X.env := by rfl) : PA X (e :: es) (tCons te t) := by
  intro pos pins s σ H Q I h
  rw [hs]
  show wpAny _ _ (spliced ((false, eval e X.env) :: backTo pos (starEach es X.env))) _ _ s
  refine Calls.spliced_cons (thn (ha pins s σ H _ I h) fun u s1 ⟨x, H1, I1, r1, q1⟩ => ?_)
  exact thn (hr pos pins s1 σ H1 _ I1 q1) fun us s2 ⟨xs, H2, I2, r2, q2⟩ => ⟨x :: xs, H2, I2, .cons r1 r2, q2⟩
def tTup (t : TA) : TE := fun σ H Q => t σ H fun xs H1 => xs.length ≤ sizeLine ∧ ∀ p, H1 p = none → Q (.ref p) (upd H1 p (.tup xs))
def tLst (t : TA) : TE := fun σ H Q => t σ H fun xs H1 => xs.length ≤ sizeLine ∧ ∀ p, H1 p = none → Q (.ref p) (upd H1 p (.lst xs))
theorem pe_tup {x1} (h : PA X es t) : PE X (.Tuple es x1 pos) (tTup t) := by
  intro pins s σ H Q I hq
  refine wpAny_Tuple_spliced (thn (h pos pins s σ H _ I hq) fun us s1 ⟨xs, H1, I1, r, z, q⟩ => ⟨by rw [← r.length]; exact z, ?_⟩)
  have hf : H1 s1.heap.objs.size = none := I1.hok.fresh (Nat.le_refl _)
  refine ⟨.ref s1.heap.objs.size, upd H1 s1.heap.objs.size (.tup xs), I1.laid (t' := s1.toks) (fun b u e => Heap.get?_push_of_some _ e) (Nat.le_refl _) ?_, rfl, q _ hf⟩
  exact ⟨z, us, r, ⟨_, Heap.get?_push_size _ rfl, rfl, _, rfl⟩⟩
theorem pe_lst (h : PA X es t) : PE X (.List es pos) (tLst t) := by
  intro pins s σ H Q I hq
  refine wpAny_List_spliced (thn (h pos pins s σ H _ I hq) fun us s1 ⟨xs, H1, I1, r, z, q⟩ => ⟨by rw [← r.length]; exact z, ?_⟩)
  have hf : H1 s1.heap.objs.size = none := I1.hok.fresh (Nat.le_refl _)
  refine ⟨.ref s1.heap.objs.size, upd H1 s1.heap.objs.size (.lst xs), I1.laid (t' := s1.toks) (fun b u e => Heap.get?_push_of_some _ e) (Nat.le_refl _) ?_, rfl, q _ hf⟩
  exact ⟨z, us, 0, r, Heap.get?_push_size _ rfl⟩
end
abbrev Sp := List V → Hp → VK → XK → Prop
abbrev CXT := List Env → Hp → Shared → XK → Value → Shared → Prop
structure Env0 (P : Program) (w : World) (K : PySem.W.Frag) (mg : Str → Option Value) (base : Heap) (A : Around) (outer : List Env) (s : Shared) (H : Hp) : Prop where
  frames : A.frames = some outer
  mod : Mod K mg base
  bs : ∀ b o, base.get? b = some o → s.heap.get? b = some o ∧ H b = none
  bsz : base.objs.size ≤ s.heap.objs.size
  funs : s.heap.FunFrames base outer
  frf : ∀ b ∈ frs outer, H b = none
  hok : HOk P w H s.heap
  bare : AllBare s.gens
def CE (outer : List Env) (P : Program) (w : World) (H : Hp) (s : Shared) (Q : VK) (u : Value) (s' : Shared) : Prop :=
  ∃ v H', s'.os = s.os ∧ GOk s.gens s'.gens ∧ Un (frs outer) [] H H' s.heap s'.heap ∧ HOk P w H' s'.heap ∧ RelV v u ∧ Q v H'
def CR (CX : CXT) (outer : List Env) (P : Program) (w : World) (H : Hp) (s : Shared) (Q : VK) (E : XK) (r : Result) (s' : Shared) : Prop :=
  match r with
  | .ok (.ret u) => CE outer P w H s Q u s'
  | .ok _ => False
  | .error e => CX outer H s E e s'
structure FnOk (P : Program) (w : World) (K : PySem.W.Frag) (mg : Str → Option Value) (base : Heap) (CX : CXT) (k : Nat) (f : Addr) (fd : FuncData) (ps : List Str) (sp : Sp) : Prop where
  len : ∀ vs H Q E, sp vs H Q E → vs.length = ps.length
  run : ∀ (A : Around) (outer : List Env) (s : Shared) (H : Hp) (args : Args) (us : List Value) (vs : List V) (Q : VK) (E : XK), Room k A → Env0 P w K mg base A outer s H → BindsTo s fd args (ps.zip us) → Vals vs us → sp vs H Q E →
    codeAny (model P w) A (.call (.ref f) args) (CR CX outer P w H s Q E) s
theorem FnOk.mono {P : Program} {w : World} {K : PySem.W.Frag} {mg : Str → Option Value} {base : Heap} {CX : CXT} {j k : Nat} {f : Addr} {fd : FuncData} {ps : List Str} {sp : Sp} (F : FnOk P w K mg base CX j f fd ps sp) (h : j ≤ k) :
    FnOk P w K mg base CX k f fd ps sp := ⟨F.len, fun A outer s H args us vs Q E hr => F.run A outer s H args us vs Q E (hr.mono h)⟩
theorem FnOk.imp {P : Program} {w : World} {K : PySem.W.Frag} {mg : Str → Option Value} {base : Heap} {CX : CXT} {k : Nat} {f : Addr} {fd : FuncData} {ps : List Str} {sp sp' : Sp} (F : FnOk P w K mg base CX k f fd ps sp)
    (h : ∀ vs H Q E, sp' vs H Q E → sp vs H Q E) : FnOk P w K mg base CX k f fd ps sp' :=
  ⟨fun vs H Q E q => F.len vs H Q E (h _ _ _ _ q), fun A outer s H args us vs Q E hr he hb hv hs => F.run A outer s H args us vs Q E hr he hb hv (h _ _ _ _ hs)⟩
theorem Env0.make {P : Program} {w : World} {K : PySem.W.Frag} {mg : Str → Option Value} {base : Heap} {A : Around} {outer : List Env} {s : Shared} {H : Hp} (e : Env0 P w K mg base A outer s H) (C : Addr) (us : List Value) (kw : List (Str × Value)) :
    Env0 P w K mg base (A.under (.builtin "type.__call__" ⟨.ref C :: us, kw⟩)) outer s H := ⟨by first | exact e.frames | (simpa [Around.under, Code.envs, Code.isFrame, pushEnvs] using e.frames), e.mod, e.bs, e.bsz, e.funs, e.frf, e.hok, e.bare⟩
theorem Env0.in1 {P : Program} {w : World} {K : PySem.W.Frag} {mg : Str → Option Value} {base : Heap} {A : Around} {outer : List Env} {s : Shared} {H : Hp} (e : Env0 P w K mg base A outer s H) :
    Env0 P w K mg base A.in1 outer s H := ⟨e.frames, e.mod, e.bs, e.bsz, e.funs, e.frf, e.hok, e.bare⟩
section
variable {X : Cx} {pins : List (Addr × Obj)} {σ : St} {H : Hp} {s s' : Shared}
theorem Inv.env0 (I : Inv X pins σ H s) : Env0 X.prog X.w X.K X.mg X.base X.A X.stack s H :=
  ⟨I.ok.frames, I.ok.mod, I.bs, Nat.le_trans I.ok.bsz I.sz, I.stack, I.stkFree, I.hok, I.bare.1⟩
theorem Inv.after {Q : VK} {u : Value} (I : Inv X pins σ H s) (h : CE X.stack X.prog X.w H s Q u s') : EP X pins σ Q u s' := by
  obtain ⟨v, H', os, bare, un, hok, r, q⟩ := h
  obtain ⟨hh, g, d, t, os'⟩ := s'
  obtain rfl : os' = s.os := os
  exact ⟨v, H', I.call (h' := hh) (g' := g) (d' := d) (t' := t) (ch := []) un hok (I.bare.tr bare) (fun b z => absurd z (by simp)), r, q⟩
end
def tCall (sp : Sp) (dvs : List V) (E : XK) (t : TA) : TE := fun σ H Q => t σ H fun vs H1 => sp (vs ++ dvs) H1 Q E
def tMeth (C : Addr) (m : Str) (sp : Sp) (dvs : List V) (E : XK) (ta : TE) (t : TA) : TE := fun σ H Q => ta σ H fun x H1 => ∃ a dx fs, x = .ref a ∧ H1 a = some (.ins C dx fs) ∧ fs.lookup m = none ∧
  t σ H1 fun vs H2 => sp (x :: (vs ++ dvs)) H2 Q E
def tMake (C : Addr) (sp : Sp) (dvs : List V) (E : XK) (t : TA) : TE := fun σ H Q => t σ H fun vs H1 => ∀ x dx, H1 x = none → H1 dx = none → dx ≠ x →
  sp (.ref x :: (vs ++ dvs)) (upd (upd H1 dx (.own x)) x (.ins C dx [])) (fun v H2 => v = .non ∧ Q (.ref x) H2) E
def Binds (K : PySem.W.Frag) (fd : FuncData) (ps : List Str) (ds : List Value) : Prop :=
  ∀ (s : Shared) (us : List Value), K.In s.heap → (us ++ ds).length = ps.length → BindsTo s fd ⟨us, []⟩ (ps.zip (us ++ ds))
theorem Binds.all {K : PySem.W.Frag} {fd : FuncData} {ps : List Str} (h : ∀ us : List Value, us.length = ps.length → bindArgs fd ⟨us, []⟩ = pure (ps.zip us)) : Binds K fd ps [] := fun s us _ hl => by
  rw [List.append_nil] at hl ⊢
  exact .of_eq (h us hl)
def Passes (CX : CXT) (X : Cx) (E : XK) : Prop := ∀ (pins : List (Addr × Obj)) (σ : St) (H : Hp) (s : Shared) (e : Value) (s' : Shared), Inv X pins σ H s → CX X.stack H s E e s' → X.xe e s'
section
variable {X : Cx} {CX : CXT} {k : Nat} {f C : Addr} {fd : FuncData} {ps : List Str} {sp : Sp} {dvs : List V} {ds : List Value} {E : XK} {x m : Str} {p pos apos : Pos} {e o : Expr} {es : List Expr} {ta : TE} {t : TA}
theorem run_fn {pins : List (Addr × Obj)} {σ : St} {H : Hp} {s : Shared} {Q : VK} {us : List Value} {vs : List V} (F : FnOk X.prog X.w X.K X.mg X.base CX k f fd ps sp) (hr : Room k X.A) (hb : Binds X.K fd ps ds) (hd : Vals dvs ds) (hx : Passes CX X E)
    (I : Inv X pins σ H s) (r : Vals vs us) (h : sp (vs ++ dvs) H Q E) : wpAny (model X.prog X.w) X.A (call (.ref f) us) (EP X pins σ Q) X.xe s := by
  have r2 : Vals (vs ++ dvs) (us ++ ds) := r.append hd
  have hl : (us ++ ds).length = ps.length := by rw [← r2.length]; exact F.len _ _ _ _ h
  refine wpAny_call (codeAny_mono (F.run X.A X.stack s H ⟨us, []⟩ (us ++ ds) (vs ++ dvs) Q E hr I.env0 (hb s us I.kIn hl) r2 h) fun r s' hq => ?_)
  cases r with
  | error e => exact hx pins σ H s e s' I hq
  | ok fl =>
    cases fl with
    | ret u => exact I.after hq
    | next => exact False.elim hq
    | brk => exact False.elim hq
    | cont => exact False.elim hq
theorem pe_call (F : FnOk X.prog X.w X.K X.mg X.base CX k f fd ps sp) (hr : Room k X.A) (hg : Gl X x) (hm : X.mg x = some (.ref f)) (hk : PySem.W.keepIn X.K (.ref f) = true) (hb : Binds X.K fd ps ds) (hd : Vals dvs ds) (hx : Passes CX X E)
    (ha : PA X (e :: es) t) (hdb : (x == ("__debug__" : Str)) = false := by decide) (he : starEach (e :: es) X.env = (false, eval e X.env) :: starEach es X.env := by rfl) (hpl : (backTo pos (starEach es X.env)).any (·.1) = false := by rfl) :
    PE X (.Call (.Name x p) (e :: es) [] pos) (tCall sp dvs E t) := by
  intro pins s σ H Q I h
  refine wpAny_Call_Name_kw (ld_glob I hg hm ?_ hdb)
  refine PySem.W.callWith_K (h₀ := X.base) I.ok.mod.kin hk (thn (ha pos pins s σ H _ I h) fun us s1 ⟨vs, H1, I1, r, q⟩ => ⟨I1.kIn, ?_⟩) he hpl
  exact run_fn F hr hb hd hx I1 r q
structure Mk (K : PySem.W.Frag) (C f : Addr) : Prop where
  makes : PySem.W.makesIn K C = true
  init : PySem.W.findIn K (.ref C) "__init__" = some (some (.ref f))
  fn : PySem.W.isFn K (.ref f) = true
  kp : PySem.W.keepIn K (.ref C) = true
end
def PK (X : Cx) (kws : List Keyword) (t : TA) : Prop :=
  ∀ (pos : Pos) (pins : List (Addr × Obj)) (s : Shared) (σ : St) (H : Hp) (Q : List V → Hp → Prop), Inv X pins σ H s → t σ H Q → wpAny (model X.prog X.w) X.A (evalAll ((backToKw pos (keywordEach kws X.env)).map (·.2))) (AP X pins σ Q) X.xe s
section
variable {X : Cx} {CX : CXT} {k : Nat} {f C : Addr} {fd : FuncData} {ps ks : List Str} {sp : Sp} {E : XK} {x m : Str} {p pos apos kpos : Pos} {e o : Expr} {es : List Expr} {kws : List Keyword} {te ta : TE} {t tk : TA} {nm : Option Str}
theorem pk_nil : PK X [] tNil := fun _ _ _ _ H Q I h => wpAny_evalAll_nil ⟨[], H, I, .nil, h⟩
theorem pk_cons (ha : PE X e te) (hr : PK X kws t) : PK X (⟨nm, e, kpos⟩ :: kws) (tCons te t) := by
  intro pos pins s σ H Q I h
  show wpAny _ _ (evalAll ((do let v ← eval e X.env; standAt pos; pure v) :: (backToKw pos (keywordEach kws X.env)).map (·.2))) _ _ s
  refine wpAny_evalAll_cons (wpAny_bind (thn (ha pins s σ H _ I h) fun u s1 ⟨x, H1, I1, r1, q1⟩ => wpAny_bind (wpAny_standAt (wpAny_pure ?_))))
  exact thn (hr pos pins s1 σ H1 _ I1 q1) fun us s2 ⟨xs, H2, I2, r2, q2⟩ => ⟨x :: xs, H2, I2, .cons r1 r2, q2⟩
structure KBinds (K : PySem.W.Frag) (fd : FuncData) (ps ks : List Str) (g : List Value → List Value → List Value) (gV : List V → List V → List V) : Prop where
  to : ∀ (s : Shared) (us ws : List Value), K.In s.heap → (g us ws).length = ps.length → BindsTo s fd ⟨us, ks.zip ws⟩ (ps.zip (g us ws))
  rel : ∀ {vs : List V} {us : List Value} {zs : List V} {ws : List Value}, Vals vs us → Vals zs ws → Vals (gV vs zs) (g us ws)
def tCallK (sp : Sp) (gV : List V → List V → List V) (E : XK) (t tk : TA) : TE := fun σ H Q => t σ H fun vs H1 => tk σ H1 fun zs H2 => sp (gV vs zs) H2 Q E
variable {g : List Value → List Value → List Value} {gV : List V → List V → List V}
end
structure FnScope (N P : List Str) (sc : Scope) : Prop where
  kind : sc.kind = .function
  co : sc.isCoroutine = false
  gen : sc.isGenerator = false
  nd : N.Nodup
  pre : N.take P.length = P
  par : ∀ x ∈ P, sc.names.lookup x = some .local ∨ sc.names.lookup x = some .cell
  nofree : ∀ y ∈ sc.names, y.2 ≠ .free
theorem bindL_out {kindOf : Str → Option NameKind} {x : Str} : ∀ {binds : List (Str × Value)} {m : Str → Option Value}, (∀ v, (x, v) ∉ binds) → bindL kindOf binds m x = m x
  | [], _, _ => rfl
  | (n, v) :: r, m, h => by
    unfold bindL
    rw [bindL_out fun w hw => h w (List.mem_cons_of_mem _ hw)]
    split
    · have : x ≠ n := by rintro rfl; exact h v List.mem_cons_self
      simp [this]
    · rfl
theorem bindC_out {kindOf : Str → Option NameKind} {x : Str} : ∀ {binds : List (Str × Value)} {m : Str → Option Value}, (∀ v, (x, v) ∉ binds) → bindC kindOf binds m x = m x
  | [], _, _ => rfl
  | (n, v) :: r, m, h => by
    unfold bindC
    rw [bindC_out fun w hw => h w (List.mem_cons_of_mem _ hw)]
    split
    · rfl
    · have : x ≠ n := by rintro rfl; exact h v List.mem_cons_self
      simp [this]
theorem bindL_get {kindOf : Str → Option NameKind} {x : Str} {v : Value} : ∀ {P : List Str} {vs : List Value} {i : Nat} {m : Str → Option Value}, P.Nodup → P[i]? = some x → vs[i]? = some v → kindOf x = some .local →
    bindL kindOf (P.zip vs) m x = some v
  | [], _, _, _, _, h, _, _ => by simp at h
  | _ :: _, [], _, _, _, _, h, _ => by simp at h
  | p :: P, w :: vs, 0, m, nd, h1, h2, hk => by
    simp at h1 h2; subst h1; subst h2
    show bindL kindOf ((p, w) :: P.zip vs) m p = _
    unfold bindL
    rw [bindL_out fun v hv => (List.nodup_cons.mp nd).1 (List.of_mem_zip hv).1, if_pos hk]
    simp
  | p :: P, w :: vs, i + 1, m, nd, h1, h2, hk => by
    show bindL kindOf ((p, w) :: P.zip vs) m x = _
    unfold bindL
    exact bindL_get (i := i) (List.nodup_cons.mp nd).2 (by simpa using h1) (by simpa using h2) hk
theorem bindC_get {kindOf : Str → Option NameKind} {x : Str} {v : Value} : ∀ {P : List Str} {vs : List Value} {i : Nat} {m : Str → Option Value}, P.Nodup → P[i]? = some x → vs[i]? = some v → kindOf x ≠ some .local →
    bindC kindOf (P.zip vs) m x = some v
  | [], _, _, _, _, h, _, _ => by simp at h
  | _ :: _, [], _, _, _, _, h, _ => by simp at h
  | p :: P, w :: vs, 0, m, nd, h1, h2, hk => by
    simp at h1 h2; subst h1; subst h2
    show bindC kindOf ((p, w) :: P.zip vs) m p = _
    unfold bindC
    rw [bindC_out fun v hv => (List.nodup_cons.mp nd).1 (List.of_mem_zip hv).1, if_neg hk]
    simp
  | p :: P, w :: vs, i + 1, m, nd, h1, h2, hk => by
    show bindC kindOf ((p, w) :: P.zip vs) m x = _
    unfold bindC
    exact bindC_get (i := i) (List.nodup_cons.mp nd).2 (by simpa using h1) (by simpa using h2) hk
def start (N : List Str) (vs : List V) : St := vs.map some ++ List.replicate (N.length - vs.length) none
def cxOf (CX : CXT) (P : Program) (w : World) (K : PySem.W.Frag) (mg : Str → Option Value) (base : Heap) (N : List Str) (qual : Str) (scope : Scope) (f : Addr) (cd : Value) (A : Around) (outer : List Env) (s : Shared) (H : Hp) (E : XK) : Cx where
  prog := P
  w := w
  K := K
  mg := mg
  base := base
  A := A.deeper (envOfC qual scope s.heap.objs.size f cd)
  N := N
  s_0 := s
  H_0 := H
  env := envOfC qual scope s.heap.objs.size f cd
  outer := outer
  stack := envOfC qual scope s.heap.objs.size f cd :: outer
  ex := []
  calm := true
  fn := fun _ => true
  pn := []
  xe := fun e s' => wpAny (model P w) (A.deeper (envOfC qual scope s.heap.objs.size f cd)) (leaving (envOfC qual scope s.heap.objs.size f cd) e) (fun _ s'' => CX outer H s E e s'') (fun e' s'' => CX outer H s E e' s'') s'
theorem cell_has {sc : Scope} {n : Nat} {x : Str} (h : sc.names.lookup x = some .cell) : ∃ c, (cellsFrom n sc.names []).lookup x = some c := by
  have q := PySem.W.cellsFrom_some sc.names n [] (.inl h)
  exact Option.isSome_iff_exists.mp q
theorem inv_start {CX : CXT} {P : Program} {w : World} {K : PySem.W.Frag} {mg : Str → Option Value} {base : Heap} {N ps : List Str} {qual : Str} {scope : Scope} {f : Addr} {cd : Value} {A : Around} {outer : List Env} {s s1 : Shared} {H : Hp} {E : XK} {us : List Value} {vs : List V}
    (S : FnScope N ps scope) (hd : A.handled = none) (e0 : Env0 P w K mg base A outer s H) (hl : vs.length = ps.length) (r : Vals vs us)
    (x : InCallC s s.heap.objs.size (bindL (envOfC qual scope s.heap.objs.size f cd).kindOf (ps.zip us) fun _ => none) (cellsFrom (s.heap.objs.size + 1) scope.names []) (bindC (envOfC qual scope s.heap.objs.size f cd).kindOf (ps.zip us) fun _ => none) s1) :
    Inv (cxOf CX P w K mg base N qual scope f cd A outer s H E) [] (start N vs) H s1 := by
  have hpl : ps.length ≤ N.length := by have := congrArg List.length S.pre; rw [List.length_take] at this; omega
  obtain ⟨h1, tk, rfl, hk⟩ := x.done
  have noA : ∀ b : Addr, b ∉ (cxOf CX P w K mg base N qual scope f cd A outer s H E).ex := fun b z => absurd (show b ∈ ([] : List Addr) from z) (by simp)
  refine ⟨⟨e0.mod, S.kind, rfl, rfl, Nat.le_refl _, fun y z c h1 h2 => ?_, fun y hy => ?_, fun y c _ h => ?_, fun _ => hd, Around.frames_deeper e0.frames, .inr ⟨rfl, rfl⟩, fun b z => absurd z (noA b), e0.bs, e0.bsz, fun b _ _ => noA b, fun b z => absurd z (noA b), e0.funs, e0.frf⟩,
    rfl, ⟨e0.bare, Nat.le_refl _⟩, Un.kept hk, ⟨_, x.toInCall.ns, fun i y v h1 h2 h3 => ?_⟩, fun y c h => ⟨_, x.cell y c h⟩, e0.hok.fresh (Nat.le_refl _), fun y c h => ?_, fun p hp => absurd (show p ∈ ([] : List (Addr × Obj)) from hp) (by simp), e0.hok.kept hk, ?_⟩
  · exact name_of_addr x.apart (PySem.mem_of_lookup h1) (PySem.mem_of_lookup h2)
  · have hy : scope.names.lookup y = some .cell ∨ scope.names.lookup y = some .free := hy
    rcases hy with hy | hy
    · exact cell_has hy
    · exact absurd rfl (S.nofree _ (PySem.mem_of_lookup hy))
  · exact Nat.le_of_lt (x.above y c (PySem.mem_of_lookup h))
  · have hi : i < vs.length := by
      unfold start at h2
      by_cases hi : i < vs.length
      · exact hi
      · rw [List.getElem?_append_right (by simpa using hi)] at h2
        rw [List.getElem?_replicate] at h2
        split at h2 <;> cases h2
    have ha : vs[i]? = some v := by
      unfold start at h2
      rw [List.getElem?_append_left (by simpa using hi), List.getElem?_map] at h2
      cases e : vs[i]? with
      | none => rw [e] at h2; cases h2
      | some a => rw [e] at h2; cases h2; rfl
    obtain ⟨u, hu, rv⟩ := r.get ha
    have hp : ps[i]? = some y := by
      rw [← S.pre, List.getElem?_take_of_lt (by omega)]; exact h1
    have ndP : ps.Nodup := by rw [← S.pre]; exact S.nd.sublist (List.take_sublist _ _)
    refine ⟨u, rv, ?_⟩
    rcases S.par y (List.mem_of_getElem? hp) with k | k
    · exact .inl ⟨k, bindL_get ndP hp hu k⟩
    · obtain ⟨c, e⟩ := cell_has (n := s.heap.objs.size + 1) k
      refine .inr ⟨.inl k, c, e, ?_⟩
      have q := x.cell y c e
      rw [bindC_get ndP hp hu (by show scope.names.lookup y ≠ _; rw [k]; decide)] at q
      exact q
  · exact e0.hok.fresh (Nat.le_of_lt (x.above y c (PySem.mem_of_lookup h)))
  · unfold start
    show _ = N.length
    rw [List.length_append, List.length_map, List.length_replicate]
    omega
theorem fn_of {CX : CXT} {P : Program} {w : World} {K : PySem.W.Frag} {mg : Str → Option Value} {base : Heap} {k : Nat} {f : Addr} {name qual : Str} {params : Arguments} {body : List Stmt} {scope : Scope} {dV kV doc pm cdv ct oc : Value} {an od : Option Addr}
    {osl : Array (Option Value)} {N ps : List Str} {sp : Sp} (lk : K.lookup f = some ⟨oc, od, .func (PySem.W.fnOf name qual params body scope dV kV doc pm an cdv ct), osl⟩) (hcd : PySem.W.codeIn K cdv qual = true) (S : FnScope N ps scope)
    (len : ∀ vs H Q E, sp vs H Q E → vs.length = ps.length)
    (hbody : ∀ (A : Around) (outer : List Env) (s : Shared) (H : Hp) (vs : List V) (Q : VK) (E : XK), Room k (A.deeper (envOfC qual scope s.heap.objs.size f cdv)) → sp vs H Q E →
      ∃ t, PSs (cxOf CX P w K mg base N qual scope f cdv A outer s H E) body t ∧ t { nx := fun _ H' => Q .non H', rt := Q } (start N vs) H) :
    FnOk P w K mg base CX (k + 1) f (PySem.W.fnOf name qual params body scope dV kV doc pm an cdv ct) ps sp := by
  refine ⟨len, fun A outer s H args us vs Q E hr e0 hb r hsp => ?_⟩
  have hl := len _ _ _ _ hsp
  have KX : K.In s.heap := e0.mod.kin.keeps fun b o e => (e0.bs b o e).1
  have lim : s.heap.NoLimit := e0.mod.nolimit.keeps fun b o e => (e0.bs b o e).1
  have hkind : ∀ y ∈ ps.zip us, scope.names.lookup y.1 = some .local ∨ (scope.names.lookup y.1 = some .cell ∧ ((cellsFrom (s.heap.objs.size + 1) scope.names []).lookup y.1).isSome = true) := fun ⟨n, v⟩ hy => by
    rcases S.par n (List.of_mem_zip hy).1 with q | q
    · exact .inl q
    · exact .inr ⟨q, PySem.W.cellsFrom_some _ _ _ (.inl q)⟩
  refine codeAny_call_function hr.depth (KX _ _ lk) rfl S.co S.gen rfl (PySem.W.codeRec_of KX hcd) (hb _ _ _ _ ?_)
  refine wpAny_newFunctionEnv_cells S.kind hkind fun env he s1 x => ?_
  subst he
  refine ⟨lim.keeps x.toInCall.keep, codeAny_func ?_⟩
  obtain ⟨t, ht, hq⟩ := hbody A outer s H vs Q E (hr.deeper _) hsp
  have I : Inv (cxOf CX P w K mg base N qual scope f cdv A outer s H E) [] (start N vs) H s1 := inv_start S hr.hd e0 hl r x
  refine wpAny_mono (ht [] s1 (start N vs) H _ I hq) (fun fl s' hs => ?_) fun e s' hs => hs
  have fin : ∀ {σ' : St} {H' : Hp} {v : V} {u : Value}, Inv (cxOf CX P w K mg base N qual scope f cdv A outer s H E) [] σ' H' s' → RelV v u → Q v H' → CE outer P w H s Q u s' :=
    fun {σ' H' v u} J rv q => ⟨v, H', J.os, J.bare, J.base, J.hok, rv, q⟩
  cases fl with
  | ret u =>
    obtain ⟨v, σ', H', J, rv, q⟩ := hs
    exact fin J rv q
  | next =>
    obtain ⟨σ', H', J, q⟩ := hs
    exact fin (v := V.non) (u := Value.none) J rfl q
  | brk =>
    obtain ⟨_, _, _, q⟩ := hs
    exact False.elim q
  | cont =>
    obtain ⟨_, _, _, q⟩ := hs
    exact False.elim q
end L2
namespace L2
open PySem PySem.Spec PyProof.Rows
section
variable {X : Cx} {x : Str} {p pos : Pos} {e : Expr} {es : List Expr} {t : TA} {id T : String} {r : List V → Hp → VK → Prop}
def tCB (r : List V → Hp → VK → Prop) (t : TA) : TE := fun σ H Q => t σ H fun vs H1 => r vs H1 Q
theorem pe_callB (hc : CallR X (.builtin id) r) (hg : Gl X x) (hm : X.mg x = none) (hv : bootBuiltins x = some (.builtin id)) (ha : PA X (e :: es) t) (hn : x ≠ "__name__" := by decide) (hdb : (x == ("__debug__" : Str)) = false := by decide)
    (he : starEach (e :: es) X.env = (false, eval e X.env) :: starEach es X.env := by rfl) (hpl : (backTo pos (starEach es X.env)).any (·.1) = false := by rfl) : PE X (.Call (.Name x p) (e :: es) [] pos) (tCB r t) := by
  intro pins s σ H Q I h
  refine wpAny_Call_Name_kw (ld_blt I hg hm hv ?_ hn hdb)
  exact PyProof.Rows.callWith_builtin1 (thn (ha pos pins s σ H _ I h) fun us s1 ⟨vs, H1, I1, r1, q1⟩ => hc pins s1 σ H1 vs us Q I1 r1 q1) he hpl
theorem pe_callTy (hc : CallR X (.type T) r) (hg : Gl X x) (hm : X.mg x = none) (hv : bootBuiltins x = some (.type T)) (ha : PA X (e :: es) t) (hn : x ≠ "__name__" := by decide) (hdb : (x == ("__debug__" : Str)) = false := by decide)
    (he : starEach (e :: es) X.env = (false, eval e X.env) :: starEach es X.env := by rfl) (hpl : (backTo pos (starEach es X.env)).any (·.1) = false := by rfl) : PE X (.Call (.Name x p) (e :: es) [] pos) (tCB r t) := by
  intro pins s σ H Q I h
  refine wpAny_Call_Name_kw (ld_blt I hg hm hv ?_ hn hdb)
  exact PyProof.Rows.callWith_type1 (thn (ha pos pins s σ H _ I h) fun us s1 ⟨vs, H1, I1, r1, q1⟩ => hc pins s1 σ H1 vs us Q I1 r1 q1) he hpl
end
end L2
namespace HT
open PySem PyProof.Rows
def lexLt : List Int → List Int → Bool
  | [], [] => false
  | [], _ :: _ => true
  | _ :: _, [] => false
  | x :: xs, y :: ys => if x = y then lexLt xs ys else decide (x < y)
theorem lexLt_cons (x y : Int) (xs ys : List Int) : lexLt (x :: xs) (y :: ys) = if x = y then lexLt xs ys else decide (x < y) := rfl
theorem lexLt_nil_nil : lexLt [] [] = false := rfl
theorem lexLt_nil_cons (y : Int) (ys : List Int) : lexLt [] (y :: ys) = true := rfl
theorem lexLt_cons_nil (x : Int) (xs : List Int) : lexLt (x :: xs) [] = false := rfl
theorem eqAt_int (A : Around) (s : Shared) (a : Int) (t : Tok) (c : Int) (u : Tok) : ∃ e, SeqAt.EqAt A s (.int a t) (.int c u) e ∧ (e = true ↔ a = c) :=
  ⟨(a == c), SeqAt.EqAt.int_int a t c u, by simp⟩
theorem rcLt_int (A : Around) (s : Shared) (a : Int) (t : Tok) (c : Int) (u : Tok) (prog : Program) (w : World) (E : Value → Shared → Prop) (Q : Value → Shared → Prop) (h : Q (.bool (decide (a < c))) s) :
    wpAny (model prog w) A (richCompare .Lt (.int a t) (.int c u)) Q E s :=
  (PyProof.Rows.lt_int h : wpAny (model prog w) A (compareOp .Lt (.int a t) (.int c u)) Q E s)
section
open PySem.SeqAt
open PySem.AutoSeq1 (wpAny_loadPart')
open PySem.MeetsSeq PySem.MeetsSeq2 PySem.MeetsSeq3
theorem tuple_lt_ints (l b : Addr) (items items2 : Array Value) (n n2 : Nat) (dd dd2 : Option Addr) (sl sl2 : Array (Option Value)) (ns ms : List Int) (hi : IntsAre items.toList ns) (hj : IntsAre items2.toList ms) :
    Meets (Builtin.«tuple.__lt__» ⟨[.ref l, .ref b], []⟩)
      (fun _ R s => s.heap.get? l = some { cls := .type "tuple", dict := dd, data := .seq items n, slots := sl } ∧ s.heap.get? b = some { cls := .type "tuple", dict := dd2, data := .seq items2 n2, slots := sl2 } ∧
        R (.ok (.ret (.bool (lexLt ns ms)))) s) :=
  .of_wp fun prog w A R s h => by
    obtain ⟨hp, g, d, tk, os⟩ := s; obtain ⟨hl, hb, h⟩ := h
    have f2 := AutoSeq1.sub_tuple_tuple
    have z1 : items.size = ns.length := by rw [← hi.length]; simp
    have z2 : items2.size = ms.length := by rw [← hj.length]; simp
    wp_walk using wpAny_loadPart' hl, wpAny_loadPart' hb, wpAny_forIn_list _ (fun rest b s' => b.1 = none ∧ s' = ⟨hp, g, d, tk, os⟩ ∧ ∃ (vs ws : List Value) (ns' ms' : List Int), rest = vs.zip ws ∧
      IntsAre vs ns' ∧ IntsAre ws ms' ∧ ns'.length + items2.size = ms'.length + items.size ∧ R (.ok (.ret (.bool (lexLt ns' ms')))) ⟨hp, g, d, tk, os⟩) _
    case turn =>
      rintro ⟨y, x⟩ rest b s' ⟨hb', rfl, vs, ws, ns', ms', hz, hvi, hwi, hlen, hR⟩
      cases hvi with
      | nil => rw [List.zip_nil_left] at hz; cases hz
      | cons a t hvi' =>
        cases hwi with
        | nil => rw [List.zip_nil_right] at hz; cases hz
        | cons c u hwi' =>
          rw [List.zip_cons_cons] at hz
          injection hz with hyx hrest
          injection hyx with hy hx
          subst hy hx
          rw [lexLt_cons] at hR
          simp only [List.length_cons] at hlen
          obtain ⟨e, he, hiff⟩ := eqAt_int A.in1 ⟨hp, g, d, tk, os⟩ a t c u
          refine wpAny_bind (he prog w _ _ ?_)
          cases e with
          | true =>
            rw [if_pos (hiff.mp rfl)] at hR
            wp_walk
            exact ⟨rfl, rfl, _, _, _, _, hrest, hvi', hwi', by omega, hR⟩
          | false =>
            rw [if_neg (fun q => absurd (hiff.mpr q) Bool.false_ne_true)] at hR
            have hri := rcLt_int A.in1 ⟨hp, g, d, tk, os⟩ a t c u prog w
            wp_walk using hri
            exact ⟨_, rfl, by simpa using hR⟩
    case fin =>
      rintro ⟨b1, b2⟩ s' ⟨hb', rfl, vs, ws, ns', ms', hz, hvi, hwi, hlen, hR⟩
      simp only at hb'
      subst hb'
      have hv : lexLt ns' ms' = decide (items.size < items2.size) := by
        cases hvi with
        | nil =>
          cases hwi with
          | nil =>
            simp only [List.length_nil] at hlen
            rw [lexLt_nil_nil]
            exact (decide_eq_false (by omega)).symm
          | cons c u hw =>
            simp only [List.length_nil, List.length_cons] at hlen
            rw [lexLt_nil_cons]
            exact (decide_eq_true (by omega)).symm
        | cons a t hv =>
          cases hwi with
          | nil =>
            simp only [List.length_nil, List.length_cons] at hlen
            rw [lexLt_cons_nil]
            exact (decide_eq_false (by omega)).symm
          | cons c u hw =>
            rw [List.zip_cons_cons] at hz
            cases hz
      rw [hv] at hR
      wp_walk
      exact ⟨_, rfl, by simpa [Builtin.Tuple.tupleCompareSizes] using hR⟩
    case h =>
      exact ⟨rfl, rfl, items.toList, items2.toList, ns, ms, rfl, hi, hj, by omega, h⟩
end
section
variable {prog : Program} {w : World} {A : Around} {E : Value → Shared → Prop} {s : Shared}
theorem lt_tupInts {l b : Addr} {items items2 : Array Value} {ns ms : List Int} {Q : Value → Shared → Prop} (hl : IsTup s.heap l items) (hb : IsTup s.heap b items2) (hi : IntsAre items.toList ns) (hj : IntsAre items2.toList ms)
    (hu : A.units < cLine) (h : Q (.bool (lexLt ns ms)) s) : wpAny (model prog w) A (compareOp .Lt (.ref l) (.ref b)) Q E s := by
  obtain ⟨⟨cls, dd, data, sl⟩, ho, hc, n, hd⟩ := id hl
  obtain ⟨⟨cls2, dd2, data2, sl2⟩, ho2, hc2, n2, hd2⟩ := id hb
  simp only at hc hd hc2 hd2
  subst hc hd hc2 hd2
  exact richCompare_meets_room (op := .Lt) ⟨_, ho, rfl⟩ ⟨_, ho2, rfl⟩ PySem.F.slot_tuple_lt PySem.F.entry_tuple_lt (PySem.F.args_tuple_lt_2 _ _) (tuple_lt_ints l b items items2 n n2 dd dd2 sl sl2 ns ms hi hj)
    ⟨ho, ho2, show Value.bool (lexLt ns ms) ≠ Value.notImplemented ∧ Q (.bool (lexLt ns ms)) s from ⟨(fun x => nomatch x), h⟩⟩ hu
theorem cat_tup {t b : Addr} {vs ws : List Value} {Q : Value → Shared → Prop} (ht : IsTup s.heap t vs.toArray) (hb : IsTup s.heap b ws.toArray) (hv : vs ≠ [])
    (h1 : ws = [] → Q (.ref t) s) (h2 : ws ≠ [] → Q (.ref s.heap.objs.size) { s with heap := s.heap.push { cls := .type "tuple", data := .seq (vs ++ ws).toArray } })
    (hsz : vs.length + ws.length ≤ sizeLine) : wpAny (model prog w) A (binaryOp .Add (.ref t) (.ref b)) Q E s := by
  obtain ⟨⟨cls, dd, data, sl⟩, ho, hc, n, hd⟩ := id ht
  obtain ⟨⟨cls2, dd2, data2, sl2⟩, ho2, hc2, n2, hd2⟩ := id hb
  simp only at hc hd hc2 hd2
  subst hc hd hc2 hd2
  have e : vs.toArray ++ ws.toArray = (vs ++ ws).toArray := by simp
  by_cases hw : ws = []
  · exact concat_meets ⟨_, ho, rfl⟩ ⟨_, ho2, rfl⟩ noFill_tuple_add seq_tuple_add PySem.F.slot_tuple_add PySem.F.entry_tuple_add (PySem.F.args_tuple_add_2 _ _)
      (tuple_addW1 t b vs.toArray ws.toArray n n2 dd dd2 sl sl2 (by simpa using hv) (by simp [hw])) ⟨ho, ho2, h1 hw⟩
  · refine concat_meets ⟨_, ho, rfl⟩ ⟨_, ho2, rfl⟩ noFill_tuple_add seq_tuple_add PySem.F.slot_tuple_add PySem.F.entry_tuple_add (PySem.F.args_tuple_add_2 _ _)
      (tuple_addW2 t b vs.toArray ws.toArray n n2 dd dd2 sl sl2 (by simpa using hv) (by simpa using hw) (by rw [List.size_toArray, List.size_toArray]; exact hsz)) ⟨ho, ho2, ?_⟩
    rw [e]
    exact h2 hw
def sIx (n d : Nat) : Option Int → Nat
  | none => d
  | some v => if v < 0 then (v + (n : Int)).toNat else min v.toNat n
theorem sIx_nat (n d k : Nat) : sIx n d (some (k : Int)) = min k n := by
  show (if (k : Int) < 0 then ((k : Int) + (n : Int)).toNat else min (k : Int).toNat n) = min k n
  rw [if_neg (by omega), Int.toNat_natCast]
theorem sIx_le (n d : Nat) (hd : d ≤ n) (o : Option Int) : sIx n d o ≤ n := by
  cases o with
  | none => exact hd
  | some v =>
    show (if v < 0 then (v + (n : Int)).toNat else min v.toNat n) ≤ n
    by_cases hv : v < 0
    · rw [if_pos hv]; omega
    · rw [if_neg hv]; exact Nat.min_le_right _ _
theorem clip_eq (v : Int) (n d : Nat) : (if v < 0 then max (v + (n : Int)) 0 else min v (n : Int)) = ((sIx n d (some v) : Nat) : Int) := by
  show (if v < 0 then max (v + (n : Int)) 0 else min v (n : Int)) = (((if v < 0 then (v + (n : Int)).toNat else min v.toNat n) : Nat) : Int)
  by_cases hv : v < 0
  · simp only [if_pos hv]; omega
  · simp only [if_neg hv]; omega
theorem adjust_gen (lo hi : Option Int) (n : Nat) : Builtin.Slice.sliceAdjust lo hi 1 (n : Int) = (((sIx n 0 lo : Nat) : Int), ((sIx n n hi : Nat) : Int)) := by
  have h1 : ¬ ((1 : Int) < 0) := by omega
  unfold Builtin.Slice.sliceAdjust
  simp only [h1, if_false]
  refine Prod.ext ?_ ?_
  · cases lo with
    | none => rfl
    | some v => exact clip_eq v n 0
  · cases hi with
    | none => rfl
    | some v => exact clip_eq v n n
theorem places_gen (i j : Nat) : Builtin.Slice.slicePlaces (i : Int) (j : Int) 1 = j - i := by
  unfold Builtin.Slice.slicePlaces
  have h1 : (1 : Int) > 0 := by omega
  simp only [h1, if_true, Int.ediv_one]
  split <;> omega
theorem slicePart_ {v : Value} {o : Option Int} {Q : Option Int → Shared → Prop} (p : IsPart v o) (h : Q o s) : wpAny (model prog w) A (Builtin.Slice.slicePartIndex v) Q E s := by
  cases p with
  | none => exact slicePart_none h
  | int i t => exact slicePart_int h
theorem sliceApplied_gen {sl : Addr} {vl vu : Value} {lo hi : Option Int} {n : Nat} {Q : Int × Int × Nat → Shared → Prop} (hs : s.heap.IsSliceOf sl vl vu .none) (pl : IsPart vl lo) (pu : IsPart vu hi)
    (h : Q (((sIx n 0 lo : Nat) : Int), 1, sIx n n hi - sIx n 0 lo) s) : wpAny (model prog w) A (Builtin.Slice.sliceApplied (.ref sl) (pure (n : Int))) Q E s := by
  obtain ⟨os, hos, hcs, hds⟩ := id hs
  unfold Builtin.Slice.sliceApplied Builtin.Slice.sliceFields
  refine wpAny_bind (wpAny_bind (wpAny_field hos hds (x := vl) rfl (wpAny_bind (wpAny_field hos hds (x := vu) rfl (wpAny_bind (wpAny_field hos hds (x := .none) rfl (wpAny_pure ?_)))))))
  refine wpAny_bind (slicePart_none ?_)
  show wpAny _ _ (if ((1 : Int) == 0) = true then _ else _) _ _ s
  rw [if_neg (by decide)]
  refine wpAny_bind (slicePart_ pl (wpAny_bind (slicePart_ pu (wpAny_bind (wpAny_pure ?_)))))
  show wpAny _ _ (match Builtin.Slice.sliceAdjust lo hi 1 (n : Int) with | (lo, hi) => pure (lo, (1 : Int), Builtin.Slice.slicePlaces lo hi 1)) _ _ s
  rw [adjust_gen lo hi n]
  show wpAny _ _ (pure (((sIx n 0 lo : Nat) : Int), (1 : Int), Builtin.Slice.slicePlaces ((sIx n 0 lo : Nat) : Int) ((sIx n n hi : Nat) : Int) 1)) _ _ s
  rw [places_gen]
  exact wpAny_pure h
theorem pick_gen (xs : Array Value) (i k : Nat) : ((List.range k).filterMap fun (m : Nat) => xs[((i : Int) + (m : Int) * 1).toNat]?).toArray = ((xs.toList.drop i).take k).toArray := by
  have e : (fun (m : Nat) => xs[((i : Int) + (m : Int) * 1).toNat]?) = fun m => xs[i + m]? := by
    funext m
    have : ((i : Int) + (m : Int) * 1).toNat = i + m := by omega
    rw [this]
  rw [e]
  have := pick_run xs i k
  rw [List.filterMap_map] at this
  have e2 : ((fun x => xs[x]?) ∘ fun x => i + x) = fun m => xs[i + m]? := rfl
  rw [e2] at this
  rw [this]
theorem getItem_tuple_cut {t sl : Addr} {items : Array Value} {vl vu : Value} {lo hi : Option Int} {Q : Value → Shared → Prop} (ht : IsTup s.heap t items) (hs : s.heap.IsSliceOf sl vl vu .none) (pl : IsPart vl lo) (pu : IsPart vu hi)
    (hw : ¬ (sIx items.size 0 lo = 0 ∧ sIx items.size items.size hi = items.size))
    (h : Q (.ref s.heap.objs.size) { s with heap := s.heap.push { cls := .type "tuple", data := .seq ((items.toList.drop (sIx items.size 0 lo)).take (sIx items.size items.size hi - sIx items.size 0 lo)).toArray } })
    (hsz : items.size ≤ sizeLine) : wpAny (model prog w) A (getItem (.ref t) (.ref sl)) Q E s := by
  have htake : sizeOk (.seq ((items.toList.drop (sIx items.size 0 lo)).take (sIx items.size items.size hi - sIx items.size 0 lo)).toArray) := by
    show ((items.toList.drop (sIx items.size 0 lo)).take (sIx items.size items.size hi - sIx items.size 0 lo)).toArray.size ≤ sizeLine
    rw [List.size_toArray, List.length_take, List.length_drop, Array.length_toList]
    omega
  have hj : sIx items.size items.size hi ≤ items.size := sIx_le _ _ (Nat.le_refl _) hi
  obtain ⟨os, hos, hcs, hds⟩ := id hs
  have hTs : s.TypeIs (.ref sl) "slice" := ⟨os, hos, hcs⟩
  unfold getItem
  try with_reducible refine wpAny_holding ?_
  first | refine wpAny_bind (wpAny_pure ?_) | skip
  refine wpAny_bind (wpAny_sequenceKey ht.typeIs (by decide) ?_)
  refine wpAny_bind (wpAny_callSpecial?_slot (name := Str.ofString "__getitem__") ht.typeIs PyProof.Rows.slot_tuple_getitem
    (wpAny_call_entry PyProof.Rows.slot_tuple_getitem ht.typeIs entry_tuple_getitem ?_ (args_tuple_getitem _ _)))
  show wpAny _ _ (Builtin.Tuple.tupleItemsOf (.ref t) >>= _) _ _ s
  refine wpAny_bind (tupleItemsOf_ ht ?_)
  refine wpAny_bind (wpAny_typeOf hTs ?_)
  rw [if_pos (by decide)]
  refine wpAny_bind (sliceApplied_gen hs pl pu ?_)
  have hno : ¬ ((((sIx items.size 0 lo : Nat) : Int) == 0 && (1 : Int) == 1 && (sIx items.size items.size hi - sIx items.size 0 lo) == items.size) = true) := by
    intro q
    rw [Bool.and_eq_true, Bool.and_eq_true] at q
    have q1 : ((sIx items.size 0 lo : Nat) : Int) = 0 := eq_of_beq q.1.1
    have q2 : sIx items.size items.size hi - sIx items.size 0 lo = items.size := eq_of_beq q.2
    exact hw ⟨by omega, by omega⟩
  show wpAny _ _ (if (((sIx items.size 0 lo : Nat) : Int) == 0 && (1 : Int) == 1 && (sIx items.size items.size hi - sIx items.size 0 lo) == items.size) = true then _ else _) _ _ s
  rw [if_neg hno, pick_gen]
  first
    | exact wpAny_bind (m := Builtin.Tuple.tupleExact _) (wpAny_newObj_type (wpAny_pure ⟨_, rfl, wpAny_pure h⟩) htake)
    | exact wpAny_bind (m := Builtin.Tuple.tupleExact _) (wpAny_newObj_type (wpAny_bind (wpAny_pure (wpAny_pure ⟨_, rfl, wpAny_pure h⟩))) htake)
    | exact wpAny_bind (wpAny_bind (m := Builtin.Tuple.tupleExact _) (wpAny_newObj_type (wpAny_pure (wpAny_pure ⟨_, rfl, wpAny_pure h⟩)) htake))
    | exact wpAny_bind (wpAny_bind (m := Builtin.Tuple.tupleExact _) (wpAny_newObj_type (wpAny_pure ⟨_, rfl, wpAny_pure h⟩) htake))
end
end HT
namespace L2
open PySem PySem.Spec PyProof.Rows
abbrev TO := St → Hp → (Option Int → Hp → Prop) → Prop
def PO (X : Cx) (e : Option Expr) (t : TO) : Prop :=
  ∀ (pins : List (Addr × Obj)) (s : Shared) (σ : St) (H : Hp) (Q : Option Int → Hp → Prop), Inv X pins σ H s → t σ H Q →
    wpAny (model X.prog X.w) X.A (evalPart e X.env) (fun u s' => ∃ o H', Inv X pins σ H' s' ∧ IsPart u o ∧ Q o H') X.xe s
def tNoPart : TO := fun _ H Q => Q none H
def tPart (t : TE) : TO := fun σ H Q => t σ H fun x H1 => ∃ i, x = .int i ∧ Q (some i) H1
theorem intsAre_of {ns : List Int} : ∀ {us : List Value}, Vals (ns.map V.int) us → IntsAre us ns := by
  induction ns with
  | nil => intro us r; rw [List.map_nil] at r; cases r; exact .nil
  | cons n ns ih =>
    intro us r
    rw [List.map_cons] at r
    cases r with
    | cons r1 r2 =>
      obtain ⟨t, e⟩ := r1
      subst e
      exact .cons n t (ih r2)
section
variable {X : Cx} {e : Expr} {te : TE} {lo hi : Option Expr} {tl th : TO} {pos p2 : Pos}
theorem po_none : PO X none tNoPart := by
  intro pins s σ H Q I h
  rw [evalPart_none]
  exact wpAny_pure ⟨none, H, I, .none, h⟩
theorem po_some (h : PE X e te) : PO X (some e) (tPart te) := by
  intro pins s σ H Q I hw
  rw [evalPart_some]
  refine thn (h pins s σ H _ I hw) fun u s1 ⟨x, H1, I1, r1, q1⟩ => ?_
  obtain ⟨i, rfl, q⟩ := q1
  obtain ⟨t, rfl⟩ := r1
  exact ⟨some i, H1, I1, .int i t, q⟩
def SlR (X : Cx) (r : V → Option Int → Option Int → Hp → VK → Prop) : Prop :=
  ∀ (pins : List (Addr × Obj)) (s : Shared) (σ : St) (H : Hp) (x : V) (v vl vu : Value) (lo hi : Option Int) (sl : Addr) (Q : VK), Inv X pins σ H s → RelV x v → s.heap.IsSliceOf sl vl vu .none → IsPart vl lo → IsPart vu hi → r x lo hi H Q →
    ∃ T id, typeLookup (.type T) "__getitem__" = pure (some (.builtin id)) ∧ s.TypeIs v T ∧ wpAny (model X.prog X.w) X.A (getItem v (.ref sl)) (EP X pins σ Q) X.xe s
theorem SlR.or {r r' : V → Option Int → Option Int → Hp → VK → Prop} (h : SlR X r) (h' : SlR X r') : SlR X (fun x lo hi H Q => r x lo hi H Q ∨ r' x lo hi H Q) := by
  intro pins s σ H x v vl vu lo hi sl Q I rx hs pl pu q
  rcases q with q | q
  · exact h pins s σ H x v vl vu lo hi sl Q I rx hs pl pu q
  · exact h' pins s σ H x v vl vu lo hi sl Q I rx hs pl pu q
def tSl (r : V → Option Int → Option Int → Hp → VK → Prop) (te : TE) (tl th : TO) : TE := fun σ H Q => te σ H fun x H1 => tl σ H1 fun l H2 => th σ H2 fun u H3 => r x l u H3 Q
theorem pe_slice {r : V → Option Int → Option Int → Hp → VK → Prop} (hr : SlR X r) (he : PE X e te) (hl : PO X lo tl) (hu : PO X hi th) : PE X (.Subscript e (.Slice lo hi none p2) pos) (tSl r te tl th) := by
  intro pins s σ H Q I h
  refine Subscript_ (thn (he pins s σ H _ I h) fun v s1 ⟨x, H1, I1, r1, q1⟩ => ?_)
  refine wpAny_Slice (thn (hl pins s1 σ H1 _ I1 q1) fun vl s2 ⟨l, H2, I2, pl, q2⟩ => thn (hu pins s2 σ H2 _ I2 q2) fun vu s3 ⟨u, H3, I3, pu, q3⟩ => ?_)
  rw [evalPart_none]
  refine wpAny_pure ?_
  have I4 : Inv X pins σ H3 { s3 with heap := s3.heap.push { cls := .type "slice", data := .fields #[vl, vu, .none] } } := I3.kept (t' := s3.toks) fun b ob q => Heap.get?_push_of_some _ q
  obtain ⟨T, id, hT, ht, hg⟩ := hr pins { s3 with heap := s3.heap.push { cls := .type "slice", data := .fields #[vl, vu, .none] } } σ H3 x v vl vu l u s3.heap.objs.size Q I4 r1 (Heap.IsSliceOf.new ..) pl pu q3
  show wpAny (model X.prog X.w) X.A (subscriptTail e (.Slice lo hi none p2) v (.ref s3.heap.objs.size)) (EP X pins σ Q) X.xe { s3 with heap := s3.heap.push { cls := .type "slice", data := .fields #[vl, vu, .none] } }
  exact tail_any (ops := [.ref s3.heap.objs.size, v]) ht hT hg (by with_unfolding_all rfl)
def cutV (xs : List V) (lo hi : Option Int) : List V := (xs.drop (HT.sIx xs.length 0 lo)).take (HT.sIx xs.length xs.length hi - HT.sIx xs.length 0 lo)
theorem cutV_length (xs : List V) (lo hi : Option Int) : (cutV xs lo hi).length ≤ xs.length := by
  unfold cutV
  rw [List.length_take, List.length_drop]
  omega
def rSlT (K : PySem.W.Frag) : V → Option Int → Option Int → Hp → VK → Prop := fun x lo hi H Q => ∃ a xs, x = .ref a ∧ SqT K H a xs ∧
  ¬ (HT.sIx xs.length 0 lo = 0 ∧ HT.sIx xs.length xs.length hi = xs.length) ∧ ∀ p, H p = none → Q (.ref p) (upd H p (.tup (cutV xs lo hi)))
theorem sl_tup : SlR X (rSlT X.K) := by
  intro pins s σ H x v vl vu lo hi sl Q I rx hs pl pu h
  obtain ⟨a, xs, rfl, hx, hw, q⟩ := h
  cases rx
  obtain ⟨its, r, ht, hz⟩ := I.tuple hx
  have hlen : its.toArray.size = xs.length := by rw [List.size_toArray]; exact r.length.symm
  refine ⟨"tuple", _, PyProof.Rows.slot_tuple_getitem.lookup, ht.typeIs, ?_⟩
  refine HT.getItem_tuple_cut ht hs pl pu (by rw [hlen]; exact hw) ?_ (by rw [hlen]; exact hz)
  rw [hlen]
  refine ⟨.ref s.heap.objs.size, _, I.laid (t' := s.toks) (o := .tup (cutV xs lo hi)) (fun b ob q => Heap.get?_push_of_some _ q) (Nat.le_refl _) ?_, rfl, q _ (I.hok.fresh (Nat.le_refl _))⟩
  exact ⟨Nat.le_trans (cutV_length xs lo hi) hz, _, (r.drop (HT.sIx xs.length 0 lo)).take (HT.sIx xs.length xs.length hi - HT.sIx xs.length 0 lo), IsTup.new _ _⟩
def rLtT (K : PySem.W.Frag) : R2 := fun x y H Q => ∃ a b ns ms, x = .ref a ∧ y = .ref b ∧ SqT K H a (ns.map V.int) ∧ SqT K H b (ms.map V.int) ∧ Q (.bl (HT.lexLt ns ms)) H
theorem op_ltT (hu : X.A.units < cLine) : OpR X (compareOp .Lt) (rLtT X.K) := by
  intro pins s σ H x y v u Q I rx ry h
  obtain ⟨a, b, ns, ms, rfl, rfl, ha, hb, q⟩ := h
  cases rx
  cases ry
  obtain ⟨its, r1, p1, _⟩ := I.tuple ha
  obtain ⟨its2, r2, p2, _⟩ := I.tuple hb
  have i1 : IntsAre its.toArray.toList ns := intsAre_of r1
  have i2 : IntsAre its2.toArray.toList ms := intsAre_of r2
  exact HT.lt_tupInts p1 p2 i1 i2 hu ⟨.bl (HT.lexLt ns ms), H, I, rfl, q⟩
def rCatT (K : PySem.W.Frag) : R2 := fun x y H Q => ∃ a b xs ys, x = .ref a ∧ y = .ref b ∧ SqT K H a xs ∧ SqT K H b ys ∧ xs ≠ [] ∧ xs.length + ys.length ≤ sizeLine ∧
  (ys = [] → Q (.ref a) H) ∧ (ys ≠ [] → ∀ p, H p = none → Q (.ref p) (upd H p (.tup (xs ++ ys))))
theorem Vals.nil_iff {xs : List V} {us : List Value} (r : Vals xs us) : us = [] ↔ xs = [] := by
  cases r with
  | nil => simp
  | cons _ _ => simp
theorem op_catT : OpR X (binaryOp .Add) (rCatT X.K) := by
  intro pins s σ H x y v u Q I rx ry h
  obtain ⟨a, b, xs, ys, rfl, rfl, ha, hb, hx, hz, q1, q2⟩ := h
  cases rx
  cases ry
  obtain ⟨its, r1, p1, _⟩ := I.tuple ha
  obtain ⟨its2, r2, p2, _⟩ := I.tuple hb
  refine HT.cat_tup p1 p2 (fun z => hx (r1.nil_iff.mp z)) (fun z => ⟨.ref a, H, I, rfl, q1 (r2.nil_iff.mp z)⟩) (fun z => ?_) (by rw [← r1.length, ← r2.length]; exact hz)
  refine ⟨.ref s.heap.objs.size, _, I.laid (t' := s.toks) (o := .tup (xs ++ ys)) (fun b ob q => Heap.get?_push_of_some _ q) (Nat.le_refl _) ?_, rfl, q2 (fun w => z (r2.nil_iff.mpr w)) _ (I.hok.fresh (Nat.le_refl _))⟩
  exact ⟨by rw [List.length_append]; exact hz, _, r1.append r2, IsTup.new _ _⟩
end
end L2
namespace L2
open PySem PySem.Spec PyProof.Rows
def ixN (n : Nat) (i : Int) : Option Nat := if 0 ≤ i then (if i < n then some i.toNat else none) else if -(n : Int) ≤ i then some (i + n).toNat else none
def atI {α : Type} (xs : List α) (i : Int) : Option α := (ixN xs.length i).bind fun j => xs[j]?
theorem ixN_seq {n : Nat} {i : Int} {j : Nat} (h : ixN n i = some j) : seqIndex? i n = some j ∧ j < n ∧ -(n : Int) ≤ i ∧ i < n := by
  unfold ixN at h
  by_cases h0 : 0 ≤ i
  · rw [if_pos h0] at h
    by_cases h1 : i < n
    · rw [if_pos h1] at h
      have e : i.toNat = j := Option.some.inj h
      exact ⟨by rw [seqIndex_of h0 h1, e], by omega, by omega, h1⟩
    · rw [if_neg h1] at h; cases h
  · rw [if_neg h0] at h
    by_cases h1 : -(n : Int) ≤ i
    · rw [if_pos h1] at h
      have e : (i + n).toNat = j := Option.some.inj h
      exact ⟨by rw [seqIndex_neg (by omega) h1, e], by omega, h1, by omega⟩
    · rw [if_neg h1] at h; cases h
theorem atI_get {α : Type} {xs : List α} {i : Int} {v : α} (h : atI xs i = some v) : ∃ j, seqIndex? i xs.length = some j ∧ xs[j]? = some v ∧ j < xs.length ∧ -(xs.length : Int) ≤ i ∧ i < xs.length := by
  unfold atI at h
  cases e : ixN xs.length i with
  | none => rw [e] at h; cases h
  | some j =>
    rw [e] at h
    obtain ⟨h1, h2, h3, h4⟩ := ixN_seq e
    exact ⟨j, h1, h, h2, h3, h4⟩
def PlainIx (b : Expr) : Prop := ∀ o i, subscripted b false o i = operate [o, i] (getItem o i)
def IxR (X : Cx) (r : R2) : Prop :=
  ∀ (value slice : Expr) (pins : List (Addr × Obj)) (s : Shared) (σ : St) (H : Hp) (x y : V) (v u : Value) (Q : VK), Inv X pins σ H s → RelV x v → RelV y u → r x y H Q →
    subscripted slice false v u = operate [v, u] (getItem v u) → wpAny (model X.prog X.w) X.A (subscriptTail value slice v u) (EP X pins σ Q) X.xe s
def MtR (X : Cx) (id : String) (r : V → List V → Hp → VK → Prop) : Prop :=
  ∀ (pins : List (Addr × Obj)) (s : Shared) (σ : St) (H : Hp) (x : V) (xs : List V) (v : Value) (us : List Value) (Q : VK), Inv X pins σ H s → RelV x v → Vals xs us → r x xs H Q →
    wpAny (model X.prog X.w) X.A (call (.builtin id) (v :: us)) (EP X pins σ Q) X.xe s
section
variable {X : Cx} {a b : Expr} {ta tb : TE} {pos : Pos}
theorem IxR.or {r r' : R2} (h : IxR X r) (h' : IxR X r') : IxR X (fun x y H Q => r x y H Q ∨ r' x y H Q) := by
  intro value slice pins s σ H x y v u Q I rx ry q hs
  rcases q with q | q
  · exact h value slice pins s σ H x y v u Q I rx ry q hs
  · exact h' value slice pins s σ H x y v u Q I rx ry q hs
theorem MtR.or {id : String} {r r' : V → List V → Hp → VK → Prop} (h : MtR X id r) (h' : MtR X id r') : MtR X id (fun x xs H Q => r x xs H Q ∨ r' x xs H Q) := by
  intro pins s σ H x xs v us Q I rx rs q
  rcases q with q | q
  · exact h pins s σ H x xs v us Q I rx rs q
  · exact h' pins s σ H x xs v us Q I rx rs q
theorem pe_ix {r : R2} (hr : IxR X r) (ha : PE X a ta) (hb : PE X b tb) (hs : PlainIx b) : PE X (.Subscript a b pos) (tOp r ta tb) := by
  intro pins s σ H Q I h
  exact Subscript_ (binT ha hb I h fun v u s2 x y H2 I2 rx ry q => hr a b pins s2 σ H2 x y v u Q I2 rx ry q (hs _ _))
def rIxL (K : PySem.W.Frag) : R2 := fun x y H Q => ∃ p xs i v, x = .ref p ∧ y = .int i ∧ SqL K H p xs ∧ atI xs i = some v ∧ Q v H
def rIxT (K : PySem.W.Frag) : R2 := fun x y H Q => ∃ p xs i v, x = .ref p ∧ y = .int i ∧ SqT K H p xs ∧ atI xs i = some v ∧ Q v H
def rIxS : R2 := fun x y H Q => ∃ z i c, x = .str z ∧ y = .int i ∧ z.length ≤ sizeLine ∧ atI z.cps.toList i = some c ∧ Q (.str ⟨#[c]⟩) H
theorem ix_list : IxR X (rIxL X.K) := by
  intro value slice pins s σ H x y v u Q I rx ry h hs
  obtain ⟨p, xs, i, z, rfl, rfl, hq, he, q⟩ := h
  cases rx
  obtain ⟨t, rfl⟩ := ry
  obtain ⟨its, r, pl, hz⟩ := I.list hq
  obtain ⟨j, h1, h2, h3, h4, h5⟩ := atI_get he
  obtain ⟨w, ew, rw'⟩ := r.get h2
  have hl := r.length
  have hn := line63
  have fin : EP X pins σ Q w s := ⟨z, H, I, rw', q⟩
  by_cases h0 : 0 ≤ i
  · have hj : i.toNat = j := by
      rw [seqIndex_of h0 h5] at h1
      exact Option.some.inj h1
    exact item_listR pl.isList h0 (by omega) (by rw [hj]; simpa using ew) fin hs
  · have hj : (i + (its.toArray.size : Int)).toNat = j := by
      rw [seqIndex_neg (by omega) h4] at h1
      rw [List.size_toArray, ← hl]
      exact Option.some.inj h1
    exact subscriptTail_builtinR (x := w) pl.isList.typeIs slot_list_getitem.lookup
      (wpAny_getItem_list_neg (Q := fun r s' => r = w ∧ EP X pins σ Q r s') pl.isList (by omega) (by rw [List.size_toArray] <;> omega) (by omega) (by rw [hj]; simpa using ew) ⟨rfl, fin⟩) hs
theorem ix_tup : IxR X (rIxT X.K) := by
  intro value slice pins s σ H x y v u Q I rx ry h hs
  obtain ⟨p, xs, i, z, rfl, rfl, hq, he, q⟩ := h
  cases rx
  obtain ⟨t, rfl⟩ := ry
  obtain ⟨its, r, pl, hz⟩ := I.tuple hq
  obtain ⟨j, h1, h2, h3, h4, h5⟩ := atI_get he
  obtain ⟨w, ew, rw'⟩ := r.get h2
  have hl := r.length
  have hn := line63
  have fin : EP X pins σ Q w s := ⟨z, H, I, rw', q⟩
  exact subscriptTail_builtinR (x := w) pl.typeIs slot_tuple_getitem.lookup
    (getItem_tuple (j := j) (Q := fun r s' => r = w ∧ EP X pins σ Q r s') pl (by omega) (by omega) (by rw [List.size_toArray, ← hl]; exact h1) (by simpa using ew) ⟨rfl, fin⟩) hs
theorem ix_str : IxR X rIxS := by
  intro value slice pins s σ H x y v u Q I rx ry h hs
  obtain ⟨z, i, c, rfl, rfl, hz, he, q⟩ := h
  obtain ⟨t, rfl⟩ := rx
  obtain ⟨t', rfl⟩ := ry
  obtain ⟨j, h1, h2, h3, h4, h5⟩ := atI_get he
  have hl : z.cps.toList.length = z.length := by simp [Str.length]
  rw [hl] at h1 h4 h5
  have hn := line63
  exact tail_any (typeIs_str s z t) slot_str_getitem.lookup (getItem_str (c := c) (by
    have e1 : decide (i < -(2 ^ 63 : Int)) = false := decide_eq_false (by omega)
    have e2 : decide (i ≥ 2 ^ 63) = false := decide_eq_false (by omega)
    rw [e1, e2, Bool.or_false]) (by rw [h1]; simpa using h2) ⟨.str ⟨#[c]⟩, H, I.tok _, ⟨_, rfl⟩, q⟩) hs
def rIx (K : PySem.W.Frag) : R2 := fun x y H Q => rIxL K x y H Q ∨ rIxT K x y H Q ∨ rIxS x y H Q
theorem ix_seq : IxR X (rIx X.K) := ix_list.or (ix_tup.or ix_str)
theorem mapSeq_set (its : List Value) (n j : Nat) (u : Value) : Obj.mapSeq (·.setIfInBounds j u) { cls := .type "list", data := .seq its.toArray n } = { cls := .type "list", data := .seq (its.set j u).toArray n } := by
  simp [Obj.mapSeq]
theorem Inv.lst {pins : List (Addr × Obj)} {σ : St} {H : Hp} {s : Shared} {p : Addr} {xs : List V} (I : Inv X pins σ H s) (h : H p = some (.lst xs)) :
    ∃ (its : List Value) (n : Nat), Vals xs its ∧ s.heap.get? p = some { cls := .type "list", data := .seq its.toArray n } ∧ xs.length ≤ sizeLine := by
  obtain ⟨z, its, n, r, e⟩ := I.hok p _ h
  exact ⟨its, n, r, e, z⟩
theorem Inv.lstUpd {pins : List (Addr × Obj)} {σ : St} {H : Hp} {s : Shared} {p : Addr} {xs ys : List V} {its its' : List Value} {n n' : Nat} {f : Obj → Obj} (I : Inv X pins σ H s) (h : H p = some (.lst xs))
    (ho : s.heap.get? p = some { cls := .type "list", data := .seq its.toArray n }) (hf : f { cls := .type "list", data := .seq its.toArray n } = { cls := .type "list", data := .seq its'.toArray n' }) (r : Vals ys its') (hz : ys.length ≤ sizeLine) (t : Nat) :
    Inv X pins σ (upd H p (.lst ys)) { s with heap := s.heap.update p f, toks := t } := by
  have e : (s.heap.update p f).get? p = some { cls := .type "list", data := .seq its'.toArray n' } := by
    rw [Heap.get?_update_self f ho (by rw [hf] <;> rfl), hf]
  refine I.write (x := p) (e := p) (by rw [h]; trivial) (.inl rfl) (fun b u hb q => (Heap.get?_update_other _ _ (Ne.symm hb)).trans q) ⟨_, e⟩ ?_
  exact ⟨hz, its', n', r, e⟩
def rSetL : V → V → V → Hp → (Hp → Prop) → Prop := fun o i v H Q => ∃ p xs k j, o = .ref p ∧ i = .int k ∧ H p = some (.lst xs) ∧ ixN xs.length k = some j ∧ Q (upd H p (.lst (xs.set j v)))
theorem set_list : PSet X rSetL := by
  intro pins s σ H o i v ov iv u Q I ro ri rv h
  obtain ⟨p, xs, k, j, rfl, rfl, hp, hj, q⟩ := h
  cases ro
  obtain ⟨t, rfl⟩ := ri
  obtain ⟨its, n, r, ho, hz⟩ := I.lst hp
  obtain ⟨h1, h2, h3, h4⟩ := ixN_seq hj
  have hl := r.length
  have hn := line63
  have I' : Inv X pins σ (upd H p (.lst (xs.set j v))) { s with heap := s.heap.update p (Obj.mapSeq (·.setIfInBounds j u)) } :=
    I.lstUpd hp ho (mapSeq_set its n j u) (r.set rv j) (by rw [List.length_set]; exact hz) s.toks
  by_cases h0 : 0 ≤ k
  · have hk : k.toNat = j := by
      rw [seqIndex_of h0 h4] at h1
      exact Option.some.inj h1
    exact PySem.W.ki_setAt ho h0 (by omega) (by rw [List.size_toArray, ← hl]; exact h4) (by rw [hk]; exact ⟨_, I', q⟩)
  · have hk : (k + (its.toArray.size : Int)).toNat = j := by
      rw [seqIndex_neg (by omega) h3] at h1
      rw [List.size_toArray, ← hl]
      exact Option.some.inj h1
    exact PySem.W.ki_setBack ho (by omega) (by rw [List.size_toArray, ← hl]; exact h3) (by omega) (by rw [hk]; exact ⟨_, I', q⟩)
theorem slice_bounds (lo hi : Option Int) (n : Nat) : (sliceBounds lo hi none n).1 = ((HT.sIx n 0 lo : Nat) : Int) ∧ (sliceBounds lo hi none n).2.1 = ((HT.sIx n n hi : Nat) : Int) ∧ (sliceBounds lo hi none n).2.2 = 1 := by
  refine ⟨?_, ?_, rfl⟩
  · cases lo with
    | none => simp [sliceBounds, HT.sIx]
    | some i =>
      simp only [sliceBounds, HT.sIx, Option.getD_none, show (1 : Int) > 0 by decide, if_true]
      by_cases h : i < 0
      · simp only [h, if_true] <;> omega
      · simp only [h, if_false] <;> omega
  · cases hi with
    | none => simp [sliceBounds, HT.sIx]
    | some i =>
      simp only [sliceBounds, HT.sIx, Option.getD_none, show (1 : Int) > 0 by decide, if_true]
      by_cases h : i < 0
      · simp only [h, if_true] <;> omega
      · simp only [h, if_false] <;> omega
theorem slicePick_cut (its : List Value) (lo hi : Option Int) : slicePick its.toArray lo hi none = ((its.drop (HT.sIx its.length 0 lo)).take (HT.sIx its.length its.length hi - HT.sIx its.length 0 lo)).toArray := by
  obtain ⟨h1, h2, h3⟩ := slice_bounds lo hi its.toArray.size
  unfold slicePick
  rw [h1, h2, h3]
  simp only [sliceRange_one, pick_run, List.size_toArray] <;> rfl
def rSlL (K : PySem.W.Frag) : V → Option Int → Option Int → Hp → VK → Prop := fun x lo hi H Q => ∃ a xs, x = .ref a ∧ SqL K H a xs ∧ ∀ p, H p = none → Q (.ref p) (upd H p (.lst (cutV xs lo hi)))
theorem sl_list : SlR X (rSlL X.K) := by
  intro pins s σ H x v vl vu lo hi sl Q I rx hs pl pu h
  obtain ⟨a, xs, rfl, hx, q⟩ := h
  cases rx
  obtain ⟨its, r, ht, hz⟩ := I.list hx
  have hlen := r.length
  refine ⟨"list", _, slot_list_getitem.lookup, ht.isList.typeIs, ?_⟩
  refine wpAny_getItem_list_slice ht.isList hs pl pu .none (by simp) ?_ (by rw [List.size_toArray] <;> omega)
  rw [slicePick_cut, ← hlen]
  refine ⟨.ref s.heap.objs.size, _, I.laid (t' := s.toks) (o := .lst (cutV xs lo hi)) (fun b ob q => Heap.get?_push_of_some _ q) (Nat.le_refl _) ?_, rfl, q _ (I.hok.fresh (Nat.le_refl _))⟩
  exact ⟨Nat.le_trans (cutV_length xs lo hi) hz, _, 0, (r.drop (HT.sIx xs.length 0 lo)).take (HT.sIx xs.length xs.length hi - HT.sIx xs.length 0 lo), Heap.get?_push_size _ rfl⟩
def flatV : V → Bool
  | .non => true
  | .bl _ => true
  | .int _ => true
  | .str _ => true
  | _ => false
def eqV : V → V → Bool
  | .non, .non => true
  | .bl a, .bl b => a == b
  | .bl a, .int b => (if a then 1 else 0) == b
  | .int a, .bl b => a == (if b then 1 else 0)
  | .int a, .int b => a == b
  | .str a, .str b => a == b
  | _, _ => false
theorem eqAt_V {A : Around} {s : Shared} {y x : V} {u v : Value} (ry : RelV y u) (rx : RelV x v) (fy : flatV y = true) (fx : flatV x = true) : SeqAt.EqAt A s u v (eqV y x) := by
  cases y with
  | non =>
    cases ry
    cases x with
    | non => cases rx; exact SeqAt.EqAt.same _
    | bl b => cases rx; exact SeqAt.EqAt.none_bool b
    | int b => obtain ⟨t, rfl⟩ := rx; exact SeqAt.EqAt.none_int b t
    | str b => obtain ⟨t, rfl⟩ := rx; exact SeqAt.EqAt.none_str b t
    | _ => exact absurd (show false = true from fx) Bool.false_ne_true
  | bl a =>
    cases ry
    cases x with
    | non => cases rx; exact SeqAt.EqAt.bool_none a
    | bl b => cases rx; exact SeqAt.EqAt.bool_bool a b
    | int b => obtain ⟨t, rfl⟩ := rx; exact SeqAt.EqAt.bool_int a b t
    | str b => obtain ⟨t, rfl⟩ := rx; exact SeqAt.EqAt.bool_str a b t
    | _ => exact absurd (show false = true from fx) Bool.false_ne_true
  | int a =>
    obtain ⟨t', rfl⟩ := ry
    cases x with
    | non => cases rx; exact SeqAt.EqAt.int_none a t'
    | bl b => cases rx; exact SeqAt.EqAt.int_bool a t' b
    | int b => obtain ⟨t, rfl⟩ := rx; exact SeqAt.EqAt.int_int a t' b t
    | str b => obtain ⟨t, rfl⟩ := rx; exact SeqAt.EqAt.int_str a t' b t
    | _ => exact absurd (show false = true from fx) Bool.false_ne_true
  | str a =>
    obtain ⟨t', rfl⟩ := ry
    cases x with
    | non => cases rx; exact SeqAt.EqAt.str_none a t'
    | bl b => cases rx; exact SeqAt.EqAt.str_bool a t' b
    | int b => obtain ⟨t, rfl⟩ := rx; exact SeqAt.EqAt.str_int a t' b t
    | str b => obtain ⟨t, rfl⟩ := rx; exact SeqAt.EqAt.str_str a t' b t
    | _ => exact absurd (show false = true from fx) Bool.false_ne_true
  | _ => exact absurd (show false = true from fy) Bool.false_ne_true
def eqU (x : V) (u : Value) : Bool := match u with
  | .none => eqV .non x
  | .bool b => eqV (.bl b) x
  | .int i _ => eqV (.int i) x
  | .str z _ => eqV (.str z) x
  | _ => false
theorem eqU_of {x y : V} {u : Value} (r : RelV y u) (f : flatV y = true) : eqU x u = eqV y x := by
  cases y with
  | non => cases r; rfl
  | bl b => cases r; rfl
  | int i => obtain ⟨t, rfl⟩ := r; rfl
  | str z => obtain ⟨t, rfl⟩ := r; rfl
  | _ => exact absurd (show false = true from f) Bool.false_ne_true
theorem any_eqU {x : V} : ∀ {xs : List V} {us : List Value}, Vals xs us → xs.all flatV = true → us.any (eqU x) = xs.any fun y => eqV y x
  | _, _, .nil, _ => rfl
  | y :: xs, u :: us, .cons r t, f => by
    rw [List.all_cons, Bool.and_eq_true] at f
    rw [List.any_cons, List.any_cons, eqU_of r f.1, any_eqU t f.2]
theorem mem_eqAt {A : Around} {s : Shared} {x : V} {v : Value} (rx : RelV x v) (fx : flatV x = true) : ∀ {xs : List V} {us : List Value}, Vals xs us → xs.all flatV = true → ∀ u ∈ us, SeqAt.EqAt A s u v (eqU x u)
  | _, _, .nil, _ => fun u hu => by cases hu
  | y :: xs, u :: us, .cons r t, f => fun u' hu => by
    rw [List.all_cons, Bool.and_eq_true] at f
    rcases List.mem_cons.mp hu with rfl | hu
    · rw [eqU_of r f.1]; exact eqAt_V r rx f.1 fx
    · exact mem_eqAt rx fx t f.2 u' hu
def inV (x : V) (xs : List V) : Bool := xs.any fun y => eqV y x
def rIn (K : PySem.W.Frag) (neg : Bool) : R2 := fun x y H Q => ∃ p xs, y = .ref p ∧ (SqL K H p xs ∨ SqT K H p xs) ∧ flatV x = true ∧ xs.all flatV = true ∧ Q (.bl (if neg then !inV x xs else inV x xs)) H
theorem call_len_seq : CallR X (.builtin "len") (fun xs H Q => ∃ p ys, xs = [.ref p] ∧ (SqL X.K H p ys ∨ SqT X.K H p ys) ∧ Q (.int ys.length) H) := by
  intro pins s σ H xs us Q I r h
  obtain ⟨p, ys, rfl, hq, q⟩ := h
  obtain ⟨u, rfl, rx⟩ := vals1 r
  cases rx
  have hn := line63
  rcases hq with hq | hq
  · obtain ⟨its, r', pl, hz⟩ := I.list hq
    have hlen := r'.length
    exact Calls.call_len_list pl.isList (by simp only [List.size_toArray] <;> omega) ⟨.int ys.length, H, I.tok _, ⟨s.toks + 1, by rw [List.size_toArray, hlen]⟩, q⟩
  · obtain ⟨its, r', pl, hz⟩ := I.tuple hq
    have hlen := r'.length
    exact len_tuple pl (by simp only [List.size_toArray] <;> omega) ⟨.int ys.length, H, I.tok _, ⟨s.toks + 1, by rw [List.size_toArray, hlen]⟩, q⟩
theorem call_len_str : CallR X (.builtin "len") (fun xs H Q => ∃ z, xs = [.str z] ∧ z.length ≤ sizeLine ∧ Q (.int z.length) H) := by
  intro pins s σ H xs us Q I r h
  obtain ⟨z, rfl, hz, q⟩ := h
  obtain ⟨u, rfl, t, rfl⟩ := vals1 r
  have hn := line63
  exact len_str (by omega) ⟨.int z.length, H, I.tok _, ⟨_, rfl⟩, q⟩
theorem CallR.or {f : Value} {r r' : List V → Hp → VK → Prop} (h : CallR X f r) (h' : CallR X f r') : CallR X f (fun xs H Q => r xs H Q ∨ r' xs H Q) := by
  intro pins s σ H xs us Q I rs q
  rcases q with q | q
  · exact h pins s σ H xs us Q I rs q
  · exact h' pins s σ H xs us Q I rs q
theorem call_list_of : CallR X (.type "list") (fun xs H Q => ∃ p ys, xs = [.ref p] ∧ (SqL X.K H p ys ∨ SqT X.K H p ys) ∧ ∀ l, H l = none → Q (.ref l) (upd H l (.lst ys))) := by
  intro pins s σ H xs us Q I r h
  obtain ⟨p, ys, rfl, hq, q⟩ := h
  obtain ⟨u, rfl, rx⟩ := vals1 r
  cases rx
  have fin : ∀ (its : List Value), Vals ys its → ys.length ≤ sizeLine → ∀ (h' : Heap) (c' : Nat), (∀ b o', s.heap.get? b = some o' → h'.get? b = some o') →
      h'.get? s.heap.objs.size = some { cls := .type "list", dict := none, data := .seq its.toArray c', slots := #[] } → EP X pins σ Q (.ref s.heap.objs.size) { s with heap := h' } := fun its r' hz h' c' kp e =>
    ⟨.ref s.heap.objs.size, _, I.laid (t' := s.toks) kp (Nat.le_refl _) (show ObjOk X.prog X.w _ h' _ (.lst ys) from ⟨hz, its, c', r', e⟩), rfl, q _ (I.hok.fresh (Nat.le_refl _))⟩
  rcases hq with hq | hq
  · obtain ⟨its, r', pl, hz⟩ := I.list hq
    have hlen := r'.length
    obtain ⟨o, ho, hc, n, hd⟩ := pl.isList
    exact call_list_seq p (.inl rfl) ho hc hd (fun h' c' kp e => fin its r' hz h' c' kp e) (by simp only [List.size_toArray] <;> omega)
  · obtain ⟨its, r', pl, hz⟩ := I.tuple hq
    have hlen := r'.length
    obtain ⟨o, ho, hc, n, hd⟩ := pl
    exact call_list_seq p (.inr rfl) ho hc hd (fun h' c' kp e => fin its r' hz h' c' kp e) (by simp only [List.size_toArray] <;> omega)
def tyV (K : PySem.W.Frag) (T : String) (x : V) (H : Hp) : Prop := match x with
  | .str _ => T = "str"
  | .int _ => T = "int"
  | .ref p => (T = "list" ∧ ∃ xs, SqL K H p xs) ∨ (T = "tuple" ∧ ∃ o, K.lookup p = some o ∧ o.cls = .type "tuple" ∧ o.dict = none) ∨
      (T = "dict" ∧ ((∃ kvs, H p = some (.dK kvs)) ∨ ∃ kvs, H p = some (.dT kvs))) ∨ (T = "set" ∧ ∃ S n, H p = some (.set S n))
  | _ => False
theorem tyV_is {pins : List (Addr × Obj)} {σ : St} {H : Hp} {s : Shared} {T : String} {x : V} {v : Value} (I : Inv X pins σ H s) (r : RelV x v) (ty : tyV X.K T x H) :
    s.TypeIs v T ∧ ∀ a, v = .ref a → ∃ ob, s.heap.get? a = some ob ∧ ob.dict = none := by
  cases x with
  | str z =>
    obtain ⟨t, rfl⟩ := r
    cases (show T = "str" from ty)
    exact ⟨typeIs_str s z t, fun _ e => nomatch e⟩
  | int i =>
    obtain ⟨t, rfl⟩ := r
    cases (show T = "int" from ty)
    exact ⟨typeIs_int s i t, fun _ e => nomatch e⟩
  | ref p =>
    cases r
    rcases ty with ⟨rfl, xs, hq⟩ | ⟨rfl, o, hk, hc, hd⟩ | ⟨rfl, hk⟩ | ⟨rfl, S, n, hk⟩
    · obtain ⟨its, _, pl, _⟩ := I.list hq
      refine ⟨pl.isList.typeIs, fun a e => ?_⟩
      cases e
      obtain ⟨o, n, e, c, hd, _⟩ := pl
      exact ⟨o, e, hd⟩
    · refine ⟨⟨o, I.kIn p o hk, hc⟩, fun a e => ?_⟩
      cases e
      exact ⟨o, I.kIn _ o hk, hd⟩
    · have z : ∃ o, s.heap.get? p = some o ∧ o.ExactDict := by
        rcases hk with ⟨kvs, hk⟩ | ⟨kvs, hk⟩
        · obtain ⟨_, _, _, _, o, _, _, e, ex, _⟩ := I.hok p _ hk
          exact ⟨o, e, ex⟩
        · obtain ⟨_, _, _, _, o, _, _, e, ex, _⟩ := I.hok p _ hk
          exact ⟨o, e, ex⟩
      obtain ⟨o, e, ex⟩ := z
      refine ⟨⟨o, e, ex.1⟩, fun a e2 => ?_⟩
      cases e2
      exact ⟨o, e, ex.2.1⟩
    · obtain ⟨o, _, _, _, e, ex, _⟩ := I.hok p _ hk
      refine ⟨⟨o, e, ex.1⟩, fun a e2 => ?_⟩
      cases e2
      exact ⟨o, e, ex.2.1⟩
  | _ => exact False.elim ty
def tBM0 (K : PySem.W.Frag) (T : String) (r : V → List V → Hp → VK → Prop) (to : TE) : TE := fun σ H Q => to σ H fun x H1 => tyV K T x H1 ∧ r x [] H1 Q
def tBM (K : PySem.W.Frag) (T : String) (r : V → List V → Hp → VK → Prop) (to : TE) (t : TA) : TE := fun σ H Q => to σ H fun x H1 => tyV K T x H1 ∧ t σ H1 fun xs H2 => r x xs H2 Q
variable {o e : Expr} {es : List Expr} {to : TE} {t : TA} {name : Str} {apos cpos : Pos} {T id : String} {r : V → List V → Hp → VK → Prop}
theorem pe_bm0 (pa : PlainAttrs T) (slot : Slot T name id) (hty : typeOf (.builtin id) = pure (.type "method_descriptor")) (hm : MtR X id r) (ho : PE X o to)
    (hbase : attributeBase o name X.env (eval o X.env) = eval o X.env := by rfl) (hline : (apos.endLine == cpos.line) = true := by rfl) : PE X (.Call (.Attribute o name apos) [] [] cpos) (tBM0 X.K T r to) := by
  intro pins s σ H Q I h
  refine wpAny_Call_method0_late hbase hline (thn (ho pins s σ H _ I h) fun v s1 ⟨x, H1, I1, r1, ty, q1⟩ => ?_)
  obtain ⟨h1, h2⟩ := tyV_is I1 r1 ty
  exact ⟨T, id, pa, slot, hty, h1, h2, Calls.callWith_builtin rfl (PySem.evalArgs_none (hm pins s1 σ H1 x [] v [] Q I1 r1 .nil q1))⟩
theorem pe_bm (pa : PlainAttrs T) (slot : Slot T name id) (hty : typeOf (.builtin id) = pure (.type "method_descriptor")) (hm : MtR X id r) (ho : PE X o to) (ha : PA X (e :: es) t)
    (hbase : attributeBase o name X.env (eval o X.env) = eval o X.env := by rfl)
    (hfew : ((backTo cpos (starEach (e :: es) X.env)).all (fun x => !x.1) && (backToKw cpos (keywordEach [] X.env)).all (fun x => x.1.isSome)
      && decide ((e :: es).length + ([] : List Keyword).length + (if ([] : List Keyword).isEmpty then 0 else 1) < 30)) = true := by rfl)
    (hline : (apos.endLine == cpos.line) = true := by rfl) (hs : starEach (e :: es) X.env = (false, eval e X.env) :: starEach es X.env := by rfl) (hplain : (backTo cpos (starEach es X.env)).any (·.1) = false := by rfl) :
    PE X (.Call (.Attribute o name apos) (e :: es) [] cpos) (tBM X.K T r to t) := by
  intro pins s σ H Q I h
  refine wpAny_Call_method_late hbase hfew hline rfl (thn (ho pins s σ H _ I h) fun v s1 ⟨x, H1, I1, r1, ty, q1⟩ => ?_)
  obtain ⟨h1, h2⟩ := tyV_is I1 r1 ty
  refine ⟨T, id, pa, slot, hty, h1, h2, ?_⟩
  have hA := ha cpos pins s1 σ H1 _ I1 q1
  rw [hs] at hA ⊢
  refine Calls.callWith_builtin (by show (false || (backTo cpos (starEach es X.env)).any (·.1)) = false; rw [hplain] <;> rfl) (Calls.evalArgs_plain ?_)
  exact thn hA fun us s2 ⟨vs, H2, I2, r2, q2⟩ => hm pins s2 σ H2 x vs v us Q I2 r1 r2 q2
/- xs.append(e), list.index on a module's tuple .. are MtR facts of 06m -/
end
end L2
namespace L2
open PySem PySem.Spec PyProof.Rows
def MtM (X : Cx) (id : String) (r : V → List V → Hp → VK → Prop) : Prop :=
  ∀ (pins : List (Addr × Obj)) (s : Shared) (σ : St) (H : Hp) (x : V) (xs : List V) (v : Value) (us : List Value) (Q : VK), Inv X pins σ H s → RelV x v → Vals xs us → r x xs H Q →
    wpAny (model X.prog X.w) X.A (call (.builtin id) (v :: us)) (EP X pins σ Q) X.xe s
theorem Vals.one : ∀ {x : V} {us : List Value}, Vals [x] us → ∃ u, us = [u] ∧ RelV x u
  | _, _, .cons r .nil => ⟨_, rfl, r⟩
theorem Vals.two : ∀ {x y : V} {us : List Value}, Vals [x, y] us → ∃ u v, us = [u, v] ∧ RelV x u ∧ RelV y v
  | _, _, _, .cons r (.cons q .nil) => ⟨_, _, rfl, r, q⟩
theorem Vals.zero : ∀ {us : List Value}, Vals [] us → us = []
  | _, .nil => rfl
theorem Vals.dropLast {xs : List V} {us : List Value} (h : Vals xs us) : Vals xs.dropLast us.dropLast := by
  induction h with
  | nil => exact .nil
  | cons r t ih =>
    cases t with
    | nil => exact .nil
    | cons q t' => exact .cons r ih
theorem Vals.eraseIdx : ∀ {xs : List V} {us : List Value} (i : Nat), Vals xs us → Vals (xs.eraseIdx i) (us.eraseIdx i)
  | _, _, _, .nil => .nil
  | _, _, 0, .cons _ t => t
  | _, _, i + 1, .cons r t => .cons r (Vals.eraseIdx i t)
theorem Vals.reverse {xs : List V} {us : List Value} (h : Vals xs us) : Vals xs.reverse us.reverse := by
  induction h with
  | nil => exact .nil
  | cons r t ih => rw [List.reverse_cons, List.reverse_cons]; exact Vals.append ih (.cons r .nil)
theorem Vals.rep {xs : List V} {us : List Value} (h : Vals xs us) : ∀ k : Nat, Vals (List.replicate k xs).flatten (List.replicate k us).flatten
  | 0 => .nil
  | k + 1 => by
    rw [List.replicate_succ, List.replicate_succ, List.flatten_cons, List.flatten_cons]
    exact Vals.append h (Vals.rep h k)
theorem erase_last {α : Type} (l : List α) : l.eraseIdx (l.length - 1) = l.dropLast := by
  induction l with
  | nil => rfl
  | cons a r ih =>
    cases r with
    | nil => rfl
    | cons b r =>
      have e : (a :: b :: r).length - 1 = ((b :: r).length - 1) + 1 := by
        have h1 : (a :: b :: r).length = r.length + 2 := rfl
        have h2 : (b :: r).length = r.length + 1 := rfl
        omega
      rw [e, List.eraseIdx_cons_succ, ih]
      all_goals rfl
theorem len_erase {α : Type} : ∀ (l : List α) (i : Nat), (l.eraseIdx i).length ≤ l.length
  | [], _ => Nat.le_refl _
  | _ :: _, 0 => Nat.le_succ _
  | _ :: r, i + 1 => Nat.succ_le_succ (len_erase r i)
theorem foldl_rep (its : List Value) : ∀ (k : Nat) (acc : List Value),
    List.foldl (fun x1 x2 => x1 ++ x2) acc.toArray (List.replicate k its.toArray) = (acc ++ (List.replicate k its).flatten).toArray
  | 0, acc => by simp
  | k + 1, acc => by
    have e : acc.toArray ++ its.toArray = (acc ++ its).toArray := by simp
    have e2 : (acc ++ its) ++ (List.replicate k its).flatten = acc ++ (List.replicate (k + 1) its).flatten := by
      rw [List.replicate_succ, List.flatten_cons, List.append_assoc]
    rw [← e2, ← foldl_rep its k (acc ++ its), ← e, List.replicate_succ, List.foldl_cons]
section
variable {X : Cx} {pins : List (Addr × Obj)} {σ : St} {H : Hp} {s : Shared} {l b : Addr} {xs ys zs : List V}
theorem Inv.lset {its its' : List Value} {n : Nat} {f : Array Value → Array Value} {t' : Nat} (I : Inv X pins σ H s) (hH : H l = some (.lst xs))
    (e : s.heap.get? l = some { cls := .type "list", data := .seq its.toArray n }) (hf : f its.toArray = its'.toArray) (hv : Vals ys its') (hz : ys.length ≤ sizeLine) :
    Inv X pins σ (upd H l (.lst ys)) { s with heap := s.heap.update l (Obj.mapSeq f), toks := t' } := by
  have q := PySem.IsL.update e f
  rw [hf] at q
  refine I.write (x := l) (e := l) (by rw [hH]; exact trivial) (.inl rfl) (fun b' u hb hu => (Heap.get?_update_other s.heap (Obj.mapSeq f) (Ne.symm hb)).trans hu) ⟨_, q⟩ ?_
  exact ⟨hz, its', _, hv, q⟩
theorem Inv.lnew {its : List Value} {t' : Nat} (I : Inv X pins σ H s) (hv : Vals ys its) (hz : ys.length ≤ sizeLine) :
    Inv X pins σ (upd H s.heap.objs.size (.lst ys)) { s with heap := s.heap.push { cls := .type "list", data := .seq its.toArray }, toks := t' } :=
  I.laid (fun _ _ q => Heap.get?_push_of_some _ q) (Nat.le_refl _) ⟨hz, its, 0, hv, Heap.get?_push_size _ rfl⟩
theorem Inv.fresh (I : Inv X pins σ H s) : H s.heap.objs.size = none := I.hok.fresh (Nat.le_refl _)
theorem Inv.lstM (I : Inv X pins σ H s) (hH : H l = some (.lst xs)) : xs.length ≤ sizeLine ∧ ∃ (its : List Value) (n : Nat), Vals xs its ∧ xs.length = its.length ∧ s.heap.get? l = some { cls := .type "list", data := .seq its.toArray n } := by
  obtain ⟨z, its, n, r, e⟩ := I.hok l _ hH
  exact ⟨z, its, n, r, r.length, e⟩
theorem notLongL {n : Nat} (h : n ≤ sizeLine) : Builtin.List.listTooLong n = false := by
  unfold Builtin.List.listTooLong
  exact decide_eq_false (by omega)
end
section
variable {X : Cx}
def rAppend : V → List V → Hp → VK → Prop := fun x vs H Q => ∃ l xs y, x = .ref l ∧ vs = [y] ∧ H l = some (.lst xs) ∧ xs.length < sizeLine ∧ Q .non (upd H l (.lst (xs ++ [y])))
theorem mt_append : MtM X "list.append" rAppend := by
  intro pins s σ H x vs v us Q I rx rv h
  obtain ⟨l, xs, y, rfl, rfl, hH, hz, q⟩ := h
  cases rx
  obtain ⟨u, rfl, ru⟩ := rv.one
  obtain ⟨z, its, n, r, hl, e⟩ := I.lstM hH
  refine call_meets F.slot_list_append ⟨_, e, rfl⟩ F.entry_list_append (F.args_list_append_2 _ _) (PySem.list_append l its.toArray n u (by rw [List.size_toArray]; omega)) ⟨e, ?_⟩
  refine ⟨.non, _, I.lset (its' := its ++ [u]) hH e (by simp) (r.append (.cons ru .nil)) ?_, rfl, q⟩
  rw [List.length_append, List.length_singleton]
  omega
def rExtend : V → List V → Hp → VK → Prop := fun x vs H Q => ∃ l b xs zs, x = .ref l ∧ vs = [.ref b] ∧ H l = some (.lst xs) ∧ H b = some (.lst zs) ∧ xs.length + zs.length ≤ sizeLine ∧ Q .non (upd H l (.lst (xs ++ zs)))
theorem mt_extend : MtM X "list.extend" rExtend := by
  intro pins s σ H x vs v us Q I rx rv h
  obtain ⟨l, b, xs, zs, rfl, rfl, hH, hB, hz, q⟩ := h
  cases rx
  obtain ⟨u, rfl, ru⟩ := rv.one
  cases ru
  obtain ⟨z, its, n, r, hl, e⟩ := I.lstM hH
  obtain ⟨z2, its2, n2, r2, hl2, e2⟩ := I.lstM hB
  have hsz : its.toArray.size + its2.toArray.size ≤ sizeLine := by rw [List.size_toArray, List.size_toArray]; omega
  have hlong : ¬ (!its.toArray.isEmpty && Builtin.List.listTooLong (its.toArray.size + its2.toArray.size)) = true := by
    rw [notLongL hsz, Bool.and_false]
    exact Bool.false_ne_true
  refine call_meets F.slot_list_extend ⟨_, e, rfl⟩ F.entry_list_extend (F.args_list_extend_2 _ _)
    (AutoSeq1.list_extend_list_list_0 l its.toArray n b its2.toArray n2 hlong (by rw [List.size_toArray]; omega) (by omega)) ⟨e, e2, ?_⟩
  refine ⟨.non, _, I.lset (its' := its ++ its2) hH e (by simp) (r.append r2) ?_, rfl, q⟩
  rw [List.length_append]
  omega
def rPop : V → List V → Hp → VK → Prop := fun x vs H Q => ∃ l xs y, x = .ref l ∧ vs = [] ∧ H l = some (.lst xs) ∧ xs[xs.length - 1]? = some y ∧ Q y (upd H l (.lst xs.dropLast))
theorem mt_pop : MtM X "list.pop" rPop := by
  intro pins s σ H x vs v us Q I rx rv h
  obtain ⟨l, xs, y, rfl, rfl, hH, hy, q⟩ := h
  cases rx
  have hus := rv.zero
  subst hus
  obtain ⟨z, its, n, r, hl, e⟩ := I.lstM hH
  obtain ⟨u, hu, ru⟩ := r.get hy
  have hy' : its.toArray[its.toArray.size - 1]? = some u := by
    show its.toArray[its.length - 1]? = some u
    rw [← Array.getElem?_toList, ← hl]
    exact hu
  refine call_meets F.slot_list_pop ⟨_, e, rfl⟩ F.entry_list_pop (F.args_list_pop_1 _) (MeetsSeq.list_pop_last l its.toArray n u hy' (by rw [List.size_toArray]; omega)) ⟨e, ?_⟩
  refine ⟨y, _, I.lset (its' := its.dropLast) hH e ?_ r.dropLast ?_, ru, q⟩
  · show its.toArray.eraseIdxIfInBounds (its.toArray.size - 1) = its.dropLast.toArray
    rw [List.size_toArray, List.eraseIdxIfInBounds_toArray, erase_last]
  · rw [List.length_dropLast]
    omega
def rPopAt : V → List V → Hp → VK → Prop := fun x vs H Q => ∃ l xs i k y, x = .ref l ∧ vs = [.int i] ∧ H l = some (.lst xs) ∧ -(2 ^ 63) ≤ i ∧ i < 2 ^ 63 ∧ seqIndex? i xs.length = some k ∧ xs[k]? = some y ∧ Q y (upd H l (.lst (xs.eraseIdx k)))
theorem mt_popAt : MtM X "list.pop" rPopAt := by
  intro pins s σ H x vs v us Q I rx rv h
  obtain ⟨l, xs, i, k, y, rfl, rfl, hH, h1, h2, hk, hy, q⟩ := h
  cases rx
  obtain ⟨u, rfl, ru⟩ := rv.one
  obtain ⟨t, rfl⟩ := ru
  obtain ⟨z, its, n, r, hl, e⟩ := I.lstM hH
  obtain ⟨w, hw, rw'⟩ := r.get hy
  refine call_meets F.slot_list_pop ⟨_, e, rfl⟩ F.entry_list_pop (F.args_list_pop_2 _ _)
    (MeetsSeq.list_pop_at l its.toArray n i t k w (fitsIndex_both h1 h2) (by rw [List.size_toArray, ← hl]; exact hk) (by rw [← Array.getElem?_toList]; exact hw) (by rw [List.size_toArray]; omega)) ⟨e, ?_⟩
  refine ⟨y, _, I.lset (its' := its.eraseIdx k) hH e ?_ (r.eraseIdx k) ?_, rw', q⟩
  · show its.toArray.eraseIdxIfInBounds k = (its.eraseIdx k).toArray
    rw [List.eraseIdxIfInBounds_toArray]
  · have := len_erase xs k
    omega
def rReverse : V → List V → Hp → VK → Prop := fun x vs H Q => ∃ l xs, x = .ref l ∧ vs = [] ∧ H l = some (.lst xs) ∧ Q .non (upd H l (.lst xs.reverse))
theorem mt_reverse : MtM X "list.reverse" rReverse := by
  intro pins s σ H x vs v us Q I rx rv h
  obtain ⟨l, xs, rfl, rfl, hH, q⟩ := h
  cases rx
  have hus := rv.zero
  subst hus
  obtain ⟨z, its, n, r, hl, e⟩ := I.lstM hH
  refine call_meets F.slot_list_reverse ⟨_, e, rfl⟩ F.entry_list_reverse (F.args_list_reverse_1 _) (AutoSeq1.list_reverse_list_0 l its.toArray n (by rw [List.size_toArray]; omega)) ⟨e, ?_⟩
  refine ⟨.non, _, I.lset (its' := its.reverse) hH e (by simp) r.reverse ?_, rfl, q⟩
  rw [List.length_reverse]
  omega
def rClear : V → List V → Hp → VK → Prop := fun x vs H Q => ∃ l xs, x = .ref l ∧ vs = [] ∧ H l = some (.lst xs) ∧ Q .non (upd H l (.lst []))
def rCat : R2 := fun x y H Q => ∃ l b xs zs, x = .ref l ∧ y = .ref b ∧ H l = some (.lst xs) ∧ H b = some (.lst zs) ∧ xs.length + zs.length ≤ sizeLine ∧ ∀ p, H p = none → Q (.ref p) (upd H p (.lst (xs ++ zs)))
theorem op_cat : OpR X (binaryOp .Add) rCat := by
  intro pins s σ H x y v u Q I rx ry h
  obtain ⟨l, b, xs, zs, rfl, rfl, hH, hB, hz, q⟩ := h
  cases rx
  cases ry
  obtain ⟨z, its, n, r, hl, e⟩ := I.lstM hH
  obtain ⟨z2, its2, n2, r2, hl2, e2⟩ := I.lstM hB
  refine PySem.P.add_list e e2 ?_ (by rw [List.size_toArray, List.size_toArray]; omega)
  have ea : its.toArray ++ its2.toArray = (its ++ its2).toArray := by simp
  rw [ea]
  exact ⟨.ref _, _, I.lnew (t' := s.toks) (r.append r2) (by rw [List.length_append]; omega), rfl, q _ I.fresh⟩
def rRep : R2 := fun x y H Q => ∃ l k xs, x = .ref l ∧ y = .int k ∧ H l = some (.lst xs) ∧ -(2 ^ 63) ≤ k ∧ k < 2 ^ 63 ∧ xs.length * k.toNat ≤ sizeLine ∧
  ∀ p, H p = none → Q (.ref p) (upd H p (.lst (List.replicate k.toNat xs).flatten))
theorem len_rep {α : Type} (xs : List α) (k : Nat) : (List.replicate k xs).flatten.length = k * xs.length := by
  induction k with
  | zero => simp
  | succ k ih => rw [List.replicate_succ, List.flatten_cons, List.length_append, ih, Nat.succ_mul, Nat.add_comm]
theorem op_rep : OpR X (binaryOp .Mult) rRep := by
  intro pins s σ H x y v u Q I rx ry h
  obtain ⟨l, k, xs, rfl, rfl, hH, h1, h2, hz, q⟩ := h
  cases rx
  obtain ⟨t, rfl⟩ := ry
  obtain ⟨z, its, n, r, hl, e⟩ := I.lstM hH
  have hlen : its.toArray.size * k.toNat ≤ sizeLine := by rw [List.size_toArray, ← hl]; exact hz
  have hcap : ¬ its.toArray.size * k.toNat > (2 ^ 63 - 1) / 8 := by
    have : (sizeLine : Nat) ≤ (2 ^ 63 - 1) / 8 := by decide
    omega
  have hfit : ¬ (!Builtin.List.listFitsIndex k) = true := by
    rw [fitsIndex_both h1 h2]
    exact Bool.false_ne_true
  have hlong : ¬ Builtin.List.listTooLong (its.toArray.size * k.toNat) = true := by
    rw [notLongL hlen]
    exact Bool.false_ne_true
  have hnew : List.foldl (fun x1 x2 => x1 ++ x2) #[] (List.replicate (if its.toArray.isEmpty = true then 0 else k.toNat) its.toArray) = (List.replicate k.toNat its).flatten.toArray := by
    have f0 : ∀ m : Nat, List.foldl (fun x1 x2 => x1 ++ x2) #[] (List.replicate m its.toArray) = (List.replicate m its).flatten.toArray := fun m => by
      have := foldl_rep its m []
      rw [List.nil_append] at this
      exact this
    rw [f0]
    cases its with
    | nil => simp
    | cons a r' => rw [if_neg (by simp)]
  refine wpAny_binaryOp_repeat_ref (T := "list") (U := "int") (by decide) ⟨_, e, rfl⟩ (fun s' => typeIs_int s' k t) noFill_list_mul F.fills_int_mul F.slot_int_rmul repeat_list F.slot_int_index.lookup
    (call_meets F.slot_int_rmul (typeIs_int s k t) F.entry_int_rmul (F.args_int_rmul_2 _ _) (int___rmul___int_list k t l its.toArray n)
      ⟨e, rfl, ⟨_, e, rfl⟩, call_meets F.slot_list_mul ⟨_, e, rfl⟩ F.entry_list_mul (F.args_list_mul_2 _ _) (AutoListH.list___mul___list_int_3 l its.toArray n k t hfit hcap hlong) ⟨e, ?_⟩⟩)
  rw [hnew]
  exact ⟨.ref _, _, I.lnew (t' := s.toks) (r.rep k.toNat) (by rw [len_rep, Nat.mul_comm]; exact hz), rfl, q _ I.fresh⟩
end
section
variable {prog : Program} {w : World} {A : Around} {E : Value → Shared → Prop} {s : Shared}
theorem bounds_run {a c n : Nat} (hac : a ≤ c) (hc : c ≤ n) : sliceBounds (some (a : Int)) (some (c : Int)) none n = ((a : Int), (c : Int), 1) := by
  simp only [sliceBounds, Option.getD_none]
  have h1 : ¬ ((a : Int) < 0) := by omega
  have h2 : ¬ ((c : Int) < 0) := by omega
  simp only [h1, h2, if_false, show (1 : Int) > 0 by decide, if_true]
  congr 1
  · omega
  · congr 1; omega
set_option maxRecDepth 100000 in
theorem setItem_slice {l b sl : Addr} {items new : Array Value} {n n2 : Nat} {vl vu : Value} {a c : Nat} {Q : Unit → Shared → Prop}
    (e : s.heap.get? l = some { cls := .type "list", data := .seq items n }) (e2 : s.heap.get? b = some { cls := .type "list", data := .seq new n2 }) (hne : l ≠ b)
    (hs : s.heap.IsSliceOf sl vl vu .none) (pl : IsPart vl (some (a : Int))) (pu : IsPart vu (some (c : Int))) (hac : a ≤ c) (hc : c ≤ items.size)
    (hsz : items.size + new.size ≤ sizeLine) (h : Q () { s with heap := s.heap.update l (Obj.mapSeq fun xs => xs.extract 0 a ++ new ++ xs.extract c xs.size) }) :
    wpAny (model prog w) A (setItem (.ref l) (.ref sl) (.ref b)) Q E s := by
  have hl : s.heap.IsList l items := PySem.IsL.isList e
  have hb : s.heap.IsList b new := PySem.IsL.isList e2
  obtain ⟨os, hos, hcs, hds⟩ := id hs
  have hTs : s.TypeIs (.ref sl) "slice" := ⟨os, hos, hcs⟩
  have hstep : ¬ ((rawPart none == rawInt 0) = true) := Bool.false_ne_true
  have hsame : Builtin.List.listSameRef (.ref l) (.ref b) = false := by
    unfold Builtin.List.listSameRef
    exact beq_eq_false_iff_ne.mpr hne
  have hmax : (max (a : Int) (c : Int)).toNat = c := by omega
  have hz' : ((fun xs : Array Value => xs.extract 0 a ++ new ++ xs.extract c xs.size) items).size ≤ sizeLine + 1 := by
    simp only [Array.size_append, Array.size_extract]
    omega
  unfold setItem
  try with_reducible refine wpAny_holding ?_
  first | refine wpAny_bind (wpAny_pure ?_) | skip
  refine wpAny_bind (wpAny_sequenceKey hl.typeIs (by decide) ?_)
  refine wpAny_bind (wpAny_callSpecial?_slot (name := Str.ofString "__setitem__") hl.typeIs slot_list_setitem
    (wpAny_call_entry slot_list_setitem hl.typeIs entry_list_setitem ?_ (args_list_setitem _ _ _)))
  show wpAny _ _ (Builtin.List.listSubscript? (.ref sl) >>= _) _ _ s
  refine wpAny_bind ?_
  unfold Builtin.List.listSubscript?
  refine wpAny_bind (wpAny_specialOf hTs slice_no_index ?_)
  simp only [Option.isNone_none, if_true]
  refine wpAny_pure ?_
  show wpAny _ _ (typeOf (.ref sl) >>= _) _ _ s
  refine wpAny_bind (wpAny_typeOf hTs ?_)
  first
    | rw [if_neg (by decide)]
    | refine PySem.W.KFB.if_not (by decide) ?_
  rw [listSliceParts_eq]
  refine wpAny_bind (wpAny_bind (wpAny_field hos hds (x := .none) rfl (wpAny_bind (wpAny_listPart .none ?_))))
  rw [if_neg hstep]
  refine wpAny_bind (wpAny_field hos hds (x := vl) rfl (wpAny_bind (wpAny_listPart pl ?_)))
  refine wpAny_bind (wpAny_field hos hds (x := vu) rfl (wpAny_bind (wpAny_listPart pu (wpAny_pure ?_))))
  first
    | simp only [hsame, Bool.false_eq_true, if_false]
    | refine PySem.W.KFB.if_not hsame ?_
    | (dsimp only
       rw [if_neg (by rw [hsame]; exact Bool.false_ne_true)])
  refine wpAny_bind (m := Builtin.List.listAllItems (.ref b) "must assign iterable to extended slice") ?_
  unfold Builtin.List.listAllItems
  refine wpAny_bind (wpAny_typeOf hb.typeIs ?_)
  first
    | refine PySem.W.KFB.if_so (by decide) ?_
    | rw [if_pos (by decide)]
    | simp only [beq_self_eq_true, Bool.true_or, if_true]
  unfold Builtin.List.listItems
  refine wpAny_bind (wpAny_seqItems e2 rfl (wpAny_pure ?_))
  refine wpAny_bind (wpAny_bind (wpAny_seqItems e rfl (wpAny_pure ?_)))
  refine wpAny_bind (wpAny_of_eq ((sliceIndices_raw (some (a : Int)) (some (c : Int)) none items.size (by simp)).trans (congrArg (pure : Int × Int × Int → Sem (Int × Int × Int)) (bounds_run hac hc))) ?_)
  show wpAny _ _ (if ((1 : Int) == 1) = true then _ else _) _ _ s
  rw [if_pos (by decide)]
  refine wpAny_bind (wpAny_rule ?_)
  first
    | simp only [notLongL hsz, Bool.false_eq_true, if_false]
    | refine PySem.W.KFB.if_not (notLongL hsz) ?_
  first | refine wpAny_bind (wpAny_pure ?_) | skip
  show wpAny _ _ (updateSeq l (fun xs => xs.extract 0 ((a : Int)).toNat ++ new ++ xs.extract (max (a : Int) (c : Int)).toNat xs.size) >>= _) _ _ s
  rw [hmax, Int.toNat_natCast]
  refine wpAny_bind (wpAny_updateSeq (hz := Nat.le_trans (Nat.le_add_right _ _) hsz) (_hz' := hz') e rfl ?_)
  refine wpAny_bind (wpAny_letGo ?_)
  first
    | exact wpAny_bind (wpAny_pure (wpAny_pure ⟨.none, rfl, wpAny_pure h⟩))
    | exact wpAny_pure ⟨.none, rfl, wpAny_pure h⟩
end
section
variable {X : Cx}
end
end L2
namespace L2
open PySem PySem.Spec PyProof.Rows
theorem Vals.ints : ∀ {ns : List Int} {us : List Value}, Vals (ns.map V.int) us → IntsAre us ns
  | [], us, h => by
    rw [List.map_nil] at h
    cases h
    exact IntsAre.nil
  | n :: ns, us, h => by
    rw [List.map_cons] at h
    cases h with
    | cons r t =>
      obtain ⟨k, rfl⟩ := r
      exact IntsAre.cons n k (Vals.ints t)
theorem vals_of_ints : ∀ {us : List Value} {ns : List Int}, IntsAre us ns → Vals (ns.map V.int) us
  | _, _, .nil => by rw [List.map_nil]; exact Paired.nil
  | _, _, .cons n t h => by rw [List.map_cons]; exact Paired.cons (show RelV (V.int n) (Value.int n t) from ⟨t, rfl⟩) (vals_of_ints h)
theorem Vals.strs : ∀ {xs : List Str} {us : List Value}, Vals (xs.map V.str) us → StrsAre us xs
  | [], us, h => by
    rw [List.map_nil] at h
    cases h
    exact StrsAre.nil
  | x :: xs, us, h => by
    rw [List.map_cons] at h
    cases h with
    | cons r t =>
      obtain ⟨k, rfl⟩ := r
      exact StrsAre.cons x k (Vals.strs t)
theorem vals_of_strs : ∀ {us : List Value} {xs : List Str}, StrsAre us xs → Vals (xs.map V.str) us
  | _, _, .nil => by rw [List.map_nil]; exact Paired.nil
  | _, _, .cons x t h => by rw [List.map_cons]; exact Paired.cons (show RelV (V.str x) (Value.str x t) from ⟨t, rfl⟩) (vals_of_strs h)
theorem Vals.bls : ∀ {bs : List Bool} {us : List Value}, Vals (bs.map V.bl) us → us = bs.map Value.bool
  | [], us, h => by
    rw [List.map_nil] at h
    cases h
    rfl
  | b :: bs, us, h => by
    rw [List.map_cons] at h
    cases h with
    | cons r t =>
      cases r
      rw [Vals.bls t, List.map_cons]
theorem Vals.ref1 {a : Addr} {us : List Value} (r : Vals [V.ref a] us) : us = [Value.ref a] := by
  cases r with
  | cons r t =>
    cases t
    cases r
    rfl
section
variable {prog : Program} {w : World} {A : Around} {E : Value → Shared → Prop} {s : Shared} {l : Addr} {its : List Value} {ns : List Int} {Q : Value → Shared → Prop}
theorem sum_raw (hh : A.handled = none) (hl : s.heap.IsList l its.toArray) (hi : IntsAre its ns)
    (h : ∀ h' tk t', (∀ b o, s.heap.get? b = some o → h'.get? b = some o) → Q (.int ns.sum t') { s with heap := h', toks := tk }) : wpAny (model prog w) A (call (.builtin "sum") [.ref l]) Q E s := by
  obtain ⟨xs, e⟩ := hi.allInts.items
  have hn : numsOf (intItems xs).toList = ns := by rw [← e]; exact hi.numsOf
  rw [nums_intItems] at hn
  rw [e] at hl
  refine PySem.sum_intListG hh hl fun h' tk t' hk => ?_
  have := h h' tk t' hk
  rw [preSum_eq, List.take_of_length_le (by simp), hn]; exact this
end
section
variable {X : Cx}
def rSum (K : PySem.W.Frag) : List V → Hp → VK → Prop := fun vs H Q => ∃ (a : Addr) (ns : List Int), vs = [V.ref a] ∧ SqL K H a (ns.map V.int) ∧ Q (.int ns.sum) H
def rMax (K : PySem.W.Frag) : List V → Hp → VK → Prop := fun vs H Q => ∃ (a : Addr) (ns : List Int), vs = [V.ref a] ∧ SqL K H a (ns.map V.int) ∧ 0 < ns.length ∧ ∀ m, m ∈ ns → (∀ y, y ∈ ns → y ≤ m) → Q (.int m) H
def rMin (K : PySem.W.Frag) : List V → Hp → VK → Prop := fun vs H Q => ∃ (a : Addr) (ns : List Int), vs = [V.ref a] ∧ SqL K H a (ns.map V.int) ∧ 0 < ns.length ∧ ∀ m, m ∈ ns → (∀ y, y ∈ ns → m ≤ y) → Q (.int m) H
theorem cr_sum (hc : X.calm = true) : CallR X (.builtin "sum") (rSum X.K) := by
  intro pins s σ H vs us Q I r h
  obtain ⟨a, ns, rfl, hs, q⟩ := h
  obtain ⟨its, rv, hl, _⟩ := I.list hs
  rw [Vals.ref1 r]
  exact sum_raw (I.ok.hd hc) hl.isList rv.ints fun h' tk t' hk => ⟨.int _, H, I.kept hk, ⟨_, rfl⟩, q⟩
def rSorted (K : PySem.W.Frag) : List V → Hp → VK → Prop := fun vs H Q => ∃ (a : Addr) (ns : List Int), vs = [V.ref a] ∧ SqL K H a (ns.map V.int) ∧ ns.length < 64 ∧
  ∀ (ns' : List Int) (p : Addr), ns'.Perm ns → ns'.Pairwise (· ≤ ·) → H p = none → Q (.ref p) (upd H p (.lst (ns'.map V.int)))
def rSortedS (K : PySem.W.Frag) : List V → Hp → VK → Prop := fun vs H Q => ∃ (a : Addr) (xs : List Str), vs = [V.ref a] ∧ SqL K H a (xs.map V.str) ∧ xs.length < 64 ∧
  ∀ (ys : List Str) (p : Addr), ys.Perm xs → sortedS ys = true → H p = none → Q (.ref p) (upd H p (.lst (ys.map V.str)))
def rSort : V → List V → Hp → VK → Prop := fun x xs H Q => ∃ (a : Addr) (ns : List Int), x = V.ref a ∧ xs = [] ∧ H a = some (.lst (ns.map V.int)) ∧ ns.length < 64 ∧
  ∀ ns' : List Int, ns'.Perm ns → ns'.Pairwise (· ≤ ·) → Q .non (upd H a (.lst (ns'.map V.int)))
end
section
variable {X : Cx}
def rIndex (K : PySem.W.Frag) : V → List V → Hp → VK → Prop := fun x xs H Q => ∃ (a : Addr) (ys : List V) (y : V) (j : Nat) (z : V), x = V.ref a ∧ xs = [y] ∧ SqL K H a ys ∧ flatV y = true ∧ ys.all flatV = true ∧ ys[j]? = some z ∧ eqV z y = true ∧
  (∀ (m : Nat) (z' : V), m < j → ys[m]? = some z' → eqV z' y = false) ∧ Q (.int (j : Nat)) H
end
section
variable {X : Cx}
end
theorem iter_any {prog : Program} {w : World} {A : Around} {E : Value → Shared → Prop} {s : Shared} {l : Addr} {items : Array Value} {Q : Value → Shared → Prop} (hl : s.heap.IsList l items)
    (h : ∀ s₂ : Shared, s₂ = { s with heap := s.heap.push { cls := .type "list_iterator", data := .fields #[.ref l, .int 0 0] } } →
      (s₂.heap.IsListIter s.heap.objs.size l 0 ∧ s₂.heap.IsList l items) → l ≠ s.heap.objs.size → Q (.ref s.heap.objs.size) s₂) : wpAny (model prog w) A (pyIter (.ref l)) Q E s := by
  have hlt : l < s.heap.objs.size := by obtain ⟨_, e, _⟩ := hl; exact Heap.lt_size e
  exact wpAny_pyIter_list hl (h _ rfl ⟨⟨_, Heap.get?_push_size _ rfl, rfl, rfl⟩, hl.push _⟩ (Nat.ne_of_lt hlt))
theorem truth_bools {prog : Program} {w : World} {A : Around} {bs : List Bool} {its : List Value} (e : its = bs.map Value.bool) :
    TruthOf prog w A (fun i v => its.toArray[i]? = some v) (fun i => bs.getD i false) := fun i v s Q E hv hq => by
  have hv' : its[i]? = some v := by simpa using hv
  rw [e, List.getElem?_map] at hv'
  obtain ⟨b, hb, rfl⟩ := Option.map_eq_some_iff.mp hv'
  have hg : bs.getD i false = b := by rw [List.getD_eq_getElem?_getD, hb] <;> rfl
  have hq' : Q (bs.getD i false) s := hq
  rw [hg] at hq'
  exact wpAny_truthy_bool hq'
theorem any_range : ∀ bs : List Bool, (List.range bs.length).any (fun i => bs.getD i false) = bs.any id
  | [] => rfl
  | b :: bs => by
    rw [List.length_cons, List.range_succ_eq_map, List.any_cons, List.any_map, List.any_cons, ← any_range bs]
    all_goals rfl
theorem all_range : ∀ bs : List Bool, (List.range bs.length).all (fun i => bs.getD i false) = bs.all id
  | [] => rfl
  | b :: bs => by
    rw [List.length_cons, List.range_succ_eq_map, List.all_cons, List.all_map, List.all_cons, ← all_range bs]
    all_goals rfl
section
variable {X : Cx}
def rAny (K : PySem.W.Frag) : List V → Hp → VK → Prop := fun vs H Q => ∃ (a : Addr) (bs : List Bool), vs = [V.ref a] ∧ SqL K H a (bs.map V.bl) ∧ Q (.bl (bs.any id)) H
def rAll (K : PySem.W.Frag) : List V → Hp → VK → Prop := fun vs H Q => ∃ (a : Addr) (bs : List Bool), vs = [V.ref a] ∧ SqL K H a (bs.map V.bl) ∧ Q (.bl (bs.all id)) H
theorem cr_any (hc : X.calm = true) : CallR X (.builtin "any") (rAny X.K) := by
  intro pins s σ H vs us Q I r h
  obtain ⟨a, bs, rfl, hs, q⟩ := h
  obtain ⟨its, rv, hl, _⟩ := I.list hs
  rw [Vals.ref1 r]
  have hb := rv.bls
  refine call_any_walk (iter_any hl.isList fun s₂ e2 st hne => ?_)
  subst e2
  refine ⟨_, _, _, _, _, _, _, rfl, Walks.list (A := X.A.in1) (I.ok.hd hc) _ a hne its.toArray, st, truth_bools hb, fun h' tk hk => ?_⟩
  refine ⟨.bl _, H, I.kept fun b o eo => hk b o (fun hmem => ?_) (Heap.get?_push_of_some _ eo), ?_, q⟩
  · rcases List.mem_cons.mp hmem with e1 | hmem
    · exact absurd (e1 ▸ Heap.lt_size eo) (Nat.lt_irrefl _)
    · cases hmem
  · show Value.bool _ = Value.bool _
    rw [← any_range, hb, List.size_toArray, List.length_map]
theorem cr_all (hc : X.calm = true) : CallR X (.builtin "all") (rAll X.K) := by
  intro pins s σ H vs us Q I r h
  obtain ⟨a, bs, rfl, hs, q⟩ := h
  obtain ⟨its, rv, hl, _⟩ := I.list hs
  rw [Vals.ref1 r]
  have hb := rv.bls
  refine call_all_walk (iter_any hl.isList fun s₂ e2 st hne => ?_)
  subst e2
  refine ⟨_, _, _, _, _, _, _, rfl, Walks.list (A := X.A.in1) (I.ok.hd hc) _ a hne its.toArray, st, truth_bools hb, fun h' tk hk => ?_⟩
  refine ⟨.bl _, H, I.kept fun b o eo => hk b o (fun hmem => ?_) (Heap.get?_push_of_some _ eo), ?_, q⟩
  · rcases List.mem_cons.mp hmem with e1 | hmem
    · exact absurd (e1 ▸ Heap.lt_size eo) (Nat.lt_irrefl _)
    · cases hmem
  · show Value.bool _ = Value.bool _
    rw [← all_range, hb, List.size_toArray, List.length_map]
end
mutual
inductive Dp (K : PySem.W.Frag) (H : Hp) : V → PyData → Prop
  | non : Dp K H .non .none
  | bl (b : Bool) : Dp K H (.bl b) (.bool b)
  | int (i : Int) : Dp K H (.int i) (.int i)
  | str (x : Str) : Dp K H (.str x) (.str x)
  | lst {a : Addr} {xs : List V} {ds : List PyData} : SqL K H a xs → DpAll K H xs ds → Dp K H (.ref a) (.list ds)
  | tup {a : Addr} {xs : List V} {ds : List PyData} : SqT K H a xs → DpAll K H xs ds → Dp K H (.ref a) (.tuple ds)
inductive DpAll (K : PySem.W.Frag) (H : Hp) : List V → List PyData → Prop
  | nil : DpAll K H [] []
  | cons {v : V} {vs : List V} {d : PyData} {ds : List PyData} : Dp K H v d → DpAll K H vs ds → DpAll K H (v :: vs) (d :: ds)
end
section
variable {X : Cx} {pins : List (Addr × Obj)} {σ : St} {H : Hp} {s : Shared}
mutual
theorem Dp.reads (I : Inv X pins σ H s) : ∀ (d : PyData) (v : V) (u : Value), Dp X.K H v d → RelV v u → ∃ as, Reads s.heap u d as
  | .none, _, _, h, r => by
    cases h
    cases r
    exact ⟨_, Reads.none⟩
  | .bool b, _, _, h, r => by
    cases h
    cases r
    exact ⟨_, Reads.bool b⟩
  | .int i, _, _, h, r => by
    cases h
    obtain ⟨t, rfl⟩ := r
    exact ⟨_, Reads.int i t⟩
  | .str x, _, _, h, r => by
    cases h
    obtain ⟨t, rfl⟩ := r
    exact ⟨_, Reads.str x t⟩
  | .list ds, _, _, h, r => by
    cases h with
    | lst hs ha =>
      cases r
      obtain ⟨its, rv, ⟨o, n, ho, hc, _, hd⟩, _⟩ := I.list hs
      obtain ⟨as, hr⟩ := Dp.readsAll I ds _ its ha rv
      exact ⟨_, Reads.list ho hc hd hr⟩
  | .tuple ds, _, _, h, r => by
    cases h with
    | tup hs ha =>
      cases r
      obtain ⟨its, rv, ⟨o, ho, hc, n, hd⟩, _⟩ := I.tuple hs
      obtain ⟨as, hr⟩ := Dp.readsAll I ds _ its ha rv
      exact ⟨_, Reads.tuple ho hc hd hr⟩
  | .dict _, _, _, h, _ => by cases h
theorem Dp.readsAll (I : Inv X pins σ H s) : ∀ (ds : List PyData) (vs : List V) (us : List Value), DpAll X.K H vs ds → Vals vs us → ∃ as, ReadsAll s.heap us ds as
  | [], _, _, h, r => by
    cases h
    cases r
    exact ⟨_, ReadsAll.nil⟩
  | d :: ds, _, _, h, r => by
    cases h with
    | cons h1 h2 =>
      cases r with
      | cons r1 r2 =>
        obtain ⟨as, q1⟩ := Dp.reads I d _ _ h1 r1
        obtain ⟨bs, q2⟩ := Dp.readsAll I ds _ _ h2 r2
        exact ⟨_, ReadsAll.cons q1 q2⟩
end
end
section
variable {X : Cx}
def rEqD (K : PySem.W.Frag) : R2 := fun x y H Q => ∃ d e, Dp K H x d ∧ Dp K H y e ∧ SeqAt.shaped d = true ∧ SeqAt.shaped e = true ∧ Q (.bl (PyData.eqv d e)) H
def rNeD (K : PySem.W.Frag) : R2 := fun x y H Q => ∃ d e, Dp K H x d ∧ Dp K H y e ∧ SeqAt.shaped d = true ∧ SeqAt.shaped e = true ∧ Q (.bl (!PyData.eqv d e)) H
theorem op_eqD (hu : X.A.units + 64 < cLine) : OpR X (compareOp .Eq) (rEqD X.K) := by
  intro pins s σ H x y v u Q I rx ry h
  obtain ⟨d, e, hd, he, sd, se, q⟩ := h
  obtain ⟨as, r1⟩ := Dp.reads I d x v hd rx
  obtain ⟨bs, r2⟩ := Dp.reads I e y u he ry
  exact SeqAt.compareEq_shaped r1 r2 sd se hu ⟨.bl _, H, I, rfl, q⟩
theorem op_neD (hu : X.A.units + 64 < cLine) : OpR X (compareOp .NotEq) (rNeD X.K) := by
  intro pins s σ H x y v u Q I rx ry h
  obtain ⟨d, e, hd, he, sd, se, q⟩ := h
  obtain ⟨as, r1⟩ := Dp.reads I d x v hd rx
  obtain ⟨bs, r2⟩ := Dp.reads I e y u he ry
  exact SeqAt.compareNe_shaped r1 r2 sd se hu ⟨.bl _, H, I, rfl, q⟩
end
end L2
namespace L2
open PySem PySem.Spec PyProof.Rows
abbrev CellAt (h : Heap) (c : Addr) (v : Option Value) : Prop := h.IsCell c v
def relS (scope sc : Scope) : Scope :=
  { scope with names := scope.names.map fun (n, k) => if (k == .free && sc.kind == .function && sc.names.lookup n == some .cell) then (n, .cell) else (n, k) }
def cloFrom (cells : List (Str × Addr)) : List (Str × NameKind) → List (Str × Addr) → List (Str × Addr)
  | [], acc => acc
  | (n, k) :: r, acc => if k == .free then cloFrom cells r ((n, (cells.lookup n).getD 0) :: acc) else cloFrom cells r acc
theorem closure_loop (env : Env) (f : Str × NameKind → List (Str × Addr) → Sem (ForInStep (List (Str × Addr))))
    (hf : ∀ n k c, f (n, k) c = if k == .free then (do let a ← cellOf env n; pure (.yield ((n, a) :: c))) else pure (.yield c)) :
    ∀ (names : List (Str × NameKind)) (acc : List (Str × Addr)), (∀ y ∈ names, y.2 = .free → ∃ c, env.cells.lookup y.1 = some c) → forIn names acc f = pure (cloFrom env.cells names acc)
  | [], acc, _ => by rw [List.forIn_nil]; rfl
  | (n, k) :: r, acc, h => by
    rw [List.forIn_cons, hf]
    have ih := fun acc => closure_loop env f hf r acc fun y hy => h y (List.mem_cons_of_mem _ hy)
    unfold cloFrom
    by_cases hk : (k == NameKind.free) = true
    · rw [if_pos hk, if_pos hk]
      obtain ⟨c, hc⟩ := h (n, k) List.mem_cons_self (by simpa using hk)
      have e : cellOf env n = pure c := by unfold cellOf; rw [hc]
      rw [e]
      have e2 : (env.cells.lookup n).getD 0 = c := by rw [hc]; rfl
      rw [e2]
      exact ih _
    · rw [if_neg hk, if_neg hk]
      exact ih _
theorem closure_ok {scope : Scope} {env : Env} (h : ∀ y ∈ scope.names, y.2 = .free → ∃ c, env.cells.lookup y.1 = some c) : closureFor scope env = pure (cloFrom env.cells scope.names []) := by
  simp only [closureFor]
  rw [closure_loop env _ (fun n k c => rfl) scope.names [] h]
  rfl
theorem mem_lookup {α : Type} : ∀ {l : List (Str × α)} {n : Str} {c : α}, (n, c) ∈ l → ∃ c', l.lookup n = some c'
  | (k, v) :: r, n, c, h => by
    rw [List.lookup_cons]
    cases hb : n == k with
    | true => exact ⟨_, rfl⟩
    | false =>
      rcases List.mem_cons.mp h with e | h
      · cases e; simp at hb
      · exact mem_lookup h
theorem cloFrom_mem {cells : List (Str × Addr)} : ∀ {names : List (Str × NameKind)} {acc : List (Str × Addr)} {n : Str} {c : Addr}, (n, c) ∈ cloFrom cells names acc → (n, c) ∈ acc ∨ ((n, .free) ∈ names ∧ c = (cells.lookup n).getD 0)
  | [], _, _, _, h => .inl h
  | (m, k) :: r, acc, n, c, h => by
    unfold cloFrom at h
    split at h
    · rename_i hk
      have hk : k = .free := by simpa using hk
      rcases cloFrom_mem h with h | ⟨h1, h2⟩
      · rcases List.mem_cons.mp h with e | h
        · cases e; exact .inr ⟨hk ▸ List.mem_cons_self, rfl⟩
        · exact .inl h
      · exact .inr ⟨List.mem_cons_of_mem _ h1, h2⟩
    · rcases cloFrom_mem h with h | ⟨h1, h2⟩
      · exact .inl h
      · exact .inr ⟨List.mem_cons_of_mem _ h1, h2⟩
theorem cloFrom_acc {cells : List (Str × Addr)} : ∀ {names : List (Str × NameKind)} {acc : List (Str × Addr)} {p : Str × Addr}, p ∈ acc → p ∈ cloFrom cells names acc
  | [], _, _, h => h
  | (m, k) :: r, acc, p, h => by
    unfold cloFrom
    split
    · exact cloFrom_acc (List.mem_cons_of_mem _ h)
    · exact cloFrom_acc h
theorem cloFrom_has {cells : List (Str × Addr)} : ∀ {names : List (Str × NameKind)} {acc : List (Str × Addr)} {n : Str}, (n, .free) ∈ names → (n, (cells.lookup n).getD 0) ∈ cloFrom cells names acc
  | (m, k) :: r, acc, n, h => by
    unfold cloFrom
    rcases List.mem_cons.mp h with e | h
    · cases e
      exact cloFrom_acc List.mem_cons_self
    · split
      · exact cloFrom_has h
      · exact cloFrom_has h
theorem cells_mem : ∀ {names : List (Str × NameKind)} {h : Heap} {acc : List (Str × Addr)} {x : Str} {c : Addr}, (x, c) ∈ cellsFrom h.objs.size names acc →
    (x, c) ∈ acc ∨ ((x, .cell) ∈ names ∧ h.objs.size ≤ c ∧ CellAt (pushCells h names) c none)
  | [], _, _, _, _, h => .inl h
  | (n, k) :: r, h, acc, x, c, hm => by
    unfold cellsFrom at hm
    unfold pushCells
    split at hm
    · rename_i hk
      rw [if_pos hk]
      have hk : k = .cell := by simpa using hk
      rw [← Heap.size_push h { cls := .type "cell", data := .cell none }] at hm
      rcases cells_mem hm with hm | ⟨h1, h2, h3⟩
      · rcases List.mem_cons.mp hm with e | hm
        · cases e
          exact .inr ⟨hk ▸ List.mem_cons_self, Nat.le_refl _, _, pushCells_keeps r _ _ _ (Heap.get?_push_size _ rfl), rfl⟩
        · exact .inl hm
      · rw [Heap.size_push] at h2
        exact .inr ⟨List.mem_cons_of_mem _ h1, Nat.le_of_succ_le h2, h3⟩
    · rename_i hk
      rw [if_neg hk]
      rcases cells_mem hm with hm | ⟨h1, h2, h3⟩
      · exact .inl hm
      · exact .inr ⟨List.mem_cons_of_mem _ h1, h2, h3⟩
theorem cells_acc : ∀ {names : List (Str × NameKind)} {n : Nat} {acc : List (Str × Addr)} {p : Str × Addr}, p ∈ acc → p ∈ cellsFrom n names acc
  | [], _, _, _, h => h
  | (m, k) :: r, n, acc, p, h => by
    unfold cellsFrom
    split
    · exact cells_acc (List.mem_cons_of_mem _ h)
    · exact cells_acc h
theorem cells_has : ∀ {names : List (Str × NameKind)} {n : Nat} {acc : List (Str × Addr)} {x : Str}, (x, .cell) ∈ names → ∃ c, (x, c) ∈ cellsFrom n names acc
  | (m, k) :: r, n, acc, x, h => by
    unfold cellsFrom
    rcases List.mem_cons.mp h with e | h
    · cases e
      exact ⟨n, cells_acc List.mem_cons_self⟩
    · split
      · exact cells_has h
      · exact cells_has h
theorem cells_inj : ∀ {names : List (Str × NameKind)} {h : Heap} {acc : List (Str × Addr)} {x y : Str} {c : Addr}, (∀ p ∈ acc, p.2 < h.objs.size) → (∀ x y c, (x, c) ∈ acc → (y, c) ∈ acc → x = y) →
    (x, c) ∈ cellsFrom h.objs.size names acc → (y, c) ∈ cellsFrom h.objs.size names acc → x = y
  | [], _, _, _, _, _, _, hi, h1, h2 => hi _ _ _ h1 h2
  | (n, k) :: r, h, acc, x, y, c, hl, hi, h1, h2 => by
    unfold cellsFrom at h1 h2
    split at h1
    · rename_i hk
      rw [if_pos hk] at h2
      rw [← Heap.size_push h { cls := .type "cell", data := .cell none }] at h1 h2
      refine cells_inj (h := h.push _) (fun p hp => ?_) (fun x y c a b => ?_) h1 h2
      · rw [Heap.size_push]
        rcases List.mem_cons.mp hp with rfl | hp
        · exact Nat.lt_succ_self _
        · exact Nat.lt_succ_of_lt (hl p hp)
      · rcases List.mem_cons.mp a with e | a <;> rcases List.mem_cons.mp b with e' | b
        · cases e; cases e'; rfl
        · cases e; exact absurd (hl _ b) (Nat.lt_irrefl _)
        · cases e'; exact absurd (hl _ a) (Nat.lt_irrefl _)
        · exact hi _ _ _ a b
    · rename_i hk
      rw [if_neg hk] at h2
      exact cells_inj hl hi h1 h2
theorem newEnv_comp {M : Model} {A : Around} {E : Value → Shared → Prop} {s : Shared} {scope : Scope} {globals : Addr} {closure : List (Str × Addr)} {qual : Str} {func : Option Addr} {code : Value} {around : Env} {builtins : Addr} {Q : Env → Shared → Prop}
    (h : Q (newEnv scope s.heap.objs.size globals (cellsFrom (s.heap.objs.size + 1) scope.names closure) qual func code (some around) builtins)
      { s with heap := pushCells (s.heap.push { cls := .type "dict", data := .dict #[] }) scope.names }) :
    wpAny M A (newFunctionEnv scope globals closure [] qual func code (some around) builtins) Q E s := by
  simp only [newFunctionEnv, Option.isSome_some, if_true]
  refine wpAny_bind (wpAny_alloc ?_)
  refine wpAny_bind (wpAny_layCells _ (fun n k c => rfl) scope.names closure _ _ ?_)
  rw [show ({ s with heap := s.heap.push { cls := .type "dict", data := .dict #[] } } : Shared).heap.objs.size = s.heap.objs.size + 1 from Heap.size_push ..]
  rw [List.forIn_nil]
  exact wpAny_bind (wpAny_pure (wpAny_pure h))
theorem lookup_relS {sc : Scope} : ∀ {names : List (Str × NameKind)} {x : Str} {k : NameKind},
    (names.map fun (n, k) => if (k == NameKind.free && sc.kind == .function && sc.names.lookup n == some .cell) then (n, NameKind.cell) else (n, k)).lookup x = some k →
    ∃ k', names.lookup x = some k' ∧ (k = k' ∨ (k' = .free ∧ k = .cell))
  | [], _, _, h => by simp at h
  | (n, k₀) :: r, x, k, h => by
    have ih := @lookup_relS sc r x k
    have h' : List.lookup x ((if (k₀ == NameKind.free && sc.kind == .function && sc.names.lookup n == some .cell) = true then (n, NameKind.cell) else (n, k₀)) :: (r.map _)) = some k := h
    cases hx : x == n with
    | true =>
      simp only [List.lookup_cons, hx]
      by_cases hc : (k₀ == NameKind.free && sc.kind == .function && sc.names.lookup n == some .cell) = true
      · rw [if_pos hc] at h'
        simp only [List.lookup_cons, hx] at h'
        cases h'
        simp only [Bool.and_eq_true, beq_iff_eq] at hc
        exact ⟨k₀, rfl, .inr ⟨hc.1.1, rfl⟩⟩
      · rw [if_neg hc] at h'
        simp only [List.lookup_cons, hx] at h'
        cases h'
        exact ⟨_, rfl, .inl rfl⟩
    | false =>
      simp only [List.lookup_cons, hx]
      by_cases hc : (k₀ == NameKind.free && sc.kind == .function && sc.names.lookup n == some .cell) = true
      · rw [if_pos hc] at h'
        simp only [List.lookup_cons, hx] at h'
        exact ih h'
      · rw [if_neg hc] at h'
        simp only [List.lookup_cons, hx] at h'
        exact ih h'
theorem lookup_relS_keep {sc : Scope} : ∀ {names : List (Str × NameKind)} {x : Str} {k : NameKind}, k ≠ .free → names.lookup x = some k →
    (names.map fun (n, k) => if (k == NameKind.free && sc.kind == .function && sc.names.lookup n == some .cell) then (n, NameKind.cell) else (n, k)).lookup x = some k
  | [], _, _, _, h => by simp at h
  | (n, k₀) :: r, x, k, hk, h => by
    have ih := @lookup_relS_keep sc r x k hk
    show List.lookup x ((if (k₀ == NameKind.free && sc.kind == .function && sc.names.lookup n == some .cell) = true then (n, NameKind.cell) else (n, k₀)) :: (r.map _)) = some k
    cases hx : x == n with
    | true =>
      simp only [List.lookup_cons, hx] at h
      cases h
      have : ¬ (k₀ == NameKind.free && sc.kind == .function && sc.names.lookup n == some .cell) = true := by simp [hk]
      rw [if_neg this]
      simp only [List.lookup_cons, hx]
    | false =>
      simp only [List.lookup_cons, hx] at h
      by_cases hc : (k₀ == NameKind.free && sc.kind == .function && sc.names.lookup n == some .cell) = true
      · rw [if_pos hc]; simp only [List.lookup_cons, hx]; exact ih h
      · rw [if_neg hc]; simp only [List.lookup_cons, hx]; exact ih h
theorem pushCells_size : ∀ (names : List (Str × NameKind)) (h : Heap), h.objs.size ≤ (pushCells h names).objs.size
  | [], _ => Nat.le_refl _
  | (_, k) :: r, h => by
    unfold pushCells
    split
    · refine Nat.le_trans ?_ (pushCells_size r _)
      rw [Heap.size_push]; exact Nat.le_succ _
    · exact pushCells_size r h
structure BlkOk (N : List Str) (sc scope : Scope) (own : List (Str × Nat)) : Prop where
  kind : scope.kind = .function
  uniq : ∀ y ∈ scope.names, scope.names.lookup y.1 = some y.2
  ix : ∀ p ∈ own, N[p.2]? = some p.1
  free : ∀ y ∈ scope.names, y.2 = .free → sc.names.lookup y.1 = some .cell ∨ sc.names.lookup y.1 = some .free
  own : ∀ y ∈ scope.names, y.2 = .local ∨ y.2 = .cell → y.1 ∈ own.map (·.1) ∨ y.1 ∉ N
def wipe (σ : St) : List Nat → St
  | [] => σ
  | v :: vs => (wipe σ vs).set v none
theorem wipe_length (σ : St) : ∀ vs : List Nat, (wipe σ vs).length = σ.length
  | [] => rfl
  | v :: vs => by unfold wipe; rw [List.length_set, wipe_length σ vs]
theorem wipe_some {σ : St} {i : Nat} {x : V} : ∀ {vs : List Nat}, (wipe σ vs)[i]? = some (some x) → σ[i]? = some (some x) ∧ i ∉ vs
  | [], h => ⟨h, by simp⟩
  | v :: vs, h => by
    unfold wipe at h
    by_cases hi : v = i
    · subst hi
      by_cases hv : v < (wipe σ vs).length
      · rw [List.getElem?_set_self hv] at h; cases h
      · rw [List.getElem?_eq_none (by simpa using hv)] at h; cases h
    · rw [List.getElem?_set_ne hi] at h
      obtain ⟨h1, h2⟩ := wipe_some h
      exact ⟨h1, by simp only [List.mem_cons, not_or]; exact ⟨fun e => hi e.symm, h2⟩⟩
abbrev Cx.blk (X : Cx) (s : Shared) (H : Hp) (scope : Scope) (cenv : Env) (fp : List Addr) : Cx := { X with s_0 := s, H_0 := H, env := cenv, outer := X.stack, ex := fp, fn := fun x => scope.names.lookup x == some .cell, pn := [], xe := fun _ _ => False }
section
variable {X : Cx} {pins : List (Addr × Obj)} {σ : St} {H : Hp} {s : Shared}
theorem block_start {scope : Scope} {own : List (Str × Nat)} {fp : List Addr} (I : Inv X pins σ H s) (ok : BlkOk X.N X.env.scope scope own) (hN : X.N.Nodup) (hfp : ∀ b ∈ fp, FpOk X pins H b ∧ b < s.heap.objs.size) :
    Inv (X.blk s H scope (compEnvC scope (cellsFrom (s.heap.objs.size + 1) scope.names (cloFrom X.env.cells scope.names [])) s.heap.objs.size X.env) fp) [] (wipe σ (own.map (·.2))) H { s with heap := pushCells (s.heap.push { cls := .type "dict", data := .dict #[] }) scope.names } := by
  have hfree : ∀ y ∈ scope.names, y.2 = .free → ∃ c, X.env.cells.lookup y.1 = some c := fun y hy e => by
    rcases ok.free y hy e with k | k
    · exact I.ok.has _ (.inl k)
    · exact I.ok.has _ (.inr k)
  generalize hcenv : compEnvC scope (cellsFrom (s.heap.objs.size + 1) scope.names (cloFrom X.env.cells scope.names [])) s.heap.objs.size X.env = cenv
  have kp : ∀ b o, s.heap.get? b = some o → (pushCells (s.heap.push { cls := .type "dict", data := .dict #[] }) scope.names).get? b = some o := fun b o e => pushCells_keeps _ _ _ _ (Heap.get?_push_of_some _ e)
  have hL : cenv.locals = s.heap.objs.size := by rw [← hcenv]; rfl
  have hcl : cenv.cells = cellsFrom (s.heap.objs.size + 1) scope.names (cloFrom X.env.cells scope.names []) := by rw [← hcenv]; rfl
  have hsc : cenv.scope = relS scope X.env.scope := by rw [← hcenv]; rfl
  rw [← Heap.size_push s.heap { cls := .type "dict", data := .dict #[] }] at hcl
  have cm : ∀ {y c}, (y, c) ∈ cloFrom X.env.cells scope.names [] → X.env.cells.lookup y = some c ∧ c < s.heap.objs.size := fun {y c} hm => by
    rcases cloFrom_mem hm with hm | ⟨h1, rfl⟩
    · cases hm
    · obtain ⟨c, hc⟩ := hfree _ h1 rfl
      rw [hc]
      obtain ⟨w, z⟩ := I.cell _ _ hc
      exact ⟨rfl, z.lt⟩
  have mem : ∀ {y c}, cenv.cells.lookup y = some c → (X.env.cells.lookup y = some c ∧ c < s.heap.objs.size) ∨ (s.heap.objs.size + 1 ≤ c ∧ CellAt (pushCells (s.heap.push { cls := .type "dict", data := .dict #[] }) scope.names) c none) := fun {y c} e => by
    rw [hcl] at e
    rcases cells_mem (PySem.mem_of_lookup e) with hm | ⟨_, h2, h3⟩
    · exact .inl (cm hm)
    · rw [Heap.size_push] at h2; exact .inr ⟨h2, h3⟩
  have look : ∀ {y}, scope.names.lookup y = some .free → ∃ c, cenv.cells.lookup y = some c ∧ X.env.cells.lookup y = some c := fun {y} hl => by
    have hy : (y, NameKind.free) ∈ scope.names := PySem.mem_of_lookup hl
    obtain ⟨c', e'⟩ := mem_lookup (cells_acc (names := scope.names) (n := (s.heap.push { cls := .type "dict", data := .dict #[] }).objs.size) (cloFrom_has (cells := X.env.cells) (acc := []) hy))
    rw [← hcl] at e'
    refine ⟨c', e', ?_⟩
    rw [hcl] at e'
    rcases cells_mem (PySem.mem_of_lookup e') with hm | ⟨h1, _, _⟩
    · exact (cm hm).1
    · have := ok.uniq _ h1
      rw [hl] at this; cases this
  have okB : (X.blk s H scope cenv fp).Ok := by
    refine ⟨I.ok.mod, by show cenv.scope.kind = _; rw [hsc]; exact ok.kind, by show cenv.globals = _; rw [← hcenv]; exact I.ok.glob, by show cenv.builtins = _; rw [← hcenv]; exact I.ok.blt, by show s.heap.objs.size ≤ cenv.locals; rw [hL]; exact Nat.le_refl _,
      fun y z c e1 e2 => ?_, fun y hy => ?_, fun y c z e => ?_, I.ok.hd, I.ok.frames, .inl rfl, fun b hb => ⟨?_, fun y c e z => ?_⟩, I.bs, Nat.le_trans I.ok.bsz I.sz, fun b o e hb => ?_, fun b hb z => ?_, I.stack, I.stkFree⟩
    · have e1 : cenv.cells.lookup y = some c := e1
      have e2 : cenv.cells.lookup z = some c := e2
      rw [hcl] at e1 e2
      refine cells_inj (fun p hp => ?_) (fun y z c a b => I.ok.inj y z c (cm a).1 (cm b).1) (PySem.mem_of_lookup e1) (PySem.mem_of_lookup e2)
      rw [Heap.size_push]
      exact Nat.lt_succ_of_lt (cm (y := p.1) (c := p.2) hp).2
    · show ∃ c, cenv.cells.lookup y = some c
      have key : ∀ k, cenv.kindOf y = some k → (k = .cell ∨ k = .free) → ∃ c, cenv.cells.lookup y = some c := fun k hk hk' => by
        unfold Env.kindOf at hk
        rw [hsc] at hk
        obtain ⟨k', e, r⟩ := lookup_relS hk
        have : k' = .cell ∨ k' = .free := by
          rcases r with rfl | ⟨rfl, _⟩
          · exact hk'
          · exact .inr rfl
        rcases this with rfl | rfl
        · obtain ⟨c, hm⟩ := cells_has (n := (s.heap.push { cls := .type "dict", data := .dict #[] }).objs.size) (acc := cloFrom X.env.cells scope.names []) (PySem.mem_of_lookup e)
          obtain ⟨c', e'⟩ := mem_lookup hm
          exact ⟨c', by rw [hcl]; exact e'⟩
        · obtain ⟨c, h1, _⟩ := look e
          exact ⟨c, h1⟩
      rcases hy with hy | hy
      · exact key _ hy (.inl rfl)
      · exact key _ hy (.inr rfl)
    · have z : (scope.names.lookup y == some NameKind.cell) = true := z
      have z : scope.names.lookup y = some .cell := by simpa using z
      have e : cenv.cells.lookup y = some c := e
      rw [hcl] at e
      rcases cells_mem (PySem.mem_of_lookup e) with hm | ⟨_, h2, _⟩
      · rcases cloFrom_mem hm with hm | ⟨h1, _⟩
        · cases hm
        · have q := ok.uniq _ h1
          rw [z] at q; cases q
      · rw [Heap.size_push] at h2
        exact Nat.le_of_succ_le h2
    · show b ≠ cenv.locals
      rw [hL]; exact Nat.ne_of_lt (hfp b hb).2
    · have e : cenv.cells.lookup y = some c := e
      rcases mem e with ⟨h1, _⟩ | ⟨h1, _⟩
      · exact (hfp b hb).1.2.2.2.2.1 y c h1 z
      · have h2 : s.heap.objs.size + 1 ≤ b := by rw [← z]; exact h1
        exact absurd (Nat.lt_of_lt_of_le (hfp b hb).2 (Nat.le_of_succ_le h2)) (Nat.lt_irrefl _)
    · rcases (hfp b hb).1.2.2.2.1 with z | z
      · exact I.ok.noex b o e z
      · exact absurd (Nat.lt_of_lt_of_le (Heap.lt_size e) (Nat.le_trans I.ok.bsz z)) (Nat.lt_irrefl _)
    · rcases List.mem_cons.mp (I.stkSub b z) with z | z
      · exact (hfp b hb).1.2.1 z
      · exact (hfp b hb).1.2.2.1 z
  refine ⟨okB, rfl, ⟨I.bare.1, Nat.le_refl _⟩, Un.kept kp, ⟨fun _ => none, ?_, fun i y av e1 e2 e3 => ?_⟩, fun y c e => ?_, ?_, fun y c e => ?_, fun p hp => ?_, I.hok.kept kp, by rw [wipe_length]; exact I.len⟩
  · show Heap.Ns _ cenv.locals _
    rw [hL]
    exact Heap.Ns.keeps (Heap.Ns.new ..) fun b o e => pushCells_keeps _ _ _ _ e
  · obtain ⟨e2, hne⟩ := wipe_some e2
    have hfr : scope.names.lookup y = some .free ∧ (cenv.kindOf y = some .cell ∨ cenv.kindOf y = some .free) := by
      have key : ∀ k, cenv.scope.names.lookup y = some k → k = .local ∨ k = .cell ∨ k = .free → scope.names.lookup y = some .free ∧ (cenv.kindOf y = some .cell ∨ cenv.kindOf y = some .free) := fun k hk hk' => by
        have hk0 := hk
        rw [hsc] at hk
        obtain ⟨k', e, r⟩ := lookup_relS hk
        have no : ¬ (k' = .local ∨ k' = .cell) := fun hh => by
          rcases ok.own _ (PySem.mem_of_lookup e) hh with e' | e'
          · obtain ⟨p, hp, hpy⟩ := List.mem_map.mp e'
            have e3 := ok.ix p hp
            have : p.1 = y := hpy
            rw [this] at e3
            exact hne (List.mem_map.mpr ⟨p, hp, nodup_ix hN e3 e1⟩)
          · exact e' (List.mem_of_getElem? e1)
        rcases r with rfl | ⟨rfl, rfl⟩
        · rcases hk' with rfl | rfl | rfl
          · exact absurd (.inl rfl) no
          · exact absurd (.inr rfl) no
          · exact ⟨e, .inr hk0⟩
        · exact ⟨e, .inl hk0⟩
      have e3 : Vis cenv.scope y := e3
      rcases e3 with e3 | e3 | e3
      · exact key _ e3 (.inl rfl)
      · exact key _ e3 (.inr (.inl rfl))
      · exact key _ e3 (.inr (.inr rfl))
    obtain ⟨m, hn, hl⟩ := I.loc
    have hvis : Vis X.env.scope y := (ok.free _ (PySem.mem_of_lookup hfr.1) rfl).elim (fun k => .inr (.inl k)) (fun k => .inr (.inr k))
    obtain ⟨w, r, q⟩ := hl i y av e1 e2 hvis
    refine ⟨w, r, .inr ⟨hfr.2, ?_⟩⟩
    obtain ⟨c, h1, h2⟩ := look hfr.1
    rcases q with ⟨k, _⟩ | ⟨_, c', e', z⟩
    · have k : X.env.scope.names.lookup y = some .local := k
      rcases ok.free _ (PySem.mem_of_lookup hfr.1) rfl with k' | k' <;> rw [show X.env.scope.names.lookup y = _ from k'] at k <;> cases k
    · rw [h2] at e'; cases e'
      exact ⟨c, h1, z.keeps kp⟩
  · have e : cenv.cells.lookup y = some c := e
    rcases mem e with ⟨h1, _⟩ | ⟨_, z⟩
    · obtain ⟨w, z⟩ := I.cell y c h1
      exact ⟨w, z.keeps kp⟩
    · exact ⟨_, z⟩
  · show H cenv.locals = none
    rw [hL]; exact I.hok.fresh (Nat.le_refl _)
  · have e : cenv.cells.lookup y = some c := e
    rcases mem e with ⟨h1, _⟩ | ⟨h1, _⟩
    · exact I.freeC y c h1
    · exact I.hok.fresh (Nat.le_of_succ_le h1)
  · exact absurd (show p ∈ ([] : List (Addr × Obj)) ++ [] from hp) (by simp)
theorem app_ok {E : Value → Shared → Prop} {D : Addr} {xs : List V} {y : V} {v : Value} {Q : Value → Shared → Prop} (I : Inv X pins σ H s) (hD : H D = some (.lst xs)) (hz : xs.length < sizeLine) (r : RelV y v)
    (h : ∀ s', Inv X pins σ (upd H D (.lst (xs ++ [y]))) s' → Q .none s') : wpAny (model X.prog X.w) X.A (call (.builtin "list.append") [.ref D, v]) Q E s := by
  obtain ⟨hz', its, n, ri, e⟩ := I.hok D _ hD
  have hl := ri.length
  refine append_at (hsz := by rw [List.size_toArray]; omega) e fun h' sb ho' => ?_
  refine h { s with heap := h' } (I.write (t' := s.toks) (by rw [hD]; trivial) (.inl rfl) (fun b u hb q => (sb.2 b hb).trans q) ⟨_, ho'⟩ ⟨by rw [List.length_append]; exact hz, its ++ [v], n + 1, ri.append (.cons r .nil), ?_⟩)
  rw [ho']
  simp
def PTs (X : Cx) (ifs : List Expr) (t : TT) : Prop :=
  ∀ (pins : List (Addr × Obj)) (s : Shared) (σ : St) (H : Hp) (Q : Bool → Hp → Prop), Inv X pins σ H s → t σ H Q →
    wpAny (model X.prog X.w) X.A (forIn ifs true fun c r => if r = true then do let ok ← isTrue c X.env (eval c X.env); pure (ForInStep.yield ok) else pure (ForInStep.yield r)) (TP X pins σ Q) X.xe s
def tYes : TT := fun _ H Q => Q true H
theorem pts_nil : PTs X [] tYes := fun _ _ _ H _ I h => wpAny_tests_nil ⟨H, I, h⟩
theorem pts_one {c : Expr} {t : TT} (h : PT X c t) : PTs X [c] t := fun pins s σ H Q I hw => wpAny_tests_one (h pins s σ H Q I hw)
end
theorem thnF {α : Type} {t : Sem α} {Q Q' : α → Shared → Prop} {M : Model} {A : Around} {E : Value → Shared → Prop} {s : Shared} (h : wpAny M A t Q (fun _ _ => False) s) (hQ : ∀ a s, Q a s → Q' a s) : wpAny M A t Q' E s := wpAny_mono h hQ fun _ _ z => False.elim z
theorem compLoop_any {prog : Program} {w : World} {A : Around} {R : Result → Shared → Prop} {s : Shared} {elt target iter : Expr} {ifs : List Expr} {scope : Scope} {pos : Pos} {it acc : Value} {env : Env} (I : Nat → Shared → Prop)
    (turn : ∀ n s, I n s → wpAny (model prog w) A (pyNext it) (fun r s₁ => match r with
      | none => R (.ok .next) s₁
      | some v => wpAny (model prog w) A (letOwnedTupleGo target it v) (fun _ s₁' => wpAny (model prog w) A (assign target env v) (fun _ s₂ =>
          wpAny (model prog w) A (forIn ifs true fun c r => if r = true then do let ok ← isTrue c env (eval c env); pure (ForInStep.yield ok) else pure (ForInStep.yield r)) (fun ok s₃ =>
            if ok = true then wpAny (model prog w) A (eval elt env) (fun x s₄ =>
              wpAny (model prog w) A (call (.builtin "list.append") [acc, x]) (fun _ s₅ => ∃ m, m < n ∧ I m s₅) (notedBy (model prog w) A env fun e s' => R (.error e) s') s₄) (notedBy (model prog w) A env fun e s' => R (.error e) s') s₃
            else ∃ m, m < n ∧ I m s₃) (notedBy (model prog w) A env fun e s' => R (.error e) s') s₂) (notedBy (model prog w) A env fun e s' => R (.error e) s') s₁') (notedBy (model prog w) A env fun e s' => R (.error e) s') s₁) (notedBy (model prog w) A env fun e s' => R (.error e) s') s)
    (n : Nat) (h : I n s) :
    codeAny (model prog w) A (.compLoop (.ListComp elt [⟨target, iter, ifs, 0⟩] scope pos) 0 it acc env) R s := by
  refine codeAny_loop rfl I (fun n s hI => ?_) n h
  show wpAny _ A ((compTurn (.ListComp elt [⟨target, iter, ifs, 0⟩] scope pos) 0 it acc env).onRaise (fun x => do noteFrame x env; theTreesLotGoes x)) _ _ s
  refine wpAny_noted ?_
  rw [compTurn_list]
  refine wpAny_bind (wpAny_standAt (wpAny_bind (wpAny_mono (turn n s hI) (fun r s₁ h₁ => ?_) fun _ _ h' => h')))
  cases r with
  | none => exact wpAny_pure h₁
  | some v =>
    refine wpAny_bind (wpAny_mono h₁ (fun _ s₁' h₁' => ?_) fun _ _ h' => h')
    refine wpAny_bind (wpAny_mono h₁' (fun _ s₂ h₂ => wpAny_bind (wpAny_mono h₂ (fun ok s₃ h₃ => ?_) fun _ _ h' => h')) fun _ _ h' => h')
    cases ok with
    | false => exact wpAny_pure ⟨rfl, h₃⟩
    | true =>
      exact wpAny_bind (wpAny_bind (wpAny_mono h₃ (fun x s₄ h₄ => wpAny_bind (wpAny_mono h₄ (fun _ s₅ h₅ => wpAny_pure (wpAny_pure ⟨rfl, h₅⟩)) fun _ _ h' => h')) fun _ _ h' => h'))
section
variable {X : Cx}
def tLc (wi : TI) (g : TG) (tt : TT) (te : TE) (vs : List Nat) : TE := fun σ H Q => wi σ H fun J H1 => ∀ D, H1 D = none → ∃ W : Nat → Nat → Hp → Prop, (∃ m, W 0 m (upd H1 D (.lst []))) ∧ ∀ i m H, W i m H →
  (J.stop i H ∧ Q (.ref D) H) ∨ (J.go i H ∧ ∃ Nx : Hp → Prop, (∀ H', Nx H' → ∃ m', m' < m ∧ W (i + 1) m' H') ∧ ∀ x H', J.yld i H x H' → g x (wipe σ vs) H' fun σ2 H2 => wipe σ2 vs = wipe σ vs ∧ tt σ2 H2 fun b H3 =>
    if b = true then te σ2 H3 fun y H4 => ∃ acc, H4 D = some (.lst acc) ∧ acc.length < sizeLine ∧ Nx (upd H4 D (.lst (acc ++ [y]))) else Nx H3)
theorem lc_core {pins : List (Addr × Obj)} {s : Shared} {σ : St} {H : Hp} {Q : VK} {elt tg iter : Expr} {ifs : List Expr} {scope : Scope} {own : List (Str × Nat)} {pos pos' : Pos} {wi : TI} {g : TG} {tt : TT} {te : TE} {use : Option (Value → Sem Unit)} {Qf : Value → Shared → Prop}
    (hc : X.calm = true) (hN : X.N.Nodup) (I : Inv X pins σ H s) (hi : PI X tg iter wi) (ok : BlkOk X.N X.env.scope scope own)
    (hg : ∀ (s : Shared) (H : Hp) (C : Addr) (cl : List (Str × Addr)) (fp : List Addr), PG (X.blk s H scope (compEnvC scope cl C X.env) fp) tg g) (ht : ∀ (s : Shared) (H : Hp) (C : Addr) (cl : List (Str × Addr)) (fp : List Addr), PTs (X.blk s H scope (compEnvC scope cl C X.env) fp) ifs tt)
    (he : ∀ (s : Shared) (H : Hp) (C : Addr) (cl : List (Str × Addr)) (fp : List Addr), PE (X.blk s H scope (compEnvC scope cl C X.env) fp) elt te) (hs : ∀ x, foldedSetIterable iter X.env x = pure x)
    (h : tLc wi g tt te (own.map (·.2)) σ H Q)
    (hRR : ∀ D C s' m H', Inv X pins σ H' s' → Q (.ref D) H' → s'.heap.Ns C m → FpOk X pins H' C → compPost (model X.prog X.w) X.A X.xe use Qf (.ref D) C (.ok .next) s') :
    wpAny (model X.prog X.w) X.A (comprehension (.ListComp elt [⟨tg, iter, ifs, 0⟩] scope pos) scope X.env pos' (newList []) false (eval iter X.env) use) Qf X.xe s := by
  have hfree : ∀ y ∈ scope.names, y.2 = .free → ∃ c, X.env.cells.lookup y.1 = some c := fun y hy e => by
    rcases ok.free y hy e with k | k
    · exact I.ok.has _ (.inl k)
    · exact I.ok.has _ (.inr k)
  refine wpAny_comprehension_free (use := use) rfl hs (closure_ok hfree) ok.kind (fun y hy e => by rw [ok.uniq y hy, e])
    (thn (hi pins s σ H _ I h) fun xv s1 hx => thn hx fun itv s2 h2 => ?_)
  obtain ⟨it, fp, tn, J, H2, e, I2, T, st2, f2, q⟩ := h2
  subst e
  refine wpAny_newObj_type (newEnv_comp ?_) (by show 0 ≤ sizeLine; decide)
  generalize hD : s2.heap.objs.size = D
  have hDn : H2 D = none := I2.hok.fresh (Nat.le_of_eq hD)
  obtain ⟨W, ⟨m0, w0⟩, turn⟩ := q D hDn
  -- the new list
  generalize hs3 : ({ s2 with heap := s2.heap.push { cls := .type "list", data := .seq ([] : List Value).toArray } } : Shared) = s3
  have I3 : Inv X pins σ (upd H2 D (.lst [])) s3 := by
    rw [← hs3]
    refine I2.laid (t' := s2.toks) (fun b o e => Heap.get?_push_of_some _ e) (Nat.le_of_eq hD) ⟨Nat.zero_le _, [], 0, .nil, ?_⟩
    rw [← hD]
    exact Heap.get?_push_size _ rfl
  have h3 : s3.heap = s2.heap.push { cls := .type "list", data := .seq ([] : List Value).toArray } := by rw [← hs3]
  have sz : ∀ b ∈ fp, b < s2.heap.objs.size := fun b hb => by
    obtain ⟨o, e, _⟩ := T.obj _ _ st2 b hb
    exact Heap.lt_size e
  have f3 : ∀ b ∈ fp, FpOk X pins (upd H2 D (.lst [])) b ∧ b < s3.heap.objs.size := fun b hb => by
    have hlt := sz b hb
    refine ⟨⟨?_, (f2 b hb).2⟩, by rw [h3, Heap.size_push]; exact Nat.lt_succ_of_lt hlt⟩
    rw [upd_ne (by rw [← hD]; exact Nat.ne_of_lt hlt)]
    exact (f2 b hb).1
  have st3 : tn 0 s3.heap := T.keep _ _ _ st2 fun b _ o e => by rw [h3]; exact Heap.get?_push_of_some _ e
  have I4 := block_start I3 ok hN f3
  have pg := hg s3 (upd H2 D (.lst [])) s3.heap.objs.size (cellsFrom (s3.heap.objs.size + 1) scope.names (cloFrom X.env.cells scope.names [])) fp
  have pt := ht s3 (upd H2 D (.lst [])) s3.heap.objs.size (cellsFrom (s3.heap.objs.size + 1) scope.names (cloFrom X.env.cells scope.names [])) fp
  have pe := he s3 (upd H2 D (.lst [])) s3.heap.objs.size (cellsFrom (s3.heap.objs.size + 1) scope.names (cloFrom X.env.cells scope.names [])) fp
  show codeAny _ _ (.compStart (.ListComp elt [⟨tg, iter, ifs, 0⟩] scope pos) 0 (.ref it) (.ref D) (compEnvC scope (cellsFrom (s3.heap.objs.size + 1) scope.names (cloFrom X.env.cells scope.names [])) s3.heap.objs.size X.env)) (compPost (model X.prog X.w) X.A X.xe use Qf (.ref D) s3.heap.objs.size) { s3 with heap := pushCells (s3.heap.push { cls := .type "dict", data := .dict #[] }) scope.names }
  have nfp : ∀ b ∈ fp, (upd H2 D (.lst [])) b = none := fun b hb => (f3 b hb).1.1
  generalize hce : compEnvC scope (cellsFrom (s3.heap.objs.size + 1) scope.names (cloFrom X.env.cells scope.names [])) s3.heap.objs.size X.env = ce at I4 pg pt pe ⊢
  have cL : ce.locals = s3.heap.objs.size := by subst hce; rfl
  generalize hH3 : upd H2 D (.lst []) = H3 at I3 I4 pg pt pe w0 nfp f3
  generalize hs4 : ({ s3 with heap := pushCells (s3.heap.push { cls := .type "dict", data := .dict #[] }) scope.names } : Shared) = s4 at I4 ⊢
  have st4 : tn 0 s4.heap := T.keep _ _ _ st3 fun b _ o e => by rw [← hs4]; exact pushCells_keeps _ _ _ _ (Heap.get?_push_of_some _ e)
  have stat : ∀ {σ' : St} {H' : Hp} {s' : Shared}, Inv (X.blk s3 H3 scope ce fp) [] σ' H' s' → (∀ b ∈ fp, H' b = none) → ∀ b ∈ fp, FpOk (X.blk s3 H3 scope ce fp) [] H' b := fun {σ' H' s'} I' hn b hb =>
    ⟨hn b hb, (I'.ok.exf b hb).1, I'.ok.exfs b hb, .inl hb, fun x c e => (I'.ok.exf b hb).2 x c e, fun p hp => absurd (show p ∈ ([] : List (Addr × Obj)) ++ [] from hp) (by simp)⟩
  have loop : codeAny (model X.prog X.w) X.A (.compLoop (.ListComp elt [⟨tg, iter, ifs, 0⟩] scope pos) 0 (.ref it) (.ref D) ce) (compPost (model X.prog X.w) X.A X.xe use Qf (.ref D) s3.heap.objs.size) s4 := by
    refine compLoop_any (fun n s' => ∃ i H', Inv (X.blk s3 H3 scope ce fp) [] (wipe σ (own.map (·.2))) H' s' ∧ tn i s'.heap ∧ (∀ b ∈ fp, H' b = none) ∧ W i n H') ?_ m0 ⟨0, H3, I4, st4, nfp, w0⟩
    rintro n s5 ⟨i, H5, I5, st5, n5, w5⟩
    rcases turn i n H5 w5 with ⟨stop, qq⟩ | ⟨go, Nx, hNx, step⟩
    · have td := T.done (X.blk s3 H3 scope ce fp) rfl rfl rfl hc i [] s5 _ H5 (fun _ _ => False) I5 (stat I5 n5) st5 stop
      refine thnF td fun r s6 ⟨hr, I6⟩ => ?_
      subst hr
      -- back in the def's context
      have I7 : Inv X pins σ H5 s6 := I3.call' (ch := fp) I6.os I6.base I6.hok (I3.bare.tr I6.bare) fun b hb => ⟨(f3 b hb).1.2.2.2.1, (f3 b hb).1.2.1, (f3 b hb).1.2.2.2.2.1, (f3 b hb).1.2.2.2.2.2⟩
      have nC : H5 s3.heap.objs.size = none := by
        have z : H5 ce.locals = none := I6.free
        rw [cL] at z
        exact z
      obtain ⟨m, hn, _⟩ := I6.loc
      have hn : s6.heap.Ns ce.locals m := hn
      rw [cL] at hn
      exact hRR D s3.heap.objs.size s6 m H5 I7 qq hn (I3.fpOk (Nat.le_refl _) nC)
    · have ti := T.item (X.blk s3 H3 scope ce fp) rfl rfl rfl hc i [] s5 _ H5 (fun _ _ => False) I5 (stat I5 n5) st5 go
      refine thnF ti fun r s6 ⟨u, hr, h6⟩ => ?_
      subst hr
      refine thnF h6 fun _ s7 ⟨x, H7, I7, r7, y7, st7, n7⟩ => ?_
      have I7' := I7.pinned (stat I7 n7) (T.obj _ _ st7)
      refine thnF (pg _ s7 _ H7 x u _ I7' r7 (step x H7 y7)) fun _ s8 ⟨σ8, H8, I8, hw8, q8⟩ => ?_
      refine thnF (pt _ s8 σ8 H8 _ I8 q8) fun b s9 ⟨H9, I9, q9⟩ => ?_
      -- the turn's end
      have fin : ∀ {s' : Shared} {H' : Hp}, Inv (X.blk s3 H3 scope ce fp) ([] ++ pinsAt fp s7.heap) σ8 H' s' → Nx H' → ∃ m, m < n ∧ ∃ i H', Inv (X.blk s3 H3 scope ce fp) [] (wipe σ (own.map (·.2))) H' s' ∧ tn i s'.heap ∧ (∀ b ∈ fp, H' b = none) ∧ W i m H' := fun {s' H'} I' nx => by
        obtain ⟨m', hm, w'⟩ := hNx H' nx
        have pin' : ∀ b ∈ fp, ∀ o, s7.heap.get? b = some o → s'.heap.get? b = some o ∧ H' b = none := fun b hb o e =>
          let z := I'.pin (b, o) (List.mem_append_right _ (List.mem_append_right _ (mem_pinsAt hb e)))
          ⟨z.1, z.2.1⟩
        have hl : (wipe σ (own.map (·.2))).length = σ8.length := by rw [← hw8, wipe_length]
        refine ⟨m', hm, i + 1, H', (I'.unpinned (pins := [])).weak hl (fun j v e => ?_), T.keep _ _ _ st7 fun b hb o e => (pin' b hb o e).1, fun b hb => ?_, w'⟩
        · rw [← hw8] at e
          exact (wipe_some e).1
        · obtain ⟨o, e, _⟩ := T.obj _ _ st7 b hb
          exact (pin' b hb o e).2
      cases b with
      | false =>
        simp only [Bool.false_eq_true, if_false] at q9 ⊢
        exact fin I9 q9
      | true =>
        simp only [if_true] at q9 ⊢
        refine thnF (pe _ s9 σ8 H9 _ I9 q9) fun z s10 ⟨yv, H10, I10, r10, acc, hD10, hz10, nx⟩ => ?_
        exact app_ok (X := X.blk s3 H3 scope ce fp) I10 hD10 hz10 r10 fun s11 I11 => fin I11 nx
  exact codeAny_compStart_list loop (T.self X.A 0 _ _ _ st4 loop)
theorem pe_lc {elt tg iter : Expr} {ifs : List Expr} {scope : Scope} {own : List (Str × Nat)} {pos : Pos} {wi : TI} {g : TG} {tt : TT} {te : TE} (hc : X.calm = true) (hN : X.N.Nodup) (hi : PI X tg iter wi) (ok : BlkOk X.N X.env.scope scope own)
    (hg : ∀ (s : Shared) (H : Hp) (C : Addr) (cl : List (Str × Addr)) (fp : List Addr), PG (X.blk s H scope (compEnvC scope cl C X.env) fp) tg g) (ht : ∀ (s : Shared) (H : Hp) (C : Addr) (cl : List (Str × Addr)) (fp : List Addr), PTs (X.blk s H scope (compEnvC scope cl C X.env) fp) ifs tt)
    (he : ∀ (s : Shared) (H : Hp) (C : Addr) (cl : List (Str × Addr)) (fp : List Addr), PE (X.blk s H scope (compEnvC scope cl C X.env) fp) elt te) (hs : ∀ x, foldedSetIterable iter X.env x = pure x := by intro _; rfl) :
    PE X (.ListComp elt [⟨tg, iter, ifs, 0⟩] scope pos) (tLc wi g tt te (own.map (·.2))) := by
  intro pins s σ H Q I h
  rw [eval_ListComp]
  refine lc_core hc hN I hi ok hg ht he hs h fun D C s' m H' I' q hn f => ⟨m, hn, fun h'' sb => ?_⟩
  obtain ⟨f0, f1, f2, f3, f4, f5⟩ := f
  exact ⟨.ref D, H', I'.turned (t' := s'.toks) (fun b o hb e => (sb.2 b hb).trans e) f0 f1 f3 f4 f5, rfl, q⟩
end
def blkC (N : List Str) (sc scope : Scope) (own : List (Str × Nat)) : Bool :=
  (match scope.kind with | .function => true | _ => false) && (scope.names.all fun y => decide (scope.names.lookup y.1 = some y.2)) && (own.all fun p => decide (N[p.2]? = some p.1)) &&
    (scope.names.all fun y => match y.2 with
      | .free => (match sc.names.lookup y.1 with | some .cell => true | some .free => true | _ => false)
      | .local => decide (y.1 ∈ own.map (·.1)) || decide (y.1 ∉ N)
      | .cell => decide (y.1 ∈ own.map (·.1)) || decide (y.1 ∉ N)
      | _ => true)
theorem blkOk_by {N : List Str} {sc scope : Scope} {own : List (Str × Nat)} (h : blkC N sc scope own = true) : BlkOk N sc scope own := by
  unfold blkC at h
  simp only [Bool.and_eq_true, List.all_eq_true, decide_eq_true_eq] at h
  obtain ⟨⟨⟨h1, h2⟩, h3⟩, h4⟩ := h
  refine ⟨?_, h2, h3, fun y hy e => ?_, fun y hy e => ?_⟩
  · split at h1
    · assumption
    · cases h1
  · have q := h4 y hy
    simp only [e] at q
    split at q <;> first | exact .inl (by assumption) | exact .inr (by assumption) | cases q
  · have q := h4 y hy
    rcases e with e | e <;> (simp only [e, Bool.or_eq_true, decide_eq_true_eq] at q; exact q)
end L2
namespace L2
open PySem PySem.Spec PyProof.Rows
theorem compTurn2_out (elt t0 i0 t1 i1 : Expr) (ifs0 ifs1 : List Expr) (scope : Scope) (pos : Pos) (it acc : Value) (env : Env) :
    compTurn (.ListComp elt [⟨t0, i0, ifs0, 0⟩, ⟨t1, i1, ifs1, 0⟩] scope pos) 0 it acc env = (do
      standAt i0.pos
      match ← pyNext it with
      | none => pure (.done .next)
      | some v =>
        letOwnedTupleGo t0 it v
        assign t0 env v
        let mut ok := true
        for c in ifs0 do
          if ok then ok ← isTrue c env (eval c env)
        if ok then
          let x ← eval i1 env
          standAt i1.pos
          let x ← foldedSetIterable i1 env x
          let _ ← runOwn (.compStart (.ListComp elt [⟨t0, i0, ifs0, 0⟩, ⟨t1, i1, ifs1, 0⟩] scope pos) 1 (← holding [x] (pyIter x)) acc env) env
        again (.compLoop (.ListComp elt [⟨t0, i0, ifs0, 0⟩, ⟨t1, i1, ifs1, 0⟩] scope pos) 0 it acc env)) := by rfl
theorem compTurn2_in (elt t0 i0 t1 i1 : Expr) (ifs0 ifs1 : List Expr) (scope : Scope) (pos : Pos) (it acc : Value) (env : Env) :
    compTurn (.ListComp elt [⟨t0, i0, ifs0, 0⟩, ⟨t1, i1, ifs1, 0⟩] scope pos) 1 it acc env = (do
      standAt i1.pos
      match ← pyNext it with
      | none => pure (.done .next)
      | some v =>
        letOwnedTupleGo t1 it v
        assign t1 env v
        let mut ok := true
        for c in ifs1 do
          if ok then ok ← isTrue c env (eval c env)
        if ok then
          (do let _ ← call (.builtin "list.append") [acc, ← eval elt env])
        again (.compLoop (.ListComp elt [⟨t0, i0, ifs0, 0⟩, ⟨t1, i1, ifs1, 0⟩] scope pos) 1 it acc env)) := by rfl
section
variable {prog : Program} {w : World} {A : Around} {R : Result → Shared → Prop} {s : Shared} {elt t0 i0 t1 i1 : Expr} {ifs0 ifs1 : List Expr} {scope : Scope} {pos : Pos} {it acc : Value} {env : Env}
theorem compLoop2_out (hs : ∀ x, foldedSetIterable i1 env x = pure x) (I : Nat → Shared → Prop)
    (turn : ∀ n s, I n s → wpAny (model prog w) A (pyNext it) (fun r s₁ => match r with
      | none => R (.ok .next) s₁
      | some v => wpAny (model prog w) A (letOwnedTupleGo t0 it v) (fun _ s₁' => wpAny (model prog w) A (assign t0 env v) (fun _ s₂ =>
          wpAny (model prog w) A (forIn ifs0 true fun c r => if r = true then do let ok ← isTrue c env (eval c env); pure (ForInStep.yield ok) else pure (ForInStep.yield r)) (fun ok s₃ =>
            if ok = true then wpAny (model prog w) A (eval i1 env) (fun x s₄ => wpAny (model prog w) A (pyIter x) (fun it1 s₅ =>
              codeAny (model prog w) A (.compStart (.ListComp elt [⟨t0, i0, ifs0, 0⟩, ⟨t1, i1, ifs1, 0⟩] scope pos) 1 it1 acc env) (fun r s' => match r with
                | .ok _ => ∃ m, m < n ∧ I m s'
                | .error _ => False) s₅) (notedBy (model prog w) A env fun e s' => R (.error e) s') s₄) (notedBy (model prog w) A env fun e s' => R (.error e) s') s₃
            else ∃ m, m < n ∧ I m s₃) (notedBy (model prog w) A env fun e s' => R (.error e) s') s₂) (notedBy (model prog w) A env fun e s' => R (.error e) s') s₁') (notedBy (model prog w) A env fun e s' => R (.error e) s') s₁) (notedBy (model prog w) A env fun e s' => R (.error e) s') s)
    (n : Nat) (h : I n s) :
    codeAny (model prog w) A (.compLoop (.ListComp elt [⟨t0, i0, ifs0, 0⟩, ⟨t1, i1, ifs1, 0⟩] scope pos) 0 it acc env) R s := by
  refine codeAny_loop rfl I (fun n s hI => ?_) n h
  show wpAny _ A ((compTurn (.ListComp elt [⟨t0, i0, ifs0, 0⟩, ⟨t1, i1, ifs1, 0⟩] scope pos) 0 it acc env).onRaise (fun x => do noteFrame x env; theTreesLotGoes x)) _ _ s
  refine wpAny_noted ?_
  rw [compTurn2_out]
  refine wpAny_bind (wpAny_standAt (wpAny_bind (wpAny_mono (turn n s hI) (fun r s₁ h₁ => ?_) fun _ _ h' => h')))
  cases r with
  | none => exact wpAny_pure h₁
  | some v =>
    refine wpAny_bind (wpAny_mono h₁ (fun _ s₁' h₁' => ?_) fun _ _ h' => h')
    refine wpAny_bind (wpAny_mono h₁' (fun _ s₂ h₂ => wpAny_bind (wpAny_mono h₂ (fun ok s₃ h₃ => ?_) fun _ _ h' => h')) fun _ _ h' => h')
    cases ok with
    | false => exact wpAny_pure ⟨rfl, h₃⟩
    | true =>
      refine wpAny_bind (wpAny_mono h₃ (fun x s₄ h₄ => ?_) fun _ _ h' => h')
      refine wpAny_bind (wpAny_standAt (wpAny_bind (wpAny_of_eq (hs x) (wpAny_bind (wpAny_holding (wpAny_mono h₄ (fun it1 s₅ h₅ => ?_) fun _ _ h' => h'))))))
      refine wpAny_bind (wpAny_runOwn ?_)
      rw [Around.mark_none]
      refine codeAny_mono h₅ fun r s' hr => ?_
      cases r with
      | ok f =>
        first
          | exact wpAny_pure ⟨rfl, hr⟩
          | exact wpAny_bind (wpAny_pure (wpAny_pure ⟨rfl, hr⟩))
      | error e => exact hr.elim
theorem compLoop2_in (I : Nat → Shared → Prop)
    (turn : ∀ n s, I n s → wpAny (model prog w) A (pyNext it) (fun r s₁ => match r with
      | none => R (.ok .next) s₁
      | some v => wpAny (model prog w) A (letOwnedTupleGo t1 it v) (fun _ s₁' => wpAny (model prog w) A (assign t1 env v) (fun _ s₂ =>
          wpAny (model prog w) A (forIn ifs1 true fun c r => if r = true then do let ok ← isTrue c env (eval c env); pure (ForInStep.yield ok) else pure (ForInStep.yield r)) (fun ok s₃ =>
            if ok = true then wpAny (model prog w) A (eval elt env) (fun x s₄ =>
              wpAny (model prog w) A (call (.builtin "list.append") [acc, x]) (fun _ s₅ => ∃ m, m < n ∧ I m s₅) (notedBy (model prog w) A env fun e s' => R (.error e) s') s₄) (notedBy (model prog w) A env fun e s' => R (.error e) s') s₃
            else ∃ m, m < n ∧ I m s₃) (notedBy (model prog w) A env fun e s' => R (.error e) s') s₂) (notedBy (model prog w) A env fun e s' => R (.error e) s') s₁') (notedBy (model prog w) A env fun e s' => R (.error e) s') s₁) (notedBy (model prog w) A env fun e s' => R (.error e) s') s)
    (n : Nat) (h : I n s) :
    codeAny (model prog w) A (.compLoop (.ListComp elt [⟨t0, i0, ifs0, 0⟩, ⟨t1, i1, ifs1, 0⟩] scope pos) 1 it acc env) R s := by
  refine codeAny_loop rfl I (fun n s hI => ?_) n h
  show wpAny _ A ((compTurn (.ListComp elt [⟨t0, i0, ifs0, 0⟩, ⟨t1, i1, ifs1, 0⟩] scope pos) 1 it acc env).onRaise (fun x => do noteFrame x env; theTreesLotGoes x)) _ _ s
  refine wpAny_noted ?_
  rw [compTurn2_in]
  refine wpAny_bind (wpAny_standAt (wpAny_bind (wpAny_mono (turn n s hI) (fun r s₁ h₁ => ?_) fun _ _ h' => h')))
  cases r with
  | none => exact wpAny_pure h₁
  | some v =>
    refine wpAny_bind (wpAny_mono h₁ (fun _ s₁' h₁' => ?_) fun _ _ h' => h')
    refine wpAny_bind (wpAny_mono h₁' (fun _ s₂ h₂ => wpAny_bind (wpAny_mono h₂ (fun ok s₃ h₃ => ?_) fun _ _ h' => h')) fun _ _ h' => h')
    cases ok with
    | false => exact wpAny_pure ⟨rfl, h₃⟩
    | true =>
      exact wpAny_bind (wpAny_bind (wpAny_mono h₃ (fun x s₄ h₄ => wpAny_bind (wpAny_mono h₄ (fun _ s₅ h₅ => wpAny_pure (wpAny_pure ⟨rfl, h₅⟩)) fun _ _ h' => h')) fun _ _ h' => h'))
theorem compStart1_ok (h0 : codeAny (model prog w) A (.compLoop (.ListComp elt [⟨t0, i0, ifs0, 0⟩, ⟨t1, i1, ifs1, 0⟩] scope pos) 1 it acc env) R s)
    (h : wpAny (model prog w) A (pyIter it) (fun it' s' => codeAny (model prog w) A (.compLoop (.ListComp elt [⟨t0, i0, ifs0, 0⟩, ⟨t1, i1, ifs1, 0⟩] scope pos) 1 it' acc env) R s')
      (notedBy (model prog w) A env fun x s' => R (.error x) s') s) :
    codeAny (model prog w) A (.compStart (.ListComp elt [⟨t0, i0, ifs0, 0⟩, ⟨t1, i1, ifs1, 0⟩] scope pos) 1 it acc env) R s := by
  refine codeAny_of_tree ?_
  show wpAny _ _ ((compStart (.ListComp elt [⟨t0, i0, ifs0, 0⟩, ⟨t1, i1, ifs1, 0⟩] scope pos) 1 it acc env).onRaise (fun x => do noteFrame x env; standAt theWindowsPlace)) _ _ s
  refine wpAny_notedAt ?_
  unfold compStart
  show wpAny _ _ (ask >>= _) _ _ s
  refine wpAny_bind (wpAny_askSetting (wpAny_ite ?_))
  split
  · first
      | exact wpAny_bind (wpAny_pure (wpAny_pure (And.intro rfl h0)))
      | exact wpAny_pure (And.intro rfl h0)
  · first
      | exact wpAny_bind (wpAny_rule (wpAny_bind (wpAny_standAt (wpAny_bind (wpAny_mono h (fun it' s' h' => wpAny_pure (And.intro rfl h')) fun _ _ x => x)))))
      | (refine wpAny_bind (wpAny_rule ?_); show wpAny _ _ (standAt i1.pos >>= _) _ _ s; exact wpAny_bind (wpAny_standAt (wpAny_bind (wpAny_mono h (fun it' s' h' => wpAny_pure (And.intro rfl h')) fun _ _ x => x))))
end
theorem wipe_out {σ : St} {i : Nat} : ∀ {vs : List Nat}, i ∉ vs → (wipe σ vs)[i]? = σ[i]?
  | [], _ => rfl
  | v :: vs, h => by
    have h1 : v ≠ i := fun e => h (by rw [e]; exact List.mem_cons_self)
    have h2 : i ∉ vs := fun m => h (List.mem_cons_of_mem _ m)
    unfold wipe
    rw [List.getElem?_set_ne h1]
    exact wipe_out h2
section
variable {X : Cx}
def tLc2 (wi : TI) (g : TG) (tt : TT) (wi1 : TI) (g1 : TG) (tt1 : TT) (te : TE) (vs vs1 : List Nat) : TE := fun σ H Q => wi σ H fun J H1 => ∀ D, H1 D = none → ∃ W : Nat → Nat → Hp → Prop, (∃ m, W 0 m (upd H1 D (.lst []))) ∧ ∀ i m H, W i m H →
  (J.stop i H ∧ Q (.ref D) H) ∨ (J.go i H ∧ ∃ Nx : Hp → Prop, (∀ H', Nx H' → ∃ m', m' < m ∧ W (i + 1) m' H') ∧ ∀ x H', J.yld i H x H' → g x (wipe σ vs) H' fun σ2 H2 => wipe σ2 vs = wipe σ vs ∧ tt σ2 H2 fun b H3 =>
    if b = true then wi1 σ2 H3 fun J1 H4 => ∃ W1 : Nat → Nat → Hp → Prop, (∃ m, W1 0 m H4) ∧ ∀ j k H, W1 j k H →
      (J1.stop j H ∧ Nx H) ∨ (J1.go j H ∧ ∃ Nx1 : Hp → Prop, (∀ H', Nx1 H' → ∃ k', k' < k ∧ W1 (j + 1) k' H') ∧ ∀ x H', J1.yld j H x H' → g1 x (wipe σ2 vs1) H' fun σ3 H5 => wipe σ3 vs1 = wipe σ2 vs1 ∧ tt1 σ3 H5 fun b H6 =>
        if b = true then te σ3 H6 fun y H7 => ∃ acc, H7 D = some (.lst acc) ∧ acc.length < sizeLine ∧ Nx1 (upd H7 D (.lst (acc ++ [y]))) else Nx1 H6)
    else Nx H3)
theorem lc2_core {pins : List (Addr × Obj)} {s : Shared} {σ : St} {H : Hp} {Q : VK} {elt tg iter tg1 iter1 : Expr} {ifs ifs1 : List Expr} {scope : Scope} {own : List (Str × Nat)} {vs1 : List Nat} {pos pos' : Pos} {wi wi1 : TI} {g g1 : TG} {tt tt1 : TT} {te : TE} {use : Option (Value → Sem Unit)} {Qf : Value → Shared → Prop}
    (hc : X.calm = true) (hN : X.N.Nodup) (I : Inv X pins σ H s) (hi : PI X tg iter wi) (ok : BlkOk X.N X.env.scope scope own) (hv : ∀ i ∈ vs1, i ∈ own.map (·.2))
    (hg : ∀ (s : Shared) (H : Hp) (C : Addr) (cl : List (Str × Addr)) (fp : List Addr), PG (X.blk s H scope (compEnvC scope cl C X.env) fp) tg g) (ht : ∀ (s : Shared) (H : Hp) (C : Addr) (cl : List (Str × Addr)) (fp : List Addr), PTs (X.blk s H scope (compEnvC scope cl C X.env) fp) ifs tt)
    (he : ∀ (s : Shared) (H : Hp) (C : Addr) (cl : List (Str × Addr)) (fp : List Addr), PE (X.blk s H scope (compEnvC scope cl C X.env) fp) elt te) (hs : ∀ x, foldedSetIterable iter X.env x = pure x)
    (hi1 : ∀ (s : Shared) (H : Hp) (C : Addr) (cl : List (Str × Addr)) (fp : List Addr), PI (X.blk s H scope (compEnvC scope cl C X.env) fp) tg1 iter1 wi1)
    (hg1 : ∀ (s : Shared) (H : Hp) (C : Addr) (cl : List (Str × Addr)) (fp : List Addr), PG (X.blk s H scope (compEnvC scope cl C X.env) fp) tg1 g1)
    (ht1 : ∀ (s : Shared) (H : Hp) (C : Addr) (cl : List (Str × Addr)) (fp : List Addr), PTs (X.blk s H scope (compEnvC scope cl C X.env) fp) ifs1 tt1)
    (hs1 : ∀ env x, foldedSetIterable iter1 env x = pure x)
    (h : tLc2 wi g tt wi1 g1 tt1 te (own.map (·.2)) vs1 σ H Q)
    (hRR : ∀ D C s' m H', Inv X pins σ H' s' → Q (.ref D) H' → s'.heap.Ns C m → FpOk X pins H' C → compPost (model X.prog X.w) X.A X.xe use Qf (.ref D) C (.ok .next) s') :
    wpAny (model X.prog X.w) X.A (comprehension (.ListComp elt [⟨tg, iter, ifs, 0⟩, ⟨tg1, iter1, ifs1, 0⟩] scope pos) scope X.env pos' (newList []) false (eval iter X.env) use) Qf X.xe s := by
  have hfree : ∀ y ∈ scope.names, y.2 = .free → ∃ c, X.env.cells.lookup y.1 = some c := fun y hy e => by
    rcases ok.free y hy e with k | k
    · exact I.ok.has _ (.inl k)
    · exact I.ok.has _ (.inr k)
  refine wpAny_comprehension_free (use := use) rfl hs (closure_ok hfree) ok.kind (fun y hy e => by rw [ok.uniq y hy, e])
    (thn (hi pins s σ H _ I h) fun xv s1 hx => thn hx fun itv s2 h2 => ?_)
  obtain ⟨it, fp, tn, J, H2, e, I2, T, st2, f2, q⟩ := h2
  subst e
  refine wpAny_newObj_type (newEnv_comp ?_) (by show 0 ≤ sizeLine; decide)
  generalize hD : s2.heap.objs.size = D
  have hDn : H2 D = none := I2.hok.fresh (Nat.le_of_eq hD)
  obtain ⟨W, ⟨m0, w0⟩, turn⟩ := q D hDn
  -- the new list
  generalize hs3 : ({ s2 with heap := s2.heap.push { cls := .type "list", data := .seq ([] : List Value).toArray } } : Shared) = s3
  have I3 : Inv X pins σ (upd H2 D (.lst [])) s3 := by
    rw [← hs3]
    refine I2.laid (t' := s2.toks) (fun b o e => Heap.get?_push_of_some _ e) (Nat.le_of_eq hD) ⟨Nat.zero_le _, [], 0, .nil, ?_⟩
    rw [← hD]
    exact Heap.get?_push_size _ rfl
  have h3 : s3.heap = s2.heap.push { cls := .type "list", data := .seq ([] : List Value).toArray } := by rw [← hs3]
  have sz : ∀ b ∈ fp, b < s2.heap.objs.size := fun b hb => by
    obtain ⟨o, e, _⟩ := T.obj _ _ st2 b hb
    exact Heap.lt_size e
  have f3 : ∀ b ∈ fp, FpOk X pins (upd H2 D (.lst [])) b ∧ b < s3.heap.objs.size := fun b hb => by
    have hlt := sz b hb
    refine ⟨⟨?_, (f2 b hb).2⟩, by rw [h3, Heap.size_push]; exact Nat.lt_succ_of_lt hlt⟩
    rw [upd_ne (by rw [← hD]; exact Nat.ne_of_lt hlt)]
    exact (f2 b hb).1
  have st3 : tn 0 s3.heap := T.keep _ _ _ st2 fun b _ o e => by rw [h3]; exact Heap.get?_push_of_some _ e
  have I4 := block_start I3 ok hN f3
  have pg := hg s3 (upd H2 D (.lst [])) s3.heap.objs.size (cellsFrom (s3.heap.objs.size + 1) scope.names (cloFrom X.env.cells scope.names [])) fp
  have pt := ht s3 (upd H2 D (.lst [])) s3.heap.objs.size (cellsFrom (s3.heap.objs.size + 1) scope.names (cloFrom X.env.cells scope.names [])) fp
  have pe := he s3 (upd H2 D (.lst [])) s3.heap.objs.size (cellsFrom (s3.heap.objs.size + 1) scope.names (cloFrom X.env.cells scope.names [])) fp
  have pi1 := hi1 s3 (upd H2 D (.lst [])) s3.heap.objs.size (cellsFrom (s3.heap.objs.size + 1) scope.names (cloFrom X.env.cells scope.names [])) fp
  have pg1 := hg1 s3 (upd H2 D (.lst [])) s3.heap.objs.size (cellsFrom (s3.heap.objs.size + 1) scope.names (cloFrom X.env.cells scope.names [])) fp
  have pt1 := ht1 s3 (upd H2 D (.lst [])) s3.heap.objs.size (cellsFrom (s3.heap.objs.size + 1) scope.names (cloFrom X.env.cells scope.names [])) fp
  show codeAny _ _ (.compStart (.ListComp elt [⟨tg, iter, ifs, 0⟩, ⟨tg1, iter1, ifs1, 0⟩] scope pos) 0 (.ref it) (.ref D) (compEnvC scope (cellsFrom (s3.heap.objs.size + 1) scope.names (cloFrom X.env.cells scope.names [])) s3.heap.objs.size X.env)) (compPost (model X.prog X.w) X.A X.xe use Qf (.ref D) s3.heap.objs.size) { s3 with heap := pushCells (s3.heap.push { cls := .type "dict", data := .dict #[] }) scope.names }
  have nfp : ∀ b ∈ fp, (upd H2 D (.lst [])) b = none := fun b hb => (f3 b hb).1.1
  generalize hce : compEnvC scope (cellsFrom (s3.heap.objs.size + 1) scope.names (cloFrom X.env.cells scope.names [])) s3.heap.objs.size X.env = ce at I4 pg pt pe pi1 pg1 pt1 ⊢
  have cL : ce.locals = s3.heap.objs.size := by subst hce; rfl
  generalize hH3 : upd H2 D (.lst []) = H3 at I3 I4 pg pt pe pi1 pg1 pt1 w0 nfp f3
  generalize hs4 : ({ s3 with heap := pushCells (s3.heap.push { cls := .type "dict", data := .dict #[] }) scope.names } : Shared) = s4 at I4 ⊢
  have st4 : tn 0 s4.heap := T.keep _ _ _ st3 fun b _ o e => by rw [← hs4]; exact pushCells_keeps _ _ _ _ (Heap.get?_push_of_some _ e)
  have stat : ∀ {σ' : St} {H' : Hp} {s' : Shared}, Inv (X.blk s3 H3 scope ce fp) [] σ' H' s' → (∀ b ∈ fp, H' b = none) → ∀ b ∈ fp, FpOk (X.blk s3 H3 scope ce fp) [] H' b := fun {σ' H' s'} I' hn b hb =>
    ⟨hn b hb, (I'.ok.exf b hb).1, I'.ok.exfs b hb, .inl hb, fun x c e => (I'.ok.exf b hb).2 x c e, fun p hp => absurd (show p ∈ ([] : List (Addr × Obj)) ++ [] from hp) (by simp)⟩
  have loop : codeAny (model X.prog X.w) X.A (.compLoop (.ListComp elt [⟨tg, iter, ifs, 0⟩, ⟨tg1, iter1, ifs1, 0⟩] scope pos) 0 (.ref it) (.ref D) ce) (compPost (model X.prog X.w) X.A X.xe use Qf (.ref D) s3.heap.objs.size) s4 := by
    refine compLoop2_out (hs1 ce) (fun n s' => ∃ i H', Inv (X.blk s3 H3 scope ce fp) [] (wipe σ (own.map (·.2))) H' s' ∧ tn i s'.heap ∧ (∀ b ∈ fp, H' b = none) ∧ W i n H') ?_ m0 ⟨0, H3, I4, st4, nfp, w0⟩
    rintro n s5 ⟨i, H5, I5, st5, n5, w5⟩
    rcases turn i n H5 w5 with ⟨stop, qq⟩ | ⟨go, Nx, hNx, step⟩
    · have td := T.done (X.blk s3 H3 scope ce fp) rfl rfl rfl hc i [] s5 _ H5 (fun _ _ => False) I5 (stat I5 n5) st5 stop
      refine thnF td fun r s6 ⟨hr, I6⟩ => ?_
      subst hr
      -- back in the def's context
      have I7 : Inv X pins σ H5 s6 := I3.call' (ch := fp) I6.os I6.base I6.hok (I3.bare.tr I6.bare) fun b hb => ⟨(f3 b hb).1.2.2.2.1, (f3 b hb).1.2.1, (f3 b hb).1.2.2.2.2.1, (f3 b hb).1.2.2.2.2.2⟩
      have nC : H5 s3.heap.objs.size = none := by
        have z : H5 ce.locals = none := I6.free
        rw [cL] at z
        exact z
      obtain ⟨m, hn, _⟩ := I6.loc
      have hn : s6.heap.Ns ce.locals m := hn
      rw [cL] at hn
      exact hRR D s3.heap.objs.size s6 m H5 I7 qq hn (I3.fpOk (Nat.le_refl _) nC)
    · have ti := T.item (X.blk s3 H3 scope ce fp) rfl rfl rfl hc i [] s5 _ H5 (fun _ _ => False) I5 (stat I5 n5) st5 go
      refine thnF ti fun r s6 ⟨u, hr, h6⟩ => ?_
      subst hr
      refine thnF h6 fun _ s7 ⟨x, H7, I7, r7, y7, st7, n7⟩ => ?_
      have I7' := I7.pinned (stat I7 n7) (T.obj _ _ st7)
      refine thnF (pg _ s7 _ H7 x u _ I7' r7 (step x H7 y7)) fun _ s8 ⟨σ8, H8, I8, hw8, q8⟩ => ?_
      refine thnF (pt _ s8 σ8 H8 _ I8 q8) fun b s9 ⟨H9, I9, q9⟩ => ?_
      -- the turn's end, from any slots that know what the block knew at its start
      have fin : ∀ {σ9 : St} {s' : Shared} {H' : Hp}, Inv (X.blk s3 H3 scope ce fp) ([] ++ pinsAt fp s7.heap) σ9 H' s' → (wipe σ (own.map (·.2))).length = σ9.length → (∀ (j : Nat) v, (wipe σ (own.map (·.2)))[j]? = some (some v) → σ9[j]? = some (some v)) → Nx H' →
          ∃ m, m < n ∧ ∃ i H', Inv (X.blk s3 H3 scope ce fp) [] (wipe σ (own.map (·.2))) H' s' ∧ tn i s'.heap ∧ (∀ b ∈ fp, H' b = none) ∧ W i m H' := fun {σ9 s' H'} I' hl hk nx => by
        obtain ⟨m', hm, w'⟩ := hNx H' nx
        have pin' : ∀ b ∈ fp, ∀ o, s7.heap.get? b = some o → s'.heap.get? b = some o ∧ H' b = none := fun b hb o e =>
          let z := I'.pin (b, o) (List.mem_append_right _ (List.mem_append_right _ (mem_pinsAt hb e)))
          ⟨z.1, z.2.1⟩
        refine ⟨m', hm, i + 1, H', (I'.unpinned (pins := [])).weak hl hk, T.keep _ _ _ st7 fun b hb o e => (pin' b hb o e).1, fun b hb => ?_, w'⟩
        obtain ⟨o, e, _⟩ := T.obj _ _ st7 b hb
        exact (pin' b hb o e).2
      have hl8 : (wipe σ (own.map (·.2))).length = σ8.length := by rw [← hw8, wipe_length]
      have hk8 : ∀ (j : Nat) v, (wipe σ (own.map (·.2)))[j]? = some (some v) → σ8[j]? = some (some v) := fun j v e => by
        rw [← hw8] at e
        exact (wipe_some e).1
      have hk9 : ∀ (j : Nat) v, (wipe σ (own.map (·.2)))[j]? = some (some v) → (wipe σ8 vs1)[j]? = some (some v) := fun j v e => by
        rw [← hw8] at e
        obtain ⟨e1, e2⟩ := wipe_some e
        rw [wipe_out fun z => e2 (hv j z)]
        exact e1
      cases b with
      | false =>
        simp only [Bool.false_eq_true, if_false] at q9 ⊢
        exact fin I9 hl8 hk8 q9
      | true =>
        simp only [if_true] at q9 ⊢
        refine thnF (pi1 _ s9 σ8 H9 _ I9 q9) fun xv s10 hx => thnF hx fun itv s11 h11 => ?_
        obtain ⟨it1, fp1, tn1, J1, H11, e1, I11, T1, st11, f11, W1, ⟨m1, w1⟩, turn1⟩ := h11
        subst e1
        -- the inner loop
        have stat1 : ∀ {H' : Hp}, (∀ b ∈ fp1, H' b = none) → ∀ b ∈ fp1, FpOk (X.blk s3 H3 scope ce fp) ([] ++ pinsAt fp s7.heap) H' b := fun hn b hb => ⟨hn b hb, (f11 b hb).2⟩
        have loop1 : codeAny (model X.prog X.w) X.A (.compLoop (.ListComp elt [⟨tg, iter, ifs, 0⟩, ⟨tg1, iter1, ifs1, 0⟩] scope pos) 1 (.ref it1) (.ref D) ce)
            (fun r s' => match r with
              | .ok _ => ∃ m, m < n ∧ ∃ i H', Inv (X.blk s3 H3 scope ce fp) [] (wipe σ (own.map (·.2))) H' s' ∧ tn i s'.heap ∧ (∀ b ∈ fp, H' b = none) ∧ W i m H'
              | .error _ => False) s11 := by
          refine compLoop2_in (fun k s' => ∃ j H', Inv (X.blk s3 H3 scope ce fp) ([] ++ pinsAt fp s7.heap) (wipe σ8 vs1) H' s' ∧ tn1 j s'.heap ∧ (∀ b ∈ fp1, H' b = none) ∧ W1 j k H') ?_ m1 ⟨0, H11, I11.weak (wipe_length _ _) (fun j v e => (wipe_some e).1), st11, fun b hb => (f11 b hb).1, w1⟩
          rintro k s12 ⟨j, H12, I12, st12, n12, w12⟩
          rcases turn1 j k H12 w12 with ⟨stop1, nx1⟩ | ⟨go1, Nx1, hNx1, step1⟩
          · refine thnF (T1.done (X.blk s3 H3 scope ce fp) rfl rfl rfl hc j _ s12 (wipe σ8 vs1) H12 (fun _ _ => False) I12 (stat1 n12) st12 stop1) fun r s13 ⟨hr, I13⟩ => ?_
            subst hr
            exact fin I13 (hl8.trans (wipe_length σ8 vs1).symm) hk9 nx1
          · refine thnF (T1.item (X.blk s3 H3 scope ce fp) rfl rfl rfl hc j _ s12 (wipe σ8 vs1) H12 (fun _ _ => False) I12 (stat1 n12) st12 go1) fun r s13 ⟨u1, hr, h13⟩ => ?_
            subst hr
            refine thnF h13 fun _ s14 ⟨x1, H14, I14, r14, y14, st14, n14⟩ => ?_
            have I14' := I14.pinned (stat1 n14) (T1.obj _ _ st14)
            refine thnF (pg1 _ s14 (wipe σ8 vs1) H14 x1 u1 _ I14' r14 (step1 x1 H14 y14)) fun _ s15 ⟨σ15, H15, I15, hw15, q15⟩ => ?_
            refine thnF (pt1 _ s15 σ15 H15 _ I15 q15) fun b1 s16 ⟨H16, I16, q16⟩ => ?_
            have fin1 : ∀ {s' : Shared} {H' : Hp}, Inv (X.blk s3 H3 scope ce fp) (([] ++ pinsAt fp s7.heap) ++ pinsAt fp1 s14.heap) σ15 H' s' → Nx1 H' → ∃ m, m < k ∧ ∃ j H', Inv (X.blk s3 H3 scope ce fp) ([] ++ pinsAt fp s7.heap) (wipe σ8 vs1) H' s' ∧ tn1 j s'.heap ∧ (∀ b ∈ fp1, H' b = none) ∧ W1 j m H' := fun {s' H'} I' nx => by
              obtain ⟨m', hm, w'⟩ := hNx1 H' nx
              have pin' : ∀ b ∈ fp1, ∀ o, s14.heap.get? b = some o → s'.heap.get? b = some o ∧ H' b = none := fun b hb o e =>
                let z := I'.pin (b, o) (List.mem_append_right _ (List.mem_append_right _ (mem_pinsAt hb e)))
                ⟨z.1, z.2.1⟩
              refine ⟨m', hm, j + 1, H', I'.unpinned.weak (by rw [← hw15, wipe_length]) (fun j v e => by rw [← hw15] at e; exact (wipe_some e).1), T1.keep _ _ _ st14 fun b hb o e => (pin' b hb o e).1, fun b hb => ?_, w'⟩
              obtain ⟨o, e, _⟩ := T1.obj _ _ st14 b hb
              exact (pin' b hb o e).2
            cases b1 with
            | false =>
              simp only [Bool.false_eq_true, if_false] at q16 ⊢
              exact fin1 I16 q16
            | true =>
              simp only [if_true] at q16 ⊢
              refine thnF (pe _ s16 σ15 H16 _ I16 q16) fun z s17 ⟨yv, H17, I17, r17, acc, hD17, hz17, nx⟩ => ?_
              exact app_ok (X := X.blk s3 H3 scope ce fp) I17 hD17 hz17 r17 fun s18 I18 => fin1 I18 nx
        exact compStart1_ok loop1 (T1.self X.A 0 _ _ _ st11 loop1)
  exact codeAny_compStart_list loop (T.self X.A 0 _ _ _ st4 loop)
theorem pe_lc2 {elt tg iter tg1 iter1 : Expr} {ifs ifs1 : List Expr} {scope : Scope} {own : List (Str × Nat)} {vs1 : List Nat} {pos : Pos} {wi wi1 : TI} {g g1 : TG} {tt tt1 : TT} {te : TE} (hc : X.calm = true) (hN : X.N.Nodup) (hi : PI X tg iter wi) (ok : BlkOk X.N X.env.scope scope own) (hv : ∀ i ∈ vs1, i ∈ own.map (·.2))
    (hg : ∀ (s : Shared) (H : Hp) (C : Addr) (cl : List (Str × Addr)) (fp : List Addr), PG (X.blk s H scope (compEnvC scope cl C X.env) fp) tg g) (ht : ∀ (s : Shared) (H : Hp) (C : Addr) (cl : List (Str × Addr)) (fp : List Addr), PTs (X.blk s H scope (compEnvC scope cl C X.env) fp) ifs tt)
    (hi1 : ∀ (s : Shared) (H : Hp) (C : Addr) (cl : List (Str × Addr)) (fp : List Addr), PI (X.blk s H scope (compEnvC scope cl C X.env) fp) tg1 iter1 wi1)
    (hg1 : ∀ (s : Shared) (H : Hp) (C : Addr) (cl : List (Str × Addr)) (fp : List Addr), PG (X.blk s H scope (compEnvC scope cl C X.env) fp) tg1 g1) (ht1 : ∀ (s : Shared) (H : Hp) (C : Addr) (cl : List (Str × Addr)) (fp : List Addr), PTs (X.blk s H scope (compEnvC scope cl C X.env) fp) ifs1 tt1)
    (he : ∀ (s : Shared) (H : Hp) (C : Addr) (cl : List (Str × Addr)) (fp : List Addr), PE (X.blk s H scope (compEnvC scope cl C X.env) fp) elt te) (hs : ∀ x, foldedSetIterable iter X.env x = pure x := by intro _; rfl) (hs1 : ∀ env x, foldedSetIterable iter1 env x = pure x := by intro _ _; rfl) :
    PE X (.ListComp elt [⟨tg, iter, ifs, 0⟩, ⟨tg1, iter1, ifs1, 0⟩] scope pos) (tLc2 wi g tt wi1 g1 tt1 te (own.map (·.2)) vs1) := by
  intro pins s σ H Q I h
  rw [eval_ListComp]
  refine lc2_core hc hN I hi ok hv hg ht he hs hi1 hg1 ht1 hs1 h fun D C s' m H' I' q hn f => ⟨m, hn, fun h'' sb => ?_⟩
  obtain ⟨f0, f1, f2, f3, f4, f5⟩ := f
  exact ⟨.ref D, H', I'.turned (t' := s'.toks) (fun b o hb e => (sb.2 b hb).trans e) f0 f1 f3 f4 f5, rfl, q⟩
end
end L2
namespace L2
open PySem PySem.Spec PyProof.Rows
section
variable {κ : Type} [DecidableEq κ]
def valV (kvs : List (κ × V)) (k : κ) : Option V := (kvs.find? fun kv => decide (kv.1 = k)).map (·.2)
def putK (kvs : List (κ × V)) (k : κ) (v : V) : List (κ × V) :=
  if (kvs.any fun kv => decide (kv.1 = k)) = true then kvs.map (fun kv => if kv.1 = k then (kv.1, v) else kv) else kvs ++ [(k, v)]
def dropK (kvs : List (κ × V)) (k : κ) : List (κ × V) := kvs.filter fun kv => decide (kv.1 ≠ k)
theorem valV_pos {p : κ × V} {r : List (κ × V)} {k : κ} (e : p.1 = k) : valV (p :: r) k = some p.2 := by simp [valV, List.find?_cons, e]
theorem valV_neg {p : κ × V} {r : List (κ × V)} {k : κ} (e : ¬ p.1 = k) : valV (p :: r) k = valV r k := by simp [valV, List.find?_cons, e]
theorem valV_any (k : κ) : ∀ kvs : List (κ × V), (kvs.any fun kv => decide (kv.1 = k)) = (valV kvs k).isSome
  | [] => rfl
  | p :: r => by
    rw [List.any_cons]
    by_cases e : p.1 = k
    · simp only [valV_pos e, decide_eq_true e, Bool.true_or, Option.isSome_some]
    · rw [valV_neg e, decide_eq_false e, Bool.false_or]; exact valV_any k r
theorem valV_map (k j : κ) (y : V) : ∀ kvs : List (κ × V), valV (kvs.map fun kv => if kv.1 = k then (kv.1, y) else kv) j = (valV kvs j).map fun x => if j = k then y else x
  | [] => rfl
  | p :: r => by
    have ih := valV_map k j y r
    rw [List.map_cons]
    by_cases h : p.1 = k
    · rw [if_pos h]
      by_cases e : p.1 = j
      · rw [valV_pos (p := (p.1, y)) e, valV_pos e, Option.map_some, if_pos (e.symm.trans h)]
      · rw [valV_neg (p := (p.1, y)) e, valV_neg e, ih]
    · rw [if_neg h]
      by_cases e : p.1 = j
      · rw [valV_pos (p := p) e, valV_pos e, Option.map_some, if_neg (fun z => h (e.trans z))]
      · rw [valV_neg (p := p) e, valV_neg e, ih]
theorem valV_snoc (k j : κ) (y : V) : ∀ kvs : List (κ × V), valV kvs k = none → valV (kvs ++ [(k, y)]) j = if j = k then some y else valV kvs j
  | [], _ => by
    by_cases e : k = j
    · rw [if_pos e.symm]; exact valV_pos (p := (k, y)) e
    · rw [if_neg (fun z => e z.symm)]; exact valV_neg (p := (k, y)) e
  | p :: r, hn => by
    rw [List.cons_append]
    have hk : ¬ p.1 = k := fun z => by rw [valV_pos z] at hn; cases hn
    rw [valV_neg hk] at hn
    have ih := valV_snoc k j y r hn
    by_cases e : p.1 = j
    · rw [valV_pos e, valV_pos e, if_neg (fun z => hk (e.trans z))]
    · rw [valV_neg e, valV_neg e, ih]
theorem length_putK (kvs : List (κ × V)) (k : κ) (v : V) : (putK kvs k v).length ≤ kvs.length + 1 := by
  unfold putK
  split
  · rw [List.length_map]; omega
  · rw [List.length_append, List.length_cons, List.length_nil]; omega
theorem RelO.isSome_eq {o : Option V} {u : Option Value} (r : RelO o u) : o.isSome = u.isSome := by
  cases o with
  | none => cases u with
    | none => rfl
    | some _ => exact (show False from r).elim
  | some _ => cases u with
    | none => exact (show False from r).elim
    | some _ => rfl
theorem RelO.getD {o : Option V} {u : Option Value} {d : V} {d' : Value} (r : RelO o u) (rd : RelV d d') : RelV (o.getD d) (u.getD d') := by
  cases o with
  | none => cases u with
    | none => exact rd
    | some _ => exact (show False from r).elim
  | some _ => cases u with
    | none => exact (show False from r).elim
    | some _ => exact r
theorem KV.val {kvs : List (κ × V)} {vs : List (κ × Value)} (r : KV kvs vs) (k : κ) : RelO (valV kvs k) (valueAt vs k) := by
  unfold KV at r
  induction r with
  | nil => exact True.intro
  | @cons p q ps qs h t ih =>
    obtain ⟨h1, h2⟩ := h
    by_cases e : p.1 = k
    · have e' : q.1 = k := h1.symm.trans e
      have b : valueAt (q :: qs) k = some q.2 := by simp [valueAt, List.find?_cons, e']
      rw [valV_pos e, b]; exact h2
    · have e' : ¬ q.1 = k := fun z => e (h1.trans z)
      have b : valueAt (q :: qs) k = valueAt qs k := by simp [valueAt, List.find?_cons, e']
      rw [valV_neg e, b]; exact ih
theorem KV.any {kvs : List (κ × V)} {vs : List (κ × Value)} (r : KV kvs vs) (k : κ) : (kvs.any fun kv => decide (kv.1 = k)) = vs.any fun kv => decide (kv.1 = k) := by
  unfold KV at r
  induction r with
  | nil => rfl
  | cons h t ih => rw [List.any_cons, List.any_cons, ih, h.1]
theorem KV.repl {kvs : List (κ × V)} {vs : List (κ × Value)} (r : KV kvs vs) (k : κ) {y : V} {u : Value} (ry : RelV y u) :
    KV (kvs.map fun kv => if kv.1 = k then (kv.1, y) else kv) (vs.map fun kv => if kv.1 = k then (kv.1, u) else kv) := by
  unfold KV at r ⊢
  induction r with
  | nil => exact .nil
  | @cons p q ps qs h t ih =>
    rw [List.map_cons, List.map_cons]
    refine .cons ?_ ih
    obtain ⟨h1, h2⟩ := h
    by_cases e : p.1 = k
    · rw [if_pos e, if_pos (h1.symm.trans e)]; exact ⟨h1, ry⟩
    · rw [if_neg e, if_neg (fun z => e (h1.trans z))]; exact ⟨h1, h2⟩
theorem KV.put {kvs : List (κ × V)} {vs : List (κ × Value)} (r : KV kvs vs) (k : κ) {y : V} {u : Value} (ry : RelV y u) : KV (putK kvs k y) (stored vs k u) := by
  unfold putK stored
  rw [r.any k]
  by_cases e : (vs.any fun kv => decide (kv.1 = k)) = true
  · rw [if_pos e, if_pos e]; exact r.repl k ry
  · rw [if_neg e, if_neg e]; exact Paired.snoc r ⟨rfl, ry⟩
theorem KV.drop {kvs : List (κ × V)} {vs : List (κ × Value)} (r : KV kvs vs) (k : κ) : KV (dropK kvs k) (without vs k) := by
  unfold KV at r ⊢
  unfold dropK without
  induction r with
  | nil => exact .nil
  | @cons p q ps qs h t ih =>
    obtain ⟨h1, h2⟩ := h
    rw [List.filter_cons, List.filter_cons]
    by_cases e : p.1 = k
    · have a : ¬ decide (p.1 ≠ k) = true := by simp [e]
      have b : ¬ decide (q.1 ≠ k) = true := by simp [h1.symm.trans e]
      rw [if_neg a, if_neg b]; exact ih
    · have e' : ¬ q.1 = k := fun z => e (h1.trans z)
      have a : decide (p.1 ≠ k) = true := by simp [e]
      have b : decide (q.1 ≠ k) = true := by simp [e']
      rw [if_pos a, if_pos b]; exact .cons ⟨h1, h2⟩ ih
theorem KV.keys {kvs : List (κ × V)} {vs : List (κ × Value)} (r : KV kvs vs) : kvs.map (·.1) = vs.map (·.1) := by
  unfold KV at r
  induction r with
  | nil => rfl
  | cons h t ih => rw [List.map_cons, List.map_cons, ih, h.1]
theorem KV.length {kvs : List (κ × V)} {vs : List (κ × Value)} (r : KV kvs vs) : kvs.length = vs.length := Paired.length r
end
theorem kV_is {P : Program} {w : World} {k : Key} {u : Value} (r : RelV (kV k) u) : (mixKind P w).is k u = true := by
  cases k with
  | inl i => obtain ⟨t, e⟩ := (show ∃ t, u = Value.int i t from r); subst e; exact mixKind_int P w i t
  | inr x => obtain ⟨t, e⟩ := (show ∃ t, u = Value.str x t from r); subst e; exact mixKind_str P w x t
theorem kV_inj {a b : Key} (e : kV a = kV b) : a = b := by
  cases a with
  | inl i => cases b with
    | inl j => have e' : V.int i = V.int j := e; injection e' with e'; rw [e']
    | inr y => exact nomatch (show V.int i = V.str y from e)
  | inr x => cases b with
    | inl j => exact nomatch (show V.str x = V.int j from e)
    | inr y => have e' : V.str x = V.str y := e; injection e' with e'; rw [e']
theorem kVs_inj : ∀ {a b : List Key}, a.map kV = b.map kV → a = b
  | [], [], _ => rfl
  | [], _ :: _, e => by simp at e
  | _ :: _, [], e => by simp at e
  | x :: xs, y :: ys, e => by
    rw [List.map_cons, List.map_cons] at e
    injection e with e1 e2
    rw [kV_inj e1, kVs_inj e2]
theorem items_are {P : Program} {w : World} : ∀ {ks : List Key} {us : List Value}, Vals (ks.map kV) us → ItemsAre (mixKind P w) ks us
  | [], _, r => by rw [List.map_nil] at r; cases r; exact .nil
  | k :: ks, _, r => by
    rw [List.map_cons] at r
    cases r with
    | cons h t => exact .cons (kV_is h) (items_are t)
abbrev KT (H : Hp) : List (List Key × V) → List (List Key × Addr × Value) → Prop := Paired fun p q => p.1 = q.1 ∧ H q.2.1 = some (.tup (p.1.map kV)) ∧ RelV p.2 q.2.2
theorem KT.val {H : Hp} {kvs : List (List Key × V)} {xs : List (List Key × Addr × Value)} (r : KT H kvs xs) (k : List Key) : RelO (valV kvs k) ((atKey xs k).map (·.2)) := by
  induction r with
  | nil => exact True.intro
  | @cons p q ps qs h t ih =>
    obtain ⟨h1, _, h2⟩ := h
    by_cases e : p.1 = k
    · have e' : q.1 = k := h1.symm.trans e
      have b : atKey (q :: qs) k = some q.2 := by simp [atKey, List.find?_cons, e']
      rw [valV_pos e, b]; exact h2
    · have e' : ¬ q.1 = k := fun z => e (h1.trans z)
      have b : atKey (q :: qs) k = atKey qs k := by simp [atKey, List.find?_cons, e']
      rw [valV_neg e, b]; exact ih
theorem KT.repl {H : Hp} {kvs : List (List Key × V)} {xs : List (List Key × Addr × Value)} (r : KT H kvs xs) (k : List Key) {y : V} {u : Value} (ry : RelV y u) :
    KT H (kvs.map fun kv => if kv.1 = k then (kv.1, y) else kv) (xs.map (putAt k u)) := by
  induction r with
  | nil => exact .nil
  | @cons p q ps qs h t ih =>
    rw [List.map_cons, List.map_cons]
    refine .cons ?_ ih
    obtain ⟨h1, h2, h3⟩ := h
    unfold putAt
    by_cases e : p.1 = k
    · rw [if_pos e, if_pos (h1.symm.trans e)]; exact ⟨h1, h2, ry⟩
    · rw [if_neg e, if_neg (fun z => e (h1.trans z))]; exact ⟨h1, h2, h3⟩
theorem KT.put {H : Hp} {kvs : List (List Key × V)} {xs : List (List Key × Addr × Value)} (r : KT H kvs xs) (k : List Key) {b : Addr} {y : V} {u : Value} (hb : H b = some (.tup (k.map kV))) (ry : RelV y u) :
    KT H (putK kvs k y) (storedH xs k b u) := by
  have e : (kvs.any fun kv => decide (kv.1 = k)) = (atKey xs k).isSome := by
    rw [valV_any, (r.val k).isSome_eq, Option.isSome_map]
  unfold putK storedH
  rw [e]
  by_cases q : (atKey xs k).isSome = true
  · rw [if_pos q, if_pos q]; exact r.repl k ry
  · rw [if_neg q, if_neg q]; exact Paired.snoc r ⟨rfl, hb, ry⟩
theorem KT.keeps {H H' : Hp} {kvs : List (List Key × V)} {xs : List (List Key × Addr × Value)} (r : KT H kvs xs) (ht : ∀ b ys, H b = some (.tup ys) → H' b = some (.tup ys)) : KT H' kvs xs :=
  Paired.mapP r fun _ _ z => ⟨z.1, ht _ _ z.2.1, z.2.2⟩
section
variable {P : Program} {w : World} {H : Hp} {h : Heap} {a : Addr}
theorem rd_of {u : HO} (ok : HOk P w H h) (e : Rd H a u) : ObjOk P w H h a u := e.ok ok
theorem dk_rd {kvs : List (Key × V)} (ok : HOk P w H h) (e : Rd H a (.dK kvs)) : kvs.length ≤ sizeLine ∧ (a == sysModules) = false ∧ ∃ vs, KV kvs vs ∧ h.DictOf (mixKind P w) a vs :=
  show ObjOk P w H h a (.dK kvs) from rd_of ok e
theorem dk_of {kvs : List (Key × V)} (ok : HOk P w H h) (e : H a = some (.dK kvs)) : kvs.length ≤ sizeLine ∧ (a == sysModules) = false ∧ ∃ vs, KV kvs vs ∧ h.DictOf (mixKind P w) a vs := dk_rd ok (.inl e)
theorem key_of {ks : List Key} (ok : HOk P w H h) (e : H a = some (.tup (ks.map kV))) : (tupleKind (mixKind P w)).is h ks a := by
  obtain ⟨_, its, r, o, h1, h2, n, h3⟩ := (show ObjOk P w H h a (.tup (ks.map kV)) from ok a _ e)
  exact ⟨o, its.toArray, n, h1, h2, h3, by simpa using items_are r⟩
theorem dt_rd {kvs : List (List Key × V)} (ok : HOk P w H h) (e : Rd H a (.dT kvs)) : kvs.length ≤ sizeLine ∧ (a == sysModules) = false ∧
    ∃ xs, KT H kvs xs ∧ h.DictOfH (tupleKind (mixKind P w)) a xs := by
  obtain ⟨z, y, xs, r, o, es, ep, h1, h2, h3, h4, h5⟩ := (show ObjOk P w H h a (.dT kvs) from rd_of ok e)
  refine ⟨z, y, xs, r, o, es, ep, h1, h2, h3, h4, fun x hx => ?_, h5⟩
  have all : ∀ {l : List (List Key × V)} {m : List (List Key × Addr × Value)}, KT H l m → ∀ x ∈ m, (tupleKind (mixKind P w)).is h x.1 x.2.1 := by
    intro l m q
    induction q with
    | nil => intro x hx; exact nomatch hx
    | @cons p q ps qs hq t ih =>
      intro x hx
      rcases List.mem_cons.mp hx with e | hx
      · subst e
        exact key_of ok (by rw [← hq.1]; exact hq.2.1)
      · exact ih x hx
  exact all r x hx
theorem dt_of {kvs : List (List Key × V)} (ok : HOk P w H h) (e : H a = some (.dT kvs)) : kvs.length ≤ sizeLine ∧ (a == sysModules) = false ∧
    ∃ xs, KT H kvs xs ∧ h.DictOfH (tupleKind (mixKind P w)) a xs := dt_rd ok (.inl e)
end
def DGet (H : Hp) (a : Addr) (y : V) (r : Option V) : Prop :=
  (∃ kvs k, Rd H a (.dK kvs) ∧ y = kV k ∧ r = valV kvs k) ∨ ∃ kvs k b, Rd H a (.dT kvs) ∧ y = .ref b ∧ H b = some (.tup (k.map kV)) ∧ r = valV kvs k
def DPut (H : Hp) (a : Addr) (y v : V) (H' : Hp) : Prop :=
  (∃ kvs k, H a = some (.dK kvs) ∧ y = kV k ∧ kvs.length < sizeLine ∧ H' = upd H a (.dK (putK kvs k v))) ∨
  ∃ kvs k b, H a = some (.dT kvs) ∧ y = .ref b ∧ H b = some (.tup (k.map kV)) ∧ kvs.length < sizeLine ∧ H' = upd H a (.dT (putK kvs k v))
theorem DGet.k {H : Hp} {a : Addr} {kvs : List (Key × V)} {k : Key} (e : H a = some (.dK kvs)) : DGet H a (kV k) (valV kvs k) := .inl ⟨kvs, k, .inl e, rfl, rfl⟩
theorem DGet.t {H : Hp} {a b : Addr} {kvs : List (List Key × V)} {k : List Key} (e : H a = some (.dT kvs)) (eb : H b = some (.tup (k.map kV))) : DGet H a (.ref b) (valV kvs k) := .inr ⟨kvs, k, b, .inl e, rfl, eb, rfl⟩
theorem DPut.k {H : Hp} {a : Addr} {kvs : List (Key × V)} {k : Key} {v : V} (e : H a = some (.dK kvs)) (hl : kvs.length < sizeLine) : DPut H a (kV k) v (upd H a (.dK (putK kvs k v))) := .inl ⟨kvs, k, e, rfl, hl, rfl⟩
theorem DPut.t {H : Hp} {a b : Addr} {kvs : List (List Key × V)} {k : List Key} {v : V} (e : H a = some (.dT kvs)) (eb : H b = some (.tup (k.map kV))) (hl : kvs.length < sizeLine) :
    DPut H a (.ref b) v (upd H a (.dT (putK kvs k v))) := .inr ⟨kvs, k, b, e, rfl, eb, hl, rfl⟩
section
variable {X : Cx} {pins : List (Addr × Obj)} {σ : St} {H : Hp} {s : Shared} {a : Addr} {y v : V} {u r : Value} {o : Option V} {A : Around} {E : Value → Shared → Prop}
theorem Inv.big (I : Inv X pins σ H s) : sysModules < s.heap.objs.size := by
  have h : mainGlobals < s.heap.objs.size := (I.mod.glob.keeps I.bk).lt
  exact Nat.lt_trans (by decide) h
theorem d_getItem {Q : Value → Shared → Prop} (hu : A.units + 1 < cLine) (I : Inv X pins σ H s) (g : DGet H a y (some v)) (ry : RelV y u) (h : ∀ w' s', Inv X pins σ H s' → RelV v w' → Q w' s') :
    wpAny (model X.prog X.w) A (getItem (.ref a) u) Q E s := by
  rcases g with ⟨kvs, k, e, ey, l⟩ | ⟨kvs, k, b, e, ey, eb, l⟩
  · subst ey
    obtain ⟨z, hd, vs, rel, dd⟩ := dk_rd I.hok e
    obtain ⟨w', hw, rw'⟩ := RelO.some_of (v := v) (o := valueAt vs k) (by rw [l]; exact rel.val k)
    exact wpAny_getItem_of (kV_is ry) dd.mapOf hw (h w' _ (I.tok _) rw')
  · subst ey
    cases (show u = Value.ref b from ry)
    obtain ⟨z, hd, xs, rel, dd⟩ := dt_rd I.hok e
    obtain ⟨w', hw, rw'⟩ := RelO.some_of (v := v) (o := (atKey xs k).map (·.2)) (by rw [l]; exact rel.val k)
    obtain ⟨p, hp, hp2⟩ := Option.map_eq_some_iff.mp hw
    refine wpAny_getItem_heap (tupleKind_room_in1 hu) (key_of I.hok eb) dd hp ?_
    rw [hp2]
    exact h w' _ (I.tok _) rw'
theorem d_in {Q : Value → Shared → Prop} (hu : A.units + 1 < cLine) (I : Inv X pins σ H s) (g : DGet H a y o) (ry : RelV y u) (h : ∀ s', Inv X pins σ H s' → Q (.bool o.isSome) s') :
    wpAny (model X.prog X.w) A (compareOp .In u (.ref a)) Q E s := by
  rcases g with ⟨kvs, k, e, ey, l⟩ | ⟨kvs, k, b, e, ey, eb, l⟩
  · subst ey
    obtain ⟨z, hd, vs, rel, dd⟩ := dk_rd I.hok e
    refine wpAny_in_of (kV_is ry) hd dd.mapOf ?_
    rw [← (rel.val k).isSome_eq, ← l]
    exact h _ (I.tok _)
  · subst ey
    cases (show u = Value.ref b from ry)
    obtain ⟨z, hd, xs, rel, dd⟩ := dt_rd I.hok e
    refine wpAny_in_heap (tupleKind_room_in1 hu) (key_of I.hok eb) hd dd ?_
    have q := (rel.val k).isSome_eq
    rw [Option.isSome_map] at q
    rw [← q, ← l]
    exact h _ (I.tok _)
theorem d_notIn {Q : Value → Shared → Prop} (hu : A.units + 1 < cLine) (I : Inv X pins σ H s) (g : DGet H a y o) (ry : RelV y u) (h : ∀ s', Inv X pins σ H s' → Q (.bool (!o.isSome)) s') :
    wpAny (model X.prog X.w) A (compareOp .NotIn u (.ref a)) Q E s := by
  rcases g with ⟨kvs, k, e, ey, l⟩ | ⟨kvs, k, b, e, ey, eb, l⟩
  · subst ey
    obtain ⟨z, hd, vs, rel, dd⟩ := dk_rd I.hok e
    refine wpAny_notIn_of (kV_is ry) hd dd.mapOf ?_
    rw [← (rel.val k).isSome_eq, ← l]
    exact h _ (I.tok _)
  · subst ey
    cases (show u = Value.ref b from ry)
    obtain ⟨z, hd, xs, rel, dd⟩ := dt_rd I.hok e
    refine wpAny_notIn_heap (tupleKind_room_in1 hu) (key_of I.hok eb) hd dd ?_
    have q := (rel.val k).isSome_eq
    rw [Option.isSome_map] at q
    rw [← q, ← l]
    exact h _ (I.tok _)
theorem d_write {h' : Heap} {t' : Nat} {ob : HO} (I : Inv X pins σ H s) (mu : Mut (H a)) (hs : Heap.SameBut a s.heap h') (he : ∃ q, h'.get? a = some q) (new : ObjOk X.prog X.w (upd H a ob) h' a ob) :
    Inv X pins σ (upd H a ob) { s with heap := h', toks := t' } :=
  I.write (x := a) (e := a) mu (.inl rfl) (fun b q hb z => (hs.2 b hb).trans z) he new
theorem dk_new {P : Program} {w : World} {H' : Hp} {h' : Heap} {kvs : List (Key × V)} {vs : List (Key × Value)} (z : kvs.length ≤ sizeLine) (hd : (a == sysModules) = false) (rel : KV kvs vs) (dd : h'.DictOf (mixKind P w) a vs) :
    ObjOk P w H' h' a (.dK kvs) := ⟨z, hd, vs, rel, dd⟩
theorem d_setItem {H' : Hp} {Q : Unit → Shared → Prop} (hu : A.units + 1 < cLine) (I : Inv X pins σ H s) (g : DPut H a y v H') (ry : RelV y u) (rv : RelV v r) (h : ∀ s', Inv X pins σ H' s' → Q () s') :
    wpAny (model X.prog X.w) A (setItem (.ref a) u r) Q E s := by
  rcases g with ⟨kvs, k, e, ey, l, eH⟩ | ⟨kvs, k, b, e, ey, eb, l, eH⟩
  · subst ey eH
    obtain ⟨z, hd, vs, rel, dd⟩ := dk_of I.hok e
    have hz : vs.length ≤ sizeLine := by rw [← rel.length]; exact z
    have hl : (putK kvs k v).length ≤ sizeLine := by have := length_putK kvs k v; omega
    refine wpAny_setItem_pairs (hsz := hz) (kV_is ry) dd fun h' dd' hs => h _ ?_
    have he : ∃ q, h'.get? a = some q := let ⟨q, _, _, hq, _⟩ := dd'; ⟨q, hq⟩
    exact d_write I (by rw [e]; exact True.intro) hs he (dk_new hl hd (rel.put k rv) dd')
  · subst ey eH
    cases (show u = Value.ref b from ry)
    obtain ⟨z, hd, xs, rel, dd⟩ := dt_of I.hok e
    have hz : xs.length ≤ sizeLine := by rw [← Paired.length rel]; exact z
    have hl : (putK kvs k v).length ≤ sizeLine := by have := length_putK kvs k v; omega
    refine wpAny_setItem_heap (hsz := hz) (tupleKind_room_in1 hu) (key_of I.hok eb) dd fun h' dd' hs => h _ ?_
    obtain ⟨q, es, ep, hq, h2, h3, h4, _, h5⟩ := dd'
    refine d_write I (by rw [e]; exact True.intro) hs ⟨q, hq⟩ ⟨hl, hd, _, (rel.put k eb rv).keeps fun c ys ec => ?_, q, es, ep, hq, h2, h3, h4, h5⟩
    rw [upd_ne (ne_of ec e (fun z => nomatch z))]
    exact ec
end
section
variable {X : Cx} {pins : List (Addr × Obj)} {σ : St} {H : Hp} {s : Shared} {a : Addr} {kvs : List (Key × V)} {k : Key} {u : Value} {A : Around} {E : Value → Shared → Prop}
theorem d_len {Q : Value → Shared → Prop} (I : Inv X pins σ H s) (e : Rd H a (.dK kvs)) (h : ∀ t s', Inv X pins σ H s' → Q (.int kvs.length t) s') : wpAny (model X.prog X.w) A (call (.builtin "len") [.ref a]) Q E s := by
  obtain ⟨z, hd, vs, rel, dd⟩ := dk_rd I.hok e
  refine call_len_dict hd dd (by rw [← rel.length]; rw [sizeLine_eq] at z; omega) ?_
  rw [← rel.length]
  exact h _ _ (I.tok _)
end
def NoSl (i : Expr) : Prop := ∀ ov iv, subscripted i false ov iv = operate [ov, iv] (getItem ov iv)
theorem subD_of {prog : Program} {w : World} {A : Around} {E : Value → Shared → Prop} {s : Shared} {env : Env} {value slice : Expr} {pos : Pos} {T id : String} {Q : Value → Shared → Prop}
    (hl : typeLookup (.type T) "__getitem__" = pure (some (.builtin id))) (hs : NoSl slice)
    (h : wpAny (model prog w) A (eval value env) (fun o s₁ => wpAny (model prog w) A (eval slice env) (fun i s₂ => s₂.TypeIs o T ∧ wpAny (model prog w) A (getItem o i) Q E s₂) E s₁) E s) :
    wpAny (model prog w) A (eval (.Subscript value slice pos) env) Q E s := by
  refine Subscript_ (wpAny_mono h (fun o s₁ h₁ => wpAny_mono h₁ (fun i s₂ h₂ => ?_) fun _ _ x => x) fun _ _ x => x)
  obtain ⟨hT, h₂⟩ := h₂
  unfold subscriptTail
  refine wpAny_bind ?_
  rw [getitemInPython_of_ne hT.not_modules]
  refine wpAny_bind (wpAny_specialOf hT hl ?_)
  have fin : wpAny (model prog w) A (subscripted slice false o i) (fun r s₃ => wpAny (model prog w) A (letTemporaryGo value o r >>= fun _ => pure r) Q E s₃) E s₂ := by
    rw [hs o i]
    exact wpAny_operating (wpAny_mono h₂ (fun r s₃ h₃ => wpAny_bind (wpAny_letTemporaryGo (wpAny_pure h₃))) fun _ _ x => x)
  first
    | exact wpAny_pure (wpAny_bind fin)
    | exact wpAny_bind (wpAny_pure (wpAny_bind fin))
    | exact wpAny_bind fin
theorem dict_typeIs {X : Cx} {pins : List (Addr × Obj)} {σ : St} {H : Hp} {s : Shared} {a : Addr} {y : V} {o : Option V} (I : Inv X pins σ H s) (g : DGet H a y o) : s.TypeIs (.ref a) "dict" := by
  rcases g with ⟨kvs, k, e, _, _⟩ | ⟨kvs, k, b, e, _, _, _⟩
  · obtain ⟨_, _, vs, _, dd⟩ := dk_rd I.hok e
    exact dd.typeIs
  · obtain ⟨_, _, xs, _, dd⟩ := dt_rd I.hok e
    exact dd.typeIs
def tDGet (td ty : TE) : TE := fun σ H Q => td σ H fun x H1 => ty σ H1 fun y H2 => ∃ a v, x = .ref a ∧ DGet H2 a y (some v) ∧ Q v H2
def tDIn (ty td : TE) : TE := fun σ H Q => ty σ H fun y H1 => td σ H1 fun x H2 => ∃ a o, x = .ref a ∧ DGet H2 a y o ∧ Q (.bl o.isSome) H2
def tDNotIn (ty td : TE) : TE := fun σ H Q => ty σ H fun y H1 => td σ H1 fun x H2 => ∃ a o, x = .ref a ∧ DGet H2 a y o ∧ Q (.bl (!o.isSome)) H2
def sDPut (td ty tv : TE) : TS := fun D σ H => tv σ H fun v H1 => td σ H1 fun x H2 => ty σ H2 fun y H3 => ∃ a H4, x = .ref a ∧ DPut H3 a y v H4 ∧ D.nx σ H4
def sDAug (td ty tv : TE) (rd : V → V → Hp → VK → Prop) : TS := fun D σ H => td σ H fun x H1 => ty σ H1 fun y H2 => ∃ a v, x = .ref a ∧ DGet H2 a y (some v) ∧
  tv σ H2 fun y2 H3 => rd v y2 H3 fun z H4 => ∃ H5, DPut H4 a y z H5 ∧ D.nx σ H5
def sDDel (td ty : TE) : TS := fun D σ H => td σ H fun x H1 => ty σ H1 fun y H2 => ∃ a kvs k, x = .ref a ∧ H2 a = some (.dK kvs) ∧ y = kV k ∧ (valV kvs k).isSome = true ∧ D.nx σ (upd H2 a (.dK (dropK kvs k)))
section
variable {X : Cx} {o i e value : Expr} {pos pos' tpos : Pos} {td ty tv : TE}
end
theorem dk_empty {P : Program} {w : World} {H : Hp} (h : Heap) (hb : sysModules < h.objs.size) : ObjOk P w H (h.push { cls := .type "dict", data := .dict #[] }) h.objs.size (.dK []) :=
  ⟨Nat.zero_le _, beq_eq_false_iff_ne.mpr (Ne.symm (Nat.ne_of_lt hb)), [], .nil, Heap.DictOf.new h⟩
def tDNewK : TE := fun _ H Q => ∀ p, H p = none → Q (.ref p) (upd H p (.dK []))
def tDNewT : TE := fun _ H Q => ∀ p, H p = none → Q (.ref p) (upd H p (.dT []))
section
variable {X : Cx} {pos : Pos}
theorem pe_dnewK : PE X (.Dict [] [] pos) tDNewK := fun pins s σ H Q I h =>
  wpAny_Dict_empty ⟨.ref s.heap.objs.size, _, I.laid (a := s.heap.objs.size) (o := .dK []) (t' := s.toks) (fun _ _ q => Heap.get?_push_of_some _ q) (Nat.le_refl _) (dk_empty s.heap I.big), rfl, h _ (I.hok.fresh (Nat.le_refl _))⟩
end
def tPairs : List (TE × TE) → St → Hp → (List (V × V) → Hp → Prop) → Prop
  | [], _, H, Q => Q [] H
  | (tk, tv) :: r, σ, H, Q => tk σ H fun x H1 => tv σ H1 fun y H2 => tPairs r σ H2 fun ps H3 => Q ((x, y) :: ps) H3
abbrev VV : List (V × V) → List (Value × Value) → Prop := Paired fun p q => RelV p.1 q.1 ∧ RelV p.2 q.2
def PPs (X : Cx) (pos : Pos) (keys : List (Option Expr)) (values : List Expr) (trs : List (TE × TE)) : Prop :=
  ∀ (pins : List (Addr × Obj)) (s : Shared) (σ : St) (H : Hp) (Q : List (V × V) → Hp → Prop), Inv X pins σ H s → tPairs trs σ H Q →
    wpAny (model X.prog X.w) X.A (evalPairs (pairTrees keys values X.env pos)) (fun vs s' => ∃ ps H', Inv X pins σ H' s' ∧ VV ps vs ∧ Q ps H') X.xe s
theorem pps_nil {X : Cx} {pos : Pos} : PPs X pos [] [] [] := fun pins s σ H Q I h => pairTrees_nil_walk ⟨[], H, I, .nil, h⟩
theorem pps_cons {X : Cx} {pos : Pos} {k v : Expr} {ks : List (Option Expr)} {vs : List Expr} {tk tv : TE} {trs : List (TE × TE)} (hk : PE X k tk) (hv : PE X v tv) (hr : PPs X pos ks vs trs) :
    PPs X pos (some k :: ks) (v :: vs) ((tk, tv) :: trs) := fun pins s σ H Q I h =>
  pairTrees_cons_walk (thn (hk pins s σ H _ I h) fun u s1 ⟨x, H1, I1, rx, q1⟩ => thn (hv pins s1 σ H1 _ I1 q1) fun w2 s2 ⟨y, H2, I2, ry, q2⟩ =>
    thn (hr pins s2 σ H2 _ I2 q2) fun ws s3 ⟨ps, H3, I3, rel, q3⟩ => ⟨(x, y) :: ps, H3, I3, .cons ⟨rx, ry⟩ rel, q3⟩)
def mergeK (kvs more : List (Key × V)) : List (Key × V) := more.foldl (fun acc kv => putK acc kv.1 kv.2) kvs
theorem KV.merge : ∀ {more : List (Key × V)} {rs : List (Key × Value)} {kvs : List (Key × V)} {vs : List (Key × Value)}, KV more rs → KV kvs vs → KV (mergeK kvs more) (merged vs rs) := by
  intro more rs kvs vs r
  unfold KV at r
  induction r generalizing kvs vs with
  | nil => intro q; exact q
  | @cons p q ps qs h t ih =>
    intro r0
    have e : KV (putK kvs p.1 p.2) (stored vs q.1 q.2) := by
      have := r0.put p.1 h.2
      rw [← h.1]; exact this
    exact ih e
theorem length_mergeK : ∀ (more kvs : List (Key × V)), (mergeK kvs more).length ≤ kvs.length + more.length
  | [], kvs => by show kvs.length ≤ kvs.length + 0; omega
  | p :: r, kvs => by
    have h1 := length_mergeK r (putK kvs p.1 p.2)
    have h2 := length_putK kvs p.1 p.2
    show (mergeK (putK kvs p.1 p.2) r).length ≤ _
    rw [List.length_cons]; omega
theorem carries_of {P : Program} {w : World} : ∀ {kvs : List (Key × V)} {ws : List (Value × Value)}, VV (kvs.map fun kv => (kV kv.1, kv.2)) ws → ∃ rs, Carries (mixKind P w) ws rs ∧ KV kvs rs
  | [], _, r => by rw [List.map_nil] at r; cases r; exact ⟨[], True.intro, .nil⟩
  | p :: kvs, _, r => by
    rw [List.map_cons] at r
    cases r with
    | @cons a b as bs h t =>
      obtain ⟨rs, c, q⟩ := carries_of (P := P) (w := w) t
      obtain ⟨b1, b2⟩ := b
      exact ⟨(p.1, b2) :: rs, ⟨kV_is h.1, rfl, c⟩, .cons ⟨rfl, h.2⟩ q⟩
def tDisp (trs : List (TE × TE)) : TE := fun σ H Q => ∀ p, H p = none → tPairs trs σ (upd H p (.dK [])) fun ps H2 => H2 p = some (.dK []) ∧ ∃ kvs : List (Key × V), ps = kvs.map (fun kv => (kV kv.1, kv.2)) ∧ kvs.length ≤ 15 ∧ Q (.ref p) (upd H2 p (.dK (mergeK [] kvs)))
structure M1 (X : Cx) (o : Expr) (m : Str) (apos : Pos) (e : Expr) (cpos : Pos) : Prop where
  base : attributeBase o m X.env (eval o X.env) = eval o X.env
  few : ((backTo cpos (starEach [e] X.env)).all (fun x => !x.1) && (backToKw cpos (keywordEach [] X.env)).all (fun x => x.1.isSome)
    && decide (([e] : List Expr).length + ([] : List Keyword).length + (if ([] : List Keyword).isEmpty then 0 else 1) < 30)) = true
  line : (apos.endLine == cpos.line) = true
  trees : backTo cpos (starEach [e] X.env) = [(false, eval e X.env)]
structure M2 (X : Cx) (o : Expr) (m : Str) (apos : Pos) (e f : Expr) (cpos : Pos) : Prop where
  base : attributeBase o m X.env (eval o X.env) = eval o X.env
  few : ((backTo cpos (starEach [e, f] X.env)).all (fun x => !x.1) && (backToKw cpos (keywordEach [] X.env)).all (fun x => x.1.isSome)
    && decide (([e, f] : List Expr).length + ([] : List Keyword).length + (if ([] : List Keyword).isEmpty then 0 else 1) < 30)) = true
  line : (apos.endLine == cpos.line) = true
  trees : backTo cpos (starEach [e, f] X.env) = [(false, eval e X.env), (false, eval f X.env)]
def IsD (H : Hp) (a : Addr) : Prop := (∃ kvs, Rd H a (.dK kvs)) ∨ ∃ kvs, Rd H a (.dT kvs)
section
variable {X : Cx} {pins : List (Addr × Obj)} {σ : St} {H : Hp} {s : Shared} {a : Addr} {y d : V} {u r : Value} {o : Option V} {A : Around} {E : Value → Shared → Prop}
end
def tDGet1 (td ty : TE) : TE := fun σ H Q => td σ H fun x H1 => ∃ a, x = .ref a ∧ IsD H1 a ∧ ty σ H1 fun y H2 => ∃ o, DGet H2 a y o ∧ Q (o.getD .non) H2
def tDGet2 (td ty tx : TE) : TE := fun σ H Q => td σ H fun x H1 => ∃ a, x = .ref a ∧ IsD H1 a ∧ ty σ H1 fun y H2 => tx σ H2 fun z H3 => ∃ o, DGet H3 a y o ∧ Q (o.getD z) H3
def tDPop1 (td ty : TE) : TE := fun σ H Q => td σ H fun x H1 => ∃ a, x = .ref a ∧ IsD H1 a ∧ ty σ H1 fun y H2 => ∃ kvs k v, H2 a = some (.dK kvs) ∧ y = kV k ∧ valV kvs k = some v ∧ Q v (upd H2 a (.dK (dropK kvs k)))
def tDPop2 (td ty tx : TE) : TE := fun σ H Q => td σ H fun x H1 => ∃ a, x = .ref a ∧ IsD H1 a ∧ ty σ H1 fun y H2 => tx σ H2 fun z H3 => ∃ kvs k, H3 a = some (.dK kvs) ∧ y = kV k ∧
  (∀ v, valV kvs k = some v → Q v (upd H3 a (.dK (dropK kvs k)))) ∧ (valV kvs k = none → Q z H3)
section
variable {X : Cx} {o e f : Expr} {apos cpos : Pos} {td ty tx : TE}
end
section
variable {X : Cx} {pins : List (Addr × Obj)} {σ : St} {H : Hp} {s : Shared} {a : Addr} {kvs : List (Key × V)} {A : Around} {E : Value → Shared → Prop}
end
section
variable {X : Cx} {pins : List (Addr × Obj)} {σ : St} {H : Hp} {s : Shared} {a : Addr} {y : V} {u : Value} {A : Around} {E : Value → Shared → Prop}
end
end L2
namespace L2
open PySem PySem.Spec PyProof.Rows
theorem ud_entry : entryFor table "dict.update.loop" = some Builtin.«dict.update.loop» := entryFor_of_tree (by kernel_rfl)
theorem ud_plain : plainId "dict.update.loop" = true := by decide +kernel
section
variable {prog : Program} {w : World} {A : Around} {E : Value → Shared → Prop}
theorem upd_loop {R : Result → Shared → Prop} {S I l : Addr} {items : Array Value} {res : Value} (hh : A.handled = none) (hlI : l ≠ I) (hSI : S ≠ I) (hSl : S ≠ l) :
    ∀ (rest : List (Key × Value)) (i : Nat) (acc : List (Key × Value)) (ix : Int) (t : Tok) (s : Shared), items.size = i + rest.length → acc.length + rest.length ≤ sizeLine →
      (∀ (j : Nat) (q : Key × Value), rest[j]? = some q → ∃ (b : Addr) (u : Value), items[i + j]? = some (.ref b) ∧ b ≠ S ∧ b ≠ I ∧ IsTup s.heap b #[u, q.2] ∧ keyIs q.1 u = true) →
      s.heap.IsListIter I l i → s.heap.IsList l items → s.heap.DictOf (mixKind prog w) S acc →
      (∀ h' tk, h'.DictOf (mixKind prog w) S (merged acc rest) → (∀ b o, b ≠ S → b ≠ I → s.heap.get? b = some o → h'.get? b = some o) → R (.ok (.ret res)) { s with heap := h', toks := tk }) →
      codeAny (model prog w) A (.builtin "dict.update.loop" ⟨[.ref S, .ref I, .int ix t, res], []⟩) R s
  | [], i, acc, ix, t, s, hsz, hln, ht, hit, hl, hm, hR => by
    refine codeAny_builtin ud_entry ?_
    rw [Around.under_plainId ud_plain _]
    show wpAny _ A.in1 (pyNext (.ref I) >>= _) _ _ s
    refine wpAny_bind (wpAny_pyNext_list_end (A := A.in1) hh hit hl (by first | exact Array.getElem?_eq_none (Nat.le_of_eq hsz) | (simp at hsz; simp; omega)) fun h' he => ?_)
    show wpAny _ A.in1 (Builtin.Dict.addKeywords S [] >>= _) _ _ _
    refine wpAny_bind (wpAny_pure (wpAny_pure ?_))
    exact hR h' s.toks (hm.extBut he hSI) fun b o _ hb e => he b o hb e
  | q :: rest, i, acc, ix, t, s, hsz, hln, ht, hit, hl, hm, hR => by
    obtain ⟨b, u, hb, hbS, hbI, htup, hk⟩ := ht 0 q rfl
    rw [List.length_cons] at hsz hln
    refine codeAny_builtin ud_entry ?_
    rw [Around.under_plainId ud_plain _]
    show wpAny _ A.in1 (pyNext (.ref I) >>= _) _ _ s
    refine wpAny_bind (wpAny_pyNext_list_item (x := .ref b) hit hl (by simpa using hb) fun h1 hit1 hs1 => ?_)
    have ht1 : IsTup h1 b #[u, q.2] := htup.extBut hs1.extBut hbI
    have hl1 : h1.IsList l items := hl.extBut hs1.extBut hlI
    have hm1 : h1.DictOf (mixKind prog w) S acc := hm.extBut hs1.extBut hSI
    obtain ⟨o, ho, hc, n, hd⟩ := id ht1
    show wpAny _ A.in1 (holding [Value.ref b] _ >>= _) _ _ _
    refine wpAny_bind (wpAny_holding ?_)
    refine wpAny_bind (wpAny_tryCatch ?_)
    unfold Builtin.Dict.pairItems
    refine wpAny_bind (wpAny_typeOf (T := "tuple") ⟨o, ho, hc⟩ ?_)
    rw [if_pos (by first | decide | rfl | simp)]
    refine wpAny_bind (wpAny_seqItems ho hd (wpAny_pure ?_))
    show wpAny _ A.in1 (holding [u, q.2] (dictSet S u q.2)) _ _ _
    refine wpAny_holding (wpAny_dictSet_pairs (knd := mixKind prog w) (k := q.1) hk hm1 (fun h2 hm2 hs2 => ?_) (by omega))
    refine wpAny_pure ⟨plainId_quiet ud_plain _, upd_loop (items := items) hh hlI hSI hSl rest (i + 1) (stored acc q.1 q.2) (ix + 1) 0 _ (show items.size = i + 1 + rest.length by omega) ?_ (fun j q' e => ?_) ?_ ?_ hm2 fun h' tk hd' k => ?_⟩
    · have z := stored_length_le acc q.1 q.2
      omega
    · obtain ⟨b', u', hb', hbS', hbI', htup', hk'⟩ := ht (j + 1) q' (by simpa using e)
      refine ⟨b', u', ?_, hbS', hbI', (htup'.extBut hs1.extBut hbI').extBut hs2.extBut hbS', hk'⟩
      rw [show i + 1 + j = i + (j + 1) by omega]
      exact hb'
    · exact hit1.at fun o' e => hs2.extBut I o' (Ne.symm hSI) e
    · exact hl1.extBut hs2.extBut (Ne.symm hSl)
    · exact hR h' tk hd' fun c oc h3 h4 e => k c oc h3 h4 (hs2.extBut c oc h3 (hs1.extBut c oc h4 e))
end
section
variable {X : Cx}
theorem pairs_of {pins : List (Addr × Obj)} {σ : St} {H : Hp} {s : Shared} (I : Inv X pins σ H s) : ∀ {ps : List Addr} {kvs : List (Key × V)}, Paired (fun p kv => SqT X.K H p [kV kv.1, kv.2]) ps kvs →
    ∃ prs : List (Key × Value), KV kvs prs ∧ prs.length = ps.length ∧ ∀ (j : Nat) (q : Key × Value), prs[j]? = some q → ∃ (b : Addr) (u : Value), ps[j]? = some b ∧ IsTup s.heap b #[u, q.2] ∧ keyIs q.1 u = true
  | _, _, .nil => ⟨[], .nil, rfl, fun j q e => by simp at e⟩
  | _, _, .cons (a := p) (b := kv) h t => by
    obtain ⟨prs, r, hl, hp⟩ := pairs_of I t
    obtain ⟨its, rv, ht, _⟩ := I.tuple h
    obtain ⟨u, y, ei, ru, ry⟩ := vals2 rv
    subst ei
    refine ⟨(kv.1, y) :: prs, .cons ⟨rfl, ry⟩ r, by rw [List.length_cons, List.length_cons, hl], fun j q e => ?_⟩
    cases j with
    | zero =>
      have e' : (kv.1, y) = q := Option.some.inj e
      subst e'
      exact ⟨p, u, rfl, ht, kV_is (P := X.prog) (w := X.w) ru⟩
    | succ j =>
      obtain ⟨b, u', e1, e2, e3⟩ := hp j q (by simpa using e)
      exact ⟨b, u', by simpa using e1, e2, e3⟩
theorem refs_at : ∀ {ps : List Addr} {us : List Value}, Vals (ps.map V.ref) us → us = ps.map Value.ref
  | [], us, r => by
    rw [List.map_nil] at r
    cases r
    rfl
  | p :: ps, us, r => by
    rw [List.map_cons] at r
    cases r with
    | cons h t =>
      cases h
      rw [List.map_cons, ← refs_at t]
end
end L2
namespace L2
open PySem PySem.Spec PyProof.Rows
section
variable {X : Cx} {pins : List (Addr × Obj)} {σ : St} {H : Hp} {s : Shared} {h' : Heap}
theorem Inv.turnedNew {t' : Nat} {ch : List Addr} {T : Addr} {ob : HO} (I : Inv X pins σ H s) (k : ∀ b o, b ∉ ch → s.heap.get? b = some o → h'.get? b = some o) (hf : ∀ b ∈ ch, FpOk X pins H b) (hT : s.heap.objs.size ≤ T)
    (new : ObjOk X.prog X.w (upd H T ob) h' T ob) : Inv X pins σ (upd H T ob) { s with heap := h', toks := t' } := by
  have hn : H T = none := I.hok.fresh hT
  have nit : ∀ b u, H b = some u → b ∉ ch := fun b u e z => by
    have q := (hf b z).1
    rw [q] at e; cases e
  refine I.step (g' := s.gens) (d' := s.drawn) (ch := ch) (fun b hb => ⟨(hf b hb).2.2.2.1, (hf b hb).2.1, (hf b hb).2.2.2.2.1, (hf b hb).2.2.2.2.2⟩) (fun b o _ _ hc e _ => k b o hc e) (fun b o _ _ hc e _ => ⟨o.slots, k b o hc e⟩)
    (fun b o _ e n => ?_) (fun b o hc e => ⟨o, k b o hc e⟩) (fun b xs e => ?_) (fun b o u e => ?_) (fun b ps e => ⟨#[], ?_⟩) (fun m hm => ?_) (fun b u e => ?_) I.bare
  · rw [upd_ne (Nat.ne_of_lt (Nat.lt_of_lt_of_le (Heap.lt_size e) hT))]; exact n
  · rw [upd_ne (ne_of_none e hn)]; exact e
  · rw [upd_ne (ne_of_none e hn)]; exact e
  · rw [upd_ne (ne_of_none e hn), e]; simp
  · obtain ⟨o, es, ep, ho, r⟩ := hm
    exact ⟨o, es, ep, k _ o (fun z => (hf _ z).2.1 rfl) ho, r⟩
  · by_cases hb : b = T
    · subst hb
      rw [upd_same] at e
      cases e
      exact new
    · rw [upd_ne hb] at e
      refine (I.hok b u e).stay (fun c v hc q => k c v ?_ q) (fun c q => by rw [upd_ne (ne_of_none q hn)]; exact q) fun c xs q => by rw [upd_ne (ne_of_none q hn)]; exact q
      rcases hc with z | z
      · rw [z]; exact nit b u e
      · exact nit c _ z
end
def tLock (t : TS) : TS := fun D σ H => ∃ d u, H d = some u ∧ Mut (some u) ∧ ∀ od, t ⟨fun σ' H' => H' d = some (.frz od u) ∧ D.nx σ' (upd H' d u), fun v H' => H' d = some (.frz od u) ∧ D.rt v (upd H' d u), fun σ' H' => H' d = some (.frz od u) ∧ D.bk σ' (upd H' d u), fun σ' H' => H' d = some (.frz od u) ∧ D.ct σ' (upd H' d u)⟩ σ (upd H d (.frz od u))
def tLockE (t : TE) : TE := fun σ H Q => ∃ d u, H d = some u ∧ Mut (some u) ∧ ∀ od, t σ (upd H d (.frz od u)) fun v H' => H' d = some (.frz od u) ∧ Q v (upd H' d u)
section
variable {X : Cx}
end
def Itc (lo c : Int) (n : Nat) : It := ⟨fun i _ => i < n, fun i H x H' => H' = H ∧ x = .int (lo + (i : Nat) * c), fun i _ => n ≤ i⟩
def RgC (i j c : Int) (n : Nat) : Prop := c ≠ 0 ∧ c.natAbs < 1073741824 ∧ Builtin.Range.small i j c = true ∧ Builtin.Range.rangeSize i j c = n
theorem RgC.neg {i j : Int} (ha : -(2 ^ 62) ≤ i) (ha' : i < 2 ^ 62) (hb : -(2 ^ 62) ≤ j) (hb' : j < 2 ^ 62) : RgC i j (-1) (i - j).toNat :=
  ⟨by decide, by decide, PySem.W.small_down ha ha' hb hb', PySem.W.rangeSize_downNat i j⟩
def iRng3 (ta : TA) : TI := fun σ H R => ta σ H fun vs H1 => ∃ (i j c : Int) (n : Nat), vs = [.int i, .int j, .int c] ∧ RgC i j c n ∧ R (Itc i c n) H1
section
variable {X : Cx} {tg : Expr}
end
def Itv (K : PySem.W.Frag) (a : Addr) (n : Nat) : It :=
  ⟨fun i H => i < n ∧ ∃ (xs : List V) (x : V), SqL K H a xs ∧ xs[n - 1 - i]? = some x, fun i H x H' => H' = H ∧ ∀ xs, SqL K H a xs → xs[n - 1 - i]? = some x, fun i _ => n ≤ i⟩
def iRev (K : PySem.W.Frag) (ta : TA) : TI := fun σ H R => ta σ H fun vs H1 => ∃ (a : Addr) (xs : List V), vs = [.ref a] ∧ SqL K H1 a xs ∧ R (Itv K a xs.length) H1
section
variable {X : Cx} {tg : Expr}
end
def Its (x : Str) : It := ⟨fun i _ => i < x.cps.size, fun i H v H' => H' = H ∧ ∃ c, x.cps[i]? = some c ∧ v = .str ⟨#[c]⟩, fun i _ => x.cps.size ≤ i⟩
def iStr (te : TE) : TI := fun σ H R => te σ H fun v H1 => ∃ x, v = .str x ∧ R (Its x) H1
section
variable {prog : Program} {w : World} {A : Around} {E : Value → Shared → Prop} {s : Shared}
end
section
variable {X : Cx} {pins : List (Addr × Obj)} {σ : St} {H : Hp} {s : Shared} {d : Addr} {o : Obj}
theorem Inv.frzK {kvs : List (Key × V)} (I : Inv X pins σ H s) (h : H d = some (.frz o (.dK kvs))) :
    (d == sysModules) = false ∧ s.heap.get? d = some o ∧ o.ExactDict ∧ ∃ (es : Array DictEntry) (ep : Nat) (vs : List (Key × Value)), o.data = .dict es ep ∧ es.size = kvs.length ∧ KV kvs vs ∧ s.heap.DictAt (mixKind X.prog X.w) d vs ep := by
  obtain ⟨hd, z, hs, vs, kv, o', es, ep, ho, hx, hdt, r⟩ := I.hok d _ h
  rw [hd] at ho
  cases ho
  refine ⟨hs, hd, hx, es, ep, vs, hdt, ?_, kv, o, es, hd, hx, hdt, r⟩
  have l1 := r.2.1.length
  have l2 : kvs.length = vs.length := Paired.length kv
  rw [Array.length_toList] at l1
  omega
end
def Itk (d : Addr) (o : Obj) (kvs : List (Key × V)) : It :=
  ⟨fun i H => H d = some (.frz o (.dK kvs)) ∧ i < kvs.length, fun i H x H' => H' = H ∧ ∃ k v, kvs[i]? = some (k, v) ∧ x = kV k, fun i H => H d = some (.frz o (.dK kvs)) ∧ kvs.length ≤ i⟩
def Itkt (d : Addr) (o : Obj) (kvs : List (List Key × V)) : It :=
  ⟨fun i H => H d = some (.frz o (.dT kvs)) ∧ i < kvs.length, fun i H x H' => H' = H ∧ ∃ (k : List Key) (v : V) (q : Addr), kvs[i]? = some (k, v) ∧ x = .ref q ∧ H q = some (.tup (k.map kV)), fun i H => H d = some (.frz o (.dT kvs)) ∧ kvs.length ≤ i⟩
def Itd (d : Addr) (o : Obj) (kvs : List (Key × V)) : It :=
  ⟨fun i H => H d = some (.frz o (.dK kvs)) ∧ i < kvs.length, fun i H x H' => H' = H ∧ ∃ k, kvs[i]? = some (k, x), fun i H => H d = some (.frz o (.dK kvs)) ∧ kvs.length ≤ i⟩
def Iti (d : Addr) (o : Obj) (kvs : List (Key × V)) : It :=
  ⟨fun i H => H d = some (.frz o (.dK kvs)) ∧ i < kvs.length, fun i H x H' => ∃ T k v, kvs[i]? = some (k, v) ∧ x = .ref T ∧ H T = none ∧ H' = upd H T (.tup [kV k, v]), fun i H => H d = some (.frz o (.dK kvs)) ∧ kvs.length ≤ i⟩
section
variable {P : Program} {w : World} {K : PySem.W.Frag} {tg : Expr} {d : Addr} {o : Obj} {es : Array DictEntry} {ep : Nat}
end
def iKeys (td : TE) : TI := fun σ H R => td σ H fun x H1 => ∃ d o, x = .ref d ∧ ((∃ kvs, H1 d = some (.frz o (.dK kvs)) ∧ R (Itk d o kvs) H1) ∨ ∃ kvs, H1 d = some (.frz o (.dT kvs)) ∧ R (Itkt d o kvs) H1)
def iVals (td : TE) : TI := fun σ H R => td σ H fun x H1 => ∃ d o kvs, x = .ref d ∧ H1 d = some (.frz o (.dK kvs)) ∧ R (Itd d o kvs) H1
def iItems (td : TE) : TI := fun σ H R => td σ H fun x H1 => ∃ d o kvs, x = .ref d ∧ H1 d = some (.frz o (.dK kvs)) ∧ R (Iti d o kvs) H1
def iKeysM (td : TE) : TI := fun σ H R => td σ H fun x H1 => ∃ d o kvs, x = .ref d ∧ H1 d = some (.frz o (.dK kvs)) ∧ R (Itk d o kvs) H1
section
variable {X : Cx} {tg e : Expr} {td : TE} {apos cpos : Pos}
end
def Ite (K : PySem.W.Frag) (a : Addr) : It :=
  ⟨fun i H => ∃ (xs : List V) (x : V), SqL K H a xs ∧ xs[i]? = some x, fun i H v H' => ∃ T x, v = .ref T ∧ H T = none ∧ H' = upd H T (.tup [.int (i : Nat), x]) ∧ ∀ xs, SqL K H a xs → xs[i]? = some x, fun i H => ∃ xs : List V, SqL K H a xs ∧ xs.length ≤ i⟩
def iEnum (K : PySem.W.Frag) (ta : TA) : TI := fun σ H R => ta σ H fun vs H1 => ∃ a xs, vs = [.ref a] ∧ SqL K H1 a xs ∧ R (Ite K a) H1
theorem boot_zip5 : bootBuiltins "zip" = some (.type "zip") := by decide +kernel
def Itz (K : PySem.W.Frag) (a b : Addr) : It :=
  ⟨fun i H => ∃ (xs ys : List V) (x y : V), SqL K H a xs ∧ SqL K H b ys ∧ xs[i]? = some x ∧ ys[i]? = some y,
    fun i H v H' => ∃ T x y, v = .ref T ∧ H T = none ∧ H' = upd H T (.tup [x, y]) ∧ (∀ xs, SqL K H a xs → xs[i]? = some x) ∧ ∀ ys, SqL K H b ys → ys[i]? = some y,
    fun i H => ∃ xs ys : List V, SqL K H a xs ∧ SqL K H b ys ∧ (xs.length ≤ i ∨ ys.length ≤ i)⟩
def iZip (K : PySem.W.Frag) (ta : TA) : TI := fun σ H R => ta σ H fun vs H1 => ∃ a b xs ys, vs = [.ref a, .ref b] ∧ SqL K H1 a xs ∧ SqL K H1 b ys ∧ R (Itz K a b) H1
end L2
section 
namespace Bits
open PySem PyProof.Rows
end Bits
end 
section 
namespace TL
open PySem PySem.Builtin PySem.Builtin.Str PySem.StrLaws
abbrev tl (x : Str) : List Nat := x.cps.toList
theorem len_tl (x : Str) : x.length = (tl x).length := by simp [tl, Str.length]
theorem ext_tl {x y : Str} (h : tl x = tl y) : x = y := Str.ext' (Array.toList_inj.mp h)
theorem tl_append (x y : Str) : tl (x ++ y) = tl x ++ tl y := by
  show (x ++ y).cps.toList = _
  rw [Str.cps_append, Array.toList_append]
theorem map_tl_inj : ∀ {l m : List Str}, l.map tl = m.map tl → l = m
  | [], [], _ => rfl
  | [], _ :: _, h => by simp at h
  | _ :: _, [], h => by simp at h
  | x :: l, y :: m, h => by
    rw [List.map_cons, List.map_cons] at h
    injection h with h1 h2
    rw [ext_tl h1, map_tl_inj h2]
def pre (S l : List Nat) : Bool := l.take S.length == S
def spl (S : List Nat) : Nat → List Nat → List Nat → List (List Nat)
  | _, acc, [] => [acc]
  | 0, acc, c :: r => if pre S (c :: r) = true then acc :: spl S (S.length - 1) [] r else spl S 0 (acc ++ [c]) r
  | k + 1, acc, _ :: r => spl S k acc r
def par (S : List Nat) : List Nat → List Nat → Option (List Nat × List Nat)
  | _, [] => none
  | acc, c :: r => if pre S (c :: r) = true then some (acc, (c :: r).drop S.length) else par S (acc ++ [c]) r
theorem spl_nil (S : List Nat) (k : Nat) (acc : List Nat) : spl S k acc [] = [acc] := by cases k <;> rfl
theorem spl_hit {S acc r : List Nat} {c : Nat} (h : pre S (c :: r) = true) : spl S 0 acc (c :: r) = acc :: spl S (S.length - 1) [] r := by
  show (if pre S (c :: r) = true then acc :: spl S (S.length - 1) [] r else spl S 0 (acc ++ [c]) r) = _
  rw [if_pos h]
theorem spl_miss {S acc r : List Nat} {c : Nat} (h : pre S (c :: r) = false) : spl S 0 acc (c :: r) = spl S 0 (acc ++ [c]) r := by
  show (if pre S (c :: r) = true then acc :: spl S (S.length - 1) [] r else spl S 0 (acc ++ [c]) r) = _
  rw [if_neg (by rw [h]; exact Bool.false_ne_true)]
theorem spl_pass (S : List Nat) : ∀ (k : Nat) (acc l : List Nat), spl S k acc l = spl S 0 acc (l.drop k)
  | 0, _, _ => by rw [List.drop_zero]
  | k + 1, acc, [] => by rw [List.drop_nil, spl_nil, spl_nil]
  | k + 1, acc, c :: r => by
    show spl S k acc r = spl S 0 acc (r.drop k)
    exact spl_pass S k acc r
theorem par_miss {S acc r : List Nat} {c : Nat} (h : pre S (c :: r) = false) : par S acc (c :: r) = par S (acc ++ [c]) r := by
  show (if pre S (c :: r) = true then some (acc, (c :: r).drop S.length) else par S (acc ++ [c]) r) = _
  rw [if_neg (by rw [h]; exact Bool.false_ne_true)]
theorem pre_nil {S : List Nat} (hS : S ≠ []) : pre S [] = false := by
  cases S with
  | nil => exact absurd rfl hS
  | cons s S => rfl
theorem pre_of_head {s c : Nat} (S r : List Nat) (h : c ≠ s) : pre (s :: S) (c :: r) = false := by
  cases hp : pre (s :: S) (c :: r) with
  | false => rfl
  | true =>
    have e : (c :: r).take (s :: S).length = s :: S := eq_of_beq hp
    rw [List.length_cons, List.take_succ_cons] at e
    injection e with e1 e2
    exact absurd e1 h
theorem pre_self (S r : List Nat) : pre S (S ++ r) = true := by
  show ((S ++ r).take S.length == S) = true
  have e : (S ++ r).take S.length = S := List.take_left
  rw [e] <;> exact beq_self_eq_true S
theorem getElem_drop_cons {L : List Nat} {a : Nat} (h : a < L.length) : ∃ c, L.drop a = c :: L.drop (a + 1) := ⟨L[a], List.drop_eq_getElem_cons h⟩
theorem spl_run (S L : List Nat) : ∀ (m a : Nat) (acc : List Nat), a + m ≤ L.length → (∀ k, a ≤ k → k < a + m → pre S (L.drop k) = false) →
    spl S 0 acc (L.drop a) = spl S 0 (acc ++ (L.drop a).take m) (L.drop (a + m))
  | 0, a, acc, _, _ => by rw [List.take_zero, List.append_nil, Nat.add_zero]
  | m + 1, a, acc, h, hn => by
    have hlt : a < L.length := by omega
    obtain ⟨c, e⟩ := getElem_drop_cons hlt
    have h0 := hn a (Nat.le_refl _) (by omega)
    have ih := spl_run S L m (a + 1) (acc ++ [c]) (by omega) (fun k h1 h2 => hn k (by omega) (by omega))
    have e2 : a + 1 + m = a + (m + 1) := by omega
    rw [e2] at ih
    rw [e] at h0
    rw [e, spl_miss h0, ih, List.take_succ_cons, List.append_assoc] <;> rfl
theorem par_run (S L : List Nat) : ∀ (m a : Nat) (acc : List Nat), a + m ≤ L.length → (∀ k, a ≤ k → k < a + m → pre S (L.drop k) = false) →
    par S acc (L.drop a) = par S (acc ++ (L.drop a).take m) (L.drop (a + m))
  | 0, a, acc, _, _ => by rw [List.take_zero, List.append_nil, Nat.add_zero]
  | m + 1, a, acc, h, hn => by
    have hlt : a < L.length := by omega
    obtain ⟨c, e⟩ := getElem_drop_cons hlt
    have h0 := hn a (Nat.le_refl _) (by omega)
    have ih := par_run S L m (a + 1) (acc ++ [c]) (by omega) (fun k h1 h2 => hn k (by omega) (by omega))
    have e2 : a + 1 + m = a + (m + 1) := by omega
    rw [e2] at ih
    rw [e] at h0
    rw [e, par_miss h0, ih, List.take_succ_cons, List.append_assoc] <;> rfl
theorem drop_two (L : List Nat) (a b : Nat) : (L.drop a).drop b = L.drop (a + b) := by
  first
    | rw [List.drop_drop]
    | rw [List.drop_drop, Nat.add_comm]
theorem spl_at {S L : List Nat} (hS : S ≠ []) {c : Nat} {acc : List Nat} (h : pre S (L.drop c) = true) : spl S 0 acc (L.drop c) = acc :: spl S 0 [] (L.drop (c + S.length)) := by
  rw [← drop_two]
  cases e : L.drop c with
  | nil => rw [e, pre_nil hS] at h; cases h
  | cons d r =>
    rw [e] at h
    rw [spl_hit h, spl_pass]
    cases S with
    | nil => exact absurd rfl hS
    | cons s S => rfl
theorem at_iff {x y : Str} (hy : tl y ≠ []) (i : Nat) : At x y x.length i ↔ pre (tl y) ((tl x).drop i) = true := by
  have hx := len_tl x
  have hl := len_tl y
  constructor
  · intro h
    have h2 := h.2
    rw [subAt_eq, hl] at h2
    exact h2
  · intro h
    have e : ((tl x).drop i).take (tl y).length = tl y := eq_of_beq h
    have e1 := congrArg List.length e
    rw [List.length_take, List.length_drop] at e1
    have e2 : 0 < (tl y).length := List.length_pos_iff.mpr hy
    refine ⟨by omega, ?_⟩
    rw [subAt_eq, hl]
    exact h
theorem no_at {x y : Str} (hy : tl y ≠ []) {i : Nat} (h : ¬ At x y x.length i) : pre (tl y) ((tl x).drop i) = false := by
  cases hp : pre (tl y) ((tl x).drop i) with
  | false => rfl
  | true => exact absurd ((at_iff hy i).mpr hp) h
theorem tl_strSub (x : Str) (i j : Nat) : tl (strSub x i j) = ((tl x).drop i).take (j - i) := strSub_toList x i j
theorem tl_strSub_end (x : Str) (i : Nat) : tl (strSub x i x.length) = (tl x).drop i := by
  rw [tl_strSub, len_tl x]
  exact List.take_of_length_le (by rw [List.length_drop] <;> omega)
theorem parts_spl {x y : Str} (hy : tl y ≠ []) : ∀ (cuts : List Nat) (a f : Nat), a ≤ (tl x).length → ChainG x y x.length a cuts f → (∀ k, f ≤ k → ¬ At x y x.length k) →
    (partsFrom x y.length a cuts).map tl = spl (tl y) 0 [] ((tl x).drop a)
  | [], a, f, ha, h, hn => by
    have e : f = a := h
    subst e
    show [tl (strSub x f x.length)] = _
    have run := spl_run (tl y) (tl x) ((tl x).length - f) f [] (by omega) (fun k h1 _ => no_at hy (hn k h1))
    have e2 : f + ((tl x).length - f) = (tl x).length := by omega
    rw [e2, List.drop_length, spl_nil, List.nil_append, List.take_of_length_le (by rw [List.length_drop] <;> omega)] at run
    rw [run, tl_strSub_end]
  | c :: r, a, f, ha, h, hn => by
    obtain ⟨h1, h2, h3, h4⟩ := h
    have hc : c + y.length ≤ x.length := h2.1
    have hx := len_tl x
    have hl := len_tl y
    have ih := parts_spl hy r (c + y.length) f (by omega) h4 hn
    show tl (strSub x a c) :: (partsFrom x y.length (c + y.length) r).map tl = _
    have run := spl_run (tl y) (tl x) (c - a) a [] (by omega) (fun k k1 k2 => no_at hy (h3 k k1 (by omega)))
    have e2 : a + (c - a) = c := by omega
    rw [e2, List.nil_append, spl_at hy ((at_iff hy c).mp h2)] at run
    rw [run, ih, tl_strSub, hl]
theorem spl_part {S p rest acc : List Nat} (hS : S ≠ []) (h : ∀ i, i < p.length → pre S ((p ++ (S ++ rest)).drop i) = false) :
    spl S 0 acc (p ++ (S ++ rest)) = (acc ++ p) :: spl S 0 [] rest := by
  have run := spl_run S (p ++ (S ++ rest)) p.length 0 acc (by rw [List.length_append]; omega) (fun k _ k2 => h k (by omega))
  have ed : (p ++ (S ++ rest)).drop p.length = S ++ rest := List.drop_left
  rw [List.drop_zero, Nat.zero_add, List.take_left] at run
  rw [run, spl_at hS (by rw [ed]; exact pre_self S rest), ← drop_two, ed, List.drop_left]
theorem spl_last {S p acc : List Nat} (h : ∀ i, i < p.length → pre S (p.drop i) = false) : spl S 0 acc p = [acc ++ p] := by
  have run := spl_run S p p.length 0 acc (by omega) (fun k _ k2 => h k (by omega))
  rw [List.drop_zero, Nat.zero_add, List.drop_length, spl_nil, List.take_length] at run
  exact run
theorem free_of {s : Nat} {S p q : List Nat} (h : s ∉ p) : ∀ i, i < p.length → pre (s :: S) ((p ++ q).drop i) = false := fun i hi => by
  have hlt : i < (p ++ q).length := by rw [List.length_append]; omega
  have e : (p ++ q).drop i = (p ++ q)[i] :: (p ++ q).drop (i + 1) := List.drop_eq_getElem_cons hlt
  rw [e]
  refine pre_of_head _ _ fun z => h ?_
  have e1 : (p ++ q)[i] = p[i] := List.getElem_append_left hi
  rw [← z, e1]
  exact List.getElem_mem hi
theorem spl_part1 {s : Nat} {S p rest acc : List Nat} (h : s ∉ p) : spl (s :: S) 0 acc (p ++ (s :: S ++ rest)) = (acc ++ p) :: spl (s :: S) 0 [] rest :=
  spl_part (by simp) (free_of h)
theorem spl_last1 {s : Nat} {S p acc : List Nat} (h : s ∉ p) : spl (s :: S) 0 acc p = [acc ++ p] := spl_last fun i hi => by
  have z := free_of (S := S) (q := []) h i hi
  rw [List.append_nil] at z
  exact z
def joinL (S : List Nat) : List (List Nat) → List Nat
  | [] => []
  | [p] => p
  | p :: q :: r => p ++ (S ++ joinL S (q :: r))
theorem tl_join (y : Str) : ∀ parts : List Str, tl (Str.join y parts) = joinL (tl y) (parts.map tl)
  | [] => rfl
  | [_] => rfl
  | x :: z :: r => by
    show tl (x ++ y ++ Str.join y (z :: r)) = tl x ++ (tl y ++ joinL (tl y) ((z :: r).map tl))
    rw [tl_append, tl_append, tl_join y (z :: r), List.append_assoc]
theorem spl_join {s : Nat} {S : List Nat} : ∀ {parts : List (List Nat)}, parts ≠ [] → (∀ p ∈ parts, s ∉ p) → spl (s :: S) 0 [] (joinL (s :: S) parts) = parts
  | [], h, _ => absurd rfl h
  | [p], _, hp => by
    show spl (s :: S) 0 [] p = [p]
    rw [spl_last1 (hp p (List.mem_singleton.mpr rfl)), List.nil_append]
  | p :: q :: r, _, hp => by
    show spl (s :: S) 0 [] (p ++ (s :: S ++ joinL (s :: S) (q :: r))) = p :: q :: r
    rw [spl_part1 (hp p (List.mem_cons_self ..)), List.nil_append, spl_join (by simp) fun z hz => hp z (List.mem_cons_of_mem _ hz)]
def numL (n : Nat) : List Nat := (Nat.toDigits 10 n).map Char.toNat
theorem fold_digits : ∀ (l : List Nat) (a : Nat), NumText.AllDigits l → l.foldl (fun (t : Int) (c : Nat) => t * 10 + ((c : Int) - 48)) (a : Int) = ((l.foldl (fun acc c => acc * 10 + (c - 48)) a : Nat) : Int)
  | [], _, _ => rfl
  | c :: r, a, h => by
    have hc := h.head
    rw [List.foldl_cons, List.foldl_cons, ← fold_digits r _ h.tail]
    have e : (a : Int) * 10 + ((c : Int) - 48) = ((a * 10 + (c - 48) : Nat) : Int) := by omega
    rw [e]
def wstep (st : List (List Nat) × List Nat) (c : Nat) : List (List Nat) × List Nat :=
  if Unicode.isSpace c = true then (if st.2 = [] then st else (st.1 ++ [st.2], [])) else (st.1, st.2 ++ [c])
def wfin (st : List (List Nat) × List Nat) : List (List Nat) := if st.2 = [] then st.1 else st.1 ++ [st.2]
theorem len0_tl (x : Str) : x.length = 0 ↔ tl x = [] := by
  rw [len_tl]
  exact List.length_eq_zero_iff
theorem step_tl (ws : List Str) (u : Str) (c : Nat) : ((KWd.step (ws, u) c).1.map tl, tl (KWd.step (ws, u) c).2) = wstep (ws.map tl, tl u) c := by
  by_cases hc : Unicode.isSpace c = true
  · by_cases hu : u.length = 0
    · have a : KWd.step (ws, u) c = (ws, u) := (if_pos hc).trans (if_pos hu)
      have b : wstep (ws.map tl, tl u) c = (ws.map tl, tl u) := (if_pos hc).trans (if_pos ((len0_tl u).mp hu))
      rw [a, b] <;> rfl
    · have a : KWd.step (ws, u) c = (ws ++ [u], Str.empty) := (if_pos hc).trans (if_neg hu)
      have b : wstep (ws.map tl, tl u) c = (ws.map tl ++ [tl u], []) := (if_pos hc).trans (if_neg fun z => hu ((len0_tl u).mpr z))
      rw [a, b]
      show ((ws ++ [u]).map tl, ([] : List Nat)) = _
      rw [List.map_append] <;> rfl
  · have a : KWd.step (ws, u) c = (ws, u ++ ⟨#[c]⟩) := if_neg hc
    have b : wstep (ws.map tl, tl u) c = (ws.map tl, tl u ++ [c]) := if_neg hc
    rw [a, b]
    show (ws.map tl, tl (u ++ ⟨#[c]⟩)) = _
    rw [tl_append] <;> rfl
theorem scan_tl : ∀ (l : List Nat) (st : KWd.St), ((l.foldl KWd.step st).1.map tl, tl (l.foldl KWd.step st).2) = l.foldl wstep (st.1.map tl, tl st.2)
  | [], _ => rfl
  | c :: r, (ws, u) => by
    show ((r.foldl KWd.step (KWd.step (ws, u) c)).1.map tl, tl (r.foldl KWd.step (KWd.step (ws, u) c)).2) = r.foldl wstep (wstep (ws.map tl, tl u) c)
    exact (scan_tl r (KWd.step (ws, u) c)).trans (congrArg (fun z => r.foldl wstep z) (step_tl ws u c))
theorem wfold_word : ∀ (p : List Nat) (ws : List (List Nat)) (u : List Nat), (∀ c ∈ p, Unicode.isSpace c = false) → p.foldl wstep (ws, u) = (ws, u ++ p)
  | [], ws, u, _ => by rw [List.append_nil] <;> rfl
  | c :: r, ws, u, h => by
    have hc := h c (List.mem_cons_self ..)
    rw [List.foldl_cons]
    have e : wstep (ws, u) c = (ws, u ++ [c]) := if_neg (by rw [hc]; exact Bool.false_ne_true)
    rw [e, wfold_word r ws (u ++ [c]) fun d hd => h d (List.mem_cons_of_mem _ hd), List.append_assoc] <;> rfl
theorem wfold_join : ∀ (ps : List (List Nat)) (ws : List (List Nat)), ps ≠ [] → (∀ p ∈ ps, p ≠ [] ∧ ∀ c ∈ p, Unicode.isSpace c = false) → wfin ((joinL [32] ps).foldl wstep (ws, [])) = ws ++ ps
  | [], _, h, _ => absurd rfl h
  | [p], ws, _, h => by
    obtain ⟨h1, h2⟩ := h p (List.mem_singleton.mpr rfl)
    show wfin (p.foldl wstep (ws, [])) = _
    rw [wfold_word p ws [] h2, List.nil_append]
    exact if_neg h1
  | p :: q :: r, ws, _, h => by
    obtain ⟨h1, h2⟩ := h p (List.mem_cons_self ..)
    show wfin ((p ++ ([32] ++ joinL [32] (q :: r))).foldl wstep (ws, [])) = _
    rw [List.foldl_append, wfold_word p ws [] h2, List.nil_append, List.foldl_append]
    have e : [32].foldl wstep (ws, p) = (ws ++ [p], []) := by
      have hs : Unicode.isSpace 32 = true := by decide +kernel
      have a : wstep (ws, p) 32 = (if p = [] then (ws, p) else (ws ++ [p], [])) := if_pos hs
      exact a.trans (if_neg h1)
    rw [e, wfold_join (q :: r) (ws ++ [p]) (by simp) fun z hz => h z (List.mem_cons_of_mem _ hz), List.append_assoc] <;> rfl
end TL
end 
namespace L2
open PySem PySem.Spec PyProof.Rows
theorem vals_strs : ∀ l : List (Str × Tok), Vals ((l.map (·.1)).map V.str) (strValues l)
  | [] => .nil
  | p :: r => .cons ⟨p.2, rfl⟩ (vals_strs r)
theorem strs_of_vals : ∀ {ys : List Str} {us : List Value}, Vals (ys.map V.str) us → StrsAre us ys
  | [], _, .nil => .nil
  | y :: ys, _, .cons r t => by
    obtain ⟨k, rfl⟩ := r
    exact .cons y k (strs_of_vals t)
def rNewStrs (ys : List Str) : Hp → VK → Prop := fun H Q => ∀ p, H p = none → Q (.ref p) (upd H p (.lst (ys.map V.str)))
section
variable {X : Cx} {pins : List (Addr × Obj)} {σ : St} {H : Hp} {s : Shared} {Q : VK}
end
section
variable {X : Cx}
end
section
variable {X : Cx} {o e : Expr} {to te : TE}
def tM0 (r : V → List V → Hp → VK → Prop) (to : TE) : TE := fun σ H Q => to σ H fun x H1 => (∃ a, x = .str a) ∧ r x [] H1 Q
def tM1 (r : V → List V → Hp → VK → Prop) (to te : TE) : TE := fun σ H Q => to σ H fun x H1 => (∃ a, x = .str a) ∧ te σ H1 fun y H2 => r x [y] H2 Q
end
end L2
namespace L2
open PySem PySem.Spec PyProof.Rows
section
variable {X : Cx}
theorem op_in_sign : OpR X (compareOp .In) (fun x y H Q => ∃ (c : Nat) (z : Str), x = .str ⟨#[c]⟩ ∧ y = .str z ∧ Q (.bl (decide (c ∈ z.cps.toList))) H) := by
  intro pins s σ H x y v u Q I rx ry h
  obtain ⟨c, z, rfl, rfl, q⟩ := h
  obtain ⟨t, rfl⟩ := rx
  obtain ⟨t', rfl⟩ := ry
  exact PyProof.Rows.in_str (fin_bl I q (PySem.StrLaws.found_one z c).symm)
theorem op_notIn_sign : OpR X (compareOp .NotIn) (fun x y H Q => ∃ (c : Nat) (z : Str), x = .str ⟨#[c]⟩ ∧ y = .str z ∧ Q (.bl (!decide (c ∈ z.cps.toList))) H) := by
  intro pins s σ H x y v u Q I rx ry h
  obtain ⟨c, z, rfl, rfl, q⟩ := h
  obtain ⟨t, rfl⟩ := rx
  obtain ⟨t', rfl⟩ := ry
  exact PyProof.Rows.notIn_str (fin_bl I q (congrArg Bool.not (PySem.StrLaws.found_one z c).symm))
end
theorem IsPart.raw {v : Value} {o : Option Int} (p : IsPart v o) : ∃ l : Option (Int × Tok), v = partValue l ∧ l.map (·.1) = o := by
  cases p with
  | none => exact ⟨none, rfl, rfl⟩
  | int i t => exact ⟨some (i, t), rfl, rfl⟩
def clipS (n d : Nat) : Option Int → Int
  | none => (d : Int)
  | some i => max 0 (min (if i < 0 then i + (n : Int) else i) (n : Int))
theorem clipS_eq (n d : Nat) (o : Option Int) : clipS n d o = ((HT.sIx n d o : Nat) : Int) := by
  cases o with
  | none => rfl
  | some v =>
    show max (0 : Int) (min (if v < 0 then v + (n : Int) else v) (n : Int)) = (((if v < 0 then (v + (n : Int)).toNat else min v.toNat n) : Nat) : Int)
    by_cases hv : v < 0
    · simp only [if_pos hv]
      omega
    · simp only [if_neg hv]
      omega
theorem sidx_clip (a b : Option Int) (n : Nat) : Builtin.Str.strSliceIndices a b 1 n = sliceRange (clipS n 0 a) (clipS n n b) 1 := by
  have h1 : ((1 : Int) > 0) = True := by simp
  cases a <;> cases b <;> first
    | rfl
    | (simp only [Builtin.Str.strSliceIndices, clipS, h1, if_true]; rfl)
    | simp [Builtin.Str.strSliceIndices, clipS]
theorem sidx (a b : Option Int) (n : Nat) : Builtin.Str.strSliceIndices a b 1 n = (List.range (HT.sIx n n b - HT.sIx n 0 a)).map (fun k => HT.sIx n 0 a + k) := by
  rw [sidx_clip, clipS_eq, clipS_eq]
  generalize HT.sIx n 0 a = p
  generalize HT.sIx n n b = q
  simp only [sliceRange, show ((1 : Int) > 0) = True from by simp, if_true]
  by_cases hlt : (p : Int) < q
  · have e3 : (((q : Int) - p + 1 - 1) / 1).toNat = q - p := by first | omega | (simp; done) | (simp; omega)
    simp only [hlt, if_true, e3]
    refine List.map_congr_left fun k _ => ?_
    omega
  · have : q - p = 0 := by omega
    simp [hlt, this]
def cutS (z : Str) (lo hi : Option Int) : Str :=
  ⟨((z.cps.toList.drop (HT.sIx z.length 0 lo)).take (HT.sIx z.length z.length hi - HT.sIx z.length 0 lo)).toArray⟩
theorem sliceText_cut (z : Str) (lo hi : Option Int) : PySem.StrLaws.sliceText z lo hi = cutS z lo hi := by
  have h1 : HT.sIx z.length 0 lo ≤ z.length := HT.sIx_le _ _ (Nat.zero_le _) _
  have h2 : HT.sIx z.length z.length hi ≤ z.length := HT.sIx_le _ _ (Nat.le_refl _) _
  have hp : HT.sIx z.length 0 lo ≤ max (HT.sIx z.length 0 lo) (HT.sIx z.length z.length hi) := Nat.le_max_left _ _
  have hq : max (HT.sIx z.length 0 lo) (HT.sIx z.length z.length hi) ≤ z.length := Nat.max_le.mpr ⟨h1, h2⟩
  have hd : max (HT.sIx z.length 0 lo) (HT.sIx z.length z.length hi) - HT.sIx z.length 0 lo = HT.sIx z.length z.length hi - HT.sIx z.length 0 lo := by omega
  have e : Builtin.Str.strSliceIndices lo hi 1 z.length =
      Builtin.Str.strSliceIndices (some ((HT.sIx z.length 0 lo : Nat) : Int)) (some ((max (HT.sIx z.length 0 lo) (HT.sIx z.length z.length hi) : Nat) : Int)) 1 z.length := by
    rw [PySem.StrLaws.strSliceIndices_plain hp hq, hd, sidx]
  have e2 : PySem.StrLaws.sliceText z lo hi =
      PySem.StrLaws.sliceText z (some ((HT.sIx z.length 0 lo : Nat) : Int)) (some ((max (HT.sIx z.length 0 lo) (HT.sIx z.length z.length hi) : Nat) : Int)) := by
    unfold PySem.StrLaws.sliceText
    rw [e]
  rw [e2, PySem.StrLaws.sliceText_nat z hp hq, hd]
  rfl
theorem cutS_length (z : Str) (lo hi : Option Int) : (cutS z lo hi).length ≤ z.length := by
  show (((z.cps.toList.drop (HT.sIx z.length 0 lo)).take (HT.sIx z.length z.length hi - HT.sIx z.length 0 lo)).toArray).size ≤ z.cps.size
  rw [List.size_toArray, List.length_take, List.length_drop, Array.length_toList]
  omega
def rSlS : V → Option Int → Option Int → Hp → VK → Prop := fun x lo hi H Q => ∃ z, x = .str z ∧ z.length ≤ sizeLine ∧ Q (.str (cutS z lo hi)) H
theorem sl_str {X : Cx} : SlR X rSlS := by
  intro pins s σ H x v vl vu lo hi sl Q I rx hs pl pu h
  obtain ⟨z, rfl, hz, q⟩ := h
  obtain ⟨t, rfl⟩ := rx
  obtain ⟨os, hos, hcs, hds⟩ := hs
  obtain ⟨l, rfl, rfl⟩ := IsPart.raw pl
  obtain ⟨u, rfl, rfl⟩ := IsPart.raw pu
  refine ⟨"str", _, F.slot_str_getitem.lookup, typeIs_str _ _ _, ?_⟩
  refine wpAny_getItem_str_slice (l := l) (u := u) (st := none) ⟨os, hos, hcs, hds⟩ rfl ?_
  have hl : (PySem.StrLaws.sliceText z (l.map (·.1)) (u.map (·.1))).length ≤ sizeLine := by
    rw [sliceText_cut]
    exact Nat.le_trans (cutS_length z _ _) hz
  rw [← sliceText_cut] at q
  unfold PySem.StrLaws.sliceText at q hl
  show Made.post (if ((1 : Int) == 1 && (Builtin.Str.strSliceIndices (l.map (·.1)) (u.map (·.1)) 1 z.length).length == z.length) = true then Made.val (.str z t)
    else Made.str ⟨((Builtin.Str.strSliceIndices (l.map (·.1)) (u.map (·.1)) 1 z.length).filterMap (z.cps[·]?)).toArray⟩) (EP X pins σ Q) s
  by_cases c : ((1 : Int) == 1 && (Builtin.Str.strSliceIndices (l.map (·.1)) (u.map (·.1)) 1 z.length).length == z.length) = true
  · rw [if_pos c] at q ⊢
    exact ⟨.str z, H, I, ⟨t, rfl⟩, q⟩
  · rw [if_neg c] at q hl ⊢
    exact ⟨hl, .str _, H, I.tok _, ⟨_, rfl⟩, q⟩
end L2
namespace Att
open PySem PySem.W PySem.Calls PyProof.Rows
theorem ints_of_wellAll {P : Params} {h : Heap} : ∀ (ns : List Int) (vs : List Value), WellAll P h vs (ns.map WData.int) → IntsAre vs ns := by
  intro ns
  induction ns with
  | nil =>
    intro vs w
    rw [List.map_nil] at w
    cases w
    exact .nil
  | cons n ns ih =>
    intro vs w
    rw [List.map_cons] at w
    cases w with
    | cons a b =>
      cases a
      exact .cons _ _ (ih _ b)
theorem script_of {l : OpenLaw} {n : Nat} (hn : l.most = some n) {P : Params} {h : Heap} {args : List WData} {vals : List Value}
    (hpre : l.row.toRowW.claim.pre args = true) (hwl : WellAll P h vals args) :
    ∃ a vs ns, vals = [Value.ref a] ∧ args = [WData.list (ns.map WData.int)] ∧ h.get? a = some { cls := .type "list", data := .seq vs.toArray } ∧ IntsAre vs ns ∧ ns.length ≤ n := by
  have hsh : WShape.hasAll [] args [.list .int] = true := (pre_splitW hpre).1
  have hc : l.pre.holds [] { args := args } = true := (pre_splitW hpre).2
  obtain ⟨d, r, rfl, h1, h2⟩ := hasAllW_cons hsh
  obtain rfl := hasAllW_nil h2
  obtain ⟨xs, rfl, h3⟩ := hasW_list h1
  obtain ⟨ns, rfl⟩ := items_int h3
  have hlen : ns.length ≤ n := by
    unfold OpenLaw.pre at hc
    have h4 : (WTm.not (.lt (.lit (.int (n : Int))) (.len (.arg 0)))).holds [] { args := [.list (ns.map .int)] } = true := by
      have h4 := (holds_andW hc).1
      rw [hn] at h4
      exact h4
    have h5 := condW_of h4 (w_not (w_lt w_lit (w_len_list (w_arg rfl))))
    rw [List.length_map] at h5
    refine Nat.le_of_not_lt fun q => ?_
    have q' : (n : Int) < ((ns.length : Nat) : Int) := by omega
    first
      | (rw [decide_eq_true q'] at h5; exact absurd h5 (by decide))
      | (simp at h5; omega)
  cases hwl with
  | cons w1 w2 =>
    cases w2
    cases w1 with
    | list ho hall => exact ⟨_, _, ns, rfl, rfl, ho, ints_of_wellAll ns _ hall, hlen⟩
theorem post_true (l : OpenLaw) (args : List WData) : l.row.toRowW.claim.post args (.bool true) args = true :=
  postW_of (r := l.row.toRowW) (X := (true == true))
    (show WShape.has [] (.bool true) .bool = true by first | rfl | decide | simp [WShape.has, WShape.arms, WShape.armsAll])
    (show (WTm.eq .res (.lit (.bool true))).value [] { args := args, res := some (.bool true), after := args } = some (.bool (true == true)) from w_eq_bool (w_res rfl) w_lit) rfl
theorem attach_call {l : OpenLaw} {n : Nat} {q : Program} {loose : List Str} {XP : (Str → Option Value) → Heap → Prop} {YP : World → Heap → Prop} {d : DefRec}
    (hn : l.most = some n) (hdf : d.params.defaults = [])
    (call : ∀ (w : World) (s₀ s₁ : Shared) (mg mb : Str → Option Value) (fa : Addr) (o : Obj) (pm cd doc : Value) (a : Addr) (vs : List Value) (ns : List Int),
      Ground q loose [] XP w s₀ mg mb s₁.heap → YP w s₁.heap →
      s₁.heap.get? fa = some o → o.data = .func (docDef d.name d.params d.body d.scope pm cd doc) → s₁.heap.CodeRec cd d.name → mg d.name = some (.ref fa) →
      s₁.heap.get? a = some { cls := .type "list", data := .seq vs.toArray } → IntsAre vs ns → ns.length ≤ n → s₁.gens = #[] →
      codeAny (model l.prog w) callerA (.call (.ref fa) ⟨[.ref a], []⟩) (fun r s' => r = .ok (.ret (.bool true)) ∧ OldK s₁.heap s'.heap ∧ s'.os = s₁.os ∧ AllBare s'.gens) s₁) :
    WalkO q loose XP YP l.row.toRowW d [] (fun f vs => PySem.call f vs) := by
  intro w s₀ s₁ mg mb G Y fa o pm cd doc dV kV ho hd hcd hD hmg hg args vals as hpre hlay hrd hwl hlo
  obtain rfl : dV = .none := Dflts.none hD hdf
  obtain rfl : kV = .none := Dflts.noKw hD
  obtain ⟨a, vs, ns, rfl, rfl, hobj, hints, hlen⟩ := script_of hn hpre hwl
  refine enter_call (codeAny_mono (call w s₀ s₁ mg mb fa o pm cd doc a vs ns G Y ho (fd_plain hd) hcd hmg hobj hints hlen hg) fun r s' hq => ?_)
  obtain ⟨rfl, h2, h3, h4⟩ := hq
  exact ⟨.inl ⟨.bool true, .bool true, [], rfl, fun _ => rfl, .bool true, post_true l _, fun _ => ⟨List.Pairwise.nil, fun _ hm => (nomatch hm)⟩⟩, h2, h3, h4⟩
section
variable {prog : Program} {w : World} {A : Around} {E : Value → Shared → Prop} {s : Shared} {K : Frag}
def noObjs (h : Heap) : Heap := { h with objs := #[] }
def ledger (h : Heap) (L d : Addr) : List (Addr × Obj) := (List.range h.objs.size).filterMap fun a => if a = L ∨ a = d then none else (h.get? a).map fun o => (a, o)
end
end Att
namespace L2
open PySem PySem.Spec PyProof.Rows
theorem vals_ints : ∀ {vs : List Value} {ns : List Int}, IntsAre vs ns → Vals (ns.map V.int) vs
  | _, _, .nil => .nil
  | _, _, .cons n t h => .cons ⟨t, rfl⟩ (vals_ints h)
def Only (H : Hp) : Prop := ∀ b, H b = none ∨ ∃ o xs, H b = some (.frz o (.lst xs))
theorem law_call {P : Program} {w : World} {K : PySem.W.Frag} {mg mb : Str → Option Value} {CX : CXT} {k : Nat} {fa a : Addr} {fd : FuncData} {x : Str} {sp : Sp} {s₁ : Shared} {vs : List Value} {ns : List Int}
    (KX : K.In s₁.heap) (hns : s₁.heap.Ns mainGlobals mg) (hb : s₁.heap.Ns builtinsNs mb) (hbb : ∀ x : Str, x ≠ "__name__" → mb x = bootBuiltins x) (hlim : s₁.heap.NoLimit) (hg : s₁.gens = #[])
    (ha : s₁.heap.get? a = some { cls := .type "list", data := .seq vs.toArray }) (hi : IntsAre vs ns) (hl : ns.length ≤ sizeLine) (hr : Room k callerA)
    (F : ∀ base : Heap, K.In base → base.Ns mainGlobals mg → FnOk P w K mg base CX k fa fd [x] sp) (hbind : ∀ (s : Shared) (u : Value), BindsTo s fd ⟨[u], []⟩ [(x, u)])
    (hsp : ∀ H : Hp, Only H → SqL K H a (ns.map V.int) → sp [.ref a] H (fun v _ => v = .bl true) fun _ _ _ => False)
    (hCX : ∀ H e s', CX [] H s₁ (fun _ _ _ => False) e s' → False) :
    codeAny (model P w) callerA (.call (.ref fa) ⟨[.ref a], []⟩) (fun r s' => r = .ok (.ret (.bool true)) ∧ OldK s₁.heap s'.heap ∧ s'.os = s₁.os ∧ AllBare s'.gens) s₁ := by
  have rv := vals_ints hi
  have lenV := hi.length
  -- from an abstract heap in which nothing but the script may be tracked
  have core : ∀ H : Hp, Only H → SqL K H a (ns.map V.int) → HOk P w H s₁.heap → (∀ b, H b ≠ none → b = a) → (H a ≠ none → K.lookup a = none) →
      codeAny (model P w) callerA (.call (.ref fa) ⟨[.ref a], []⟩) (fun r s' => r = .ok (.ret (.bool true)) ∧ OldK s₁.heap s'.heap ∧ s'.os = s₁.os ∧ AllBare s'.gens) s₁ := by
    intro H hO hS hok hA hK
    have base_of : ∀ {b : Addr} {o : Obj}, s₁.heap.get? b = some o → H b = none → (hidT s₁.heap H).get? b = some o := fun e n => hidT_get e n
    have noA : ∀ {b : Addr} {o : Obj} {es : Array DictEntry} {ep : Nat}, s₁.heap.get? b = some o → o.data = .dict es ep → H b = none := fun {b o es ep} e d => by
      cases q : H b with
      | none => rfl
      | some u =>
        have e' : b = a := hA b (by rw [q]; simp)
        subst e'
        rw [ha] at e; cases e
        have d' : Data.seq vs.toArray _ = Data.dict es ep := d
        cases d'
    have nsK : ∀ {b : Addr} {m : Str → Option Value}, s₁.heap.Ns b m → (hidT s₁.heap H).Ns b m := fun {b m} ⟨o, es, ep, e, d, r⟩ => ⟨o, es, ep, base_of e (noA e d), d, r⟩
    have hKb : K.In (hidT s₁.heap H) := fun b o e => base_of (KX b o e) (by
      cases q : H b with
      | none => rfl
      | some u =>
        have e' : b = a := hA b (by rw [q]; simp)
        subst e'
        rw [hK (by rw [q]; simp)] at e; cases e)
    have hM : Mod K mg (hidT s₁.heap H) := ⟨hKb, nsK hns, ⟨mb, nsK hb, hbb⟩, let ⟨mc, h1, h2⟩ := hlim; ⟨mc, nsK h1, h2⟩⟩
    have e0 : Env0 P w K mg (hidT s₁.heap H) callerA [] s₁ H := ⟨rfl, hM, fun b o e => of_hidT e, Nat.le_of_eq (hidT_size _ _), trivial, fun b hb => absurd (show b ∈ ([] : List Addr) from hb) (by simp), hok, .of_eq hg⟩
    refine codeAny_mono ((F _ hKb (nsK hns)).run callerA [] s₁ H ⟨[.ref a], []⟩ [.ref a] [.ref a] _ _ hr e0 (hbind s₁ (.ref a)) (.cons rfl .nil) (hsp H hO hS)) fun r s' h => ?_
    cases r with
    | error e => exact (hCX H e s' h).elim
    | ok fl =>
      cases fl with
      | next => exact False.elim h
      | brk => exact False.elim h
      | cont => exact False.elim h
      | ret u =>
        obtain ⟨v, H', os, bare, un, hok', r', q⟩ := h
        have q' : v = .bl true := q
        subst q'
        obtain rfl : u = Value.bool true := r'
        refine ⟨rfl, OldK.of_keep fun b o e => ?_, os, bare.1⟩
        cases q : H b with
        | none => exact un.keep b o e q (by intro z; exact absurd (show b ∈ ([] : List Addr) from z) (by simp)) (by simp)
        | some u =>
          rcases hO b with z | ⟨ob, xs, z⟩
          · rw [q] at z; cases z
          · have z2 := un.frzs b ob _ z
            obtain ⟨e1, _⟩ := hok b _ z
            obtain ⟨e2, _⟩ := hok' b _ z2
            rw [e] at e1; cases e1
            exact e2
  cases hk : K.lookup a with
  | some o =>
    -- the script is one of the module's own objects
    have e := KX a o hk
    rw [ha] at e
    cases e
    refine core (fun _ => none) (fun _ => .inl rfl) (.inr ⟨_, vs.toArray, _, hk, rfl, rfl, rfl, by rw [List.size_toArray, lenV]; exact hl, by simpa using rv⟩) (fun b u z => by have z' : (none : Option HO) = some u := z; cases z') (fun b z => absurd rfl z) fun z => absurd rfl z
  | none =>
    refine core (fun b => if b = a then some (.frz { cls := .type "list", data := .seq vs.toArray } (.lst (ns.map V.int))) else none) (fun b => ?_) (.inl (.inr ⟨{ cls := .type "list", data := .seq vs.toArray }, if_pos rfl⟩)) (fun b u z => ?_) (fun b z => ?_) fun _ => hk
    · by_cases hb : b = a
      · exact .inr ⟨_, _, if_pos hb⟩
      · exact .inl (if_neg hb)
    · by_cases hb : b = a
      · have z' := (if_pos hb).symm.trans z
        cases z'
        subst hb
        exact ⟨ha, by rw [List.length_map]; exact hl, vs, _, rv, ha⟩
      · have z' := (if_neg hb).symm.trans z
        cases z'
    · by_cases hb : b = a
      · exact hb
      · exact absurd (if_neg hb) z
end L2
namespace L2
open PySem PySem.Spec PyProof.Rows
abbrev KOf {K : PySem.W.Frag} {h : Heap} (_ : K.In h) : PySem.W.Frag := K
theorem walk_of {l : PySem.W.OpenLaw} {n k : Nat} {q : Program} {loose : List Str} {XP : (Str → Option Value) → Heap → Prop} {YP : World → Heap → Prop} {d : DefRec} {K : Params → PySem.W.Frag} {CX : World → CXT} {sp : World → Sp} {x : Str}
    (hn : l.most = some n) (hn2 : n ≤ sizeLine) (hdf : d.params.defaults = []) (hr : Room k callerA)
    (hY : ∀ (w : World) (h : Heap), YP w h → (K w.params).In h)
    (F : ∀ (w : World) (mg : Str → Option Value) (fa : Addr) (h : Heap), (K w.params).In h → h.Ns mainGlobals mg → mg d.name = some (.ref fa) →
      ∃ fd : FuncData, (∀ (s : Shared) (u : Value), BindsTo s fd ⟨[u], []⟩ [(x, u)]) ∧
        ∀ base : Heap, (K w.params).In base → base.Ns mainGlobals mg → FnOk l.prog w (K w.params) mg base (CX w) k fa fd [x] (sp w))
    (hsp : ∀ (w : World) (H : Hp) (a : Addr) (ns : List Int), ns.length ≤ n → Only H → SqL (K w.params) H a (ns.map V.int) → sp w [.ref a] H (fun v _ => v = .bl true) fun _ _ _ => False)
    (hCX : ∀ (w : World) (H : Hp) (s : Shared) (e : Value) (s' : Shared), CX w [] H s (fun _ _ _ => False) e s' → False) :
    PySem.W.WalkO q loose XP YP l.row.toRowW d [] (fun f vs => PySem.call f vs) := by
  refine Att.attach_call hn hdf fun w s₀ s₁ mg mb fa o pm cd doc a vs ns G Y ho hd hcd hmg hobj hints hlen hg => ?_
  have KX := hY w _ Y
  obtain ⟨fd, hb, hF⟩ := F w mg fa _ KX G.T.g hmg
  exact law_call KX G.T.g G.T.b G.T.builtins G.T.nolimit hg hobj hints (Nat.le_trans hlen hn2) hr hF hb (fun H hO hS => hsp w H a ns hlen hO hS) fun H e s' => hCX w H s₁ e s'
end L2
/- THE LAST THEOREM (shape; LID, My.* are yours):
   My.Adr: a structure of the addresses that your layer names (classes, functions); My.Txt K t: a structure (Prop) of the equations over K;
   My.txt_mk : {K} {implicit addresses ..} (e1 : nsIn K mainGlobals "law" = some (some (.ref f))) (e2 : K.lookup f = some ⟨oc, od, .func (fnOf "law" "law" params body scope dV kV doc pm an cdv ct), sl⟩) (e3 : codeIn K cdv "law" = true) .. : ∃ t, My.Txt K t
set_option maxRecDepth 100000 in
set_option maxHeartbeats 0 in
theorem PySem.Challenge.cw_LID_holds : PySem.Challenge.rw_LID.Holds := by
  w_on; o_law; k_head; (case hw => w_witness2)
  k_fill
  refine L2.walk_of (l := PySem.Challenge.rw_LID) (n := 63) (k := 40) (x := "script") (CX := fun w => ..) (sp := fun _ => My.sp_law) rfl (by decide) rfl ⟨rfl, by decide, by decide⟩ (fun w h Y => PySem.W.kIn_of Y) ?F ?S ?C
  case F =>
    intro w mg fa h KX G hmg
    have T : ∃ t, My.Txt (L2.KOf KX) t := by
      dsimp only [L2.KOf]                          -- K must stand as «<heap const> w.params» for k_is
      refine' My.txt_mk ?e1 ?e2 ?e3 ..
      (case e1 => PySem.W.k_is)                    -- in the order: a name -> its address -> its object -> its parts
      (case e2 => PySem.W.k_is)
      ..
    obtain ⟨t, T⟩ := T
    have e0 := hmg.symm.trans (PySem.W.mg_of KX G T.law)
    cases e0                                       -- fa is the law's own address
    exact ⟨_, fun s u => .of_eq rfl, fun base kb nb => My.law_fn T kb nb⟩     -- if «.of_eq rfl» comes too early: refine' ⟨_, ?b, fun base kb nb => My.law_fn T kb nb⟩; exact fun s u => .of_eq rfl
  case S => exact fun w H a ns hl hO hS => ..
  case C => exact ..
(the tactic k_is has no namespace: write k_is) -/
namespace L2
open PySem PySem.Spec PyProof.Rows
def inClass (s : Stmt) (j : Nat) : Stmt := match s with
  | .ClassDef _ _ _ body _ _ _ _ _ _ _ => body.getD j (.Pass ⟨0, 0, 0, 0⟩)
  | _ => .Pass ⟨0, 0, 0, 0⟩
def defArgs (s : Stmt) : Arguments := match s with
  | .FunctionDef _ a _ _ _ _ _ _ _ _ => a
  | _ => { posonlyargs := [], args := [], vararg := none, kwonlyargs := [], kw_defaults := [], kwarg := none, defaults := [] }
def defBody (s : Stmt) : List Stmt := match s with
  | .FunctionDef _ _ b _ _ _ _ _ _ _ => b
  | _ => []
def defScope (s : Stmt) : Scope := match s with
  | .FunctionDef _ _ _ _ _ _ sc _ _ _ => sc
  | _ => { kind := .function, names := [], isGenerator := false, isCoroutine := false }
abbrev CX0 : CXT := fun _ _ _ _ _ _ => False
abbrev E0 : XK := fun _ _ _ => False
theorem pass0 {X : Cx} : Passes CX0 X E0 := fun _ _ _ _ _ _ _ h => h.elim
structure Fun (K : PySem.W.Frag) (x qual : Str) (st : Stmt) (f : Addr) (fd : FuncData) : Prop where
  ex : ∃ (oc : Value) (od : Option Addr) (kV doc pm : Value) (an : Option Addr) (cdv ct : Value) (osl : Array (Option Value)),
    fd = PySem.W.fnOf x qual (defArgs st) (defBody st) (defScope st) .none kV doc pm an cdv ct ∧ K.lookup f = some ⟨oc, od, .func fd, osl⟩ ∧ PySem.W.codeIn K cdv qual = true
  kp : PySem.W.keepIn K (.ref f) = true
section
variable {P : Program} {w : World} {K : PySem.W.Frag} {mg : Str → Option Value} {base : Heap}
theorem Fun.ok {x qual : Str} {st : Stmt} {f : Addr} {fd : FuncData} {N ps : List Str} {k : Nat} {sp : Sp} (F : Fun K x qual st f fd) (S : FnScope N ps (defScope st)) (len : ∀ vs H Q E, sp vs H Q E → vs.length = ps.length)
    (hbody : ∀ (cdv : Value) (A : Around) (outer : List Env) (s : Shared) (H : Hp) (vs : List V) (Q : VK) (E : XK), Room k (A.deeper (envOfC qual (defScope st) s.heap.objs.size f cdv)) → sp vs H Q E →
      ∃ t, PSs (cxOf CX0 P w K mg base N qual (defScope st) f cdv A outer s H E).nox (defBody st) t ∧ t { nx := fun _ H' => Q .non H', rt := Q } (start N vs) H) : FnOk P w K mg base CX0 (k + 1) f fd ps sp := by
  obtain ⟨oc, od, kV, doc, pm, an, cdv, ct, osl, rfl, lk, hcd⟩ := F.ex
  refine fn_of lk hcd S len fun A outer s H vs Q E hr hsp => ?_
  obtain ⟨t, h, q⟩ := hbody cdv A outer s H vs Q E hr hsp
  exact ⟨t, h.nox, q⟩
theorem Fun.binds {x qual : Str} {st : Stmt} {f : Addr} {fd : FuncData} {ps : List Str} (F : Fun K x qual st f fd)
    (h : ∀ (kV doc pm : Value) (an : Option Addr) (cdv ct : Value) (us : List Value), us.length = ps.length → bindArgs (PySem.W.fnOf x qual (defArgs st) (defBody st) (defScope st) .none kV doc pm an cdv ct) ⟨us, []⟩ = pure (ps.zip us)) : Binds K fd ps [] := by
  obtain ⟨oc, od, kV, doc, pm, an, cdv, ct, osl, rfl, lk, hcd⟩ := F.ex
  exact .all (h kV doc pm an cdv ct)
theorem fun_mk {x qual : Str} {st : Stmt} {f : Addr} {oc : Value} {od an : Option Addr} {osl : Array (Option Value)} {kV doc pm cdv ct : Value} (l : K.lookup f = some ⟨oc, od, .func (PySem.W.fnOf x qual (defArgs st) (defBody st) (defScope st) .none kV doc pm an cdv ct), osl⟩)
    (c : PySem.W.codeIn K cdv qual = true) (k : PySem.W.keepIn K (.ref f) = true) : Fun K x qual st f (PySem.W.fnOf x qual (defArgs st) (defBody st) (defScope st) .none kV doc pm an cdv ct) := ⟨⟨oc, od, kV, doc, pm, an, cdv, ct, osl, rfl, l, c⟩, k⟩
end
theorem small1000 {n : Nat} (h : n ≤ 1000) : n < sizeLine := Nat.lt_of_le_of_lt h (by decide)
section
variable {X : Cx}
theorem pv (i : Nat) {x : Str} {pos : Pos} (hN : X.N[i]? = some x := by rfl) (hv : Vis X.env.scope x := by first | exact Or.inl rfl | exact Or.inr (Or.inl rfl) | exact Or.inr (Or.inr rfl)) (hd : (x == ("__debug__" : Str)) = false := by decide)
    (hcd : (x == ("__classdict__" : Str)) = false := by decide) : PE X (.Name x pos) (tVar i) := pe_var hN hv hd hcd
theorem call_lenD : CallR X (.builtin "len") (fun xs H Q => ∃ a kvs, xs = [V.ref a] ∧ H a = some (.dK kvs) ∧ Q (.int kvs.length) H) := by
  intro pins s σ H xs us Q I r h
  obtain ⟨a, kvs, rfl, ha, q⟩ := h
  obtain ⟨u, rfl, ru⟩ := vals1 r
  cases ru
  exact d_len I (.inl ha) fun t s' I' => ⟨.int kvs.length, H, I', ⟨t, rfl⟩, q⟩
end
def Same (H H' : Hp) : Prop := ∀ b o, H b = some o → H' b = some o
theorem Same.refl (H : Hp) : Same H H := fun _ _ h => h
theorem Same.trans {H H1 H2 : Hp} (a : Same H H1) (b : Same H1 H2) : Same H H2 := fun c o h => b c o (a c o h)
theorem Same.free {H H' : Hp} (e : Same H H') {l : Addr} (h : H' l = Option.none) : H l = Option.none := by
  cases q : H l with
  | none => rfl
  | some o =>
    rw [e l o q] at h
    cases h
theorem Same.seq {K : PySem.W.Frag} {H H' : Hp} {a : Addr} {xs : List V} (e : Same H H') (h : SqL K H a xs) : SqL K H' a xs := by
  rcases h with (h | ⟨o, h⟩) | h
  · exact .inl (.inl (e _ _ h))
  · exact .inl (.inr ⟨o, e _ _ h⟩)
  · exact .inr h
section
variable {κ : Type} [DecidableEq κ]
theorem nd_snoc : ∀ {l : List κ} {k : κ}, l.Nodup → ¬ k ∈ l → (l ++ [k]).Nodup
  | [], k, _, _ => by simp
  | a :: r, k, h, hk => by
    obtain ⟨h1, h2⟩ := List.nodup_cons.mp h
    show (a :: (r ++ [k])).Nodup
    refine List.nodup_cons.mpr ⟨fun m => ?_, nd_snoc h2 fun m => hk (List.mem_cons.mpr (Or.inr m))⟩
    rcases List.mem_append.mp m with q | q
    · exact h1 q
    · exact hk (List.mem_cons.mpr (Or.inl (List.mem_singleton.mp q).symm))
theorem dropK_pos {p : κ × V} {r : List (κ × V)} {k : κ} (e : p.1 = k) : dropK (p :: r) k = dropK r k := by
  unfold dropK
  rw [List.filter_cons, if_neg (by simp [e])]
theorem dropK_neg {p : κ × V} {r : List (κ × V)} {k : κ} (e : ¬ p.1 = k) : dropK (p :: r) k = p :: dropK r k := by
  unfold dropK
  rw [List.filter_cons, if_pos (by simp [e])]
theorem dropK_no : ∀ {kvs : List (κ × V)} {k : κ}, ¬ k ∈ kvs.map (·.1) → dropK kvs k = kvs
  | [], _, _ => rfl
  | p :: r, k, h => by
    have h' : ¬ k ∈ r.map (·.1) := fun m => by
      obtain ⟨q, hq, e⟩ := List.mem_map.mp m
      exact h (List.mem_map.mpr ⟨q, List.mem_cons.mpr (Or.inr hq), e⟩)
    rw [dropK_neg fun e => h (List.mem_map.mpr ⟨p, List.mem_cons.mpr (Or.inl rfl), e⟩), dropK_no h']
theorem dropK_mem {kvs : List (κ × V)} {k : κ} {p : κ × V} (h : p ∈ dropK kvs k) : p ∈ kvs := (List.mem_filter.mp h).1
theorem nd_dropK : ∀ {kvs : List (κ × V)} {k : κ}, (kvs.map (·.1)).Nodup → ((dropK kvs k).map (·.1)).Nodup
  | [], _, _ => List.nodup_nil
  | p :: r, k, h => by
    have h : (p.1 :: r.map (·.1)).Nodup := h
    obtain ⟨h1, h2⟩ := List.nodup_cons.mp h
    by_cases e : p.1 = k
    · rw [dropK_pos e]
      exact nd_dropK h2
    · rw [dropK_neg e]
      show (p.1 :: (dropK r k).map (·.1)).Nodup
      refine List.nodup_cons.mpr ⟨fun m => h1 ?_, nd_dropK h2⟩
      obtain ⟨q, hq, eq⟩ := List.mem_map.mp m
      exact List.mem_map.mpr ⟨q, dropK_mem hq, eq⟩
theorem dropK_len : ∀ {kvs : List (κ × V)} {k : κ}, (kvs.map (·.1)).Nodup → k ∈ kvs.map (·.1) → (dropK kvs k).length + 1 = kvs.length
  | [], _, _, m => by simp at m
  | p :: r, k, h, m => by
    have h : (p.1 :: r.map (·.1)).Nodup := h
    have m : k = p.1 ∨ k ∈ r.map (·.1) := List.mem_cons.mp m
    obtain ⟨h1, h2⟩ := List.nodup_cons.mp h
    by_cases e : p.1 = k
    · subst e
      rw [dropK_pos rfl, dropK_no h1]
      all_goals rfl
    · have m' : k ∈ r.map (·.1) := m.resolve_left fun z => e z.symm
      have q := dropK_len h2 m'
      rw [dropK_neg e, List.length_cons, List.length_cons]
      omega
end
theorem sum_set : ∀ {l : List Int} {j : Nat} {z y : Int}, l[j]? = some z → (l.set j y).sum = l.sum - z + y
  | [], j, z, y, h => by simp at h
  | a :: r, 0, z, y, h => by
    have e : a = z := Option.some.inj h
    subst e
    show (y :: r).sum = (a :: r).sum - a + y
    rw [List.sum_cons, List.sum_cons]
    omega
  | a :: r, j + 1, z, y, h => by
    have ih := sum_set (l := r) (j := j) (z := z) (y := y) h
    show (a :: r.set j y).sum = (a :: r).sum - z + y
    rw [List.sum_cons, List.sum_cons, ih]
    omega
theorem sum_take : ∀ {l : List Int} {i : Nat} {z : Int}, l[i]? = some z → (l.take (i + 1)).sum = (l.take i).sum + z
  | [], i, z, h => by simp at h
  | a :: r, 0, z, h => by
    have e : a = z := Option.some.inj h
    subst e
    show ([a] : List Int).sum = ([] : List Int).sum + a
    rw [List.sum_cons]
    exact Int.add_comm _ _
  | a :: r, i + 1, z, h => by
    have ih := sum_take (l := r) (i := i) (z := z) h
    show (a :: r.take (i + 1)).sum = (a :: r.take i).sum + z
    rw [List.sum_cons, List.sum_cons, ih]
    omega
theorem Same.made {H H1 : Hp} {x dx C : Addr} (nx : H x = Option.none) (nd : H dx = Option.none) (k : ∀ b o, (upd (upd H dx (.own x)) x (.ins C dx [])) b = some o → b ≠ x → H1 b = some o) : Same H H1 := fun b o e =>
  k b o (by rw [upd_ne (ne_of_none e nx), upd_ne (ne_of_none e nd)]; exact e) (ne_of_none e nx)
end L2
section
set_option Elab.async false
set_option maxRecDepth 100000
namespace L2
open PySem PySem.Spec PySem.F PyProof.Rows
section
variable {σ : St} {H : Hp} {Q : VK} {ta tb : TE} {D : Ends}
end
def isa (n T : String) : Bool := n == T || (n == "bool" && T == "int")
def kindV (K : PySem.W.Frag) (H : Hp) (x : V) (n : String) : Prop := match x with
  | .non => n = "NoneType"
  | .bl _ => n = "bool"
  | .int _ => n = "int"
  | .str _ => n = "str"
  | .ref a => (n = "list" ∧ ∃ xs, SqL K H a xs) ∨ (n = "tuple" ∧ ∃ xs, SqT K H a xs)
  | _ => False
def isT (T : String) : Prop := T = "int" ∨ T = "bool" ∨ T = "str" ∨ T = "list" ∨ T = "tuple"
def rIsi (K : PySem.W.Frag) : List V → Hp → VK → Prop := fun xs H Q => ∃ x n T, xs = [x, .ty T] ∧ isT T ∧ kindV K H x n ∧ Q (.bl (isa n T)) H
section
variable {X : Cx}
theorem call_isi : CallR X (.builtin "isinstance") (rIsi X.K) := by
  intro pins s σ H xs us Q I r h
  obtain ⟨x, n, T, rfl, hT, hk, q⟩ := h
  obtain ⟨u, u', rfl, ru, ru'⟩ := vals2 r
  cases ru'
  have t1 : EP X pins σ Q (.bool (isa n T)) s := ⟨.bl (isa n T), H, I, rfl, q⟩
  have t2 : EP X pins σ Q (.bool (isa n T)) { s with toks := s.toks + 1 } := ⟨.bl (isa n T), H, I.tok _, rfl, q⟩
  cases x with
  | non =>
    cases ru
    obtain rfl : n = "NoneType" := hk
    rcases hT with rfl | rfl | rfl | rfl | rfl
    · exact call_isinstance (isinstance_false_none (by decide) isi_meta_int (by rw [isSubtype_type]; kernel_rfl)) t2
    · exact call_isinstance (isinstance_false_none (by decide) isi_meta_bool (by rw [isSubtype_type]; kernel_rfl)) t2
    · exact call_isinstance (isinstance_false_none (by decide) isi_meta_str (by rw [isSubtype_type]; kernel_rfl)) t2
    · exact call_isinstance (isinstance_false_none (by decide) isi_meta_list (by rw [isSubtype_type]; kernel_rfl)) t2
    · exact call_isinstance (isinstance_false_none (by decide) isi_meta_tuple (by rw [isSubtype_type]; kernel_rfl)) t2
  | bl b =>
    cases ru
    obtain rfl : n = "bool" := hk
    rcases hT with rfl | rfl | rfl | rfl | rfl
    · exact call_isinstance_yes (Tx := "bool") (by first | exact typeIs_bool _ _ | exact rfl) isi_meta_int (by rw [isSubtype_type]; kernel_rfl) t1
    · exact call_isinstance_yes (Tx := "bool") (by first | exact typeIs_bool _ _ | exact rfl) isi_meta_bool (by rw [isSubtype_type]; kernel_rfl) t1
    · exact call_isinstance (isinstance_false_bool (by decide) isi_meta_str (by rw [isSubtype_type]; kernel_rfl)) t2
    · exact call_isinstance (isinstance_false_bool (by decide) isi_meta_list (by rw [isSubtype_type]; kernel_rfl)) t2
    · exact call_isinstance (isinstance_false_bool (by decide) isi_meta_tuple (by rw [isSubtype_type]; kernel_rfl)) t2
  | int i =>
    obtain ⟨t, rfl⟩ := ru
    obtain rfl : n = "int" := hk
    rcases hT with rfl | rfl | rfl | rfl | rfl
    · exact call_isinstance_yes (typeIs_int _ _ _) isi_meta_int isi_self_int t1
    · exact call_isinstance (isinstance_false_int (by decide) isi_meta_bool (by rw [isSubtype_type]; kernel_rfl)) t2
    · exact call_isinstance (isinstance_false_int (by decide) isi_meta_str (by rw [isSubtype_type]; kernel_rfl)) t2
    · exact call_isinstance (isinstance_false_int (by decide) isi_meta_list (by rw [isSubtype_type]; kernel_rfl)) t2
    · exact call_isinstance (isinstance_false_int (by decide) isi_meta_tuple (by rw [isSubtype_type]; kernel_rfl)) t2
  | str z =>
    obtain ⟨t, rfl⟩ := ru
    obtain rfl : n = "str" := hk
    rcases hT with rfl | rfl | rfl | rfl | rfl
    · exact call_isinstance (isinstance_false_str (by decide) isi_meta_int (by rw [isSubtype_type]; kernel_rfl)) t2
    · exact call_isinstance (isinstance_false_str (by decide) isi_meta_bool (by rw [isSubtype_type]; kernel_rfl)) t2
    · exact call_isinstance_yes (typeIs_str _ _ _) isi_meta_str isi_self_str t1
    · exact call_isinstance (isinstance_false_str (by decide) isi_meta_list (by rw [isSubtype_type]; kernel_rfl)) t2
    · exact call_isinstance (isinstance_false_str (by decide) isi_meta_tuple (by rw [isSubtype_type]; kernel_rfl)) t2
  | ref a =>
    cases ru
    rcases hk with ⟨rfl, xs, hq⟩ | ⟨rfl, xs, hq⟩
    · obtain ⟨its, r', ⟨o, m, ho, hc, hd, hs⟩, hz⟩ := I.list hq
      rcases hT with rfl | rfl | rfl | rfl | rfl
      · exact call_isinstance (isinstance_false_list (by decide) isi_meta_int (by rw [isSubtype_type]; kernel_rfl)) ⟨⟨o, ho, hc⟩, t2⟩
      · exact call_isinstance (isinstance_false_list (by decide) isi_meta_bool (by rw [isSubtype_type]; kernel_rfl)) ⟨⟨o, ho, hc⟩, t2⟩
      · exact call_isinstance (isinstance_false_list (by decide) isi_meta_str (by rw [isSubtype_type]; kernel_rfl)) ⟨⟨o, ho, hc⟩, t2⟩
      · exact call_isinstance_yes (Tx := "list") ⟨o, ho, hc⟩ isi_meta_list isi_self_list t1
      · exact call_isinstance (isinstance_false_list (by decide) isi_meta_tuple (by rw [isSubtype_type]; kernel_rfl)) ⟨⟨o, ho, hc⟩, t2⟩
    · obtain ⟨its, r', ⟨o, ho, hc, m, hs⟩, hz⟩ := I.tuple hq
      rcases hT with rfl | rfl | rfl | rfl | rfl
      · exact call_isinstance (isinstance_false_tuple (by decide) isi_meta_int (by rw [isSubtype_type]; kernel_rfl)) ⟨⟨o, ho, hc⟩, t2⟩
      · exact call_isinstance (isinstance_false_tuple (by decide) isi_meta_bool (by rw [isSubtype_type]; kernel_rfl)) ⟨⟨o, ho, hc⟩, t2⟩
      · exact call_isinstance (isinstance_false_tuple (by decide) isi_meta_str (by rw [isSubtype_type]; kernel_rfl)) ⟨⟨o, ho, hc⟩, t2⟩
      · exact call_isinstance (isinstance_false_tuple (by decide) isi_meta_list (by rw [isSubtype_type]; kernel_rfl)) ⟨⟨o, ho, hc⟩, t2⟩
      · exact call_isinstance_yes (Tx := "tuple") ⟨o, ho, hc⟩ isi_meta_tuple isi_self_tuple t1
  | byt _ => exact hk.elim
  | flt _ => exact hk.elim
  | ty _ => exact hk.elim
end
end L2
end
section
set_option Elab.async false
set_option maxRecDepth 100000
namespace L2
open PySem PySem.Spec PySem.F PyProof.Rows
section
variable {P : Program} {w : World} {K : PySem.W.Frag} {mg : Str → Option Value} {base : Heap}
structure Kn (P : Program) (w : World) (K : PySem.W.Frag) (mg : Str → Option Value) (base : Heap) (x : Str) (ps : List Str) (k : Nat) (sp : Sp) : Prop where
  ex : ∃ (f : Addr) (fd : FuncData), FnOk P w K mg base CX0 k f fd ps sp ∧ Binds K fd ps [] ∧ PySem.W.keepIn K (.ref f) = true ∧ mg x = some (.ref f)
theorem pe_kn {X : Cx} {x : Str} {ps : List Str} {k : Nat} {sp : Sp} {e : Expr} {es : List Expr} {t : TA} {p pos : Pos} (G : Kn X.prog X.w X.K X.mg X.base x ps k sp) (hr : Room k X.A) (hg : Gl X x) (ha : PA X (e :: es) t)
    (hdb : (x == ("__debug__" : Str)) = false := by decide) (he : starEach (e :: es) X.env = (false, eval e X.env) :: starEach es X.env := by rfl) (hpl : (backTo pos (starEach es X.env)).any (·.1) = false := by rfl) : PE X (.Call (.Name x p) (e :: es) [] pos) (tCall sp [] E0 t) := by
  obtain ⟨f, fd, F, b, kp, m⟩ := G.ex
  exact pe_call F hr hg m kp b .nil pass0 ha hdb he hpl
structure Df (K : PySem.W.Frag) (mg : Str → Option Value) (x : Str) (ps : List Str) (st : Stmt) : Prop where
  ex : ∃ (f : Addr) (fd : FuncData), Fun K x x st f fd ∧ Binds K fd ps [] ∧ mg x = some (.ref f)
theorem df_mk {x : Str} {ps : List Str} {st : Stmt} {f : Addr} {oc : Value} {od an : Option Addr} {osl : Array (Option Value)} {kV doc pm cdv ct : Value}
    (h : ∀ (kV doc pm : Value) (an : Option Addr) (cdv ct : Value) (us : List Value), us.length = ps.length → bindArgs (PySem.W.fnOf x x (defArgs st) (defBody st) (defScope st) .none kV doc pm an cdv ct) ⟨us, []⟩ = pure (ps.zip us))
    (l : K.lookup f = some ⟨oc, od, .func (PySem.W.fnOf x x (defArgs st) (defBody st) (defScope st) .none kV doc pm an cdv ct), osl⟩) (c : PySem.W.codeIn K cdv x = true) (k : PySem.W.keepIn K (.ref f) = true) (m : mg x = some (.ref f)) : Df K mg x ps st :=
  ⟨f, _, fun_mk l c k, (fun_mk l c k).binds h, m⟩
theorem Df.ok {x : Str} {N ps : List Str} {st : Stmt} {k : Nat} {sp : Sp} (D : Df K mg x ps st) (S : FnScope N ps (defScope st)) (len : ∀ vs H Q E, sp vs H Q E → vs.length = ps.length)
    (hbody : ∀ (f : Addr) (cdv : Value) (A : Around) (outer : List Env) (s : Shared) (H : Hp) (vs : List V) (Q : VK) (E : XK), Room k (A.deeper (envOfC x (defScope st) s.heap.objs.size f cdv)) → sp vs H Q E →
      ∃ t, PSs (cxOf CX0 P w K mg base N x (defScope st) f cdv A outer s H E).nox (defBody st) t ∧ t { nx := fun _ H' => Q .non H', rt := Q } (start N vs) H) : Kn P w K mg base x ps (k + 1) sp := by
  obtain ⟨f, fd, F, b, m⟩ := D.ex
  exact ⟨f, fd, F.ok S len (hbody f), b, F.kp, m⟩
theorem Kn.none {k : Nat} {x : Str} {ps : List Str} {st : Stmt} {sp : Sp} (D : Df K mg x ps st) (no : ∀ vs H Q E, ¬ sp vs H Q E) : Kn P w K mg base x ps k sp := by
  obtain ⟨f, fd, F, b, m⟩ := D.ex
  exact ⟨f, fd, ⟨fun vs H Q E h => absurd h (no vs H Q E), fun A outer s H args us vs Q E _ _ _ _ h => absurd h (no vs H Q E)⟩, b, F.kp, m⟩
end
def Kp (p : Addr) (H H' : Hp) : Prop := ∀ b o, b ≠ p → H b = some o → H' b = some o
theorem Kp.refl (p : Addr) (H : Hp) : Kp p H H := fun _ _ _ h => h
theorem Kp.trans {p : Addr} {H H1 H2 : Hp} (a : Kp p H H1) (b : Kp p H1 H2) : Kp p H H2 := fun c o n h => b c o n (a c o n h)
theorem Kp.same {p : Addr} {H H' : Hp} (a : Same H H') : Kp p H H' := fun c o _ h => a c o h
theorem same_upd {H : Hp} {p : Addr} (h : H p = none) (o : HO) : Same H (upd H p o) := fun b u q => by rw [upd_ne (ne_of_none q h)]; exact q
theorem Kp.new {p t : Addr} {H : Hp} (h : H t = none) (o : HO) : Kp p H (upd H t o) := Kp.same (same_upd h o)
theorem Kp.at {p : Addr} {H : Hp} (o : HO) : Kp p H (upd H p o) := fun b u n q => by rw [upd_ne n]; exact q
theorem Kp.lst {p : Addr} {H H' : Hp} {b : Addr} {o : HO} (a : Kp p H H') (n : b ≠ p) (h : H b = some o) : H' b = some o := a b o n h
def Tk (H H' : Hp) : Prop := ∀ b xs, H b = some (.tup xs) → H' b = some (.tup xs)
theorem Tk.refl (H : Hp) : Tk H H := fun _ _ h => h
theorem Tk.trans {H H1 H2 : Hp} (a : Tk H H1) (b : Tk H1 H2) : Tk H H2 := fun c o h => b c o (a c o h)
theorem Same.tk {H H' : Hp} (a : Same H H') : Tk H H' := fun b xs h => a b _ h
theorem Kp.tk {p : Addr} {H H' : Hp} {xs : List V} (a : Kp p H H') (hp : H p = some (.lst xs)) : Tk H H' := fun b ys h => a b _ (ne_of h hp (by intro z; cases z)) h
def BoxAt (H : Hp) (p : Addr) (c : Int) : Prop := ∃ a b z : Int, H p = some (.lst [.int a, .int b, .int z]) ∧ 0 ≤ a ∧ 0 ≤ b ∧ b < 2147483629 ∧ 0 ≤ z ∧ z ≤ c
theorem BoxAt.kp {H H' : Hp} {p q : Addr} {c : Int} (h : BoxAt H p c) (k : Kp q H H') (n : p ≠ q) : BoxAt H' p c := by
  obtain ⟨a, b, z, e, r⟩ := h
  exact ⟨a, b, z, k _ _ n e, r⟩
theorem BoxAt.same {H H' : Hp} {p : Addr} {c : Int} (h : BoxAt H p c) (k : Same H H') : BoxAt H' p c := by
  obtain ⟨a, b, z, e, r⟩ := h
  exact ⟨a, b, z, k _ _ e, r⟩
theorem BoxAt.new {H : Hp} {p t : Addr} {c : Int} (h : BoxAt H p c) (n : H t = none) (o : HO) : BoxAt (upd H t o) p c := h.same (same_upd n o)
theorem BoxAt.mono {H : Hp} {p : Addr} {c d : Int} (h : BoxAt H p c) (k : c ≤ d) : BoxAt H p d := by
  obtain ⟨a, b, z, e, h1, h2, h3, h4, h5⟩ := h
  exact ⟨a, b, z, e, h1, h2, h3, h4, by omega⟩
theorem BoxAt.tk {H H' : Hp} {p : Addr} {c : Int} (h : BoxAt H p c) (k : Kp p H H') : Tk H H' := by
  obtain ⟨a, b, z, e, r⟩ := h
  exact k.tk e
theorem BoxAt.ne {H : Hp} {p t : Addr} {c : Int} (h : BoxAt H p c) (n : H t = none) : p ≠ t := by
  obtain ⟨a, b, z, e, r⟩ := h
  exact ne_of_none e n
def spTake : Sp := fun vs H Q _ => ∃ (p : Addr) (m c : Int), vs = [.ref p, .int m] ∧ BoxAt H p c ∧ 0 < m ∧ m < 1073741824 ∧ c < 1000000000000 ∧ ∀ (r : Int) (H' : Hp), 0 ≤ r → r < m → Kp p H H' → BoxAt H' p (c + 1) → Q (.int r) H'
def spBox (K : PySem.W.Frag) : Sp := fun vs H Q _ => ∃ (a : Addr) (ns : List Int) (k : Int), vs = [.ref a, .int k] ∧ H a = some (.lst (ns.map V.int)) ∧ ns.length ≤ 100 ∧ 0 ≤ k ∧ k ≤ 100 ∧ ∀ (p : Addr) (H' : Hp), Same H H' → H p = none → BoxAt H' p 0 → Q (.ref p) H'
def spFolded (K : PySem.W.Frag) : Sp := fun vs H Q _ => ∃ (a : Addr) (ns : List Int) (m : Int), vs = [.ref a, .int m] ∧ SqL K H a (ns.map V.int) ∧ ns.length ≤ 63 ∧ 0 < m ∧ m ≤ 63 ∧ ∀ (l : Addr) (ms : List Int) (H' : Hp), Same H H' → H l = none → H' l = some (.lst (ms.map V.int)) → (ms.length : Int) ≤ m → Q (.ref l) H'
def spLaw (K : PySem.W.Frag) : Sp := fun vs H Q _ => ∃ (a : Addr) (ns : List Int), vs = [.ref a] ∧ SqL K H a (ns.map V.int) ∧ ns.length ≤ 63 ∧ ∀ H', Q (.bl true) H'
inductive Tm where
  | is (k : Int) | any | not (t : Tm) | and (s t : Tm) | or (s t : Tm)
def Tm.dep : Tm → Nat
  | .is _ => 1
  | .any => 1
  | .not t => t.dep + 1
  | .and s t => max s.dep t.dep + 1
  | .or s t => max s.dep t.dep + 1
def Tm.okc (m : Int) : Tm → Prop
  | .is k => 0 ≤ k ∧ k < m
  | .any => True
  | .not t => t.okc m
  | .and s t => s.okc m ∧ t.okc m
  | .or s t => s.okc m ∧ t.okc m
def Tm.of : Tm → Int → Bool
  | .is k, c => decide (c / 2 ^ k.toNat % 2 = 1)
  | .any, _ => true
  | .not t, c => !t.of c
  | .and s t, c => s.of c && t.of c
  | .or s t, c => s.of c || t.of c
def TmAt (H : Hp) : Tm → V → Prop
  | .is k, v => ∃ a, v = .ref a ∧ H a = some (.tup [.str "is", .int k])
  | .any, v => ∃ a, v = .ref a ∧ H a = some (.tup [.str "any"])
  | .not t, v => ∃ a x, v = .ref a ∧ H a = some (.tup [.str "not", x]) ∧ TmAt H t x
  | .and s t, v => ∃ a x y, v = .ref a ∧ H a = some (.tup [.str "and", x, y]) ∧ TmAt H s x ∧ TmAt H t y
  | .or s t, v => ∃ a x y, v = .ref a ∧ H a = some (.tup [.str "or", x, y]) ∧ TmAt H s x ∧ TmAt H t y
theorem TmAt.tk {H H' : Hp} (k : Tk H H') : ∀ {t : Tm} {v : V}, TmAt H t v → TmAt H' t v
  | .is _, _, ⟨a, e, h⟩ => ⟨a, e, k _ _ h⟩
  | .any, _, ⟨a, e, h⟩ => ⟨a, e, k _ _ h⟩
  | .not _, _, ⟨a, x, e, h, q⟩ => ⟨a, x, e, k _ _ h, TmAt.tk k q⟩
  | .and _ _, _, ⟨a, x, y, e, h, q, r⟩ => ⟨a, x, y, e, k _ _ h, TmAt.tk k q, TmAt.tk k r⟩
  | .or _ _, _, ⟨a, x, y, e, h, q, r⟩ => ⟨a, x, y, e, k _ _ h, TmAt.tk k q, TmAt.tk k r⟩
theorem Tm.okc_mono {m n : Int} (h : m ≤ n) : ∀ {t : Tm}, t.okc m → t.okc n
  | .is _, ⟨a, b⟩ => ⟨a, by omega⟩
  | .any, _ => trivial
  | .not t, h' => Tm.okc_mono (t := t) h h'
  | .and s t, ⟨a, b⟩ => ⟨Tm.okc_mono (t := s) h a, Tm.okc_mono (t := t) h b⟩
  | .or s t, ⟨a, b⟩ => ⟨Tm.okc_mono (t := s) h a, Tm.okc_mono (t := t) h b⟩
def cellsN (m : Int) : List Int := (List.range (2 ^ m.toNat)).map Int.ofNat
def Tm.cells (t : Tm) (m : Int) : List Int := (cellsN m).filter t.of
def spOf (n : Nat) : Sp := fun vs H Q _ => ∃ (v : V) (t : Tm) (c : Int), vs = [v, .int c] ∧ TmAt H t v ∧ t.dep ≤ n ∧ t.okc 4 ∧ 0 ≤ c ∧ ∀ H', Same H H' → Q (.bl (t.of c)) H'
def spCells : Sp := fun vs H Q _ => ∃ (v : V) (t : Tm) (m : Int), vs = [v, .int m] ∧ TmAt H t v ∧ t.dep ≤ 8 ∧ t.okc 4 ∧ 0 ≤ m ∧ m ≤ 4 ∧ ∀ (a : Addr) (H' : Hp), Same H H' → H' a = some (.tup ((t.cells m).map V.int)) → Q (.ref a) H'
def spCount : Sp := fun vs H Q _ => ∃ (m : Int), vs = [.int m] ∧ 0 ≤ m ∧ m ≤ 4 ∧ Q (.int (2 ^ m.toNat : Nat)) H
end L2
end
section
set_option Elab.async false
set_option maxRecDepth 100000
set_option linter.unusedVariables false
namespace L2
open PySem PySem.Spec PySem.F PyProof.Rows
def rLen (K : PySem.W.Frag) : List V → Hp → VK → Prop := fun xs H Q => ∃ p ys, xs = [.ref p] ∧ (SqL K H p ys ∨ SqT K H p ys) ∧ Q (.int ys.length) H
def rTupleOf (K : PySem.W.Frag) : List V → Hp → VK → Prop := fun xs H Q => ∃ p ys, xs = [.ref p] ∧ ((SqL K H p ys ∧ ∀ l, H l = none → Q (.ref l) (upd H l (.tup ys))) ∨ (SqT K H p ys ∧ Q (.ref p) H))
def rListOf (K : PySem.W.Frag) : List V → Hp → VK → Prop := fun xs H Q => ∃ p ys, xs = [.ref p] ∧ (SqL K H p ys ∨ SqT K H p ys) ∧ ∀ l, H l = none → Q (.ref l) (upd H l (.lst ys))
section
variable {X : Cx} {K : PySem.W.Frag}
theorem k_ix (hK : X.K = K) : IxR X (rIx K) := by subst hK; exact ix_seq
theorem k_len (hK : X.K = K) : CallR X (.builtin "len") (rLen K) := by subst hK; exact call_len_seq
theorem k_listOf (hK : X.K = K) : CallR X (.type "list") (rListOf K) := by subst hK; exact call_list_of
theorem k_isi (hK : X.K = K) : CallR X (.builtin "isinstance") (rIsi K) := by subst hK; exact call_isi
theorem k_eqD (hu : X.A.units + 64 < cLine) (hK : X.K = K) : OpR X (compareOp .Eq) (rEqD K) := by subst hK; exact op_eqD hu
theorem k_neD (hu : X.A.units + 64 < cLine) (hK : X.K = K) : OpR X (compareOp .NotEq) (rNeD K) := by subst hK; exact op_neD hu
theorem k_all (hc : X.calm = true) (hK : X.K = K) : CallR X (.builtin "all") (rAll K) := by subst hK; exact cr_all hc
theorem k_any (hc : X.calm = true) (hK : X.K = K) : CallR X (.builtin "any") (rAny K) := by subst hK; exact cr_any hc
theorem k_gTup {es : List Expr} {k : Nat} {t : TGs} {n : Nat} {pos : Pos} (hK : X.K = K) (hc : X.calm = true) (h : PGs X es t) (hn : (assignEach es X.env).length = n := by rfl) (hst : (assignEach es X.env).findIdx? (·.1) = none := by rfl) : PG X (.Tuple es k pos) (gTup K n t) := by
  subst hK; exact pg_tup hc h hn hst
end
section
variable {σ : St} {H : Hp} {Q : VK} {K : PySem.W.Frag}
end
end L2
end
section
set_option Elab.async false
set_option maxRecDepth 100000
set_option linter.unusedVariables false
namespace L2
open PySem PySem.Spec PySem.F PyProof.Rows
section
variable {σ : St} {H : Hp} {Q : VK} {ta tb : TE} {D : Ends} {K : PySem.W.Frag}
end
theorem small {n : Nat} (h : n ≤ 1000) : n ≤ sizeLine := Nat.le_of_lt (small1000 h)
theorem dpAll_ints {K : PySem.W.Frag} {H : Hp} : ∀ ns : List Int, DpAll K H (ns.map V.int) (ns.map PyData.int)
  | [] => .nil
  | _ :: r => .cons (.int _) (dpAll_ints r)
end L2
end
section
set_option Elab.async false
set_option maxRecDepth 100000
set_option linter.unusedVariables false
namespace L2
open PySem PySem.Spec PySem.F PyProof.Rows
def SIt (b : Bool) (h : Heap) (it l : Addr) (k : Nat) : Prop := match b with
  | true => h.IsListIter it l k
  | false => h.IsTupleIter it l k
def SSq (b : Bool) (h : Heap) (l : Addr) (xs : Array Value) : Prop := match b with
  | true => h.IsList l xs
  | false => h.IsTuple l xs
theorem SIt.mv {b : Bool} {h h' : Heap} {it l : Addr} {k : Nat} (x : SIt b h it l k) (e : ∀ o, h.get? it = some o → h'.get? it = some o) : SIt b h' it l k := by
  cases b
  · exact Heap.IsTupleIter.at x e
  · exact Heap.IsListIter.at x e
theorem SSq.mv {b : Bool} {h h' : Heap} {l : Addr} {xs : Array Value} (x : SSq b h l xs) (e : ∀ o, h.get? l = some o → h'.get? l = some o) : SSq b h' l xs := by
  cases b
  · obtain ⟨o, ho, r⟩ := x; exact ⟨o, e o ho, r⟩
  · obtain ⟨o, ho, r⟩ := x; exact ⟨o, e o ho, r⟩
theorem SIt.ob {b : Bool} {h : Heap} {it l : Addr} {k : Nat} (x : SIt b h it l k) : ∃ o, h.get? it = some o ∧ o.data = .fields #[.ref l, .int k 0] := by
  cases b
  · obtain ⟨o, ho, _, hd⟩ := x; exact ⟨o, ho, hd⟩
  · obtain ⟨o, ho, _, hd⟩ := x; exact ⟨o, ho, hd⟩
section
variable {prog : Program} {w : World} {A : Around} {E : Value → Shared → Prop} {s : Shared}
theorem draw_tuple {it l : Addr} {i : Nat} {items : Array Value} {x : Value} {Q : Value → Shared → Prop} (hit : s.heap.IsTupleIter it l i) (hl : s.heap.IsTuple l items) (hx : items[i]? = some x)
    (hQ : ∀ h', h'.IsTupleIter it l (i + 1) → Heap.SameBut it s.heap h' → Q x { s with heap := h' }) : wpAny (model prog w) A (Builtin.SmallTypes.nextOf (.ref it)) Q E s := by
  obtain ⟨o, ho, hc, hd⟩ := id hit; obtain ⟨ol, hol, _, nl, hdl⟩ := hl
  unfold Builtin.SmallTypes.nextOf
  refine wpAny_bind (wpAny_callSpecial?_slot (name := Str.ofString "__next__") hit.typeIs slot_tuple_iterator_next (wpAny_call_entry slot_tuple_iterator_next hit.typeIs entry_tuple_iterator_next ?_ (args_tuple_iterator_next_1 _)))
  show wpAny _ _ (field (.ref it) 0 >>= _) _ _ s; refine wpAny_bind (wpAny_field ho hd (x := .ref l) rfl ?_)
  show wpAny _ _ (if (Value.ref l == Value.none) = true then _ else _) _ _ s; rw [if_neg (show ¬ ((Value.ref l == Value.none) = true) by exact Bool.false_ne_true)]
  show wpAny _ _ (field (.ref it) 1 >>= _) _ _ s; refine wpAny_bind (wpAny_field ho hd (x := .int i 0) rfl ?_)
  show wpAny _ _ (seqItems? (.ref l) >>= _) _ _ s; refine wpAny_bind (wpAny_seqItems hol hdl ?_); simp only [Int.toNat_natCast, hx]
  refine wpAny_bind (wpAny_setField ho hd (by simp) (wpAny_pure ⟨x, rfl, wpAny_pure (hQ _ ⟨_, Heap.get?_update_self _ ho (Obj.isFreed_of_fields (Obj.data_mapFields hd _)), (Obj.cls_mapFields ..).trans hc, by rw [Obj.data_mapFields hd]; simp [rawInt]⟩ (Heap.SameBut.update ..))⟩))
theorem draw_tuple_end {it l : Addr} {i : Nat} {items : Array Value} {Q : Value → Shared → Prop} (hh : A.handled = none) (hit : s.heap.IsTupleIter it l i) (hl : s.heap.IsTuple l items) (hx : items[i]? = none)
    (hE : ∀ h' e, Heap.ExtBut it s.heap h' → (∃ o, h'.get? e = some o ∧ o.cls = .type "StopIteration") → E (.ref e) { s with heap := h' }) : wpAny (model prog w) A (Builtin.SmallTypes.nextOf (.ref it)) Q E s := by
  obtain ⟨o, ho, hc, hd⟩ := id hit; obtain ⟨ol, hol, _, nl, hdl⟩ := hl
  unfold Builtin.SmallTypes.nextOf
  refine wpAny_bind (wpAny_callSpecial?_slot (name := Str.ofString "__next__") hit.typeIs slot_tuple_iterator_next (wpAny_call_entry slot_tuple_iterator_next hit.typeIs entry_tuple_iterator_next ?_ (args_tuple_iterator_next_1 _)))
  show wpAny _ _ (field (.ref it) 0 >>= _) _ _ s; refine wpAny_bind (wpAny_field ho hd (x := .ref l) rfl ?_)
  show wpAny _ _ (if (Value.ref l == Value.none) = true then _ else _) _ _ s; rw [if_neg (show ¬ ((Value.ref l == Value.none) = true) by exact Bool.false_ne_true)]
  show wpAny _ _ (field (.ref it) 1 >>= _) _ _ s; refine wpAny_bind (wpAny_field ho hd (x := .int i 0) rfl ?_)
  show wpAny _ _ (seqItems? (.ref l) >>= _) _ _ s; refine wpAny_bind (wpAny_seqItems hol hdl ?_); simp only [Int.toNat_natCast, hx]
  refine wpAny_bind (wpAny_rule (wpAny_bind (wpAny_setField ho hd (by simp) ?_))); show wpAny _ _ (newExc (.type "StopIteration") [] >>= _) _ _ _; refine wpAny_bind ?_
  simp only [newExc, newTuple]; refine wpAny_bind (wpAny_newObj_type ?_ (by size_fits)); refine wpAny_bind (m := firstArgMember _ _) (wpAny_of_eq (a := Value.none) (by first | rfl | (simp only [firstArgMember]; rfl)) ?_)
  refine wpAny_newObj_type ?_ (by size_fits); simp only [raiseNew]; refine wpAny_bind (wpAny_handled ?_)
  first | rw [show A.in1.handled = none by exact hh] | rw [hh]
  exact wpAny_bind (wpAny_pure (wpAny_throw (hE _ _ (((Heap.SameBut.update ..).extBut.push _).push _) ⟨_, Heap.get?_push_size _ rfl, rfl⟩)))
theorem draw {b : Bool} {it l : Addr} {i : Nat} {items : Array Value} {x : Value} {Q : Value → Shared → Prop} (hit : SIt b s.heap it l i) (hl : SSq b s.heap l items) (hx : items[i]? = some x)
    (hQ : ∀ h', SIt b h' it l (i + 1) → Heap.SameBut it s.heap h' → Q x { s with heap := h' }) : wpAny (model prog w) A (Builtin.SmallTypes.nextOf (.ref it)) Q E s := by
  cases b
  · exact draw_tuple hit hl hx hQ
  · exact wpAny_nextOf_list_item hit hl hx hQ
theorem draw_end {b : Bool} {it l : Addr} {i : Nat} {items : Array Value} {Q : Value → Shared → Prop} (hh : A.handled = none) (hit : SIt b s.heap it l i) (hl : SSq b s.heap l items) (hx : items[i]? = none)
    (hE : ∀ h' e, Heap.ExtBut it s.heap h' → (∃ o, h'.get? e = some o ∧ o.cls = .type "StopIteration") → E (.ref e) { s with heap := h' }) : wpAny (model prog w) A (Builtin.SmallTypes.nextOf (.ref it)) Q E s := by
  cases b
  · exact draw_tuple_end hh hit hl hx hE
  · exact wpAny_nextOf_list_end hh hit hl hx hE
theorem zipm_item {b1 b2 : Bool} {z TI TO i1 i2 l1 l2 : Addr} {k1 k2 : Nat} {xs ys : Array Value} {x y p q : Value} {Q : Option Value → Shared → Prop} (D : ZipApart z TI TO i1 i2 l1 l2)
    (hz : IsZip s.heap z TI TO .none) (hTI : IsPair s.heap TI (.ref i1) (.ref i2)) (hTO : IsPair s.heap TO p q) (h1 : SIt b1 s.heap i1 l1 k1) (h2 : SIt b2 s.heap i2 l2 k2) (hl1 : SSq b1 s.heap l1 xs) (hl2 : SSq b2 s.heap l2 ys) (hx : xs[k1]? = some x) (hy : ys[k2]? = some y)
    (hQ : ∀ h', IsZip h' z TI TO (rawInt s.heap.objs.size) → IsPair h' TO x y → SIt b1 h' i1 l1 (k1 + 1) → SIt b2 h' i2 l2 (k2 + 1) → IsPair h' s.heap.objs.size x y → h'.objs.size = s.heap.objs.size + 1 →
      (∀ c o, c ≠ z → c ≠ TO → c ≠ i1 → c ≠ i2 → s.heap.get? c = some o → h'.get? c = some o) → Q (some (.ref s.heap.objs.size)) { s with heap := h' }) : wpAny (model prog w) A (pyNext (.ref z)) Q E s := by
  have hT : s.TypeIs (.ref z) "zip" := ⟨_, hz, rfl⟩
  unfold pyNext
  refine wpAny_bind (wpAny_attempt (wpAny_callSpecial?_slot (name := Str.ofString "__next__") hT slot_zip_next (wpAny_call_entry slot_zip_next hT entry_zip_next ?_ (args_zip_next_1 _))))
  show wpAny _ _ (field (.ref z) 2 >>= _) _ _ _; refine wpAny_bind (wpAny_field hz rfl (x := .bool false) rfl ?_)
  show wpAny _ _ (field (.ref z) 3 >>= _) _ _ _; refine wpAny_bind (wpAny_field hz rfl (x := .ref TI) rfl ?_)
  refine wpAny_bind (wpAny_seqItems hTI rfl ?_); show wpAny _ _ (Builtin.SmallTypes.ownedTupleIsFree (.ref z) >>= _) _ _ _; refine wpAny_bind ?_
  unfold Builtin.SmallTypes.ownedTupleIsFree
  refine wpAny_bind (wpAny_field hz rfl (x := .none) rfl (wpAny_pure ?_)); simp only [if_true]
  refine wpAny_bind (wpAny_rule (wpAny_bind (wpAny_field hz rfl (x := .ref TO) rfl ?_)))
  refine wpAny_bind (wpAny_setField_rec hz (by simp) fun g1 z1 e1 => ?_)
  replace z1 : IsZip g1 z TI TO .ellipsis := z1
  refine wpAny_bind ?_; simp only [List.zipIdx_cons, List.zipIdx_nil, List.forIn_cons, List.forIn_nil]
  refine wpAny_bind (wpAny_bind (wpAny_onRaise ?_)); show wpAny _ _ (Builtin.SmallTypes.nextOf (.ref i1) >>= _) _ _ _
  refine wpAny_bind (draw (h1.mv fun o e => e1.extBut _ _ D.i1z e) (hl1.mv fun o e => e1.extBut _ _ D.l1z e) hx fun g2 a2 e2 => wpAny_pure ?_)
  have t2 : IsPair g2 TO p q := e2.extBut _ _ D.TOi1 (e1.extBut _ _ D.TOz hTO)
  refine wpAny_bind (wpAny_seqItems t2 rfl (wpAny_bind (wpAny_updateSeq_pair t2 fun g3 t3 e3 => ?_)))
  replace t3 : IsPair g3 TO x q := t3
  refine wpAny_bind (wpAny_letGo (wpAny_pure (wpAny_bind (wpAny_bind (wpAny_onRaise ?_))))); show wpAny _ _ (Builtin.SmallTypes.nextOf (.ref i2) >>= _) _ _ _
  refine wpAny_bind (draw (h2.mv fun o e => e3.extBut _ _ D.TOi2.symm (e2.extBut _ _ D.i12.symm (e1.extBut _ _ D.i2z e))) (hl2.mv fun o e => e3.extBut _ _ D.l2TO (e2.extBut _ _ D.l2i1 (e1.extBut _ _ D.l2z e))) hy fun g4 a4 e4 => wpAny_pure ?_)
  have t4 : IsPair g4 TO x q := e4.extBut _ _ D.TOi2 t3
  refine wpAny_bind (wpAny_seqItems t4 rfl (wpAny_bind (wpAny_updateSeq_pair t4 fun g5 t5 e5 => ?_)))
  replace t5 : IsPair g5 TO x y := t5
  refine wpAny_bind (wpAny_letGo (wpAny_pure (wpAny_pure ?_))); refine wpAny_bind (wpAny_seqItems t5 rfl (wpAny_bind (wpAny_newTuple ?_)))
  have sz : g5.objs.size = s.heap.objs.size := by rw [e5.1, e4.1, e3.1, e2.1, e1.1]
  have z5 : IsZip g5 z TI TO .ellipsis := e5.extBut _ _ D.TOz.symm (e4.extBut _ _ D.i2z.symm (e3.extBut _ _ D.TOz.symm (e2.extBut _ _ D.i1z.symm z1)))
  have kk : ∀ c o, c ≠ z → c ≠ TO → c ≠ i1 → c ≠ i2 → s.heap.get? c = some o → g5.get? c = some o := fun c o c1 c2 c3 c4 e => e5.extBut _ _ c2 (e4.extBut _ _ c4 (e3.extBut _ _ c2 (e2.extBut _ _ c3 (e1.extBut _ _ c1 e))))
  have b1' : SIt b1 g5 i1 l1 (k1 + 1) := a2.mv fun o e => e5.extBut _ _ D.TOi1.symm (e4.extBut _ _ D.i12 (e3.extBut _ _ D.TOi1.symm e))
  have b2' : SIt b2 g5 i2 l2 (k2 + 1) := a4.mv fun o e => e5.extBut _ _ D.TOi2.symm e
  have zlt : z < g5.objs.size := Heap.lt_size z5
  show wpAny _ _ (Builtin.SmallTypes.ownedTupleHandOut (.ref z) (.ref g5.objs.size) >>= _) _ _ _; refine wpAny_bind ?_
  unfold Builtin.SmallTypes.ownedTupleHandOut
  have z6 : IsZip (g5.push { cls := .type "tuple", data := .seq #[x, y] }) z TI TO .ellipsis := Heap.get?_push_of_some _ z5
  refine wpAny_bind (wpAny_setField_rec z6 (by simp) fun g7 z7 e7 => ?_)
  replace z7 : IsZip g7 z TI TO (rawInt g5.objs.size) := z7
  refine wpAny_setField_rec z7 (by simp) fun g8 z8 e8 => ?_
  replace z8 : IsZip g8 z TI TO (rawInt g5.objs.size) := z8
  have up : ∀ c o, c ≠ z → g5.get? c = some o → g8.get? c = some o := fun c o c1 e => e8.extBut _ _ c1 (e7.extBut _ _ c1 (Heap.get?_push_of_some _ e))
  have p8 : IsPair g8 g5.objs.size x y := e8.extBut _ _ (Nat.ne_of_gt zlt) (e7.extBut _ _ (Nat.ne_of_gt zlt) (Heap.get?_push_size _ rfl))
  have s8 : g8.objs.size = g5.objs.size + 1 := by rw [e8.1, e7.1, Heap.size_push]
  rw [sz] at z8 p8 s8
  refine wpAny_pure ⟨_, rfl, wpAny_pure ?_⟩
  show Q (some (.ref g5.objs.size)) _
  rw [sz]
  exact hQ g8 z8 (up _ _ D.TOz t5) (b1'.mv fun o e => up _ o D.i1z e) (b2'.mv fun o e => up _ o D.i2z e) p8 s8 fun c o c1 c2 c3 c4 e => up c o c1 (kk c o c1 c2 c3 c4 e)
theorem zipm_end {b1 b2 : Bool} {z TI TO i1 i2 l1 l2 : Addr} {k1 k2 : Nat} {xs ys : Array Value} {p q : Value} {Q : Option Value → Shared → Prop} (hh : A.handled = none) (D : ZipApart z TI TO i1 i2 l1 l2)
    (hz : IsZip s.heap z TI TO .none) (hTI : IsPair s.heap TI (.ref i1) (.ref i2)) (hTO : IsPair s.heap TO p q) (h1 : SIt b1 s.heap i1 l1 k1) (h2 : SIt b2 s.heap i2 l2 k2) (hl1 : SSq b1 s.heap l1 xs) (hl2 : SSq b2 s.heap l2 ys) (hend : xs[k1]? = none ∨ ys[k2]? = none)
    (hQ : ∀ h', (∀ c o, c ≠ z → c ≠ TO → c ≠ i1 → c ≠ i2 → s.heap.get? c = some o → h'.get? c = some o) → Q none { s with heap := h' }) : wpAny (model prog w) A (pyNext (.ref z)) Q E s := by
  have hT : s.TypeIs (.ref z) "zip" := ⟨_, hz, rfl⟩
  have fin : ∀ (h' : Heap) (e : Addr), (∀ c o, c ≠ z → c ≠ TO → c ≠ i1 → c ≠ i2 → s.heap.get? c = some o → h'.get? c = some o) → (∃ o, h'.get? e = some o ∧ o.cls = .type "StopIteration") →
      wpAny (model prog w) A (isInstance (.ref e) (.type "StopIteration")) (fun r s' => wpAny (model prog w) A (if r = true then pure none else throw (.ref e)) Q E s') E { s with heap := h' } := fun h' e hk ⟨o, ho, hc⟩ =>
    wpAny_isInstance (T := "StopIteration") (b := true) ⟨o, ho, hc⟩ isSubtype_stop (wpAny_pure (hQ _ hk))
  unfold pyNext
  refine wpAny_bind (wpAny_attempt (wpAny_callSpecial?_slot (name := Str.ofString "__next__") hT slot_zip_next (wpAny_call_entry slot_zip_next hT entry_zip_next ?_ (args_zip_next_1 _))))
  show wpAny _ _ (field (.ref z) 2 >>= _) _ _ _; refine wpAny_bind (wpAny_field hz rfl (x := .bool false) rfl ?_)
  show wpAny _ _ (field (.ref z) 3 >>= _) _ _ _; refine wpAny_bind (wpAny_field hz rfl (x := .ref TI) rfl ?_)
  refine wpAny_bind (wpAny_seqItems hTI rfl ?_); show wpAny _ _ (Builtin.SmallTypes.ownedTupleIsFree (.ref z) >>= _) _ _ _; refine wpAny_bind ?_
  unfold Builtin.SmallTypes.ownedTupleIsFree
  refine wpAny_bind (wpAny_field hz rfl (x := .none) rfl (wpAny_pure ?_)); simp only [if_true]
  refine wpAny_bind (wpAny_rule (wpAny_bind (wpAny_field hz rfl (x := .ref TO) rfl ?_)))
  refine wpAny_bind (wpAny_setField_rec hz (by simp) fun g1 z1 e1 => ?_)
  replace z1 : IsZip g1 z TI TO .ellipsis := z1
  refine wpAny_bind ?_; simp only [List.zipIdx_cons, List.zipIdx_nil, List.forIn_cons, List.forIn_nil]
  refine wpAny_bind (wpAny_bind (wpAny_onRaise ?_)); show wpAny _ _ (Builtin.SmallTypes.nextOf (.ref i1) >>= _) _ _ _
  have c1 : SIt b1 g1 i1 l1 k1 := h1.mv fun o e => e1.extBut _ _ D.i1z e
  have d1 : SSq b1 g1 l1 xs := hl1.mv fun o e => e1.extBut _ _ D.l1z e
  cases hx : xs[k1]? with
  | none =>
    refine wpAny_bind (draw_end hh c1 d1 hx fun g2 e e2 he => ?_)
    obtain ⟨oe, hoe, hce⟩ := he
    have z2 : IsZip g2 z TI TO .ellipsis := e2 _ _ D.i1z.symm z1
    have hez : e ≠ z := fun r => by subst r; rw [z2] at hoe; cases hoe; simp at hce
    exact wpAny_setField_rec z2 (by simp) fun g3 _ e3 => wpAny_bind (fin g3 e (fun c o c1 _ c3 _ r => e3.extBut _ _ c1 (e2 _ _ c3 (e1.extBut _ _ c1 r))) ⟨oe, e3.extBut _ _ hez hoe, hce⟩)
  | some x =>
    have hy : ys[k2]? = none := by
      rcases hend with r | r
      · rw [hx] at r; cases r
      · exact r
    refine wpAny_bind (draw c1 d1 hx fun g2 a2 e2 => wpAny_pure ?_)
    have t2 : IsPair g2 TO p q := e2.extBut _ _ D.TOi1 (e1.extBut _ _ D.TOz hTO)
    refine wpAny_bind (wpAny_seqItems t2 rfl (wpAny_bind (wpAny_updateSeq_pair t2 fun g3 t3 e3 => ?_)))
    refine wpAny_bind (wpAny_letGo (wpAny_pure (wpAny_bind (wpAny_bind (wpAny_onRaise ?_))))); show wpAny _ _ (Builtin.SmallTypes.nextOf (.ref i2) >>= _) _ _ _
    refine wpAny_bind (draw_end hh (h2.mv fun o e => e3.extBut _ _ D.TOi2.symm (e2.extBut _ _ D.i12.symm (e1.extBut _ _ D.i2z e))) (hl2.mv fun o e => e3.extBut _ _ D.l2TO (e2.extBut _ _ D.l2i1 (e1.extBut _ _ D.l2z e))) hy fun g4 e e4 he => ?_)
    obtain ⟨oe, hoe, hce⟩ := he
    have z4 : IsZip g4 z TI TO .ellipsis := e4 _ _ D.i2z.symm (e3.extBut _ _ D.TOz.symm (e2.extBut _ _ D.i1z.symm z1))
    have hez : e ≠ z := fun r => by subst r; rw [z4] at hoe; cases hoe; simp at hce
    exact wpAny_setField_rec z4 (by simp) fun g5 _ e5 => wpAny_bind (fin g5 e (fun c o c1 c2 c3 c4 r => e5.extBut _ _ c1 (e4 _ _ c4 (e3.extBut _ _ c2 (e2.extBut _ _ c3 (e1.extBut _ _ c1 r))))) ⟨oe, e5.extBut _ _ hez hoe, hce⟩)
end
end L2
end
section
set_option Elab.async false
set_option maxRecDepth 100000
set_option linter.unusedVariables false
set_option maxHeartbeats 4000000
namespace L2
open PySem PySem.Spec PySem.F PyProof.Rows
def itO (b : Bool) (l : Addr) : Obj := match b with
  | true => { cls := .type "list_iterator", data := .fields #[.ref l, .int 0 0] }
  | false => { cls := .type "tuple_iterator", data := .fields #[.ref l, .int 0 0] }
abbrev zm1 (h : Heap) (b1 : Bool) (l1 : Addr) : Heap := h.push (itO b1 l1)
abbrev zm2 (h : Heap) (b1 b2 : Bool) (l1 l2 : Addr) : Heap := (zm1 h b1 l1).push (itO b2 l2)
abbrev zm3 (h : Heap) (b1 b2 : Bool) (l1 l2 : Addr) : Heap := (zm2 h b1 b2 l1 l2).push { cls := .type "tuple", data := .seq #[.ref h.objs.size, .ref (zm1 h b1 l1).objs.size] }
abbrev zm4 (h : Heap) (b1 b2 : Bool) (l1 l2 : Addr) : Heap := (zm3 h b1 b2 l1 l2).push { cls := .type "tuple", data := .seq #[.none, .none] }
abbrev zm5 (h : Heap) (b1 b2 : Bool) (l1 l2 : Addr) : Heap := (zm4 h b1 b2 l1 l2).push { cls := .type "zip", data := .fields #[.none, .bool false, .bool false, .ref (zm2 h b1 b2 l1 l2).objs.size, .ref (zm3 h b1 b2 l1 l2).objs.size] }
theorem zipm_new (b1 b2 : Bool) (l1 l2 : Addr) (xs ys : Array Value) :
    Meets (Builtin.«zip.__new__» ⟨[.type "zip", .ref l1, .ref l2], []⟩) (fun _ R s => SSq b1 s.heap l1 xs ∧ SSq b2 s.heap l2 ys ∧ R (.ok (.ret (.ref (zm4 s.heap b1 b2 l1 l2).objs.size))) { s with heap := zm5 s.heap b1 b2 l1 l2 }) := by
  refine .of_wp fun prog w A R s h => ?_
  obtain ⟨hp, g, d, tk, os⟩ := s; obtain ⟨c1, c2, h⟩ := h
  have hsub := sub_zip
  have e2 : SSq b2 (Shared.heap ⟨hp.push (itO b1 l1), g, d, tk, os⟩) l2 ys := c2.mv fun o e => Heap.get?_push_of_some _ e
  cases b1 <;> cases b2
  · have a1 : Heap.IsTuple (Shared.heap ⟨hp, g, d, tk, os⟩) l1 xs := c1
    have a2 : Heap.IsTuple (Shared.heap ⟨hp.push { cls := .type "tuple_iterator", data := .fields #[.ref l1, .int 0 0] }, g, d, tk, os⟩) l2 ys := e2
    wp_walk using wpAny_pyIter_tuple a1, wpAny_pyIter_tuple a2
    exact ⟨_, rfl, h⟩
  · have a1 : Heap.IsTuple (Shared.heap ⟨hp, g, d, tk, os⟩) l1 xs := c1
    have a2 : Heap.IsList (Shared.heap ⟨hp.push { cls := .type "tuple_iterator", data := .fields #[.ref l1, .int 0 0] }, g, d, tk, os⟩) l2 ys := e2
    wp_walk using wpAny_pyIter_tuple a1, wpAny_pyIter_list a2
    exact ⟨_, rfl, h⟩
  · have a1 : Heap.IsList (Shared.heap ⟨hp, g, d, tk, os⟩) l1 xs := c1
    have a2 : Heap.IsTuple (Shared.heap ⟨hp.push { cls := .type "list_iterator", data := .fields #[.ref l1, .int 0 0] }, g, d, tk, os⟩) l2 ys := e2
    wp_walk using wpAny_pyIter_list a1, wpAny_pyIter_tuple a2
    exact ⟨_, rfl, h⟩
  · have a1 : Heap.IsList (Shared.heap ⟨hp, g, d, tk, os⟩) l1 xs := c1
    have a2 : Heap.IsList (Shared.heap ⟨hp.push { cls := .type "list_iterator", data := .fields #[.ref l1, .int 0 0] }, g, d, tk, os⟩) l2 ys := e2
    wp_walk using wpAny_pyIter_list a1, wpAny_pyIter_list a2
    exact ⟨_, rfl, h⟩
theorem itO_at {b : Bool} {h : Heap} {it l : Addr} (e : h.get? it = some (itO b l)) : SIt b h it l 0 := by
  cases b
  · exact ⟨_, e, rfl, rfl⟩
  · exact ⟨_, e, rfl, rfl⟩
section
variable {prog : Program} {w : World} {A : Around} {E : Value → Shared → Prop} {s : Shared}
theorem zipm_call {b1 b2 : Bool} {l1 l2 : Addr} {xs ys : Array Value} {Q : Value → Shared → Prop} (c1 : SSq b1 s.heap l1 xs) (c2 : SSq b2 s.heap l2 ys)
    (h : ∀ h', IsZip h' (s.heap.objs.size + 4) (s.heap.objs.size + 2) (s.heap.objs.size + 3) .none → IsPair h' (s.heap.objs.size + 2) (.ref s.heap.objs.size) (.ref (s.heap.objs.size + 1)) → IsPair h' (s.heap.objs.size + 3) .none .none →
      SIt b1 h' s.heap.objs.size l1 0 → SIt b2 h' (s.heap.objs.size + 1) l2 0 → h'.objs.size = s.heap.objs.size + 5 → (∀ c o, s.heap.get? c = some o → h'.get? c = some o) → Q (.ref (s.heap.objs.size + 4)) { s with heap := h' }) :
    wpAny (model prog w) A (call (.type "zip") [.ref l1, .ref l2]) Q E s := by
  refine callType_new called_zip (by decide) (typeCall_zip_2 _ _) (newCall_zip_2 _ _) (fun obj => args_object_init_3 obj _ _) entry_zip_new (zipm_new b1 b2 l1 l2 xs ys) ⟨c1, c2, ?_⟩
  have z1 : (zm1 s.heap b1 l1).objs.size = s.heap.objs.size + 1 := Heap.size_push ..
  have z2 : (zm2 s.heap b1 b2 l1 l2).objs.size = s.heap.objs.size + 2 := by rw [Heap.size_push, z1]
  have z3 : (zm3 s.heap b1 b2 l1 l2).objs.size = s.heap.objs.size + 3 := by rw [Heap.size_push, z2]
  have z4 : (zm4 s.heap b1 b2 l1 l2).objs.size = s.heap.objs.size + 4 := by rw [Heap.size_push, z3]
  have z5 : (zm5 s.heap b1 b2 l1 l2).objs.size = s.heap.objs.size + 5 := by rw [Heap.size_push, z4]
  have f5 : (zm5 s.heap b1 b2 l1 l2).get? (zm4 s.heap b1 b2 l1 l2).objs.size = some _ := Heap.get?_push_size _ rfl
  have f4 : (zm5 s.heap b1 b2 l1 l2).get? (zm3 s.heap b1 b2 l1 l2).objs.size = some _ := Heap.get?_push_of_some _ (Heap.get?_push_size _ rfl)
  have f3 : (zm5 s.heap b1 b2 l1 l2).get? (zm2 s.heap b1 b2 l1 l2).objs.size = some _ := Heap.get?_push_of_some _ (Heap.get?_push_of_some _ (Heap.get?_push_size _ rfl))
  have f2 : (zm5 s.heap b1 b2 l1 l2).get? (zm1 s.heap b1 l1).objs.size = some (itO b2 l2) := Heap.get?_push_of_some _ (Heap.get?_push_of_some _ (Heap.get?_push_of_some _ (Heap.get?_push_size _ (by cases b2 <;> rfl))))
  have f1 : (zm5 s.heap b1 b2 l1 l2).get? s.heap.objs.size = some (itO b1 l1) := Heap.get?_push_of_some _ (Heap.get?_push_of_some _ (Heap.get?_push_of_some _ (Heap.get?_push_of_some _ (Heap.get?_push_size _ (by cases b1 <;> rfl)))))
  show _ ∧ _
  rw [z2, z3, z4] at f5; rw [z1, z2] at f3; rw [z3] at f4; rw [z1] at f2; rw [z4]
  exact ⟨⟨_, f5, rfl⟩, h _ f5 f3 f4 (itO_at f1) (itO_at f2) z5 fun c o e => Heap.get?_push_of_some _ (Heap.get?_push_of_some _ (Heap.get?_push_of_some _ (Heap.get?_push_of_some _ (Heap.get?_push_of_some _ e))))⟩
end
end L2
end
section
set_option Elab.async false
set_option maxRecDepth 100000
set_option linter.unusedVariables false
set_option maxHeartbeats 4000000
namespace L2
open PySem PySem.Spec PySem.F PyProof.Rows
def Sq (b : Bool) (K : PySem.W.Frag) (H : Hp) (a : Addr) (xs : List V) : Prop := match b with
  | true => SqL K H a xs
  | false => SqT K H a xs
theorem Inv.sq {X : Cx} {pins : List (Addr × Obj)} {σ : St} {H : Hp} {s : Shared} {b : Bool} {a : Addr} {xs : List V} (I : Inv X pins σ H s) (h : Sq b X.K H a xs) : ∃ its : List Value, Vals xs its ∧ SSq b s.heap a its.toArray ∧ a < s.heap.objs.size := by
  cases b
  · obtain ⟨its, r, p, _⟩ := I.tuple h
    exact ⟨its, r, p, p.lt⟩
  · obtain ⟨its, r, p, _⟩ := I.list h
    exact ⟨its, r, p.isList, p.lt⟩
theorem Inv.sq_inj {X : Cx} {pins : List (Addr × Obj)} {σ : St} {H : Hp} {s : Shared} {b : Bool} {a : Addr} {xs ys : List V} (I : Inv X pins σ H s) (h : Sq b X.K H a xs) (h' : Sq b X.K H a ys) : xs = ys := by
  cases b
  · exact I.tuple_inj h h'
  · exact I.list_inj h h'
def Itzm (K : PySem.W.Frag) (b1 b2 : Bool) (a b : Addr) : It :=
  ⟨fun i H => ∃ (xs ys : List V) (x y : V), Sq b1 K H a xs ∧ Sq b2 K H b ys ∧ xs[i]? = some x ∧ ys[i]? = some y,
    fun i H v H' => ∃ T x y, v = .ref T ∧ H T = none ∧ H' = upd H T (.tup [x, y]) ∧ (∀ xs, Sq b1 K H a xs → xs[i]? = some x) ∧ ∀ ys, Sq b2 K H b ys → ys[i]? = some y,
    fun i H => ∃ xs ys : List V, Sq b1 K H a xs ∧ Sq b2 K H b ys ∧ (xs.length ≤ i ∨ ys.length ≤ i)⟩
def iZipm (K : PySem.W.Frag) (ta : TA) : TI := fun σ H R => ta σ H fun vs H1 => ∃ b1 b2 a b xs ys, vs = [.ref a, .ref b] ∧ Sq b1 K H1 a xs ∧ Sq b2 K H1 b ys ∧ R (Itzm K b1 b2 a b) H1
end L2
end
section
set_option Elab.async false
set_option maxRecDepth 100000
set_option linter.unusedVariables false
namespace L2
open PySem PySem.Spec PySem.F PyProof.Rows
structure KDict (P : Program) (w : World) (K : PySem.W.Frag) (d : Addr) (kvs : List (Key × V)) : Prop where
  ns : (d == sysModules) = false
  ok : ∀ h : Heap, K.In h → ∃ vs, KV kvs vs ∧ h.DictOf (mixKind P w) d vs
def rInT (P : Program) (w : World) (K : PySem.W.Frag) : R2 := fun x y H Q => ∃ d kvs k, y = .ref d ∧ x = kV k ∧ KDict P w K d kvs ∧ Q (.bl (valV kvs k).isSome) H
def rNotInT (P : Program) (w : World) (K : PySem.W.Frag) : R2 := fun x y H Q => ∃ d kvs k, y = .ref d ∧ x = kV k ∧ KDict P w K d kvs ∧ Q (.bl (!(valV kvs k).isSome)) H
def rGetT (P : Program) (w : World) (K : PySem.W.Frag) : R2 := fun x y H Q => ∃ d kvs k v, x = .ref d ∧ y = kV k ∧ KDict P w K d kvs ∧ valV kvs k = some v ∧ Q v H
section
variable {X : Cx} {P : Program} {w : World} {K : PySem.W.Frag}
theorem k_inT (hP : X.prog = P) (hw : X.w = w) (hK : X.K = K) : OpR X (compareOp .In) (rInT P w K) := by
  subst hP; subst hw; subst hK
  intro pins s σ H x y v u Q I rx ry h
  obtain ⟨d, kvs, k, rfl, rfl, D, q⟩ := h
  cases ry
  obtain ⟨vs, rel, dd⟩ := D.ok _ I.kIn
  refine wpAny_in_of (kV_is rx) D.ns dd.mapOf ?_
  rw [← (rel.val k).isSome_eq]
  exact ⟨.bl _, H, I.tok _, rfl, q⟩
theorem k_notInT (hP : X.prog = P) (hw : X.w = w) (hK : X.K = K) : OpR X (compareOp .NotIn) (rNotInT P w K) := by
  subst hP; subst hw; subst hK
  intro pins s σ H x y v u Q I rx ry h
  obtain ⟨d, kvs, k, rfl, rfl, D, q⟩ := h
  cases ry
  obtain ⟨vs, rel, dd⟩ := D.ok _ I.kIn
  refine wpAny_notIn_of (kV_is rx) D.ns dd.mapOf ?_
  rw [← (rel.val k).isSome_eq]
  exact ⟨.bl _, H, I.tok _, rfl, q⟩
end
inductive RowsOk (w : World) : List DictEntry → List (Str × V) → Prop
  | nil : RowsOk w [] []
  | cons {e : DictEntry} {r : List DictEntry} {x : Str} {t : Tok} {v : V} {kvs : List (Str × V)} (hk : e.key = .str x t) (hh : e.hash = hashStr w x) (hv : RelV v e.val) (tl : RowsOk w r kvs) : RowsOk w (e :: r) ((x, v) :: kvs)
def keyed (kvs : List (Str × V)) : List (Key × V) := kvs.map fun p => (Sum.inr p.1, p.2)
theorem RowsOk.pairs {P : Program} {w : World} {es : List DictEntry} {kvs : List (Str × V)} (h : RowsOk w es kvs) : ∃ vs : List (Key × Value), KV (keyed kvs) vs ∧ Pairs (mixKind P w) es vs ∧ vs.map (·.1) = (kvs.map fun p => (Sum.inr p.1 : Key)) ∧
    ∀ e ∈ es, ∃ k : Key, (mixKind P w).is k e.key = true ∧ e.hash = (mixKind P w).hash k := by
  induction h with
  | nil => exact ⟨[], .nil, .nil, rfl, fun _ z => nomatch z⟩
  | @cons e r x t v kvs hk hh hv tl ih =>
    obtain ⟨vs, a, b, c, d⟩ := ih
    refine ⟨(.inr x, e.val) :: vs, .cons ⟨rfl, hv⟩ a, .cons (by show keyIs (.inr x) e.key = true; rw [hk]; exact keyIs_str x t) rfl b, by rw [List.map_cons, c]; rfl, fun e' he => ?_⟩
    rcases List.mem_cons.mp he with q | q
    · rw [q]; exact ⟨.inr x, by show keyIs (.inr x) e.key = true; rw [hk]; exact keyIs_str x t, hh⟩
    · exact d e' q
theorem kdict_mk {P : Program} {w : World} {K : PySem.W.Frag} {d : Addr} {es : Array DictEntry} {ep : Nat} {kvs : List (Str × V)} (ns : (d == sysModules) = false) (l : K.lookup d = some ⟨.type "dict", none, .dict es ep, #[]⟩) (r : RowsOk w es.toList kvs)
    (nd : (kvs.map (·.1)).Nodup) : KDict P w K d (keyed kvs) := ⟨ns, fun h X => by
  obtain ⟨vs, a, b, c, e⟩ := r.pairs (P := P)
  refine ⟨vs, a, _, es, ep, X _ _ l, ⟨rfl, rfl, rfl⟩, rfl, fun x hx => e x (by simpa using hx), b, ?_⟩
  rw [c]
  have q : (kvs.map fun p => (Sum.inr p.1 : Key)) = (kvs.map (·.1)).map Sum.inr := by rw [List.map_map]; rfl
  rw [q]
  exact nodup_inr nd⟩
where
  nodup_inr : ∀ {l : List Str}, l.Nodup → (l.map (Sum.inr : Str → Key)).Nodup
    | [], _ => List.nodup_nil
    | a :: r, h => by
      obtain ⟨h1, h2⟩ := List.nodup_cons.mp h
      refine List.nodup_cons.mpr ⟨fun m => ?_, nodup_inr h2⟩
      obtain ⟨b, hb, e⟩ := List.mem_map.mp m
      cases e
      exact h1 hb
structure GTup (K : PySem.W.Frag) (mg : Str → Option Value) (x : Str) (a : Addr) (xs : List V) : Prop where
  mg : mg x = some (.ref a)
  sq : ∀ H, SqT K H a xs
structure GDict (P : Program) (w : World) (K : PySem.W.Frag) (mg : Str → Option Value) (x : Str) (d : Addr) (kvs : List (Str × V)) : Prop where
  mg : mg x = some (.ref d)
  kd : KDict P w K d (keyed kvs)
section
variable {σ : St} {H : Hp} {Q : VK} {P : Program} {w : World} {K : PySem.W.Frag}
end
end L2
end
section
set_option Elab.async false
set_option maxRecDepth 100000
set_option linter.unusedVariables false
set_option maxHeartbeats 2000000
namespace L2
open PySem PySem.Spec PySem.F PyProof.Rows
section
variable {prog : Program} {w : World} {A : Around} {E : Value → Shared → Prop}
end
def rIsiT (K : PySem.W.Frag) : List V → Hp → VK → Prop := fun xs H Q => ∃ x n T U tp, xs = [x, .ref tp] ∧ SqT K H tp [.ty T, .ty U] ∧ isT T ∧ isT U ∧ x ≠ .non ∧ kindV K H x n ∧ Q (.bl (isa n T || isa n U)) H
section
variable {X : Cx} {K : PySem.W.Frag}
end
section
variable {H : Hp} {Q : VK} {K : PySem.W.Frag}
end
end L2
end
section
set_option Elab.async false
set_option maxRecDepth 100000
set_option linter.unusedVariables false
set_option maxHeartbeats 4000000
namespace L2
open PySem PySem.Spec PySem.F PyProof.Rows
open AutoSeq1 (wpAny_loadPart')
theorem enumt_new (l : Addr) (items : Array Value) (n : Nat) (dct : Option Addr) (sl : Array (Option Value)) :
    Meets (Builtin.«enumerate.__new__» ⟨[.type "enumerate", .ref l], []⟩) (fun _ R s => s.heap.get? l = some { cls := .type "tuple", dict := dct, data := .seq items n, slots := sl } ∧
      R (.ok (.ret (.ref (s.heap.push (itO false l)).objs.size))) { s with heap := (s.heap.push (itO false l)).push { cls := .type "enumerate", data := .fields #[.none, .bool false, .ref s.heap.objs.size, rawInt 0, .none, .none] } }) := by
  refine .of_wp fun prog w A R s h => ?_
  obtain ⟨hp, g, d, tk, os⟩ := s; obtain ⟨c1, h⟩ := h
  have hsub := sub_enumerate
  have cT : Heap.IsTuple (Shared.heap ⟨hp, g, d, tk, os⟩) l items := ⟨_, c1, rfl, n, rfl⟩
  wp_walk using wpAny_loadPart' c1
  refine wpAny_stack_any fun st => wpAny_pure ?_
  split
  · rename_i c _ _ _ _ _
    cases (c == Value.type "enumerate")
    · wp_walk using wpAny_loadPart' c1, wpAny_pyIter_tuple cT
      exact ⟨_, rfl, h⟩
    · wp_walk using wpAny_loadPart' c1, wpAny_pyIter_tuple cT
      exact ⟨_, rfl, h⟩
  · wp_walk using wpAny_loadPart' c1, wpAny_pyIter_tuple cT
    exact ⟨_, rfl, h⟩
section
variable {prog : Program} {w : World} {A : Around} {E : Value → Shared → Prop} {s : Shared}
theorem enumm_item {b : Bool} {e it l : Addr} {i : Nat} {items : Array Value} {x old : Value} {Q : Option Value → Shared → Prop} (he : IsEnum s.heap e it i old) (hit : SIt b s.heap it l i) (hl : SSq b s.heap l items) (hx : items[i]? = some x) (hne : e ≠ it)
    (hQ : ∀ h', IsEnumOut h' e it ((i : Int) + 1) x s.heap.objs.size → SIt b h' it l (i + 1) → h'.get? s.heap.objs.size = some { cls := .type "tuple", data := .seq #[.int i s.toks, x] } → h'.objs.size = s.heap.objs.size + 1 →
      (∀ c o, c ≠ e → c ≠ it → s.heap.get? c = some o → h'.get? c = some o) → Q (some (.ref s.heap.objs.size)) { s with heap := h', toks := s.toks + 1 }) : wpAny (model prog w) A (pyNext (.ref e)) Q E s := by
  have hT : s.TypeIs (.ref e) "enumerate" := ⟨_, he, rfl⟩
  unfold pyNext
  refine wpAny_bind (wpAny_attempt (wpAny_callSpecial?_slot (name := Str.ofString "__next__") hT slot_enumerate_next (wpAny_call_entry slot_enumerate_next hT entry_enumerate_next ?_ (args_enumerate_next_1 _))))
  obtain ⟨hp, g, d, tk, os⟩ := s
  show wpAny _ _ (field (.ref e) 2 >>= _) _ _ _; refine wpAny_bind (wpAny_field he rfl (x := .ref it) rfl ?_)
  refine wpAny_bind (draw hit hl hx fun g1 a1 e1 => ?_)
  replace e1 : Heap.SameBut it hp g1 := e1
  have d1 : IsEnum g1 e it i old := (e1.2 e hne).trans he
  show wpAny _ _ (field (.ref e) 3 >>= _) _ _ ⟨g1, g, d, tk, os⟩; refine wpAny_bind (wpAny_field d1 rfl (x := rawInt i) rfl ?_)
  show wpAny _ _ (field (.ref e) 4 >>= _) _ _ ⟨g1, g, d, tk, os⟩; refine wpAny_bind (wpAny_field d1 rfl (x := .none) rfl ?_)
  show wpAny _ _ (mkInt i >>= _) _ _ ⟨g1, g, d, tk, os⟩; refine wpAny_bind (wpAny_mkInt ?_)
  show wpAny _ _ (setField (.ref e) 3 (rawInt ((i : Int) + 1)) >>= _) _ _ ⟨g1, g, d, tk + 1, os⟩; refine wpAny_bind (wpAny_setField_rec d1 (by simp) fun g2 d2 e2 => ?_)
  replace e2 : Heap.SameBut e g1 g2 := e2
  replace d2 : IsEnum g2 e it ((i : Int) + 1) old := d2
  show wpAny _ _ (setField (.ref e) 4 .none >>= _) _ _ ⟨g2, g, d, tk + 1, os⟩; refine wpAny_bind (wpAny_setField_rec d2 (by simp) fun g3 d3 e3 => ?_)
  replace e3 : Heap.SameBut e g2 g3 := e3
  replace d3 : IsEnum g3 e it ((i : Int) + 1) old := d3
  show wpAny _ _ (newTuple [.int i tk, x] >>= _) _ _ ⟨g3, g, d, tk + 1, os⟩; refine wpAny_bind (wpAny_newTuple ?_)
  have d4 : IsEnum (g3.push { cls := .type "tuple", data := .seq #[.int i tk, x] }) e it ((i : Int) + 1) old := Heap.get?_push_of_some _ d3
  generalize q4 : g3.push { cls := .type "tuple", data := .seq #[.int i tk, x] } = g4 at d4
  have sz : g3.objs.size = hp.objs.size := by rw [e3.1, e2.1, e1.1]
  have el : e < hp.objs.size := Heap.lt_size he
  have t4 : g4.get? hp.objs.size = some { cls := .type "tuple", data := .seq #[.int i tk, x] } := by rw [← q4, ← sz]; exact Heap.get?_push_size _ rfl
  have z4 : g4.objs.size = hp.objs.size + 1 := by rw [← q4, Heap.size_push, sz]
  have k4 : ∀ c o, c ≠ e → c ≠ it → hp.get? c = some o → g4.get? c = some o := fun c o ce ci hc => by rw [← q4]; exact Heap.get?_push_of_some _ (e3.extBut c o ce (e2.extBut c o ce (e1.extBut c o ci hc)))
  have i4 : SIt b g4 it l (i + 1) := a1.mv fun o ho => by rw [← q4]; exact Heap.get?_push_of_some _ (e3.extBut it o hne.symm (e2.extBut it o hne.symm ho))
  show wpAny _ _ (Builtin.SmallTypes.ownedTupleIsFree (.ref e) >>= _) _ _ ⟨g4, g, d, tk + 1, os⟩
  rw [sz]
  clear q4 d3 e3 d2 e2 d1 e1 a1 sz g3 g2 g1
  refine wpAny_bind ?_
  unfold Builtin.SmallTypes.ownedTupleIsFree
  refine wpAny_bind (wpAny_field d4 rfl (x := .none) rfl (wpAny_pure ?_)); simp only [if_true]
  refine wpAny_bind (wpAny_rule (wpAny_bind (wpAny_field d4 rfl (x := old) rfl ?_)))
  refine wpAny_bind (wpAny_setField_rec d4 (by simp) fun g5 d5 e5 => ?_)
  replace e5 : Heap.SameBut e g4 g5 := e5
  replace d5 : IsEnum g5 e it ((i : Int) + 1) x := d5
  show wpAny _ _ (Builtin.SmallTypes.ownedTupleHandOut (.ref e) (.ref hp.objs.size) >>= _) _ _ ⟨g5, g, d, tk + 1, os⟩; refine wpAny_bind ?_
  unfold Builtin.SmallTypes.ownedTupleHandOut
  refine wpAny_bind (wpAny_setField_rec d5 (by simp) fun g6 d6 e6 => ?_)
  replace e6 : Heap.SameBut e g5 g6 := e6
  replace d6 : IsEnumOut g6 e it ((i : Int) + 1) x hp.objs.size := d6
  refine wpAny_setField_rec d6 (by simp) fun g7 d7 e7 => ?_
  replace e7 : Heap.SameBut e g6 g7 := e7
  replace d7 : IsEnumOut g7 e it ((i : Int) + 1) x hp.objs.size := d7
  have up : ∀ c o, c ≠ e → g4.get? c = some o → g7.get? c = some o := fun c o ce hc => e7.extBut c o ce (e6.extBut c o ce (e5.extBut c o ce hc))
  exact wpAny_bind (wpAny_letGo (wpAny_pure ⟨_, rfl, wpAny_pure (hQ g7 d7 (i4.mv fun o ho => up it o hne.symm ho) (up _ _ (Nat.ne_of_gt el) t4) (by rw [e7.1, e6.1, e5.1, z4]) fun c o ce ci hc => up c o ce (k4 c o ce ci hc))⟩))
theorem enumm_end {b : Bool} {e it l : Addr} {i : Nat} {items : Array Value} {old : Value} {Q : Option Value → Shared → Prop} (hh : A.handled = none) (he : IsEnum s.heap e it i old) (hit : SIt b s.heap it l i) (hl : SSq b s.heap l items) (hx : items[i]? = none)
    (hQ : ∀ h', Heap.ExtBut it s.heap h' → Q none { s with heap := h' }) : wpAny (model prog w) A (pyNext (.ref e)) Q E s := by
  have hT : s.TypeIs (.ref e) "enumerate" := ⟨_, he, rfl⟩
  unfold pyNext
  refine wpAny_bind (wpAny_attempt (wpAny_callSpecial?_slot (name := Str.ofString "__next__") hT slot_enumerate_next (wpAny_call_entry slot_enumerate_next hT entry_enumerate_next ?_ (args_enumerate_next_1 _))))
  show wpAny _ _ (field (.ref e) 2 >>= _) _ _ _; refine wpAny_bind (wpAny_field he rfl (x := .ref it) rfl ?_)
  refine wpAny_bind (draw_end hh hit hl hx fun h' x e1 hx' => ?_)
  obtain ⟨o, ho, hc⟩ := hx'
  exact wpAny_bind (wpAny_isInstance (T := "StopIteration") (b := true) ⟨o, ho, hc⟩ isSubtype_stop (wpAny_pure (hQ _ e1)))
end
end L2
end
section
set_option Elab.async false
set_option maxRecDepth 100000
set_option linter.unusedVariables false
set_option maxHeartbeats 4000000
namespace L2
open PySem PySem.Spec PySem.F PyProof.Rows
section
variable {prog : Program} {w : World} {A : Around} {E : Value → Shared → Prop} {s : Shared}
theorem enumm_call {b : Bool} {l : Addr} {items : Array Value} {Q : Value → Shared → Prop} (c1 : SSq b s.heap l items)
    (h : ∀ h', IsEnum h' (s.heap.objs.size + 1) s.heap.objs.size 0 .none → SIt b h' s.heap.objs.size l 0 → h'.objs.size = s.heap.objs.size + 2 → (∀ c o, s.heap.get? c = some o → h'.get? c = some o) → Q (.ref (s.heap.objs.size + 1)) { s with heap := h' }) :
    wpAny (model prog w) A (call (.type "enumerate") [.ref l]) Q E s := by
  cases b with
  | true => exact call_enumerate_list c1 h
  | false =>
    obtain ⟨⟨c, dct, dt, sl⟩, hl, hc, n, hd⟩ := c1
    cases hc; cases hd
    refine callType_new called_enumerate (by decide) (typeCall_enumerate_1 _) (newCall_enumerate_1 _) (fun obj => args_object_init_2 obj _) entry_enumerate_new (enumt_new l items n dct sl) ⟨hl, ?_⟩
    have z1 : (s.heap.push (itO false l)).objs.size = s.heap.objs.size + 1 := Heap.size_push ..
    have f2 : ((s.heap.push (itO false l)).push { cls := .type "enumerate", data := .fields #[.none, .bool false, .ref s.heap.objs.size, rawInt 0, .none, .none] }).get? (s.heap.push (itO false l)).objs.size = some _ := Heap.get?_push_size _ rfl
    have f1 : ((s.heap.push (itO false l)).push { cls := .type "enumerate", data := .fields #[.none, .bool false, .ref s.heap.objs.size, rawInt 0, .none, .none] }).get? s.heap.objs.size = some (itO false l) := Heap.get?_push_of_some _ (Heap.get?_push_size _ rfl)
    show _ ∧ _
    rw [z1] at f2 ⊢
    exact ⟨⟨_, f2, rfl⟩, h _ f2 (itO_at f1) (by rw [Heap.size_push, z1]) fun c o e => Heap.get?_push_of_some _ (Heap.get?_push_of_some _ e)⟩
end
def Item (K : PySem.W.Frag) (b : Bool) (a : Addr) : It :=
  ⟨fun i H => ∃ (xs : List V) (x : V), Sq b K H a xs ∧ xs[i]? = some x, fun i H v H' => ∃ T x, v = .ref T ∧ H T = none ∧ H' = upd H T (.tup [.int (i : Nat), x]) ∧ ∀ xs, Sq b K H a xs → xs[i]? = some x, fun i H => ∃ xs : List V, Sq b K H a xs ∧ xs.length ≤ i⟩
theorem turn_enumm {P : Program} {w : World} {K : PySem.W.Frag} {elts : List Expr} {kk : Nat} {tpos : Pos} (b : Bool) (a e it : Addr) :
    Turn P w K (.Tuple elts kk tpos) (Item K b a) [e, it] e (fun i h => (∃ old, IsEnum h e it ((i : Nat) : Int) old) ∧ SIt b h it a i ∧ e ≠ it) where
  mem := by simp
  obj := fun i h st c hc => by
    obtain ⟨⟨old, he⟩, h1, _⟩ := st
    obtain ⟨o, ho, hd⟩ := h1.ob
    have e' : c = e ∨ c = it := by simpa using hc
    rcases e' with z | z
    · subst z; exact ⟨_, he, fun v r => nomatch r⟩
    · subst z; exact ⟨o, ho, fun v r => by rw [hd] at r; cases r⟩
  keep := fun i h h' st k => let ⟨⟨old, he⟩, hi, hne⟩ := st; ⟨⟨old, k e (by simp) _ he⟩, hi.mv fun o q => k it (by simp) o q, hne⟩
  item := by
    intro X hP hw hK hc i pins s σ H E I hf st hg
    subst hP hw hK
    obtain ⟨⟨old, he⟩, hit, hne⟩ := st
    obtain ⟨xs, x, hq, hx⟩ := hg
    obtain ⟨its, rv, p, _⟩ := I.sq hq
    obtain ⟨u, hu, ru⟩ := rv.get hx
    have hel : e < s.heap.objs.size := Heap.lt_size he
    have hil : it < s.heap.objs.size := by obtain ⟨_, q, _⟩ := hit.ob; exact Heap.lt_size q
    refine enumm_item he hit p (x := u) (by simpa using hu) hne fun h' ho hit' hT hsz hk => ?_
    refine ⟨_, rfl, wpAny_letOwnedTupleGo_enum (s := { s with heap := h', toks := s.toks + 1 }) ho fun h'' he' sb => ?_⟩
    have hT2 : h''.get? s.heap.objs.size = some { cls := .type "tuple", data := .seq #[.int i s.toks, u] } := (sb.2 _ (Nat.ne_of_gt hel)).trans hT
    have new : ObjOk X.prog X.w (upd H s.heap.objs.size (.tup [.int (i : Nat), x])) h'' s.heap.objs.size (.tup [.int (i : Nat), x]) := ⟨by show 2 ≤ sizeLine; decide, [.int i s.toks, u], .cons ⟨_, rfl⟩ (.cons ru .nil), ⟨_, hT2, rfl, _, rfl⟩⟩
    have I1 : Inv X pins σ (upd H s.heap.objs.size (.tup [.int (i : Nat), x])) { s with heap := h'', toks := s.toks + 1 } :=
      I.turnedNew (ch := [e, it]) (fun c ob hb q => (sb.2 c (fun z => hb (by simp [z]))).trans (hk c ob (fun z => hb (by simp [z])) (fun z => hb (by simp [z])) q)) hf (Nat.le_refl _) new
    refine ⟨.ref s.heap.objs.size, _, I1, rfl, ⟨_, x, rfl, I.hok.fresh (Nat.le_refl _), rfl, fun ys hy => by rw [I.sq_inj hy hq]; exact hx⟩, ⟨⟨u, ?_⟩, hit'.mv fun o q => (sb.2 it (Ne.symm hne)).trans q, hne⟩, fun c hc => ?_⟩
    · have e1 : ((i + 1 : Nat) : Int) = (i : Int) + 1 := by omega
      rw [e1]; exact he'
    · have hb' : c < s.heap.objs.size := by
        have e' : c = e ∨ c = it := by simpa using hc
        rcases e' with z | z
        · rw [z]; exact hel
        · rw [z]; exact hil
      rw [upd_ne (Nat.ne_of_lt hb')]
      exact (hf c hc).1
  done := by
    intro X hP hw hK hc i pins s σ H E I hf st hg
    subst hP hw hK
    obtain ⟨⟨old, he⟩, hit, hne⟩ := st
    obtain ⟨xs, hq, hx⟩ := hg
    obtain ⟨its, rv, p, _⟩ := I.sq hq
    obtain ⟨f0, f1, f2, f3, f4, f5⟩ := hf it (by simp)
    have hl := rv.length
    exact enumm_end (I.ok.hd hc) he hit p (by simp; omega) fun h' eb => ⟨rfl, I.turned (t' := s.toks) (fun b o hb q => eb b o hb q) f0 f1 f3 f4 f5⟩
  self := fun A i s Q E st h => let ⟨⟨_, he⟩, _⟩ := st; wpAny_pyIter_enum he h
def iEnumm (K : PySem.W.Frag) (ta : TA) : TI := fun σ H R => ta σ H fun vs H1 => ∃ b a xs, vs = [.ref a] ∧ Sq b K H1 a xs ∧ R (Item K b a) H1
theorem k_enumm {X : Cx} {K : PySem.W.Frag} {e : Expr} {ta : TA} {p pos tpos : Pos} {elts : List Expr} {kk : Nat} (hK : X.K = K) (hg : Gl X "enumerate") (hm : X.mg "enumerate" = none) (ha : PA X [e] ta) (hs : starEach [e] X.env = [(false, eval e X.env)] := by rfl) :
    PI X (.Tuple elts kk tpos) (.Call (.Name "enumerate" p) [e] [] pos) (iEnumm K ta) := by
  subst hK
  intro pins s σ H R I h
  refine Call_ (ld_blt I hg hm boot_enumerate (PyProof.Rows.callWith_type1 (thn (ha pos pins s σ H _ I h) fun us s1 ⟨vs, H1, I1, r1, q1⟩ => ?_) hs rfl))
  obtain ⟨b, a, xs, ex, hq, q⟩ := q1
  subst ex
  obtain ⟨u1, rfl, ra⟩ := vals1 r1
  cases ra
  obtain ⟨its, rv, p', _⟩ := I1.sq hq
  refine enumm_call p' fun h' he hit hsz hk => wpAny_pyIter_enum he ?_
  have I2 : Inv X pins σ H1 { s1 with heap := h' } := I1.kept (t' := s1.toks) hk
  refine ⟨s1.heap.objs.size + 1, [s1.heap.objs.size + 1, s1.heap.objs.size], _, _, H1, rfl, I2, turn_enumm b a (s1.heap.objs.size + 1) s1.heap.objs.size, ⟨⟨.none, he⟩, hit, Nat.succ_ne_self _⟩, fun c hc => ?_, q⟩
  have hle : s1.heap.objs.size ≤ c := by
    have e' : c = s1.heap.objs.size + 1 ∨ c = s1.heap.objs.size := by simpa using hc
    rcases e' with z | z
    · rw [z]; exact Nat.le_add_right _ _
    · rw [z]; exact Nat.le_refl _
  exact I1.fpOk hle (I1.hok.fresh hle)
end L2
end
section
set_option Elab.async false
set_option maxRecDepth 100000
set_option linter.unusedVariables false
namespace L2
open PySem PySem.Spec PySem.F PyProof.Rows
inductive W6 where
  | all | notall | some | none | more | asmany
inductive W3 where
  | least | most | just
inductive W2 where
  | share | under
def W6.str : W6 → Str
  | .all => "all"
  | .notall => "notall"
  | .some => "some"
  | .none => "none"
  | .more => "more"
  | .asmany => "asmany"
def W3.str : W3 → Str
  | .least => "least"
  | .most => "most"
  | .just => "just"
def W2.str : W2 → Str
  | .share => "share"
  | .under => "under"
inductive Sy where
  | p6 (w : W6) (s p : Tm) | p3 (w : W3) (n : Int) (s p : Tm) | p2 (w : W2) (t b : Int) (s p : Tm)
def Sy.head : Sy → List V
  | .p6 w _ _ => [.str w.str]
  | .p3 w n _ _ => [.str w.str, .int n]
  | .p2 w t b _ _ => [.str w.str, .int t, .int b]
def Sy.fst : Sy → Tm
  | .p6 _ s _ => s
  | .p3 _ _ s _ => s
  | .p2 _ _ _ s _ => s
def Sy.snd : Sy → Tm
  | .p6 _ _ p => p
  | .p3 _ _ _ p => p
  | .p2 _ _ _ _ p => p
def SyAt (H : Hp) (sy : Sy) (v : V) : Prop := ∃ a x y, v = .ref a ∧ H a = Option.some (.tup (sy.head ++ [x, y])) ∧ TmAt H sy.fst x ∧ TmAt H sy.snd y
theorem SyAt.tk {H H' : Hp} {sy : Sy} {v : V} (k : Tk H H') (h : SyAt H sy v) : SyAt H' sy v := by
  obtain ⟨a, x, y, e, h1, h2, h3⟩ := h
  exact ⟨a, x, y, e, k _ _ h1, h2.tk k, h3.tk k⟩
def Sy.okc (m : Int) (sy : Sy) : Prop := sy.fst.okc m ∧ sy.snd.okc m ∧ sy.fst.dep ≤ 8 ∧ sy.snd.dep ≤ 8 ∧ match sy with
  | .p6 _ _ _ => True
  | .p3 _ n _ _ => 0 ≤ n ∧ n ≤ 41
  | .p2 _ t b _ _ => 0 ≤ t ∧ t ≤ b ∧ 1 ≤ b ∧ b ≤ 12
inductive SysAt (H : Hp) : List Sy → List V → Prop
  | nil : SysAt H [] []
  | cons {sy : Sy} {v : V} {r : List Sy} {vs : List V} : SyAt H sy v → SysAt H r vs → SysAt H (sy :: r) (v :: vs)
theorem SysAt.tk {H H' : Hp} (k : Tk H H') : ∀ {r : List Sy} {vs : List V}, SysAt H r vs → SysAt H' r vs
  | _, _, .nil => .nil
  | _, _, .cons a b => .cons (a.tk k) (b.tk k)
def cntAt (s o : Tm) (b : Bool) (i : Nat) (c : Int) : Int := if s.of (i : Int) = true ∧ (o.of (i : Int)) = b then c else 0
def cntL (s o : Tm) (b : Bool) : Nat → List Int → Int
  | _, [] => 0
  | i, c :: r => cntAt s o b i c + cntL s o b (i + 1) r
def cnt (ws : List Int) (s o : Tm) (b : Bool) : Int := cntL s o b 0 ws
def Sy.holds (ws : List Int) : Sy → Bool
  | .p6 .all s p => decide (cnt ws s p false = 0)
  | .p6 .notall s p => !decide (cnt ws s p false = 0)
  | .p6 .some s p => decide (0 < cnt ws s p true)
  | .p6 .none s p => !decide (0 < cnt ws s p true)
  | .p6 .more s p => decide (cnt ws p s false < cnt ws s p false)
  | .p6 .asmany s p => decide (cnt ws p s false ≤ cnt ws s p false)
  | .p3 .least n s p => decide (n ≤ cnt ws s p true)
  | .p3 .most n s p => decide (cnt ws s p true ≤ n)
  | .p3 .just n s p => decide (cnt ws s p true = n)
  | .p2 .share t b s p => decide (t * (cnt ws s p true + cnt ws s p false) ≤ b * cnt ws s p true)
  | .p2 .under t b s p => !decide (t * (cnt ws s p true + cnt ws s p false) ≤ b * cnt ws s p true)
def Sy.opp : Sy → List Sy
  | .p6 .all s p => [.p6 .notall s p]
  | .p6 .notall s p => [.p6 .all s p]
  | .p6 .some s p => [.p6 .none s p]
  | .p6 .none s p => [.p6 .some s p]
  | .p6 .more s p => [.p6 .asmany p s]
  | .p6 .asmany s p => [.p6 .more p s]
  | .p3 .least n s p => if 0 < n then [.p3 .most (n - 1) s p] else []
  | .p3 .most n s p => [.p3 .least (n + 1) s p]
  | .p3 .just n s p => if 0 < n then [.p3 .most (n - 1) s p, .p3 .least (n + 1) s p] else [.p3 .least (n + 1) s p]
  | .p2 .share t b s p => [.p2 .under t b s p]
  | .p2 .under t b s p => [.p2 .share t b s p]
theorem cntAt_nn {s o : Tm} {b : Bool} {i : Nat} {c : Int} (h : 0 ≤ c) : 0 ≤ cntAt s o b i c := by
  unfold cntAt
  split
  · exact h
  · exact Int.le_refl _
theorem cntL_nn {s o : Tm} {b : Bool} : ∀ {ws : List Int} {i : Nat}, (∀ c ∈ ws, 0 ≤ c) → 0 ≤ cntL s o b i ws
  | [], _, _ => Int.le_refl _
  | c :: r, i, h => by
    have h1 := cntAt_nn (s := s) (o := o) (b := b) (i := i) (h c List.mem_cons_self)
    have h2 := cntL_nn (s := s) (o := o) (b := b) (ws := r) (i := i + 1) fun x hx => h x (List.mem_cons_of_mem _ hx)
    show 0 ≤ cntAt s o b i c + cntL s o b (i + 1) r
    omega
end L2
end
section
set_option Elab.async false
set_option maxRecDepth 100000
set_option linter.unusedVariables false
namespace L2
open PySem PySem.Spec PySem.F PyProof.Rows
def constsOf : List Expr → Option (List V)
  | [] => some []
  | .Constant (.str x) _ _ :: r => (constsOf r).map fun vs => .str x :: vs
  | .Constant (.int i) _ _ :: r => (constsOf r).map fun vs => .int i :: vs
  | _ => none
def tVals (vs : List V) : TA := fun _ H Q => Q vs H
theorem pa_consts {X : Cx} : ∀ {es : List Expr} {vs : List V}, constsOf es = some vs → PA X es (tVals vs)
  | [], vs, h => by
    cases h
    exact pa_nil
  | .Constant (.str x) j pos :: r, vs, h => by
    cases e : constsOf r with
    | none => simp only [constsOf, e] at h; cases h
    | some us =>
      simp only [constsOf, e] at h
      cases h
      exact pa_cons pe_str (pa_consts e)
  | .Constant (.int i) j pos :: r, vs, h => by
    cases e : constsOf r with
    | none => simp only [constsOf, e] at h; cases h
    | some us =>
      simp only [constsOf, e] at h
      cases h
      exact pa_cons pe_int (pa_consts e)
def tPar3 (i j l : Nat) (ta : TA) : TS := fun D σ H => ta σ H fun vs H1 => ∃ u v w, vs = [u, v, w] ∧ D.nx (((σ.set i (some u)).set j (some v)).set l (some w)) H1
section
variable {H : Hp} {Q : VK} {K : PySem.W.Frag} {tp : Addr}
end
def rSetD : TSet := fun o i v H R => ∃ a H', o = .ref a ∧ DPut H a i v H' ∧ R H'
theorem set_dict {X : Cx} (hu : X.A.units + 1 < cLine) : PSet X rSetD := by
  intro pins s σ H o i v ov iv vv Q I ro ri rv h
  obtain ⟨a, H', rfl, g, q⟩ := h
  cases ro
  exact d_setItem hu I g ri rv fun s' I' => ⟨H', I', q⟩
end L2
end
section
set_option Elab.async false
set_option maxRecDepth 100000
set_option linter.unusedVariables false
set_option maxHeartbeats 4000000
namespace L2
open PySem PySem.Spec PySem.F PyProof.Rows
section
variable {prog : Program} {w : World} {A : Around}
end
section
variable {prog : Program} {w : World} {A : Around} {E : Value → Shared → Prop} {s : Shared}
end
def TabO (P : Addr) : HO := .ext fun h => ∃ ps : Array Value, h.get? P = some (PySem.W.tabObj ps) ∧ TriplesOk ps.toList
def dot (xs ys : List Int) : Int := (List.zipWith (· * ·) xs ys).sum
def tWeigh (K : PySem.W.Frag) (P : Addr) (ta : TA) : TE := fun σ H Q => ta σ H fun vs H1 => ∃ b1 b2 a b, ∃ (xs ys : List Int), vs = [.ref a, .ref b] ∧ Sq b1 K H1 a (xs.map V.int) ∧ Sq b2 K H1 b (ys.map V.int) ∧
  (∀ (i : Nat) (x y : Int), xs[i]? = some x → ys[i]? = some y → IntMulOk x y) ∧ H1 P = some (TabO P) ∧ Q (.int (dot xs ys)) H1
end L2
end
section
set_option Elab.async false
set_option maxRecDepth 100000
set_option linter.unusedVariables false
set_option maxHeartbeats 4000000
namespace L2
open PySem PySem.Spec PySem.F PyProof.Rows
structure Tb (base : Heap) (mg : Str → Option Value) (x : Str) (q : Addr × Addr) : Prop where
  hd : PySem.W.CodeHd base q.1 q.2
  fn : ∃ (f : Addr) (o : Obj) (fd : FuncData), mg x = some (.ref f) ∧ base.get? f = some o ∧ o.data = .func fd ∧ fd.code = .ref q.1
  bm : ∃ bm ob, BMod base mainGlobals mg bm ob
end L2
end
section
set_option Elab.async false
set_option maxRecDepth 100000
set_option linter.unusedVariables false
set_option maxHeartbeats 4000000
namespace L2
open PySem PySem.Spec PySem.F PyProof.Rows
def rStrD (K : PySem.W.Frag) : List V → Hp → VK → Prop := fun xs H Q => ∃ a d, xs = [.ref a] ∧ Dp K H (.ref a) d ∧ d.showable = true ∧ d.hasDict = false ∧ d.depth ≤ 64 ∧ d.shown.length ≤ sizeLine ∧ Q (.str d.shown) H
mutual
def cost : PyData → Nat
  | .list xs => costs xs + 4
  | .tuple xs => costs xs + 4
  | .str x => 10 * x.length + 2
  | _ => 1921
def costs : List PyData → Nat
  | [] => 0
  | d :: r => cost d + 2 + costs r
end
mutual
def noStr : PyData → Bool
  | .str _ => false
  | .list xs => noStrs xs
  | .tuple xs => noStrs xs
  | _ => true
def noStrs : List PyData → Bool
  | [] => true
  | d :: r => noStr d && noStrs r
end
theorem listText_le (ts : List Str) : (listText ts).length ≤ piled ts + 2 := by
  cases ts with
  | nil => show (textFrom 0 "[" [] ++ "]" : Str).length ≤ _; decide
  | cons t r =>
    have h := textFrom_length_pos r 1 (("[" : Str) ++ (if (0 : Nat) > 0 then ", " else "" : String) ++ t) (Nat.succ_pos 0)
    have e : ((("[" : Str) ++ (if (0 : Nat) > 0 then ", " else "" : String) ++ t)).length = 1 + t.length := by
      rw [strLen_append, strLen_append]; rfl
    show (textFrom 0 "[" (t :: r) ++ "]" : Str).length ≤ _
    rw [strLen_append, show textFrom 0 "[" (t :: r) = textFrom 1 (("[" : Str) ++ (if (0 : Nat) > 0 then ", " else "" : String) ++ t) r from rfl, h, e, piled_cons]
    have : ("]" : Str).length = 1 := rfl
    omega
theorem tupleText_le (ts : List Str) : (tupleText ts).length ≤ piled ts + 4 := by
  unfold tupleText
  rw [strLen_append, strLen_append]
  have h1 : ("(" : Str).length = 1 := rfl
  have h2 : ((if ts.length == 1 then ",)" else ")" : String) : Str).length ≤ 2 := by split <;> decide
  cases ts with
  | nil =>
    have e : (Str.join ", " ([] : List Str)).length = 0 := rfl
    omega
  | cons t r =>
    have := join_length_add (t :: r) (by simp)
    omega
mutual
theorem shown_le : ∀ d : PyData, d.showable = true → d.hasDict = false → (∀ x, d ≠ .str x) → noStr d = true → d.shown.length ≤ cost d
  | .none, _, _, _, _ => by show ("None" : Str).length ≤ 1921; decide
  | .bool b, _, _, _, _ => by cases b <;> (show Str.length _ ≤ 1921; decide)
  | .int i, h, _, _, _ => by
    have h : decide (i.natAbs.log2 < 1920) = true := h
    exact int_text_len_1921 (of_decide_eq_true h)
  | .str x, _, _, h, _ => absurd rfl (h x)
  | .list xs, h, h2, _, h3 => by
    have i := showns_le xs (by simpa [PyData.showable] using h) (by simpa [PyData.hasDict] using h2) (by simpa [noStr] using h3)
    show (listText (PyData.shownAll xs)).length ≤ costs xs + 4
    have := listText_le (PyData.shownAll xs)
    omega
  | .tuple xs, h, h2, _, h3 => by
    have i := showns_le xs (by simpa [PyData.showable] using h) (by simpa [PyData.hasDict] using h2) (by simpa [noStr] using h3)
    show (tupleText (PyData.shownAll xs)).length ≤ costs xs + 4
    have := tupleText_le (PyData.shownAll xs)
    omega
  | .dict _, _, h, _, _ => by simp [PyData.hasDict] at h
theorem showns_le : ∀ xs : List PyData, PyData.showableAll xs = true → PyData.hasDictAll xs = false → noStrs xs = true → piled (PyData.shownAll xs) ≤ costs xs
  | [], _, _, _ => Nat.zero_le _
  | d :: r, h, h2, h3 => by
    simp only [PyData.showableAll, Bool.and_eq_true] at h
    simp only [PyData.hasDictAll, Bool.or_eq_false_iff] at h2
    simp only [noStrs, Bool.and_eq_true] at h3
    have i := shown_le d h.1 h2.1 (fun x e => by subst e; simp [noStr] at h3) h3.1
    have j := showns_le r h.2 h2.2 h3.2
    show piled (PyData.shown d :: PyData.shownAll r) ≤ cost d + 2 + costs r
    rw [piled_cons]
    omega
end
def tCut (t u : TS) : TS := fun D σ H => ∃ M : St → Hp → Prop, t { D with nx := M } σ H ∧ ∀ σ' H', M σ' H' → u D σ' H'
end L2
end
section
set_option Elab.async false
set_option maxRecDepth 100000
set_option linter.unusedVariables false
set_option maxHeartbeats 4000000
namespace L2
open PySem PySem.Spec PySem.F PyProof.Rows
abbrev Cx.gen (X : Cx) (s : Shared) (H : Hp) (cenv : Env) (fp : List Addr) (A : Around) (pn : List (Addr × Obj)) : Cx :=
  { X with A := A, s_0 := s, H_0 := H, env := cenv, outer := X.stack, stack := cenv :: X.stack, ex := fp, fn := fun _ => false, calm := true, pn := pn, xe := fun _ _ => False }
section
variable {X : Cx} {pins : List (Addr × Obj)} {σ : St} {H : Hp} {sB : Shared}
end
def GI (X : Cx) (σw : St) (fp : List Addr) (tn : Nat → Heap → Prop) (W : Nat → Nat → Hp → Prop) (n : Nat) (s : Shared) : Prop := ∃ i H, Inv X [] σw H s ∧ tn i s.heap ∧ (∀ b ∈ fp, H b = none) ∧ W i n H
def GR (X : Cx) (σw : St) (Qt : Hp → Prop) (s₁ : Shared) : Prop := ∃ H, Inv X [] σw H s₁ ∧ Qt H
def GY (X : Cx) (σw : St) (fp : List Addr) (tn : Nat → Heap → Prop) (W : Nat → Nat → Hp → Prop) (cont : Bool) (Qf : Hp → Prop) : Protocol := fun k _ v s₁ κ => ∃ b, v = .bool b ∧
  if b = cont then ∃ n', n' < k ∧ GI X σw fp tn W n' s₁ ∧ ∀ s'', GI X σw fp tn W n' s'' → κ (.send .none) s'' else ∃ H, Inv X [] σw H s₁ ∧ Qf H
abbrev gcd' (elt iter : Expr) (x : Str) (px : Pos) (scope : Scope) (pos : Pos) (it : Addr) (cenv : Env) : Code := .compLoop (.GeneratorExp elt [⟨.Name x px, iter, [], 0⟩] scope pos) 0 (.ref it) .none cenv
theorem Inv.gens {X : Cx} {pins : List (Addr × Obj)} {σ : St} {H : Hp} {s : Shared} {g' : Array GenState} (I : Inv X pins σ H s) (hg : GOk X.s_0.gens g') : Inv X pins σ H { s with gens := g' } := ⟨I.ok, I.os, hg, I.base, I.loc, I.cell, I.free, I.freeC, I.pin, I.hok, I.len⟩
theorem GOk.set {a b : Array GenState} {g : Nat} {x : GenState} (h : GOk a b) (hx : x.bare = true) : GOk a (b.setIfInBounds g x) := by
  refine ⟨fun y hy => ?_, by rw [Array.size_setIfInBounds]; exact h.2⟩
  obtain ⟨i, hi, rfl⟩ := Array.mem_iff_getElem.mp hy
  rw [Array.getElem_setIfInBounds]
  · split
    · exact hx
    · exact h.1 _ (Array.getElem_mem _)
  · rw [Array.size_setIfInBounds] at hi; exact hi
theorem Inv.setGen {X : Cx} {pins : List (Addr × Obj)} {σ : St} {H : Hp} {s : Shared} {g : Nat} {x : GenState} (I : Inv X pins σ H s) (hx : x.bare = true) : Inv X pins σ H (s.setGen g x) := I.gens (I.bare.set hx)
theorem GI.setGen {X : Cx} {σw : St} {fp : List Addr} {tn : Nat → Heap → Prop} {W : Nat → Nat → Hp → Prop} {n : Nat} {s : Shared} {g : Nat} {x : GenState} (h : GI X σw fp tn W n s) (hx : x.bare = true) : GI X σw fp tn W n (s.setGen g x) := by
  obtain ⟨i, H, I, a, b, c⟩ := h
  exact ⟨i, H, I.setGen hx, a, b, c⟩
theorem GR.setGen {X : Cx} {σw : St} {Qt : Hp → Prop} {s : Shared} {g : Nat} {x : GenState} (h : GR X σw Qt s) (hx : x.bare = true) : GR X σw Qt (s.setGen g x) := by
  obtain ⟨H, I, q⟩ := h
  exact ⟨H, I.setGen hx, q⟩
section
variable {Xg : Cx} {σw : St} {fp : List Addr} {tn : Nat → Heap → Prop} {W : Nat → Nat → Hp → Prop} {Qt Qf : Hp → Prop} {a : Addr} {g : Nat} {Rr : Result → Shared → Prop} {A : Around}
end
def tGenB (cont : Bool) (wi : TI) (g : TG) (te : TE) (vs : List Nat) (Pt : Addr) : TE := fun σ H Q => wi σ H fun J H1 => H1 Pt = some (TabO Pt) ∧ ∃ W : Nat → Nat → Hp → Prop, (∃ m, W 0 m H1) ∧ ∀ i m H, W i m H →
  (J.stop i H ∧ Q (.bl cont) H) ∨ (J.go i H ∧ ∃ Nx : Hp → Prop, (∀ H', Nx H' → ∃ m', m' < m ∧ W (i + 1) m' H') ∧ ∀ y H', J.yld i H y H' → g y (wipe σ vs) H' fun σ2 H2 => wipe σ2 vs = wipe σ vs ∧ te σ2 H2 fun v H3 => ∃ b, v = .bl b ∧ if b = cont then Nx H3 else Q (.bl (!cont)) H3)
section
variable {A : Around} {elt iter : Expr} {x : Str} {px pos : Pos} {scope : Scope} {it : Addr} {cenv : Env}
end
end L2
end
section
set_option Elab.async false
set_option maxRecDepth 100000
set_option linter.unusedVariables false
namespace L2
open PySem PySem.Spec PySem.F PyProof.Rows
def rngV (n : Nat) : List V := (List.range n).map fun i => V.int (i : Nat)
def tListRng (ta : TA) : TE := fun σ H Q => ta σ H fun vs H1 => ∃ j : Int, vs = [.int j] ∧ 0 ≤ j ∧ j ≤ 1000 ∧ ∀ l, H1 l = none → Q (.ref l) (upd H1 l (.lst (rngV j.toNat)))
end L2
end
section
set_option Elab.async false
set_option maxRecDepth 100000
set_option linter.unusedVariables false
namespace L2
open PySem PySem.Spec PySem.F PyProof.Rows
open PySem.AutoSeq1 (wpAny_loadPart')
theorem int_rmul_tuple (a : Int) (t : Tok) (l : Addr) (items : Array Value) (n : Nat) (dd : Option Addr) (sl : Array (Option Value)) :
    Meets (Builtin.«int.__rmul__» ⟨[.int a t, .ref l], []⟩) (fun _ R s => s.heap.get? l = some { cls := .type "tuple", dict := dd, data := .seq items n, slots := sl } ∧ R (.ok (.ret Value.notImplemented)) s) :=
  .of_wp fun prog w A R s h => by obtain ⟨hp, g, d, tk, os⟩ := s; obtain ⟨hl, h⟩ := h; wp_walk using wpAny_loadPart' hl; exact ⟨_, rfl, h⟩
theorem tuple_mulW (l : Addr) (items : Array Value) (n : Nat) (x : Int) (u : Tok) (dd : Option Addr) (sl : Array (Option Value)) (hi : items.isEmpty = false) (h2 : 2 ≤ x) (h3 : x < 2 ^ 63) (hs : items.size * x.toNat ≤ sizeLine) :
    Meets (Builtin.«tuple.__mul__» ⟨[.ref l, .int x u], []⟩) (fun _ R s => s.heap.get? l = some { cls := .type "tuple", dict := dd, data := .seq items n, slots := sl } ∧ R (.ok (.ret (Value.ref s.heap.objs.size))) { s with heap := s.heap.push { cls := Value.type "tuple", data := Data.seq (List.foldl (fun x1 x2 => x1 ++ x2) #[] (List.replicate x.toNat items)) }, toks := s.toks }) :=
  .of_wp fun prog w A R s h => by
    obtain ⟨hp, g, d, tk, os⟩ := s; obtain ⟨hl, h⟩ := h
    have f1 := AutoSeq1.idx_int
    have hx : ((items.size : Nat) : Int) * x = ((items.size * x.toNat : Nat) : Int) := by rw [Int.natCast_mul, Int.toNat_of_nonneg (by omega)]
    have hz : (sizeLine : Nat) ≤ 2 ^ 40 := by decide
    have hc0 : ¬ (decide (x < -2 ^ 63) || decide (x ≥ 2 ^ 63)) = true := by rw [decide_eq_false (by omega), decide_eq_false (by omega)]; exact Bool.false_ne_true
    have hc1 : ¬ (items.isEmpty || x == 1) = true := by rw [hi, show (x == 1) = false from by simp; omega]; exact Bool.false_ne_true
    have hc2 : ¬ (decide (x ≤ 0) || items.isEmpty) = true := by rw [hi, decide_eq_false (by omega)]; exact Bool.false_ne_true
    have hc3 : ¬ ((items.size : Nat) : Int) * x > (2 ^ 63 - 1) / 8 := by rw [hx]; omega
    have hc4 : ¬ Builtin.Tuple.tupleTooMany (((items.size : Nat) : Int) * x) = true := by
      rw [hx]
      show ¬ decide (((items.size * x.toNat : Nat) : Int) > (sizeLine : Int)) = true
      rw [decide_eq_false (by omega)]; exact Bool.false_ne_true
    wp_walk using wpAny_loadPart' hl
    rw [if_neg hc0]
    wp_walk using wpAny_loadPart' hl
    rw [if_neg hc1]
    wp_walk using wpAny_loadPart' hl
    rw [if_neg hc2]
    wp_walk using wpAny_loadPart' hl
    rw [if_neg hc3]
    wp_walk using wpAny_loadPart' hl
    rw [if_neg hc4]
    wp_walk using wpAny_loadPart' hl
    have hc5 : ¬ (List.foldl (fun x1 x2 => x1 ++ x2) #[] (List.replicate x.toNat items)).size > sizeLine := by
      have f0 := foldl_rep items.toList x.toNat []
      rw [List.nil_append] at f0
      have f1 : List.foldl (fun x1 x2 => x1 ++ x2) #[] (List.replicate x.toNat items) = (List.replicate x.toNat items.toList).flatten.toArray := f0
      rw [f1, List.size_toArray, len_rep]
      have : items.toList.length = items.size := by simp
      rw [this, Nat.mul_comm]; omega
    rw [if_neg hc5]
    wp_walk
    exact ⟨_, rfl, h⟩
def rRepT (K : PySem.W.Frag) : R2 := fun x y H Q => ∃ a k xs, x = .ref a ∧ y = .int k ∧ SqT K H a xs ∧ xs ≠ [] ∧ 2 ≤ k ∧ k ≤ 1000 ∧ xs.length * k.toNat ≤ sizeLine ∧
  ∀ p, H p = none → Q (.ref p) (upd H p (.tup (List.replicate k.toNat xs).flatten))
theorem repeat_tuple : seqRepeat? (.type "tuple") = pure (some (.builtin "tuple.__mul__")) := by with_unfolding_all rfl
theorem op_repT {X : Cx} {K : PySem.W.Frag} (hK : X.K = K) : OpR X (binaryOp .Mult) (rRepT K) := by
  subst hK
  intro pins s σ H x y v u Q I rx ry h
  obtain ⟨a, k, xs, rfl, rfl, ha, hne, h2, h3, hz, q⟩ := h
  cases rx
  obtain ⟨t, rfl⟩ := ry
  obtain ⟨its, r, ⟨⟨cls, dd, data, sl⟩, ho, hc, n, hd⟩, hl⟩ := I.tuple ha
  simp only at hc hd
  subst hc hd
  have e1 : its.toArray.isEmpty = false := by
    cases its with
    | nil => exact absurd (r.nil_iff.mp rfl) hne
    | cons _ _ => rfl
  have hlen : its.toArray.size * k.toNat ≤ sizeLine := by rw [List.size_toArray, ← r.length]; exact hz
  have hnew : List.foldl (fun x1 x2 => x1 ++ x2) #[] (List.replicate k.toNat its.toArray) = (List.replicate k.toNat its).flatten.toArray := by
    have := foldl_rep its k.toNat []
    rw [List.nil_append] at this
    exact this
  refine wpAny_binaryOp_repeat_ref (T := "tuple") (U := "int") (by decide) ⟨_, ho, rfl⟩ (fun s' => typeIs_int s' k t) (by with_unfolding_all rfl) F.fills_int_mul F.slot_int_rmul repeat_tuple F.slot_int_index.lookup
    (call_meets F.slot_int_rmul (typeIs_int s k t) F.entry_int_rmul (F.args_int_rmul_2 _ _) (int_rmul_tuple k t a its.toArray n dd sl)
      ⟨ho, rfl, ⟨_, ho, rfl⟩, call_meets F.slot_tuple_mul ⟨_, ho, rfl⟩ F.entry_tuple_mul (F.args_tuple_mul_2 _ _) (tuple_mulW a its.toArray n k t dd sl e1 h2 (by omega) hlen) ⟨ho, ?_⟩⟩)
  rw [hnew]
  refine ⟨.ref s.heap.objs.size, _, I.laid (t' := s.toks) (o := .tup (List.replicate k.toNat xs).flatten) (fun b ob q => Heap.get?_push_of_some _ q) (Nat.le_refl _) ?_, rfl, q _ (I.hok.fresh (Nat.le_refl _))⟩
  exact ⟨by rw [len_rep, Nat.mul_comm]; exact hz, _, Vals.rep r _, IsTup.new _ _⟩
def rCatA (K : PySem.W.Frag) : R2 := fun x y H Q => ∃ a b xs ys, x = .ref a ∧ y = .ref b ∧ SqT K H a xs ∧ SqT K H b ys ∧ xs.length + ys.length ≤ sizeLine ∧
  (xs = [] → Q (.ref b) H) ∧ (xs ≠ [] → ys = [] → Q (.ref a) H) ∧ (xs ≠ [] → ys ≠ [] → ∀ p, H p = none → Q (.ref p) (upd H p (.tup (xs ++ ys))))
theorem op_catA {X : Cx} {K : PySem.W.Frag} (hK : X.K = K) : OpR X (binaryOp .Add) (rCatA K) := by
  subst hK
  intro pins s σ H x y v u Q I rx ry h
  obtain ⟨a, b, xs, ys, rfl, rfl, ha, hb, hz, q0, q1, q2⟩ := h
  by_cases hx : xs = []
  · cases rx
    cases ry
    obtain ⟨its, r1, p1, _⟩ := I.tuple ha
    obtain ⟨its2, r2, p2, _⟩ := I.tuple hb
    obtain ⟨⟨cls, dd, data, sl⟩, ho, hc, n, hd⟩ := id p1
    obtain ⟨⟨cls2, dd2, data2, sl2⟩, ho2, hc2, n2, hd2⟩ := id p2
    simp only at hc hd hc2 hd2
    subst hc hd hc2 hd2
    have e0 : its = [] := r1.nil_iff.mpr hx
    exact concat_meets ⟨_, ho, rfl⟩ ⟨_, ho2, rfl⟩ noFill_tuple_add seq_tuple_add PySem.F.slot_tuple_add PySem.F.entry_tuple_add (PySem.F.args_tuple_add_2 _ _)
      (tuple_addW0 a b its.toArray its2.toArray n n2 dd dd2 sl sl2 (by simp [e0])) ⟨ho, ho2, ⟨.ref b, H, I, rfl, q0 hx⟩⟩
  · exact op_catT pins s σ H _ _ v u Q I rx ry ⟨a, b, xs, ys, rfl, rfl, ha, hb, hx, hz, q1 hx, q2 hx⟩
def rBits : V → List V → Hp → VK → Prop := fun x xs H Q => ∃ i : Int, x = .int i ∧ xs = [] ∧ Q (.int ((Builtin.Int.intBits i : Nat) : Int)) H
end L2
end
section
set_option Elab.async false
set_option maxRecDepth 100000
set_option linter.unusedVariables false
namespace L2
open PySem PySem.Spec PySem.F PyProof.Rows
def tFmt (t : TE) : TE := fun σ H Q => t σ H fun x H1 => ∃ y : Str, x = .str y ∧ y.length ≤ sizeLine ∧ Q (.str y) H1
def tJoinP : Str → List TE → TE
  | out, [] => fun σ H Q => out.length ≤ sizeLine ∧ Q (.str out) H
  | out, t :: r => fun σ H Q => t σ H fun x H1 => ∃ y : Str, x = .str y ∧ (out ++ y).length ≤ sizeLine ∧ tJoinP (out ++ y) r σ H1 Q
inductive PEL (X : Cx) : List Expr → List TE → Prop
  | nil : PEL X [] []
  | cons {e : Expr} {es : List Expr} {t : TE} {ts : List TE} (h : PE X e t) (r : PEL X es ts) : PEL X (e :: es) (t :: ts)
theorem join_parts {X : Cx} {pins : List (Addr × Obj)} {σ : St} {Q : VK} : ∀ {es : List Expr} {ts : List TE}, PEL X es ts → ∀ (out : Str) (s : Shared) (H : Hp), Inv X pins σ H s → tJoinP out ts σ H Q → wpAny (model X.prog X.w) X.A (joinParts out (evalEach es X.env)) (EP X pins σ Q) X.xe s
  | _, _, .nil, out, s, H, I, q => joinParts_nil ⟨.str out, H, I.tok _, ⟨_, rfl⟩, q.2⟩ q.1
  | _, _, .cons (e := e) (es := es) h r, out, s, H, I, q => by
    show wpAny (model X.prog X.w) X.A (joinParts out (eval e X.env :: evalEach es X.env)) (EP X pins σ Q) X.xe s
    refine joinParts_cons (thn (h pins s σ H _ I q) fun v s1 ⟨x, H1, I1, r1, y, e1, hz, q1⟩ => ?_)
    subst e1
    obtain ⟨tk, rfl⟩ := r1
    exact ⟨hz, join_parts r (out ++ y) s1 H1 I1 q1⟩
section
variable {σ : St} {H : Hp} {Q : VK}
end
end L2
end
section
set_option Elab.async false
set_option maxRecDepth 100000
set_option linter.unusedVariables false
namespace L2
open PySem PySem.Spec PySem.F PyProof.Rows
def tGetT2 (P : Program) (w : World) (K : PySem.W.Frag) (td ty tx : TE) : TE := fun σ H Q => td σ H fun x H1 => ∃ d kvs, x = .ref d ∧ KDict P w K d kvs ∧ ty σ H1 fun y H2 => tx σ H2 fun z H3 => ∃ k, y = kV k ∧ Q ((valV kvs k).getD z) H3
def tFmtI (t : TE) : TE := fun σ H Q => t σ H fun x H1 => ∃ i : Int, x = .int i ∧ i.natAbs.log2 < 1920 ∧ Q (.str (toString i)) H1
section
variable {σ : St} {H : Hp} {Q : VK}
end
end L2
end
section
set_option Elab.async false
set_option maxRecDepth 100000
set_option linter.unusedVariables false
namespace L2
open PySem PySem.Spec PySem.F PyProof.Rows
def rIsiA (K : PySem.W.Frag) : List V → Hp → VK → Prop := fun xs H Q => rIsiT K xs H Q ∨ ∃ T U tp, xs = [.non, .ref tp] ∧ SqT K H tp [.ty T, .ty U] ∧ isT T ∧ isT U ∧ Q (.bl false) H
end L2
end
section
set_option Elab.async false
set_option maxRecDepth 100000
set_option linter.unusedVariables false
namespace L2
open PySem PySem.Spec PySem.F PyProof.Rows
mutual
def plainD : PyData → Bool
  | .str x => decide ((PyData.shown (.str x)).length ≤ 10 * x.length + 2)
  | .list xs => plainDs xs
  | .tuple xs => plainDs xs
  | _ => true
def plainDs : List PyData → Bool
  | [] => true
  | d :: r => plainD d && plainDs r
end
mutual
theorem shown_leS : ∀ d : PyData, d.showable = true → d.hasDict = false → plainD d = true → d.shown.length ≤ cost d
  | .none, _, _, _ => by show ("None" : Str).length ≤ 1921; decide
  | .bool b, _, _, _ => by cases b <;> (show Str.length _ ≤ 1921; decide)
  | .int i, h, _, _ => by
    have h : decide (i.natAbs.log2 < 1920) = true := h
    exact int_text_len_1921 (of_decide_eq_true h)
  | .str x, _, _, h => by
    have h : decide ((PyData.shown (.str x)).length ≤ 10 * x.length + 2) = true := by simpa [plainD] using h
    exact of_decide_eq_true h
  | .list xs, h, h2, h3 => by
    have i := showns_leS xs (by simpa [PyData.showable] using h) (by simpa [PyData.hasDict] using h2) (by simpa [plainD] using h3)
    show (listText (PyData.shownAll xs)).length ≤ costs xs + 4
    have := listText_le (PyData.shownAll xs)
    omega
  | .tuple xs, h, h2, h3 => by
    have i := showns_leS xs (by simpa [PyData.showable] using h) (by simpa [PyData.hasDict] using h2) (by simpa [plainD] using h3)
    show (tupleText (PyData.shownAll xs)).length ≤ costs xs + 4
    have := tupleText_le (PyData.shownAll xs)
    omega
  | .dict _, _, h, _ => by simp [PyData.hasDict] at h
theorem showns_leS : ∀ xs : List PyData, PyData.showableAll xs = true → PyData.hasDictAll xs = false → plainDs xs = true → piled (PyData.shownAll xs) ≤ costs xs
  | [], _, _, _ => Nat.zero_le _
  | d :: r, h, h2, h3 => by
    simp only [PyData.showableAll, Bool.and_eq_true] at h
    simp only [PyData.hasDictAll, Bool.or_eq_false_iff] at h2
    simp only [plainDs, Bool.and_eq_true] at h3
    have i := shown_leS d h.1 h2.1 h3.1
    have j := showns_leS r h.2 h2.2 h3.2
    show piled (PyData.shown d :: PyData.shownAll r) ≤ cost d + 2 + costs r
    rw [piled_cons]
    omega
end
structure ShwS (n c : Nat) (d : PyData) : Prop where
  sh : d.showable = true
  nd : d.hasDict = false
  dp : d.depth ≤ n
  pl : plainD d = true
  co : cost d ≤ c
theorem ShwS.len {n c : Nat} {d : PyData} (h : ShwS n c d) (hc : c ≤ 16777216) : d.shown.length ≤ sizeLine := by
  have := shown_leS d h.sh h.nd h.pl
  have := h.co
  rw [sizeLine_eq]; omega
theorem shwS_int {i : Int} (h : i.natAbs.log2 < 1920) : ShwS 0 1921 (.int i) := ⟨decide_eq_true h, rfl, Nat.le_refl _, rfl, Nat.le_refl _⟩
end L2
end
section
set_option Elab.async false
set_option maxRecDepth 100000
set_option linter.unusedVariables false
namespace L2
open PySem PySem.Spec PySem.F PyProof.Rows
end L2
end
section
set_option Elab.async false
set_option maxRecDepth 100000
set_option linter.unusedVariables false
namespace PySem
section
variable {prog : Program} {w : World} {A : Around} {E : Value → Shared → Prop} {s : Shared} {l : Addr} {xs : Array (Int × Tok)}
theorem mem_two {it l c n : Nat} (hc : c ∈ [it, l]) (h1 : it < n) (h2 : l < n) : c < n := by
  rcases List.mem_cons.mp hc with rfl | hc
  · exact h1
  · rcases List.mem_cons.mp hc with rfl | hc
    · exact h2
    · cases hc
theorem old_of {h' : Heap} {o0 : Obj} (hk : ∀ b o, b ∉ [s.heap.objs.size] → (s.heap.push o0).get? b = some o → h'.get? b = some o) : ∀ b o, s.heap.get? b = some o → h'.get? b = some o := fun b o e => by
  refine hk b o (fun hm => ?_) (Heap.get?_push_of_some _ e)
  rcases List.mem_cons.mp hm with e1 | hm
  · exact absurd (e1 ▸ Heap.lt_size e) (Nat.lt_irrefl _)
  · cases hm
theorem sum_intTupleG {Q : Value → Shared → Prop} (hh : A.handled = none) (hl : s.heap.IsTuple l (intItems xs))
    (h : ∀ h' tk t', (∀ b o, s.heap.get? b = some o → h'.get? b = some o) → Q (.int (preSum (numAt xs) xs.size) t') { s with heap := h', toks := tk }) :
    wpAny (model prog w) A (call (.builtin "sum") [.ref l]) Q E s := by
  have hlt : l < s.heap.objs.size := by obtain ⟨_, e, _⟩ := hl; exact Heap.lt_size e
  refine call_sum_walkG (wpAny_pyIter_tuple hl ?_)
  refine ⟨_, [_, l], [_], _, _, _, numAt xs, rfl, Walks.tuple (A := A.in1) hh _ l (Nat.ne_of_lt hlt) (intItems xs), ⟨⟨_, Heap.get?_push_size _ rfl, rfl, rfl⟩, hl.push _⟩, fun c hc => ?_, (fun _ _ => intItems_at), fun h' tk t' hk => ?_⟩
  · show c < (s.heap.push _).objs.size
    rw [Heap.size_push]; exact mem_two hc (Nat.lt_succ_self _) (Nat.lt_succ_of_lt hlt)
  · have := h h' tk t' (old_of hk)
    simpa [intItems] using this
end
end PySem
namespace L2
open PySem PySem.Spec PySem.F PyProof.Rows
section
variable {prog : Program} {w : World} {A : Around} {E : Value → Shared → Prop} {s : Shared} {l : Addr} {its : List Value} {ns : List Int} {Q : Value → Shared → Prop}
theorem sum_rawT (hh : A.handled = none) (hl : s.heap.IsTuple l its.toArray) (hi : IntsAre its ns)
    (h : ∀ h' tk t', (∀ b o, s.heap.get? b = some o → h'.get? b = some o) → Q (.int ns.sum t') { s with heap := h', toks := tk }) : wpAny (model prog w) A (call (.builtin "sum") [.ref l]) Q E s := by
  obtain ⟨xs, e⟩ := hi.allInts.items
  have hn : numsOf (intItems xs).toList = ns := by rw [← e]; exact hi.numsOf
  rw [nums_intItems] at hn
  rw [e] at hl
  refine PySem.sum_intTupleG hh hl fun h' tk t' hk => ?_
  have := h h' tk t' hk
  rw [preSum_eq, List.take_of_length_le (by simp), hn]; exact this
end
section
variable {X : Cx} {K : PySem.W.Frag}
def rSumS (K : PySem.W.Frag) : List V → Hp → VK → Prop := fun vs H Q => ∃ (b : Bool) (a : Addr) (ns : List Int), vs = [V.ref a] ∧ Sq b K H a (ns.map V.int) ∧ Q (.int ns.sum) H
def rMinS (K : PySem.W.Frag) : List V → Hp → VK → Prop := fun vs H Q => ∃ (b : Bool) (a : Addr) (ns : List Int), vs = [V.ref a] ∧ Sq b K H a (ns.map V.int) ∧ 0 < ns.length ∧ ∀ m, m ∈ ns → (∀ y, y ∈ ns → m ≤ y) → Q (.int m) H
theorem k_sumS (hK : X.K = K) (hc : X.calm = true) : CallR X (.builtin "sum") (rSumS K) := by
  subst hK
  intro pins s σ H vs us Q I r h
  obtain ⟨b, a, ns, rfl, hs, q⟩ := h
  cases b
  · have hs : SqT X.K H a (ns.map V.int) := hs
    obtain ⟨its, rv, hl, _⟩ := I.tuple hs
    rw [Vals.ref1 r]
    exact sum_rawT (I.ok.hd hc) hl rv.ints fun h' tk t' hk => ⟨.int _, H, I.kept hk, ⟨_, rfl⟩, q⟩
  · exact cr_sum hc pins s σ H _ us Q I r ⟨a, ns, rfl, hs, q⟩
end
end L2
end
section
set_option Elab.async false
set_option maxRecDepth 100000
set_option linter.unusedVariables false
set_option maxHeartbeats 4000000
namespace L2
open PySem PySem.Spec PySem.F PyProof.Rows
def txtD : PyData → Str
  | .none => "None"
  | .bool b => if b then "True" else "False"
  | .int i => toString i
  | .str x => x
  | d => d.shown
def rStrA (K : PySem.W.Frag) : List V → Hp → VK → Prop := fun xs H Q => ∃ x d, xs = [x] ∧ Dp K H x d ∧ d.showable = true ∧ d.hasDict = false ∧ d.depth ≤ 64 ∧ d.shown.length ≤ sizeLine ∧ Q (.str (txtD d)) H
end L2
end
section
set_option Elab.async false
set_option maxRecDepth 100000
set_option linter.unusedVariables false
namespace L2
open PySem PySem.Spec PySem.F PyProof.Rows
def rCount (K : PySem.W.Frag) : V → List V → Hp → VK → Prop := fun x xs H Q => ∃ (a : Addr) (ys : List V) (y : V), x = V.ref a ∧ xs = [y] ∧ SqL K H a ys ∧ flatV y = true ∧ ys.all flatV = true ∧ Q (.int ((ys.countP fun z => eqV z y : Nat) : Int)) H
theorem countU (y : V) : ∀ {ys : List V} {us : List Value}, Vals ys us → ys.all flatV = true → us.countP (eqU y) = ys.countP fun z => eqV z y
  | _, _, .nil, _ => rfl
  | z :: ys, u :: us, .cons r t, f => by
    rw [List.all_cons, Bool.and_eq_true] at f
    rw [List.countP_cons, List.countP_cons, countU y t f.2, eqU_of r f.1]
theorem count_bl : ∀ bs : List Bool, (bs.map V.bl).countP (fun z => eqV z (.bl true)) = bs.countP id
  | [] => rfl
  | b :: r => by
    rw [List.map_cons, List.countP_cons, List.countP_cons, count_bl r]
    cases b <;> rfl
theorem flat_bls : ∀ bs : List Bool, (bs.map V.bl).all flatV = true
  | [] => rfl
  | b :: r => by rw [List.map_cons, List.all_cons, flat_bls r]; rfl
def tRev (K : PySem.W.Frag) (te : TE) (tk : TO) : TE := fun σ H Q => te σ H fun x H1 => tk σ H1 fun l H2 => l = some (-1) ∧ ∃ a xs, x = .ref a ∧ SqL K H2 a xs ∧ ∀ p, H2 p = none → Q (.ref p) (upd H2 p (.lst xs.reverse))
end L2
end
section
set_option Elab.async false
set_option maxRecDepth 100000
set_option linter.unusedVariables false
namespace PySem
section
variable {prog : Program} {w : World} {A : Around} {E : Value → Shared → Prop} {s : Shared} {l : Addr} {xs : Array (Int × Tok)}
end
end PySem
namespace L2
open PySem PySem.Spec PySem.F PyProof.Rows
section
variable {prog : Program} {w : World} {A : Around} {E : Value → Shared → Prop} {s : Shared} {l : Addr} {its : List Value} {ns : List Int} {Q : Value → Shared → Prop}
end
section
variable {X : Cx} {K : PySem.W.Frag}
def rMaxS (K : PySem.W.Frag) : List V → Hp → VK → Prop := fun vs H Q => ∃ (b : Bool) (a : Addr) (ns : List Int), vs = [V.ref a] ∧ Sq b K H a (ns.map V.int) ∧ 0 < ns.length ∧ ∀ m, m ∈ ns → (∀ y, y ∈ ns → y ≤ m) → Q (.int m) H
def dedup : List Int → List Int := fun ns => ns.foldl step_dedup []
def rSetOf (K : PySem.W.Frag) : List V → Hp → VK → Prop := fun vs H Q => ∃ (a : Addr) (ns : List Int), vs = [V.ref a] ∧ SqL K H a (ns.map V.int) ∧ ns.length ≤ 4000 ∧ ∀ p, H p = none → Q (.ref p) (upd H p (.set (fun k => (dedup ns).any (· == k)) (dedup ns).length))
def rLenSet : List V → Hp → VK → Prop := fun vs H Q => ∃ (a : Addr) (S : Int → Bool) (n : Nat), vs = [V.ref a] ∧ H a = some (.set S n) ∧ Q (.int (n : Nat)) H
theorem call_lenSet : CallR X (.builtin "len") rLenSet := by
  intro pins s σ H vs us Q I r h
  obtain ⟨a, S, n, rfl, ha, q⟩ := h
  rw [Vals.ref1 r]
  obtain ⟨o, es, ep, t, ho, hex, hd, hel, hS, hb, hf, hn⟩ := I.hok a _ ha
  subst hn
  exact call_len_set ho hex hd hf (by unfold scanBound at hb; omega) ⟨.int _, H, I.tok _, ⟨_, rfl⟩, q⟩
theorem dedup_go : ∀ (ns acc : List Int), (acc ++ ns).Nodup → ns.foldl step_dedup acc = acc ++ ns
  | [], acc, _ => by rw [List.append_nil]; rfl
  | x :: r, acc, h => by
    have e : step_dedup acc x = acc ++ [x] := by
      unfold step_dedup
      rw [if_neg]
      intro z
      obtain ⟨y, hy, e⟩ := List.any_eq_true.mp z
      have e : y = x := by simpa using e
      subst e
      exact (List.nodup_append.mp h).2.2 y hy y List.mem_cons_self rfl
    rw [List.foldl_cons, e, dedup_go r (acc ++ [x]) (by rw [List.append_assoc]; exact h), List.append_assoc]; rfl
theorem k_ltT (hu : X.A.units + 64 < cLine) (hK : X.K = K) : OpR X (compareOp .Lt) (rLtT K) := by subst hK; exact op_ltT (by omega)
end
end L2
end
section
set_option Elab.async false
set_option maxRecDepth 100000
set_option linter.unusedVariables false
namespace L2
open PySem PySem.Spec PySem.F PyProof.Rows
theorem k_bm {X : Cx} {K : PySem.W.Frag} {T : String} {name : Str} {id : String} {r : V → List V → Hp → VK → Prop} {o e : Expr} {es : List Expr} {to : TE} {t : TA} {apos cpos : Pos} (hK : X.K = K) (pa : PlainAttrs T) (slot : Slot T name id) (hty : typeOf (.builtin id) = pure (.type "method_descriptor")) (hm : MtR X id r) (ho : PE X o to) (ha : PA X (e :: es) t)
    (hbase : attributeBase o name X.env (eval o X.env) = eval o X.env := by rfl)
    (hfew : ((backTo cpos (starEach (e :: es) X.env)).all (fun x => !x.1) && (backToKw cpos (keywordEach [] X.env)).all (fun x => x.1.isSome)
      && decide ((e :: es).length + ([] : List Keyword).length + (if ([] : List Keyword).isEmpty then 0 else 1) < 30)) = true := by rfl)
    (hline : (apos.endLine == cpos.line) = true := by rfl) (hs : starEach (e :: es) X.env = (false, eval e X.env) :: starEach es X.env := by rfl) (hplain : (backTo cpos (starEach es X.env)).any (·.1) = false := by rfl) :
    PE X (.Call (.Attribute o name apos) (e :: es) [] cpos) (tBM K T r to t) := by
  subst hK
  exact pe_bm pa slot hty hm ho ha hbase hfew hline hs hplain
theorem rd_popAt {H : Hp} {Q : VK} {l : Addr} {xs : List V} {i : Int} {y : V} (h : H l = some (.lst xs)) (h0 : 0 ≤ i) (h1 : i < xs.length) (hz : xs.length ≤ 1000000) (e : xs[i.toNat]? = some y) (q : Q y (upd H l (.lst (xs.eraseIdx i.toNat)))) : rPopAt (.ref l) [.int i] H Q := by
  have e1 : ixN xs.length i = some i.toNat := by unfold ixN; rw [if_pos h0, if_pos h1]
  exact ⟨l, xs, i, i.toNat, y, rfl, rfl, h, by omega, by omega, (ixN_seq e1).1, e, q⟩
end L2
end
section
set_option Elab.async false
set_option maxRecDepth 100000
set_option linter.unusedVariables false
namespace L2
open PySem PySem.Spec PySem.F PyProof.Rows
mutual
inductive WT where
  | non | bl (b : Bool) | int (i : Int) | neg (i : Int) | pow (i j : Int) | str (s : Str) | nm | tup (cs : WTs) | lst (cs : WTs)
inductive WTs where
  | nil | cons (c : WT) (cs : WTs)
end
mutual
def WT.chk (x0 : Str) : WT → Expr → Bool
  | .non, .Constant .none _ _ => true
  | .bl b, .Constant (.bool c) _ _ => decide (b = c)
  | .int b, .Constant (.int c) _ _ => decide (b = c)
  | .str b, .Constant (.str c) _ _ => decide (b = c)
  | .neg b, .UnaryOp .USub (.Constant (.int c) _ _) _ => decide (b = c)
  | .pow a b, .BinOp (.Constant (.int c) _ _) .Pow (.Constant (.int d) _ _) _ => decide (a = c) && (decide (b = d) && (decide (0 ≤ b) && (decide (b ≤ 1000) && decide (a.natAbs < 2 ^ 64))))
  | .nm, .Name x _ => decide (x = x0)
  | .tup cs, .Tuple es _ _ => cs.chk x0 es
  | .lst cs, .List es _ => cs.chk x0 es
  | _, _ => false
def WTs.chk (x0 : Str) : WTs → List Expr → Bool
  | .nil, [] => true
  | .cons c cs, e :: es => c.chk x0 e && (cs.chk x0 es && match e with | .Starred _ _ => false | _ => true)
  | _, _ => false
end
mutual
def tW (i : Nat) : WT → TE
  | .non => tC .non
  | .bl b => tC (.bl b)
  | .int b => tC (.int b)
  | .str b => tC (.str b)
  | .neg b => tC (.int (-b))
  | .pow a b => tC (.int (a ^ b.toNat))
  | .nm => tVar i
  | .tup cs => tTup (tWs i cs)
  | .lst cs => tLst (tWs i cs)
def tWs (i : Nat) : WTs → TA
  | .nil => tNil
  | .cons c cs => tCons (tW i c) (tWs i cs)
end
mutual
def WT.dat (m : Int) : WT → PyData
  | .non => .none
  | .bl b => .bool b
  | .int b => .int b
  | .str b => .str b
  | .neg b => .int (-b)
  | .pow a b => .int (a ^ b.toNat)
  | .nm => .int m
  | .tup cs => .tuple (cs.dats m)
  | .lst cs => .list (cs.dats m)
def WTs.dats (m : Int) : WTs → List PyData
  | .nil => []
  | .cons c cs => c.dat m :: cs.dats m
end
theorem star_not {e : Expr} {es : List Expr} {env : Env} (h : (match e with | .Starred _ _ => false | _ => true) = true) : starEach (e :: es) env = (false, eval e env) :: starEach es env := by
  cases e <;> first | rfl | exact absurd h Bool.false_ne_true
theorem pe_wk {X : Cx} {e : Expr} {t t' : TE} (h : PE X e t) (w : ∀ σ H Q, t' σ H Q → t σ H Q) : PE X e t' := fun pins s σ H Q I q => h pins s σ H Q I (w σ H Q q)
section
variable {X : Cx} {x0 : Str} {i : Nat} (hn : ∀ pos, PE X (.Name x0 pos) (tVar i))
include hn
mutual
theorem pe_wd : ∀ (c : WT) (e : Expr), c.chk x0 e = true → PE X e (tW i c)
  | .non, e, h => by
    cases e <;> first | exact absurd h Bool.false_ne_true | skip
    next v k pos => cases v <;> first | exact absurd h Bool.false_ne_true | exact pe_non
  | .bl b, e, h => by
    cases e <;> first | exact absurd h Bool.false_ne_true | skip
    next v k pos =>
      cases v <;> first | exact absurd h Bool.false_ne_true | skip
      have h := of_decide_eq_true h; subst h; exact pe_bl
  | .int b, e, h => by
    cases e <;> first | exact absurd h Bool.false_ne_true | skip
    next v k pos =>
      cases v <;> first | exact absurd h Bool.false_ne_true | skip
      have h := of_decide_eq_true h; subst h; exact pe_int
  | .str b, e, h => by
    cases e <;> first | exact absurd h Bool.false_ne_true | skip
    next v k pos =>
      cases v <;> first | exact absurd h Bool.false_ne_true | skip
      have h := of_decide_eq_true h; subst h; exact pe_str
  | .neg b, e, h => by
    cases e <;> first | exact absurd h Bool.false_ne_true | skip
    next op e2 pos =>
      cases op <;> first | exact absurd h Bool.false_ne_true | skip
      cases e2 <;> first | exact absurd h Bool.false_ne_true | skip
      next v k p2 =>
        cases v <;> first | exact absurd h Bool.false_ne_true | skip
        have h := of_decide_eq_true h; subst h
        exact pe_wk (pe_un un_neg pe_int) fun σ H Q q => ⟨_, rfl, q⟩
  | .pow a b, e, h => by
    cases e <;> first | exact absurd h Bool.false_ne_true | skip
    next l op r pos =>
      cases l <;> first | exact absurd h Bool.false_ne_true | skip
      next v k p2 =>
        cases v <;> first | exact absurd h Bool.false_ne_true | skip
        cases op <;> first | exact absurd h Bool.false_ne_true | skip
        cases r <;> first | exact absurd h Bool.false_ne_true | skip
        next v2 k2 p3 =>
          cases v2 <;> first | exact absurd h Bool.false_ne_true | skip
          have h : (_ && (_ && (_ && (_ && _)))) = true := h
          simp only [Bool.and_eq_true, decide_eq_true_eq] at h
          obtain ⟨h1, h2, h3, h4, h5⟩ := h
          subst h1; subst h2
          exact pe_wk (pe_op op_pow pe_int pe_int) fun σ H Q q => ⟨_, _, rfl, rfl, ⟨h3, by omega, h5⟩, q⟩
  | .nm, e, h => by
    cases e <;> first | exact absurd h Bool.false_ne_true | skip
    have h := of_decide_eq_true h; subst h; exact hn _
  | .tup cs, e, h => by
    cases e <;> first | exact absurd h Bool.false_ne_true | skip
    next es k pos => exact pe_tup (pa_wd cs es h)
  | .lst cs, e, h => by
    cases e <;> first | exact absurd h Bool.false_ne_true | skip
    next es pos => exact pe_lst (pa_wd cs es h)
theorem pa_wd : ∀ (cs : WTs) (es : List Expr), cs.chk x0 es = true → PA X es (tWs i cs)
  | .nil, [], _ => pa_nil
  | .nil, _ :: _, h => absurd h Bool.false_ne_true
  | .cons _ _, [], h => absurd h Bool.false_ne_true
  | .cons c cs, e :: es, h => by
    have h : (_ && (_ && _)) = true := h
    simp only [Bool.and_eq_true] at h
    exact pa_cons (pe_wd c e h.1) (pa_wd cs es h.2.1) (star_not h.2.2)
end
end
end L2
end
section
set_option Elab.async false
set_option maxRecDepth 100000
set_option linter.unusedVariables false
namespace L2
open PySem PySem.Spec PySem.F PyProof.Rows
section
variable {X : Cx} {K : PySem.W.Frag}
open Classical in
noncomputable def eqRd (h : Heap) (d : PyData) (u : Value) : Bool := decide (∃ e as, Reads h u e as ∧ e.canLay0 = true ∧ PyData.eqv e d = true)
open Classical in
theorem eqRd_of {h : Heap} {d e : PyData} {u : Value} {as : List Addr} (r : Reads h u e as) (c : e.canLay0 = true) : eqRd h d u = PyData.eqv e d := by
  unfold eqRd
  cases q : PyData.eqv e d with
  | true => exact decide_eq_true ⟨e, as, r, c, q⟩
  | false =>
    refine decide_eq_false ?_
    rintro ⟨e', as', r', c', q'⟩
    have := (PySem.Reads.unique r _ _ r').1
    subst this
    rw [q] at q'; cases q'
theorem any_eqRd {h : Heap} {d : PyData} : ∀ {us : List Value} {es : List PyData} {as : List Addr}, ReadsAll h us es as → PyData.canLayAll0 es = true → us.any (eqRd h d) = es.any fun e => PyData.eqv e d
  | _, _, _, .nil, _ => rfl
  | _, _, _, .cons r t, c => by
    simp only [PyData.canLayAll0, Bool.and_eq_true] at c
    rw [List.any_cons, List.any_cons, eqRd_of r c.1, any_eqRd t c.2]
theorem mem_readsAll {h : Heap} : ∀ {us : List Value} {es : List PyData} {as : List Addr} {u : Value}, ReadsAll h us es as → u ∈ us → ∃ e bs, e ∈ es ∧ Reads h u e bs
  | _, _, _, _, .nil, hu => by cases hu
  | _, _, _, _, .cons r t, hu => by
    rcases List.mem_cons.mp hu with rfl | hu
    · exact ⟨_, _, List.mem_cons_self, r⟩
    · obtain ⟨e, bs, m, q⟩ := mem_readsAll t hu
      exact ⟨e, bs, List.mem_cons_of_mem _ m, q⟩
theorem canAll_mem : ∀ {es : List PyData} {e : PyData}, PyData.canLayAll0 es = true → e ∈ es → e.canLay0 = true
  | _ :: _, _, c, h => by
    simp only [PyData.canLayAll0, Bool.and_eq_true] at c
    rcases List.mem_cons.mp h with rfl | h
    · exact c.1
    · exact canAll_mem c.2 h
def rInD (K : PySem.W.Frag) (neg : Bool) : R2 := fun x y H Q => ∃ p xs d es, y = .ref p ∧ (SqL K H p xs ∨ SqT K H p xs) ∧ Dp K H x d ∧ DpAll K H xs es ∧ SeqAt.shaped d = true ∧ d.depth ≤ 60 ∧ PyData.canLayAll0 es = true ∧ Q (.bl (if neg then !(es.any fun e => PyData.eqv e d) else es.any fun e => PyData.eqv e d)) H
theorem op_inD (hu : X.A.units + 64 < cLine) (hK : X.K = K) (neg : Bool) : OpR X (compareOp (if neg then .NotIn else .In)) (rInD K neg) := by
  subst hK
  intro pins s σ H x y v u Q I rx ry h
  obtain ⟨p, xs, d, es, rfl, hq, hd, he, sd, dd, ce, q⟩ := h
  cases ry
  obtain ⟨as, r1⟩ := Dp.reads I d x v hd rx
  have cd := SeqAt.canLay_of_shaped sd
  have key : ∀ its : List Value, (∃ bs, ReadsAll s.heap its es bs) → ∀ w ∈ its, SeqAt.EqAt X.A.in1 s w v (eqRd s.heap d w) := fun its ⟨bs, r⟩ w hw => by
    obtain ⟨e, cs, me, re⟩ := mem_readsAll r hw
    have ce' := canAll_mem ce me
    rw [eqRd_of re ce']
    refine SeqAt.eqAt_reads e d X.A.in1 s w v cs as re r1 ce' cd ?_
    have : X.A.in1.units ≤ X.A.units + 1 := by exact Nat.le_refl _
    have : min e.depth d.depth ≤ 60 := Nat.le_trans (Nat.min_le_right _ _) dd
    omega
  rcases hq with hq | hq
  · obtain ⟨its, r, pl, hz⟩ := I.list hq
    obtain ⟨bs, ra⟩ := Dp.readsAll I es xs its he r
    have ea : its.toArray.any (eqRd s.heap d) = es.any fun e => PyData.eqv e d := by rw [show its.toArray.any (eqRd s.heap d) = its.any (eqRd s.heap d) by simp, any_eqRd ra ce]
    cases neg
    · exact SeqAt.in_listAt (eqRd s.heap d) pl.isList (fun w hw => key its ⟨bs, ra⟩ w (by simpa using hw)) ⟨.bl _, H, I, rfl, by rw [ea]; exact q⟩
    · exact SeqAt.notIn_listAt (eqRd s.heap d) pl.isList (fun w hw => key its ⟨bs, ra⟩ w (by simpa using hw)) ⟨.bl _, H, I, rfl, by rw [ea]; exact q⟩
  · obtain ⟨its, r, pl, hz⟩ := I.tuple hq
    obtain ⟨bs, ra⟩ := Dp.readsAll I es xs its he r
    have ea : its.toArray.any (eqRd s.heap d) = es.any fun e => PyData.eqv e d := by rw [show its.toArray.any (eqRd s.heap d) = its.any (eqRd s.heap d) by simp, any_eqRd ra ce]
    cases neg
    · exact SeqAt.in_tupleAt (eqRd s.heap d) pl (fun w hw => key its ⟨bs, ra⟩ w (by simpa using hw)) ⟨.bl _, H, I, rfl, by rw [ea]; exact q⟩
    · exact SeqAt.notIn_tupleAt (eqRd s.heap d) pl (fun w hw => key its ⟨bs, ra⟩ w (by simpa using hw)) ⟨.bl _, H, I, rfl, by rw [ea]; exact q⟩
end
end L2
end
section
set_option Elab.async false
set_option maxRecDepth 100000
set_option linter.unusedVariables false
namespace HT
open PySem PySem.Spec PySem.F PyProof.Rows
section
variable {prog : Program} {w : World} {A : Around} {E : Value → Shared → Prop} {s : Shared}
end
end HT
namespace L2
open PySem PySem.Spec PySem.F PyProof.Rows
def tRevT (K : PySem.W.Frag) (te : TE) (tk : TO) : TE := fun σ H Q => te σ H fun x H1 => tk σ H1 fun l H2 => l = some (-1) ∧ ∃ a xs, x = .ref a ∧ SqT K H2 a xs ∧ 0 < xs.length ∧ ∀ p, H2 p = none → Q (.ref p) (upd H2 p (.tup xs.reverse))
end L2
end
section
set_option Elab.async false
set_option maxRecDepth 100000
set_option linter.unusedVariables false
namespace L2
open PySem PySem.Spec PySem.F PyProof.Rows
inductive U where
  | non | bl (b : Bool) | int (i : Int) | str (x : Str)
  | tup (us : List U) | lst (us : List U) | scr (us : List U)
  | dct (kus : List (Key × U)) | set (ns : List Int)
  | ref (a : Nat)
inductive O where
  | lst (us : List U) | dK (kus : List (Key × U)) | ins (c : Str) (fs : List (Str × U))
abbrev PH := List O
structure Sx where
  P : Program
  w : World
  K : PySem.W.Frag
  cl : Str → Addr
  tabs : List Addr
structure Am where
  a : List Addr
  x : List Addr
def Am.own (α : Am) (p : Addr) : Prop := p ∈ α.a ∨ p ∈ α.x
def TAt (S : Sx) (α : Am) (H : Hp) (p : Addr) (xs : List V) : Prop := (Rd H p (.tup xs) ∧ ¬ α.own p) ∨ SqT S.K (fun _ => none) p xs
def LAt (S : Sx) (α : Am) (H : Hp) (p : Addr) (xs : List V) : Prop := H p = some (.lst xs) ∧ ¬ α.own p
def CAt (S : Sx) (α : Am) (H : Hp) (p : Addr) (xs : List V) : Prop := (Rd H p (.lst xs) ∧ ¬ α.own p) ∨ SqL S.K (fun _ => none) p xs
def DAt (S : Sx) (α : Am) (H : Hp) (p : Addr) (kvs : List (Key × V)) : Prop := (H p = some (.dK kvs) ∧ ¬ α.own p) ∨ KDict S.P S.w S.K p kvs
def EAt (S : Sx) (α : Am) (H : Hp) (p : Addr) (ns : List Int) : Prop := H p = some (.set (fun k => ns.any (· == k)) ns.length) ∧ ¬ α.own p
mutual
inductive RU (S : Sx) (α : Am) (H : Hp) : U → V → Prop
  | non : RU S α H .non .non
  | bl (b : Bool) : RU S α H (.bl b) (.bl b)
  | int (i : Int) : RU S α H (.int i) (.int i)
  | str (x : Str) : RU S α H (.str x) (.str x)
  | tup {p : Addr} {xs : List V} {us : List U} : TAt S α H p xs → RUs S α H us xs → RU S α H (.tup us) (.ref p)
  | lst {p : Addr} {xs : List V} {us : List U} : LAt S α H p xs → RUs S α H us xs → RU S α H (.lst us) (.ref p)
  | scr {p : Addr} {xs : List V} {us : List U} : CAt S α H p xs → RUs S α H us xs → RU S α H (.scr us) (.ref p)
  | dct {p : Addr} {kvs : List (Key × V)} {kus : List (Key × U)} : DAt S α H p kvs → RKs S α H kus kvs → RU S α H (.dct kus) (.ref p)
  | set {p : Addr} {ns : List Int} : EAt S α H p ns → RU S α H (.set ns) (.ref p)
  | ref {a : Nat} {p : Addr} : α.a[a]? = some p → RU S α H (.ref a) (.ref p)
inductive RUs (S : Sx) (α : Am) (H : Hp) : List U → List V → Prop
  | nil : RUs S α H [] []
  | cons {u : U} {x : V} {us : List U} {xs : List V} : RU S α H u x → RUs S α H us xs → RUs S α H (u :: us) (x :: xs)
inductive RKs (S : Sx) (α : Am) (H : Hp) : List (Key × U) → List (Key × V) → Prop
  | nil : RKs S α H [] []
  | cons {k : Key} {u : U} {x : V} {us : List (Key × U)} {xs : List (Key × V)} : RU S α H u x → RKs S α H us xs → RKs S α H ((k, u) :: us) ((k, x) :: xs)
end
structure Ex (α : Am) (H : Hp) (α' : Am) (H' : Hp) : Prop where
  keep : ∀ p o, H p = some o → ¬ α.own p → H' p = some o ∧ ¬ α'.own p
  pre : ∃ β, α'.a = α.a ++ β
  x : α'.x = α.x
  priv : ∀ p ∈ α.x, H' p = H p
structure Mo (α : Am) (H : Hp) (α' : Am) (H' : Hp) : Prop where
  keep : ∀ p o, H p = some o → ¬ α.own p → H' p = some o ∧ ¬ α'.own p
  pre : ∃ β, α'.a = α.a ++ β
theorem Ex.mo {α α' : Am} {H H' : Hp} (e : Ex α H α' H') : Mo α H α' H' := ⟨e.keep, e.pre⟩
theorem Mo.refl (α : Am) (H : Hp) : Mo α H α H := ⟨fun _ _ h n => ⟨h, n⟩, ⟨[], by simp⟩⟩
theorem Mo.trans {α α1 α2 : Am} {H H1 H2 : Hp} (a : Mo α H α1 H1) (b : Mo α1 H1 α2 H2) : Mo α H α2 H2 where
  keep := fun p o h n => let ⟨h1, n1⟩ := a.keep p o h n; b.keep p o h1 n1
  pre := by
    obtain ⟨β, e⟩ := a.pre
    obtain ⟨γ, e2⟩ := b.pre
    exact ⟨β ++ γ, by rw [e2, e, List.append_assoc]⟩
theorem Ex.refl (α : Am) (H : Hp) : Ex α H α H := ⟨fun _ _ h n => ⟨h, n⟩, ⟨[], by simp⟩, rfl, fun _ _ => rfl⟩
theorem Ex.trans {α α1 α2 : Am} {H H1 H2 : Hp} (a : Ex α H α1 H1) (b : Ex α1 H1 α2 H2) : Ex α H α2 H2 where
  keep := fun p o h n => let ⟨h1, n1⟩ := a.keep p o h n; b.keep p o h1 n1
  pre := by
    obtain ⟨β, e⟩ := a.pre
    obtain ⟨γ, e2⟩ := b.pre
    exact ⟨β ++ γ, by rw [e2, e, List.append_assoc]⟩
  x := b.x.trans a.x
  priv := fun p hp => (b.priv p (by rw [a.x]; exact hp)).trans (a.priv p hp)
section
variable {S : Sx} {α α' : Am} {H H' : Hp}
theorem TAt.sq {p : Addr} {xs : List V} (h : TAt S α H p xs) : SqT S.K H p xs := by
  rcases h with ⟨h, _⟩ | h
  · exact .inl h
  · rcases h with h | h
    · rcases h with h | ⟨_, h⟩ <;> cases h
    · exact .inr h
theorem CAt.sq {p : Addr} {xs : List V} (h : CAt S α H p xs) : SqL S.K H p xs := by
  rcases h with ⟨h, _⟩ | h
  · exact .inl h
  · rcases h with h | h
    · rcases h with h | ⟨_, h⟩ <;> cases h
    · exact .inr h
theorem Rd.mo {p : Addr} {o : HO} (e : Mo α H α' H') (h : Rd H p o) (n : ¬ α.own p) : Rd H' p o ∧ ¬ α'.own p := by
  rcases h with h | ⟨ob, h⟩
  · obtain ⟨h1, n1⟩ := e.keep _ _ h n; exact ⟨.inl h1, n1⟩
  · obtain ⟨h1, n1⟩ := e.keep _ _ h n; exact ⟨.inr ⟨ob, h1⟩, n1⟩
theorem TAt.mo {p : Addr} {xs : List V} (e : Mo α H α' H') (h : TAt S α H p xs) : TAt S α' H' p xs := by
  rcases h with ⟨h, n⟩ | h
  · exact .inl (h.mo e n)
  · exact .inr h
theorem LAt.mo {p : Addr} {xs : List V} (e : Mo α H α' H') (h : LAt S α H p xs) : LAt S α' H' p xs := e.keep _ _ h.1 h.2
theorem CAt.mo {p : Addr} {xs : List V} (e : Mo α H α' H') (h : CAt S α H p xs) : CAt S α' H' p xs := by
  rcases h with ⟨h, n⟩ | h
  · exact .inl (h.mo e n)
  · exact .inr h
theorem DAt.mo {p : Addr} {xs : List (Key × V)} (e : Mo α H α' H') (h : DAt S α H p xs) : DAt S α' H' p xs := by
  rcases h with ⟨h, n⟩ | h
  · exact .inl (e.keep _ _ h n)
  · exact .inr h
theorem EAt.mo {p : Addr} {ns : List Int} (e : Mo α H α' H') (h : EAt S α H p ns) : EAt S α' H' p ns := e.keep _ _ h.1 h.2
mutual
theorem RU.mo (e : Mo α H α' H') : ∀ {u : U} {x : V}, RU S α H u x → RU S α' H' u x
  | _, _, .non => .non
  | _, _, .bl b => .bl b
  | _, _, .int i => .int i
  | _, _, .str x => .str x
  | _, _, .tup h r => .tup (h.mo e) (RUs.mo e r)
  | _, _, .lst h r => .lst (h.mo e) (RUs.mo e r)
  | _, _, .scr h r => .scr (h.mo e) (RUs.mo e r)
  | _, _, .dct h r => .dct (h.mo e) (RKs.mo e r)
  | _, _, .set h => .set (h.mo e)
  | _, _, .ref h => .ref (by
    obtain ⟨β, q⟩ := e.pre
    rw [q, List.getElem?_append_left (List.getElem?_eq_some_iff.mp h).1]; exact h)
theorem RUs.mo (e : Mo α H α' H') : ∀ {us : List U} {xs : List V}, RUs S α H us xs → RUs S α' H' us xs
  | _, _, .nil => .nil
  | _, _, .cons a r => .cons (RU.mo e a) (RUs.mo e r)
theorem RKs.mo (e : Mo α H α' H') : ∀ {us : List (Key × U)} {xs : List (Key × V)}, RKs S α H us xs → RKs S α' H' us xs
  | _, _, .nil => .nil
  | _, _, .cons a r => .cons (RU.mo e a) (RKs.mo e r)
end
theorem RU.ex (e : Ex α H α' H') {u : U} {x : V} (r : RU S α H u x) : RU S α' H' u x := r.mo e.mo
theorem RUs.ex (e : Ex α H α' H') {u : List U} {x : List V} (r : RUs S α H u x) : RUs S α' H' u x := r.mo e.mo
theorem RKs.ex (e : Ex α H α' H') {u : List (Key × U)} {x : List (Key × V)} (r : RKs S α H u x) : RKs S α' H' u x := r.mo e.mo
theorem RUs.len : ∀ {us : List U} {xs : List V}, RUs S α H us xs → us.length = xs.length
  | _, _, .nil => rfl
  | _, _, .cons _ r => congrArg (· + 1) (RUs.len r)
theorem RUs.get : ∀ {us : List U} {xs : List V} {i : Nat} {u : U}, RUs S α H us xs → us[i]? = some u → ∃ x, xs[i]? = some x ∧ RU S α H u x
  | _, _, _, _, .nil, h => by simp at h
  | _, _, 0, u, .cons (x := x) a _, h => by simp at h; subst h; exact ⟨x, rfl, a⟩
  | _, _, i + 1, u, .cons a r, h => by obtain ⟨x, e, q⟩ := RUs.get r (i := i) (by simpa using h); exact ⟨x, by simpa using e, q⟩
theorem RUs.getV : ∀ {us : List U} {xs : List V} {i : Nat} {x : V}, RUs S α H us xs → xs[i]? = some x → ∃ u, us[i]? = some u ∧ RU S α H u x
  | _, _, _, _, .nil, h => by simp at h
  | _, _, 0, x, .cons (u := u) a _, h => by simp at h; subst h; exact ⟨u, rfl, a⟩
  | _, _, i + 1, x, .cons a r, h => by obtain ⟨u, e, q⟩ := RUs.getV r (i := i) (by simpa using h); exact ⟨u, by simpa using e, q⟩
theorem RUs.app : ∀ {us vs : List U} {xs ys : List V}, RUs S α H us xs → RUs S α H vs ys → RUs S α H (us ++ vs) (xs ++ ys)
  | _, _, _, _, .nil, h => h
  | _, _, _, _, .cons a r, h => .cons a (RUs.app r h)
theorem RUs.take : ∀ {us : List U} {xs : List V} (n : Nat), RUs S α H us xs → RUs S α H (us.take n) (xs.take n)
  | _, _, 0, _ => by rw [List.take_zero, List.take_zero]; exact .nil
  | _, _, _ + 1, .nil => .nil
  | _, _, n + 1, .cons a r => .cons a (RUs.take n r)
theorem RUs.drop : ∀ {us : List U} {xs : List V} (n : Nat), RUs S α H us xs → RUs S α H (us.drop n) (xs.drop n)
  | _, _, 0, h => h
  | _, _, _ + 1, .nil => .nil
  | _, _, n + 1, .cons _ r => RUs.drop n r
theorem RUs.set {u : U} {x : V} (h : RU S α H u x) : ∀ {us : List U} {xs : List V} (n : Nat), RUs S α H us xs → RUs S α H (us.set n u) (xs.set n x)
  | _, _, _, .nil => .nil
  | _, _, 0, .cons _ r => .cons h r
  | _, _, n + 1, .cons a r => .cons a (RUs.set h n r)
theorem RUs.dropLast : ∀ {us : List U} {xs : List V}, RUs S α H us xs → RUs S α H us.dropLast xs.dropLast
  | _, _, .nil => .nil
  | _, _, .cons a .nil => .nil
  | _, _, .cons a (.cons b r) => .cons a (RUs.dropLast (.cons b r))
theorem RUs.eraseIdx : ∀ {us : List U} {xs : List V} (n : Nat), RUs S α H us xs → RUs S α H (us.eraseIdx n) (xs.eraseIdx n)
  | _, _, _, .nil => .nil
  | _, _, 0, .cons _ r => r
  | _, _, n + 1, .cons a r => .cons a (RUs.eraseIdx n r)
theorem RUs.rev : ∀ {us : List U} {xs : List V}, RUs S α H us xs → RUs S α H us.reverse xs.reverse
  | _, _, .nil => .nil
  | _, _, .cons a r => by rw [List.reverse_cons, List.reverse_cons]; exact RUs.app (RUs.rev r) (.cons a .nil)
theorem RUs.rep {us : List U} {xs : List V} (h : RUs S α H us xs) : ∀ k : Nat, RUs S α H (List.replicate k us).flatten (List.replicate k xs).flatten
  | 0 => .nil
  | k + 1 => by rw [List.replicate_succ, List.replicate_succ, List.flatten_cons, List.flatten_cons]; exact RUs.app h (RUs.rep h k)
theorem RUs.ints : ∀ {ns : List Int} {xs : List V}, RUs S α H (ns.map U.int) xs → xs = ns.map V.int
  | [], _, .nil => rfl
  | _ :: _, _, .cons (.int _) r => by rw [RUs.ints r]; rfl
theorem RUs.ofInts : ∀ (ns : List Int), RUs S α H (ns.map U.int) (ns.map V.int)
  | [] => .nil
  | _ :: r => .cons (.int _) (RUs.ofInts r)
theorem RUs.strs : ∀ {ns : List Str} {xs : List V}, RUs S α H (ns.map U.str) xs → xs = ns.map V.str
  | [], _, .nil => rfl
  | _ :: _, _, .cons (.str _) r => by rw [RUs.strs r]; rfl
theorem RUs.bls : ∀ {ns : List Bool} {xs : List V}, RUs S α H (ns.map U.bl) xs → xs = ns.map V.bl
  | [], _, .nil => rfl
  | _ :: _, _, .cons (.bl _) r => by rw [RUs.bls r]; rfl
end
def RF (S : Sx) (α : Am) (H : Hp) : List (Str × U) → List (Str × V) → Prop := Paired fun p q => p.1 = q.1 ∧ RU S α H p.2 q.2
def RO (S : Sx) (α : Am) (H : Hp) : O → Addr → Prop
  | .lst us, p => ∃ xs, H p = some (.lst xs) ∧ RUs S α H us xs
  | .dK kus, p => ∃ kvs, H p = some (.dK kvs) ∧ RKs S α H kus kvs
  | .ins c fs, p => ∃ dx vs, H p = some (.ins (S.cl c) dx vs) ∧ RF S α H fs vs
theorem RF.mo {S : Sx} {α α' : Am} {H H' : Hp} (e : Mo α H α' H') {fs : List (Str × U)} {vs : List (Str × V)} (h : RF S α H fs vs) : RF S α' H' fs vs := Paired.mapP h fun _ _ q => ⟨q.1, q.2.mo e⟩
theorem RO.mo {S : Sx} {α α' : Am} {H H' : Hp} {o : O} {p : Addr} (e : Mo α H α' H') (h : RO S α H o p) (k : H' p = H p) : RO S α' H' o p := by
  cases o with
  | lst us => obtain ⟨xs, a, r⟩ := h; exact ⟨xs, k.trans a, r.mo e⟩
  | dK kus => obtain ⟨xs, a, r⟩ := h; exact ⟨xs, k.trans a, r.mo e⟩
  | ins c fs => obtain ⟨dx, vs, a, r⟩ := h; exact ⟨dx, vs, k.trans a, r.mo e⟩
theorem RO.ex {S : Sx} {α α' : Am} {H H' : Hp} {o : O} {p : Addr} (e : Ex α H α' H') (h : RO S α H o p) (k : H' p = H p) : RO S α' H' o p := h.mo e.mo k
theorem RO.some {S : Sx} {α : Am} {H : Hp} {o : O} {p : Addr} (h : RO S α H o p) : H p ≠ none := by
  cases o with
  | lst us => obtain ⟨xs, a, r⟩ := h; rw [a]; exact fun z => nomatch z
  | dK kus => obtain ⟨xs, a, r⟩ := h; rw [a]; exact fun z => nomatch z
  | ins c fs => obtain ⟨dx, vs, a, r⟩ := h; rw [a]; exact fun z => nomatch z
structure Rl (S : Sx) (α : Am) (H : Hp) (h : PH) : Prop where
  len : α.a.length = h.length
  nd : α.a.Nodup
  dj : ∀ p ∈ α.a, p ∉ α.x
  ob : ∀ (i : Nat) (o : O), h[i]? = some o → ∃ p, α.a[i]? = some p ∧ RO S α H o p
  tr : ∀ p ∈ α.x, H p ≠ none
  tab : ∀ p ∈ S.tabs, H p = some (TabO p) ∧ ¬ α.own p
section
variable {S : Sx} {α α' : Am} {H H' : Hp} {h : PH}
theorem Rl.trk (r : Rl S α H h) {p : Addr} (hp : α.own p) : H p ≠ none := by
  rcases hp with hp | hp
  · obtain ⟨i, hi⟩ := List.mem_iff_getElem?.mp hp
    have : i < h.length := by rw [← r.len]; exact (List.getElem?_eq_some_iff.mp hi).1
    obtain ⟨q, e, ro⟩ := r.ob i h[i] (List.getElem?_eq_getElem this)
    rw [hi] at e; cases e
    exact ro.some
  · exact r.tr p hp
theorem Rl.free (r : Rl S α H h) {p : Addr} (hp : H p = none) : ¬ α.own p := fun z => r.trk z hp
theorem Ex.new {p : Addr} (hp : H p = none) (r : Rl S α H h) (o : HO) : Ex α H α (upd H p o) where
  keep := fun q u e n => ⟨by rw [upd_ne (ne_of_none e hp)]; exact e, n⟩
  pre := ⟨[], by simp⟩
  x := rfl
  priv := fun q hq => upd_ne fun z => r.tr q hq (by rw [z]; exact hp)
theorem Rl.new {p : Addr} (r : Rl S α H h) (hp : H p = none) (o : HO) : Rl S α (upd H p o) h where
  len := r.len
  nd := r.nd
  dj := r.dj
  ob := fun i u e => by
    obtain ⟨q, e1, ro⟩ := r.ob i u e
    exact ⟨q, e1, ro.ex (Ex.new hp r o) (upd_ne fun z => ro.some (by rw [z]; exact hp))⟩
  tr := fun q hq => by rw [upd_ne fun z => r.tr q hq (by rw [z]; exact hp)]; exact r.tr q hq
  tab := fun q hq => ⟨by rw [upd_ne (ne_of_none (r.tab q hq).1 hp)]; exact (r.tab q hq).1, (r.tab q hq).2⟩
def Am.add (α : Am) (p : Addr) : Am := ⟨α.a ++ [p], α.x⟩
theorem own_add {p q : Addr} : (α.add p).own q ↔ α.own q ∨ q = p := by
  unfold Am.own Am.add
  simp only [List.mem_append, List.mem_singleton]
  constructor
  · rintro ((h | h) | h)
    · exact .inl (.inl h)
    · exact .inr h
    · exact .inl (.inr h)
  · rintro ((h | h) | h)
    · exact .inl (.inl h)
    · exact .inr h
    · exact .inl (.inr h)
theorem Ex.add {p : Addr} (hp : H p = none) (r : Rl S α H h) (o : HO) : Ex α H (α.add p) (upd H p o) where
  keep := fun q u e n => ⟨by rw [upd_ne (ne_of_none e hp)]; exact e, fun z => (own_add.mp z).elim n fun z => ne_of_none e hp z⟩
  pre := ⟨[p], rfl⟩
  x := rfl
  priv := fun q hq => upd_ne fun z => r.tr q hq (by rw [z]; exact hp)
theorem Rl.add {p : Addr} {o : O} {ho : HO} (r : Rl S α H h) (hp : H p = none) (new : RO S (α.add p) (upd H p ho) o p) : Rl S (α.add p) (upd H p ho) (h ++ [o]) where
  len := by show (α.a ++ [p]).length = _; rw [List.length_append, List.length_append, r.len]; rfl
  nd := by
    show (α.a ++ [p]).Nodup
    rw [List.nodup_append]
    exact ⟨r.nd, by simp, fun a ha b hb e => by rw [List.mem_singleton.mp hb] at e; subst e; exact r.free hp (.inl ha)⟩
  dj := fun q hq => by
    rcases List.mem_append.mp (show q ∈ α.a ++ [p] from hq) with hq | hq
    · exact r.dj q hq
    · rw [List.mem_singleton.mp hq]; exact fun z => r.free hp (.inr z)
  ob := fun i u e => by
    by_cases hi : i < h.length
    · rw [List.getElem?_append_left hi] at e
      obtain ⟨q, e1, ro⟩ := r.ob i u e
      exact ⟨q, by show (α.a ++ [p])[i]? = _; rw [List.getElem?_append_left (by rw [r.len]; exact hi)]; exact e1, ro.ex (Ex.add hp r ho) (upd_ne fun z => ro.some (by rw [z]; exact hp))⟩
    · have hl : i = h.length := by
        have := (List.getElem?_eq_some_iff.mp e).1
        rw [List.length_append, List.length_singleton] at this; omega
      subst hl
      rw [List.getElem?_append_right (Nat.le_refl _), Nat.sub_self] at e
      cases e
      exact ⟨p, by show (α.a ++ [p])[h.length]? = _; rw [← r.len, List.getElem?_append_right (Nat.le_refl _), Nat.sub_self]; rfl, new⟩
  tr := fun q hq => by rw [upd_ne fun z => r.tr q hq (by rw [z]; exact hp)]; exact r.tr q hq
  tab := fun q hq => ⟨by rw [upd_ne (ne_of_none (r.tab q hq).1 hp)]; exact (r.tab q hq).1, fun z => (own_add.mp z).elim (r.tab q hq).2 fun z => ne_of_none (r.tab q hq).1 hp z⟩
theorem Ex.wr {p : Addr} {a : Nat} (r : Rl S α H h) (e : α.a[a]? = some p) (o : HO) : Ex α H α (upd H p o) where
  keep := fun q u e' n => ⟨by rw [upd_ne (fun z => n (by rw [z]; exact .inl (List.mem_of_getElem? e)))]; exact e', n⟩
  pre := ⟨[], by simp⟩
  x := rfl
  priv := fun q hq => upd_ne fun z => r.dj p (List.mem_of_getElem? e) (by rw [← z]; exact hq)
theorem nodup_inj : ∀ {l : List Addr} (nd : l.Nodup) {i j : Nat} {p : Addr} (h1 : l[i]? = some p) (h2 : l[j]? = some p), i = j
  | [], _, _, _, _, h, _ => by simp at h
  | x :: r, nd, 0, 0, p, _, _ => rfl
  | x :: r, nd, 0, j + 1, p, h1, h2 => by
    simp at h1 h2; subst h1
    exact absurd (List.mem_of_getElem? h2) (List.nodup_cons.mp nd).1
  | x :: r, nd, i + 1, 0, p, h1, h2 => by
    simp at h1 h2; subst h2
    exact absurd (List.mem_of_getElem? h1) (List.nodup_cons.mp nd).1
  | x :: r, nd, i + 1, j + 1, p, h1, h2 => congrArg (· + 1) (nodup_inj (List.nodup_cons.mp nd).2 (by simpa using h1) (by simpa using h2))
theorem Rl.wr {p : Addr} {a : Nat} {o : O} {ho : HO} (r : Rl S α H h) (e : α.a[a]? = some p) (new : RO S α (upd H p ho) o p) : Rl S α (upd H p ho) (h.set a o) where
  len := by rw [List.length_set]; exact r.len
  nd := r.nd
  dj := r.dj
  ob := fun i u e' => by
    by_cases hi : a = i
    · subst hi
      have hl : a < h.length := by rw [← r.len]; exact (List.getElem?_eq_some_iff.mp e).1
      rw [List.getElem?_set_self hl] at e'
      cases e'
      exact ⟨p, e, new⟩
    · rw [List.getElem?_set_ne hi] at e'
      obtain ⟨q, e1, ro⟩ := r.ob i u e'
      exact ⟨q, e1, ro.ex (Ex.wr r e ho) (upd_ne fun z => hi (nodup_inj r.nd e (by rw [← z]; exact e1)))⟩
  tr := fun q hq => by
    rw [upd_ne fun z => r.dj p (List.mem_of_getElem? e) (by rw [← z]; exact hq)]; exact r.tr q hq
  tab := fun q hq => ⟨by rw [upd_ne (fun z => (r.tab q hq).2 (by rw [z]; exact .inl (List.mem_of_getElem? e)))]; exact (r.tab q hq).1, (r.tab q hq).2⟩
theorem Rl.get {a : Nat} {o : O} (r : Rl S α H h) {p : Addr} (hp : α.a[a]? = some p) (e : h[a]? = some o) : RO S α H o p := by
  obtain ⟨q, e1, ro⟩ := r.ob a o e
  rw [hp] at e1; cases e1
  exact ro
end
end L2
end
section
set_option Elab.async false
set_option maxRecDepth 100000
set_option linter.unusedVariables false
namespace L2
open PySem PySem.Spec PyProof.Rows
section
variable {P : Program} {w : World} {K : PySem.W.Frag}
open PySem.Spec PyProof.Rows HT in
theorem getItem_whole {A : Around} {E : Value → Shared → Prop} {s : Shared} {t sl : Addr} {items : Array Value} {vl vu : Value} {lo hi : Option Int} {Q : Value → Shared → Prop} (ht : IsTup s.heap t items) (hs : s.heap.IsSliceOf sl vl vu .none) (pl : IsPart vl lo) (pu : IsPart vu hi)
    (h1 : HT.sIx items.size 0 lo = 0) (h2 : HT.sIx items.size items.size hi = items.size) (h : Q (.ref t) s) : wpAny (model P w) A (getItem (.ref t) (.ref sl)) Q E s := by
  obtain ⟨os, hos, hcs, hds⟩ := id hs
  have hTs : s.TypeIs (.ref sl) "slice" := ⟨os, hos, hcs⟩
  unfold getItem
  try with_reducible refine wpAny_holding ?_
  first | refine wpAny_bind (wpAny_pure ?_) | skip
  refine wpAny_bind (wpAny_sequenceKey ht.typeIs (by decide) ?_)
  refine wpAny_bind (wpAny_callSpecial?_slot (name := Str.ofString "__getitem__") ht.typeIs PyProof.Rows.slot_tuple_getitem
    (wpAny_call_entry PyProof.Rows.slot_tuple_getitem ht.typeIs entry_tuple_getitem ?_ (args_tuple_getitem _ _)))
  show wpAny _ _ (Builtin.Tuple.tupleItemsOf (.ref t) >>= _) _ _ s
  refine wpAny_bind (tupleItemsOf_ ht ?_)
  refine wpAny_bind (wpAny_typeOf hTs ?_)
  rw [if_pos (by decide)]
  refine wpAny_bind (HT.sliceApplied_gen hs pl pu ?_)
  have hy : (((HT.sIx items.size 0 lo : Nat) : Int) == 0 && (1 : Int) == 1 && (HT.sIx items.size items.size hi - HT.sIx items.size 0 lo) == items.size) = true := by
    rw [h1, h2]; simp
  show wpAny _ _ (if (((HT.sIx items.size 0 lo : Nat) : Int) == 0 && (1 : Int) == 1 && (HT.sIx items.size items.size hi - HT.sIx items.size 0 lo) == items.size) = true then _ else _) _ _ s
  rw [if_pos hy]
  refine wpAny_bind (m := Builtin.Tuple.tupleIsExact _) (wpAny_bind (wpAny_typeOf ht.typeIs (wpAny_pure ?_)))
  rw [if_pos (by decide)]
  refine wpAny_bind (wpAny_rule ?_)
  first
    | exact wpAny_pure ⟨_, rfl, wpAny_pure h⟩
    | exact wpAny_bind (wpAny_pure (wpAny_pure ⟨_, rfl, wpAny_pure h⟩))
    | exact wpAny_bind (wpAny_pure ⟨_, rfl, wpAny_pure h⟩)
def rSlA (K : PySem.W.Frag) : V → Option Int → Option Int → Hp → VK → Prop := fun x lo hi H Q => ∃ a xs, x = .ref a ∧ SqT K H a xs ∧
  ((HT.sIx xs.length 0 lo = 0 ∧ HT.sIx xs.length xs.length hi = xs.length) → Q (.ref a) H) ∧ (¬ (HT.sIx xs.length 0 lo = 0 ∧ HT.sIx xs.length xs.length hi = xs.length) → ∀ p, H p = none → Q (.ref p) (upd H p (.tup (cutV xs lo hi))))
theorem k_slA {X : Cx} (hK : X.K = K) : SlR X (rSlA K) := by
  subst hK
  intro pins s σ H x v vl vu lo hi sl Q I rx hs pl pu h
  obtain ⟨a, xs, rfl, hx, q1, q2⟩ := h
  by_cases hw : HT.sIx xs.length 0 lo = 0 ∧ HT.sIx xs.length xs.length hi = xs.length
  · cases rx
    obtain ⟨its, r, ht, hz⟩ := I.tuple hx
    have hlen : its.toArray.size = xs.length := by rw [List.size_toArray]; exact r.length.symm
    refine ⟨"tuple", _, PyProof.Rows.slot_tuple_getitem.lookup, ht.typeIs, ?_⟩
    exact getItem_whole ht hs pl pu (by rw [hlen]; exact hw.1) (by rw [hlen]; exact hw.2) ⟨.ref a, H, I, rfl, q1 hw⟩
  · exact sl_tup pins s σ H _ v vl vu lo hi sl Q I rx hs pl pu ⟨a, xs, rfl, hx, hw, q2 hw⟩
end
end L2
end
section
set_option Elab.async false
set_option maxRecDepth 100000
set_option linter.unusedVariables false
set_option maxHeartbeats 1000000
namespace L2
open PySem PySem.Spec PySem.F PyProof.Rows
abbrev En := List (Option U)
def RE (S : Sx) (α : Am) (H : Hp) (ρ : En) (σ : St) : Prop := ρ.length = σ.length ∧ ∀ (i : Nat) (u : U), ρ[i]? = some (some u) → ∃ x, σ[i]? = some (some x) ∧ RU S α H u x
def bnd {β γ : Type} (m : Option (β × PH)) (g : β → PH → Option (γ × PH)) : Option (γ × PH) := match m with
  | some (b, h) => g b h
  | none => none
@[simp] theorem bnd_some {β γ : Type} {b : β} {h : PH} {g : β → PH → Option (γ × PH)} : bnd (some (b, h)) g = g b h := rfl
@[simp] theorem bnd_none {β γ : Type} {g : β → PH → Option (γ × PH)} : bnd none g = none := rfl
theorem bnd_eq {β γ : Type} {m : Option (β × PH)} {g : β → PH → Option (γ × PH)} {c : γ} {h' : PH} (e : bnd m g = some (c, h')) : ∃ b h1, m = some (b, h1) ∧ g b h1 = some (c, h') := by
  cases m with
  | none => cases e
  | some p => exact ⟨p.1, p.2, rfl, e⟩
def PU (S : Sx) (α : Am) (H : Hp) (r : Option (U × PH)) (Q : VK) : Prop := ∃ u h', r = some (u, h') ∧ ∀ α' H' x, Ex α H α' H' → Rl S α' H' h' → RU S α' H' u x → Q x H'
def PUs (S : Sx) (α : Am) (H : Hp) (r : Option (List U × PH)) (Q : List V → Hp → Prop) : Prop := ∃ u h', r = some (u, h') ∧ ∀ α' H' x, Ex α H α' H' → Rl S α' H' h' → RUs S α' H' u x → Q x H'
def PB (S : Sx) (α : Am) (H : Hp) (r : Option (Bool × PH)) (Q : Bool → Hp → Prop) : Prop := ∃ u h', r = some (u, h') ∧ ∀ α' H', Ex α H α' H' → Rl S α' H' h' → Q u H'
abbrev EF := En → PH → Option (U × PH)
abbrev AF := En → PH → Option (List U × PH)
abbrev BF := En → PH → Option (Bool × PH)
def tS (S : Sx) (f : EF) : TE := fun σ H Q => ∃ α ρ h, RE S α H ρ σ ∧ Rl S α H h ∧ PU S α H (f ρ h) Q
def tA (S : Sx) (f : AF) : TA := fun σ H Q => ∃ α ρ h, RE S α H ρ σ ∧ Rl S α H h ∧ PUs S α H (f ρ h) Q
def tT (S : Sx) (f : BF) : TT := fun σ H Q => ∃ α ρ h, RE S α H ρ σ ∧ Rl S α H h ∧ PB S α H (f ρ h) Q
structure Fit (X : Cx) (S : Sx) : Prop where
  P : X.prog = S.P
  w : X.w = S.w
  K : X.K = S.K
section
variable {S : Sx} {α α' : Am} {H H' : Hp} {h h' : PH} {Q : VK} {σ : St} {ρ : En}
theorem RE.ex (e : Ex α H α' H') (r : RE S α H ρ σ) : RE S α' H' ρ σ := ⟨r.1, fun i u q => by
  obtain ⟨x, a, b⟩ := r.2 i u q
  exact ⟨x, a, b.ex e⟩⟩
theorem PU.val {u : U} {x : V} (p : PU S α H (some (u, h)) Q) (r : Rl S α H h) (k : RU S α H u x) : Q x H := by
  obtain ⟨v, h1, e, q⟩ := p
  cases e
  exact q α H x (Ex.refl _ _) r k
theorem PU.tup {us : List U} {xs : List V} {p : Addr} (q : PU S α H (some (.tup us, h)) Q) (r : Rl S α H h) (k : RUs S α H us xs) (hp : H p = none) : Q (.ref p) (upd H p (.tup xs)) := by
  obtain ⟨v, h1, e, q⟩ := q
  cases e
  have ex := Ex.new hp r (.tup xs)
  exact q α _ _ ex (r.new hp _) (.tup (.inl ⟨.inl upd_same, r.free hp⟩) (k.ex ex))
def mk (m : Bool) (us : List U) (h : PH) : Option (U × PH) := if m = true then some (.ref h.length, h ++ [.lst us]) else some (.lst us, h)
@[simp] theorem mk_f {us : List U} {h : PH} : mk false us h = some (.lst us, h) := rfl
@[simp] theorem mk_t {us : List U} {h : PH} : mk true us h = some (.ref h.length, h ++ [.lst us]) := rfl
theorem PU.mk {m : Bool} {us : List U} {xs : List V} {p : Addr} (q : PU S α H (mk m us h) Q) (r : Rl S α H h) (k : RUs S α H us xs) (hp : H p = none) : Q (.ref p) (upd H p (.lst xs)) := by
  obtain ⟨v, h1, e, q⟩ := q
  cases m with
  | false =>
    cases e
    have ex := Ex.new hp r (.lst xs)
    exact q α _ _ ex (r.new hp _) (.lst ⟨upd_same, r.free hp⟩ (k.ex ex))
  | true =>
    cases e
    have ex := Ex.add hp r (.lst xs)
    refine q (α.add p) _ _ ex (r.add hp ⟨xs, upd_same, k.ex ex⟩) (.ref ?_)
    show (α.a ++ [p])[h.length]? = some p
    rw [← r.len, List.getElem?_append_right (Nat.le_refl _), Nat.sub_self]; rfl
def its (h : PH) : U → Option (List U)
  | .lst us => some us
  | .ref a => match h[a]? with
    | some (.lst us) => some us
    | _ => none
  | _ => none
def sq (h : PH) : U → Option (List U)
  | .tup us => some us
  | .scr us => some us
  | u => its h u
@[simp] theorem its_lst {us : List U} : its h (.lst us) = some us := rfl
@[simp] theorem sq_lst {us : List U} : sq h (.lst us) = some us := rfl
@[simp] theorem sq_tup {us : List U} : sq h (.tup us) = some us := rfl
@[simp] theorem sq_scr {us : List U} : sq h (.scr us) = some us := rfl
theorem its_ref {a : Nat} {us : List U} (e : h[a]? = some (.lst us)) : its h (.ref a) = some us := by unfold its; simp only [e]
@[simp] theorem sq_ref {a : Nat} : sq h (.ref a) = its h (.ref a) := rfl
theorem its_of (r : Rl S α H h) {u : U} {us : List U} {x : V} (e : its h u = some us) (k : RU S α H u x) : ∃ p xs, x = .ref p ∧ H p = some (.lst xs) ∧ RUs S α H us xs := by
  cases k with
  | lst l q => cases e; exact ⟨_, _, rfl, l.1, q⟩
  | @ref a p hp =>
    unfold its at e
    cases q : h[a]? with
    | none => simp only [q] at e; cases e
    | some o =>
      cases o with
      | lst vs =>
        simp only [q] at e; cases e
        obtain ⟨xs, e1, e2⟩ := r.get hp q
        exact ⟨p, xs, rfl, e1, e2⟩
      | dK _ => simp only [q] at e; cases e
      | ins _ _ => simp only [q] at e; cases e
  | _ => cases e
theorem sq_of (r : Rl S α H h) {u : U} {us : List U} {x : V} (e : sq h u = some us) (k : RU S α H u x) : ∃ p xs, x = .ref p ∧ (SqL S.K H p xs ∨ SqT S.K H p xs) ∧ RUs S α H us xs := by
  cases u with
  | tup vs => cases e; cases k with | tup l q => exact ⟨_, _, rfl, .inr l.sq, q⟩
  | scr vs => cases e; cases k with | scr l q => exact ⟨_, _, rfl, .inl l.sq, q⟩
  | lst vs => obtain ⟨p, xs, a, b, c⟩ := its_of r (show its h (.lst vs) = some us from e) k; exact ⟨p, xs, a, .inl (SqL.of b), c⟩
  | ref vs => obtain ⟨p, xs, a, b, c⟩ := its_of r (show its h (.ref vs) = some us from e) k; exact ⟨p, xs, a, .inl (SqL.of b), c⟩
  | _ => cases e
end
section
variable {X : Cx} {S : Sx}
theorem PE.wk {e : Expr} {t t' : TE} (h : PE X e t) (w : ∀ σ H Q, t' σ H Q → t σ H Q) : PE X e t' := fun pins s σ H Q I q => h pins s σ H Q I (w σ H Q q)
theorem PT.wk {e : Expr} {t t' : TT} (h : PT X e t) (w : ∀ σ H Q, t' σ H Q → t σ H Q) : PT X e t' := fun pins s σ H Q I q => h pins s σ H Q I (w σ H Q q)
theorem PW.wk {e : Expr} {t t' : TT} (h : PW X e t) (w : ∀ σ H Q, t' σ H Q → t σ H Q) : PW X e t' := fun wh pins s σ H Q I q => h wh pins s σ H Q I (w σ H Q q)
theorem PA.wk {es : List Expr} {t t' : TA} (h : PA X es t) (w : ∀ σ H Q, t' σ H Q → t σ H Q) : PA X es t' := fun pos pins s σ H Q I q => h pos pins s σ H Q I (w σ H Q q)
@[simp] def eVar (i : Nat) : EF := fun ρ h => match ρ[i]? with
  | some (some u) => some (u, h)
  | _ => none
@[simp] def eC (u : U) : EF := fun _ h => some (u, h)
theorem s_var {i : Nat} {x : Str} {pos : Pos} (hN : X.N[i]? = some x) (hv : Vis X.env.scope x) (hd : (x == ("__debug__" : Str)) = false := by decide) (hcd : (x == ("__classdict__" : Str)) = false := by decide) : PE X (.Name x pos) (tS S (eVar i)) :=
  (pe_var hN hv hd hcd).wk fun σ H Q ⟨α, ρ, h, re, rl, u, h', e, k⟩ => by
    unfold eVar at e
    cases q : ρ[i]? with
    | none => simp only [q] at e; cases e
    | some o =>
      cases o with
      | none => simp only [q] at e; cases e
      | some v =>
        simp only [q] at e; cases e
        obtain ⟨x, a, b⟩ := re.2 i u q
        exact ⟨x, a, k α H x (Ex.refl _ _) rl b⟩
theorem s_c {e : Expr} {v : V} {u : U} (hv : PE X e (tC v)) (r : ∀ α H, RU S α H u v) : PE X e (tS S (eC u)) := hv.wk fun σ H Q ⟨α, ρ, h, re, rl, p⟩ => p.val rl (r α H)
theorem s_int {i j pos} : PE X (.Constant (.int i) j pos) (tS S (eC (.int i))) := s_c pe_int fun _ _ => .int i
theorem s_bl {i j pos} : PE X (.Constant (.bool i) j pos) (tS S (eC (.bl i))) := s_c pe_bl fun _ _ => .bl i
theorem s_str {x j pos} : PE X (.Constant (.str x) j pos) (tS S (eC (.str x))) := s_c pe_str fun _ _ => .str x
abbrev G2 := PH → U → U → Option (U × PH)
def rS2 (S : Sx) (g : G2) : R2 := fun x y H Q => ∃ α h u v, Rl S α H h ∧ RU S α H u x ∧ RU S α H v y ∧ PU S α H (g h u v) Q
def rS1 (S : Sx) (g : PH → U → Option (U × PH)) : V → Hp → VK → Prop := fun x H Q => ∃ α h u, Rl S α H h ∧ RU S α H u x ∧ PU S α H (g h u) Q
def rSs (S : Sx) (g : PH → List U → Option (U × PH)) : List V → Hp → VK → Prop := fun xs H Q => ∃ α h us, Rl S α H h ∧ RUs S α H us xs ∧ PU S α H (g h us) Q
@[simp] def eOp (g : G2) (fa fb : EF) : EF := fun ρ h => bnd (fa ρ h) fun x h1 => bnd (fb ρ h1) fun y h2 => g h2 x y
@[simp] def eUn (g : PH → U → Option (U × PH)) (fa : EF) : EF := fun ρ h => bnd (fa ρ h) fun x h1 => g h1 x
variable {a b c : Expr} {fa fb fc : EF} {pos : Pos}
theorem tS_op {g : G2} {σ : St} {H : Hp} {Q : VK} (p : tS S (eOp g fa fb) σ H Q) : tOp (rS2 S g) (tS S fa) (tS S fb) σ H Q := by
  obtain ⟨α, ρ, h, re, rl, w, h3, e, k⟩ := p
  obtain ⟨u, h1, e1, e⟩ := bnd_eq e
  obtain ⟨v, h2, e2, e3⟩ := bnd_eq e
  exact ⟨α, ρ, h, re, rl, u, h1, e1, fun α1 H1 x ex1 rl1 ru => ⟨α1, ρ, h1, re.ex ex1, rl1, v, h2, e2, fun α2 H2 y ex2 rl2 rv => ⟨α2, h2, u, v, rl2, ru.ex ex2, rv, w, h3, e3, fun α3 H3 z ex3 rl3 rw => k α3 H3 z ((ex1.trans ex2).trans ex3) rl3 rw⟩⟩⟩
theorem s_op {op : Operator} {g : G2} (ho : OpR X (binaryOp op) (rS2 S g)) (ha : PE X a (tS S fa)) (hb : PE X b (tS S fb)) : PE X (.BinOp a op b pos) (tS S (eOp g fa fb)) := (pe_op ho ha hb).wk fun _ _ _ => tS_op
theorem s_cmp {op : CmpOp} {g : G2} (ho : OpR X (compareOp op) (rS2 S g)) (ha : PE X a (tS S fa)) (hb : PE X b (tS S fb)) (hm : behindInMarks op b = false) : PE X (.Compare a [op] [b] pos) (tS S (eOp g fa fb)) := (pe_cmpR ho ha hb hm).wk fun _ _ _ => tS_op
@[simp] def eChain (g g' : G2) (fa fb fc : EF) : EF := fun ρ h => bnd (fa ρ h) fun x h1 => bnd (fb ρ h1) fun y h2 => bnd (g h2 x y) fun z h3 => match z with
  | .bl true => bnd (fc ρ h3) fun w h4 => g' h4 y w
  | .bl false => some (.bl false, h3)
  | _ => none
theorem RU.bl_of {α : Am} {H : Hp} {k : Bool} {x : V} (r : RU S α H (.bl k) x) : x = .bl k := by cases r; rfl
@[simp] def bVal (fa : EF) : BF := fun ρ h => bnd (fa ρ h) fun x h1 => match x with
  | .bl k => some (k, h1)
  | _ => none
theorem tS_tt {σ : St} {H : Hp} {Q : Bool → Hp → Prop} (p : tT S (bVal fa) σ H Q) : tS S fa σ H fun x H1 => ∃ k, x = .bl k ∧ Q k H1 := by
  obtain ⟨α, ρ, h, re, rl, w, h3, e, k⟩ := p
  obtain ⟨u, h1, e1, e⟩ := bnd_eq e
  refine ⟨α, ρ, h, re, rl, u, h1, e1, fun α1 H1 x ex1 rl1 ru => ?_⟩
  cases u with
  | bl q => cases e; exact ⟨_, ru.bl_of, k α1 H1 ex1 rl1⟩
  | _ => cases e
theorem b_cmp {op : CmpOp} {g : G2} (ho : OpR X (compareOp op) (rS2 S g)) (ha : PE X a (tS S fa)) (hb : PE X b (tS S fb)) (hm : behindInMarks op b = false) : PT X (.Compare a [op] [b] pos) (tT S (bVal (eOp g fa fb))) :=
  (pt_cmpR ho ha hb hm).wk fun _ _ _ p => tS_op (tS_tt p)
def truU (h : PH) : U → Option Bool
  | .non => some false
  | .bl b => some b
  | .int i => some (i != 0)
  | .str y => if y.length ≤ sizeLine then some ((y.length : Int) != 0) else none
  | .ref a => match h[a]? with
    | some (.lst us) => some (!us.isEmpty)
    | some (.dK us) => some (!us.isEmpty)
    | _ => none
  | u => (sq h u).map fun us => !us.isEmpty
@[simp] def bTru (fa : EF) : BF := fun ρ h => bnd (fa ρ h) fun x h1 => (truU h1 x).map fun k => (k, h1)
theorem RUs.emp {α : Am} {H : Hp} {us : List U} {xs : List V} (r : RUs S α H us xs) : us.isEmpty = xs.isEmpty := by cases r <;> rfl
theorem RKs.emp {α : Am} {H : Hp} {us : List (Key × U)} {xs : List (Key × V)} (r : RKs S α H us xs) : us.isEmpty = xs.isEmpty := by cases r <;> rfl
theorem truU_of {α : Am} {H : Hp} {h : PH} (r : Rl S α H h) {u : U} {x : V} {k : Bool} (e : truU h u = some k) (q : RU S α H u x) : TruV S.K x H k := by
  have seq : ∀ us, sq h u = some us → ∀ k, (!us.isEmpty) = k → TruV S.K x H k := fun us eu k ek => by
    obtain ⟨p, xs, rfl, hq, rs⟩ := sq_of r eu q
    rw [rs.emp] at ek
    rcases hq with hq | hq
    · exact .inl ⟨xs, hq, ek.symm⟩
    · exact .inr (.inl ⟨xs, hq, ek.symm⟩)
  cases u with
  | non => cases e; cases q; rfl
  | bl b => cases e; cases q; rfl
  | int i => cases e; cases q; rfl
  | str y =>
    cases q
    by_cases hy : y.length ≤ sizeLine
    · rw [truU, if_pos hy] at e; cases e; exact ⟨hy, rfl⟩
    · rw [truU, if_neg hy] at e; cases e
  | tup us => exact seq us rfl k (Option.some.inj e)
  | lst us => exact seq us rfl k (Option.some.inj e)
  | scr us => exact seq us rfl k (Option.some.inj e)
  | dct us => cases e
  | set us => cases e
  | ref a =>
    cases hq : h[a]? with
    | none => rw [truU, hq] at e; cases e
    | some o =>
      rw [truU, hq] at e
      cases o with
      | lst us => exact seq us (its_ref hq) k (Option.some.inj e)
      | dK us =>
        cases q with
        | ref hp =>
          obtain ⟨kvs, h1, h2⟩ := r.get hp hq
          exact .inr (.inr ⟨kvs, h1, by rw [← h2.emp]; exact (Option.some.inj e).symm⟩)
      | ins c fs => cases e
theorem b_tru (hf : Fit X S) (ha : PE X a (tS S fa)) (he : ∀ whole, isTrue a X.env whole = (do let v ← whole; standAt a.pos; holding [v] (truthy v)) := by intro _; rfl) : PT X a (tT S (bTru fa)) := (pt_truth ha he).wk fun σ H Q ⟨α, ρ, h, re, rl, w, h3, e, k⟩ => by
  obtain ⟨u, h1, e1, e⟩ := bnd_eq e
  refine ⟨α, ρ, h, re, rl, u, h1, e1, fun α1 H1 x ex1 rl1 ru => ?_⟩
  cases q : truU h1 u with
  | none => rw [q] at e; cases e
  | some kk =>
    rw [q] at e; cases e
    exact ⟨_, by rw [hf.K]; exact truU_of rl1 q ru, k α1 H1 ex1 rl1⟩
@[simp] def bAnd (ta tb : BF) : BF := fun ρ h => bnd (ta ρ h) fun k h1 => if k = true then tb ρ h1 else some (false, h1)
@[simp] def bOr (ta tb : BF) : BF := fun ρ h => bnd (ta ρ h) fun k h1 => if k = true then some (true, h1) else tb ρ h1
@[simp] def bNot (ta : BF) : BF := fun ρ h => bnd (ta ρ h) fun k h1 => some (!k, h1)
variable {ba bb : BF} {rest : List Expr}
theorem tT_bind {t u : BF} {g : BF} {σ : St} {H : Hp} {Q : Bool → Hp → Prop} (f : Bool → BF) (hg : ∀ ρ h, g ρ h = bnd (t ρ h) fun k h1 => f k ρ h1) (p : tT S g σ H Q) : tT S t σ H fun k H1 => tT S (f k) σ H1 Q := by
  obtain ⟨α, ρ, h, re, rl, w, h3, e, k⟩ := p
  rw [hg] at e
  obtain ⟨u, h1, e1, e⟩ := bnd_eq e
  exact ⟨α, ρ, h, re, rl, u, h1, e1, fun α1 H1 ex1 rl1 => ⟨α1, ρ, h1, re.ex ex1, rl1, w, h3, e, fun α2 H2 ex2 rl2 => k α2 H2 (ex1.trans ex2) rl2⟩⟩
theorem tT_ret {k : Bool} {σ : St} {H : Hp} {Q : Bool → Hp → Prop} (p : tT S (fun _ h => some (k, h)) σ H Q) : Q k H := by
  obtain ⟨α, ρ, h, re, rl, w, h3, e, q⟩ := p
  cases e
  exact q α H (Ex.refl _ _) rl
theorem tT_mono {t : BF} {σ : St} {H : Hp} {Q Q' : Bool → Hp → Prop} (p : tT S t σ H Q) (f : ∀ k H, Q k H → Q' k H) : tT S t σ H Q' := by
  obtain ⟨α, ρ, h, re, rl, w, h3, e, q⟩ := p
  exact ⟨α, ρ, h, re, rl, w, h3, e, fun α1 H1 ex rl => f _ _ (q α1 H1 ex rl)⟩
theorem w_or1 (ha : PT X a (tT S ba)) : PW X (.BoolOp .Or [a] pos) (tT S ba) := pw_or1 ha
theorem w_or (ha : PT X a (tT S ba)) (hb : PW X (.BoolOp .Or (b :: rest) pos) (tT S bb)) : PW X (.BoolOp .Or (a :: b :: rest) pos) (tT S (bOr ba bb)) := (pw_or ha hb).wk fun σ H Q p => by
  refine tT_mono (tT_bind (u := bb) (fun k ρ h1 => if k = true then some (true, h1) else bb ρ h1) (fun _ _ => rfl) p) fun k H1 q => ?_
  cases k with
  | true => exact tT_ret q
  | false => exact q
theorem b_not (ha : PT X a (tT S ba)) : PT X (.UnaryOp .Not a pos) (tT S (bNot ba)) := (pt_not ha).wk fun σ H Q p => tT_mono (tT_bind (u := ba) (fun k ρ h1 => some (!k, h1)) (fun _ _ => rfl) p) fun k H1 q => tT_ret q
@[simp] def eAnd (fa fb : EF) : EF := fun ρ h => bnd (fa ρ h) fun x h1 => match x with
  | .bl true => fb ρ h1
  | .bl false => some (.bl false, h1)
  | _ => none
@[simp] def eOr (fa fb : EF) : EF := fun ρ h => bnd (fa ρ h) fun x h1 => match x with
  | .bl true => some (.bl true, h1)
  | .bl false => fb ρ h1
  | _ => none
@[simp] def eNot (fa : EF) : EF := fun ρ h => bnd (fa ρ h) fun x h1 => match x with
  | .bl k => some (.bl (!k), h1)
  | _ => none
@[simp] def eIf (t : BF) (fa fb : EF) : EF := fun ρ h => bnd (t ρ h) fun k h1 => if k = true then fa ρ h1 else fb ρ h1
theorem s_one {op} (h : PE X a (tS S fa)) : PE X (.BoolOp op [a] pos) (tS S fa) := pe_one h
@[simp] def aNil : AF := fun _ h => some ([], h)
@[simp] def aCons (fa : EF) (fr : AF) : AF := fun ρ h => bnd (fa ρ h) fun x h1 => bnd (fr ρ h1) fun xs h2 => some (x :: xs, h2)
variable {es : List Expr} {fr : AF}
theorem sa_nil : PA X [] (tA S aNil) := pa_nil.wk fun σ H Q ⟨α, ρ, h, re, rl, w, h3, e, k⟩ => by cases e; exact k α H [] (Ex.refl _ _) rl .nil
theorem sa_cons (ha : PE X a (tS S fa)) (hr : PA X es (tA S fr)) (hs : starEach (a :: es) X.env = (false, eval a X.env) :: starEach es X.env := by rfl) : PA X (a :: es) (tA S (aCons fa fr)) := (pa_cons ha hr hs).wk fun σ H Q ⟨α, ρ, h, re, rl, w, h3, e, k⟩ => by
  obtain ⟨u, h1, e1, e⟩ := bnd_eq e
  obtain ⟨us, h2, e2, e⟩ := bnd_eq e
  cases e
  exact ⟨α, ρ, h, re, rl, u, h1, e1, fun α1 H1 x ex1 rl1 ru => ⟨α1, ρ, h1, re.ex ex1, rl1, us, _, e2, fun α2 H2 xs ex2 rl2 rs => k α2 H2 _ (ex1.trans ex2) rl2 (.cons (ru.ex ex2) rs)⟩⟩
@[simp] def eTup (fr : AF) : EF := fun ρ h => bnd (fr ρ h) fun xs h1 => if xs.length ≤ sizeLine then some (.tup xs, h1) else none
@[simp] def eLst (m : Bool) (fr : AF) : EF := fun ρ h => bnd (fr ρ h) fun xs h1 => if xs.length ≤ sizeLine then mk m xs h1 else none
theorem s_tup {x1} (hr : PA X es (tA S fr)) : PE X (.Tuple es x1 pos) (tS S (eTup fr)) := (pe_tup hr).wk fun σ H Q ⟨α, ρ, h, re, rl, w, h3, e, k⟩ => by
  obtain ⟨us, h1, e1, e⟩ := bnd_eq e
  refine ⟨α, ρ, h, re, rl, us, h1, e1, fun α1 H1 xs ex1 rl1 rs => ?_⟩
  by_cases hl : us.length ≤ sizeLine
  · rw [if_pos hl] at e
    exact ⟨by rw [← rs.len]; exact hl, fun p hp => PU.tup ⟨w, h3, e, fun α2 H2 x ex2 rl2 rx => k α2 H2 x (ex1.trans ex2) rl2 rx⟩ rl1 rs hp⟩
  · rw [if_neg hl] at e; cases e
theorem s_lst {m : Bool} (hr : PA X es (tA S fr)) : PE X (.List es pos) (tS S (eLst m fr)) := (pe_lst hr).wk fun σ H Q ⟨α, ρ, h, re, rl, w, h3, e, k⟩ => by
  obtain ⟨us, h1, e1, e⟩ := bnd_eq e
  refine ⟨α, ρ, h, re, rl, us, h1, e1, fun α1 H1 xs ex1 rl1 rs => ?_⟩
  by_cases hl : us.length ≤ sizeLine
  · rw [if_pos hl] at e
    exact ⟨by rw [← rs.len]; exact hl, fun p hp => PU.mk ⟨w, h3, e, fun α2 H2 x ex2 rl2 rx => k α2 H2 x (ex1.trans ex2) rl2 rx⟩ rl1 rs hp⟩
  · rw [if_neg hl] at e; cases e
abbrev OF := En → PH → Option (Option Int × PH)
@[simp] def oNone : OF := fun _ h => some (none, h)
@[simp] def oSome (fa : EF) : OF := fun ρ h => bnd (fa ρ h) fun x h1 => match x with
  | .int i => some (some i, h1)
  | _ => none
def tO (S : Sx) (f : OF) : TO := fun σ H Q => ∃ α ρ h, RE S α H ρ σ ∧ Rl S α H h ∧ ∃ o h', f ρ h = some (o, h') ∧ ∀ α' H', Ex α H α' H' → Rl S α' H' h' → Q o H'
theorem so_none : PO X none (tO S oNone) := fun pins s σ H Q I ⟨α, ρ, h, re, rl, w, h3, e, k⟩ => po_none pins s σ H Q I (by cases e; exact k α H (Ex.refl _ _) rl)
theorem so_some (ha : PE X a (tS S fa)) : PO X (some a) (tO S (oSome fa)) := fun pins s σ H Q I ⟨α, ρ, h, re, rl, w, h3, e, k⟩ => po_some ha pins s σ H Q I (by
  obtain ⟨u, h1, e1, e⟩ := bnd_eq e
  refine ⟨α, ρ, h, re, rl, u, h1, e1, fun α1 H1 x ex1 rl1 ru => ?_⟩
  cases u with
  | int i => cases e; cases ru; exact ⟨i, rfl, k α1 H1 ex1 rl1⟩
  | _ => cases e)
def cutU {β : Type} (xs : List β) (lo hi : Option Int) : List β := (xs.drop (HT.sIx xs.length 0 lo)).take (HT.sIx xs.length xs.length hi - HT.sIx xs.length 0 lo)
theorem RUs.cut {α : Am} {H : Hp} {us : List U} {xs : List V} (r : RUs S α H us xs) (lo hi : Option Int) : RUs S α H (cutU us lo hi) (cutV xs lo hi) := by
  unfold cutU cutV
  rw [r.len]
  exact (r.drop _).take _
@[simp] def uSl (m : Bool) (h : PH) (x : U) (lo hi : Option Int) : Option (U × PH) := match x with
  | .tup us => some (.tup (cutU us lo hi), h)
  | .scr us => mk m (cutU us lo hi) h
  | u => (its h u).bind fun us => mk m (cutU us lo hi) h
def rSS (S : Sx) (m : Bool) : V → Option Int → Option Int → Hp → VK → Prop := fun x lo hi H Q => ∃ α h u, Rl S α H h ∧ RU S α H u x ∧ PU S α H (uSl m h u lo hi) Q
theorem sl_S (hf : Fit X S) {m : Bool} : SlR X (rSS S m) := by
  intro pins s σ H x v vl vu lo hi sl Q I rx hs pl pu hh
  obtain ⟨α, h, u, rl, ru, p⟩ := hh
  have lists : ∀ {q : Addr} {us : List U} {xs : List V}, x = .ref q → SqL S.K H q xs → RUs S α H us xs → PU S α H (mk m (cutU us lo hi) h) Q → _ := fun {q us xs} ex hq rs p => sl_list pins s σ H x v vl vu lo hi sl Q I rx hs pl pu ⟨q, xs, ex, by rw [hf.K]; exact hq, fun z hz => p.mk rl (rs.cut lo hi) hz⟩
  cases u with
  | tup us =>
    cases ru with
    | @tup q xs _ hq rs =>
      refine k_slA hf.K pins s σ H _ v vl vu lo hi sl Q I rx hs pl pu ⟨q, xs, rfl, hq.sq, fun wh => ?_, fun _ z hz => p.tup rl (rs.cut lo hi) hz⟩
      refine p.val rl (.tup (xs := xs) hq ?_)
      have e : cutU us lo hi = us := by
        unfold cutU
        rw [rs.len, wh.1, wh.2, List.drop_zero, Nat.sub_zero, ← rs.len, List.take_length]
      rw [e]; exact rs
  | scr us => cases ru with | scr hq rs => exact lists rfl hq.sq rs p
  | lst us => cases ru with | lst hq rs => exact lists rfl (SqL.of hq.1) rs p
  | ref a =>
    cases e : its h (.ref a) with
    | none => obtain ⟨_, _, e2, _⟩ := p; simp only [uSl, e] at e2; cases e2
    | some us =>
      obtain ⟨q, xs, ex, hq, rs⟩ := its_of rl e ru
      simp only [uSl, e] at p
      exact lists ex (SqL.of hq) rs p
  | _ => obtain ⟨_, _, e2, _⟩ := p; cases e2
@[simp] def eSl (m : Bool) (fa : EF) (fl fh : OF) : EF := fun ρ h => bnd (fa ρ h) fun x h1 => bnd (fl ρ h1) fun lo h2 => bnd (fh ρ h2) fun hi h3 => uSl m h3 x lo hi
theorem s_sl {m : Bool} {lo hi : Option Expr} {fl fh : OF} {p2 : Pos} (hf : Fit X S) (ha : PE X a (tS S fa)) (hl : PO X lo (tO S fl)) (hh : PO X hi (tO S fh)) : PE X (.Subscript a (.Slice lo hi none p2) pos) (tS S (eSl m fa fl fh)) :=
  (pe_slice (sl_S hf (m := m)) ha hl hh).wk fun σ H Q ⟨α, ρ, h, re, rl, w, h3, e, k⟩ => by
  obtain ⟨u, h1, e1, e⟩ := bnd_eq e
  obtain ⟨o, h2, e2, e⟩ := bnd_eq e
  obtain ⟨o', h4, e4, e⟩ := bnd_eq e
  exact ⟨α, ρ, h, re, rl, u, h1, e1, fun α1 H1 x ex1 rl1 ru => ⟨α1, ρ, h1, re.ex ex1, rl1, o, h2, e2, fun α2 H2 ex2 rl2 => ⟨α2, ρ, h2, re.ex (ex1.trans ex2), rl2, o', h4, e4, fun α4 H4 ex4 rl4 => ⟨α4, h4, u, rl4, (ru.ex ex2).ex ex4, w, h3, e, fun α5 H5 y ex5 rl5 ry => k α5 H5 y ((ex1.trans (ex2.trans ex4)).trans ex5) rl5 ry⟩⟩⟩⟩
end
end L2
end
section
set_option Elab.async false
set_option maxRecDepth 100000
set_option linter.unusedVariables false
set_option maxHeartbeats 1000000
namespace L2
open PySem PySem.Spec PySem.F PyProof.Rows
def BIG : Int := 2 ^ 8999
theorem BIG_gt {i : Int} (h : i ≤ 10 ^ 100) : i < BIG := Int.lt_of_le_of_lt h (by unfold BIG; decide +kernel)
theorem big_log {i : Int} (h0 : 0 < i) (h : i < BIG) : i.natAbs.log2 < 9000 := by
  have e : i.natAbs ≠ 0 := by omega
  have hb : i.natAbs < 2 ^ 8999 := by
    unfold BIG at h
    rw [PyProof.Rows.two_pow_cast] at h
    omega
  exact Nat.lt_of_lt_of_le ((Nat.log2_lt e).mpr hb) (by decide)
section
variable {X : Cx} {S : Sx}
abbrev G1 := PH → U → Option (U × PH)
def uAdd (m : Bool) : G2 := fun h u v => match u, v with
  | .int i, .int j => some (.int (i + j), h)
  | .str x, .str y => if x.length + y.length ≤ sizeLine then some (.str (x ++ y), h) else none
  | .tup us, .tup vs => if us.length + vs.length ≤ sizeLine then some (.tup (us ++ vs), h) else none
  | u, v => (its h u).bind fun us => (its h v).bind fun vs => if us.length + vs.length ≤ sizeLine then mk m (us ++ vs) h else none
theorem no_pu {α : Am} {H : Hp} {Q : VK} {r : Option (U × PH)} (p : PU S α H r Q) (e : r = none) : False := by
  obtain ⟨_, _, q, _⟩ := p
  rw [e] at q; cases q
theorem oS_add (hf : Fit X S) {m : Bool} : OpR X (binaryOp .Add) (rS2 S (uAdd m)) := by
  intro pins s σ H x y v u Q I rx ry hh
  obtain ⟨α, h, a, b, rl, ra, rb, p⟩ := hh
  have lists : PU S α H ((its h a).bind fun us => (its h b).bind fun vs => if us.length + vs.length ≤ sizeLine then mk m (us ++ vs) h else none) Q → wpAny (model X.prog X.w) X.A (binaryOp .Add v u) (EP X pins σ Q) X.xe s := fun p => by
    cases ea : its h a with
    | none => rw [ea] at p; exact (no_pu p rfl).elim
    | some us =>
      cases eb : its h b with
      | none => rw [ea, eb] at p; exact (no_pu p rfl).elim
      | some vs =>
        rw [ea, eb] at p
        obtain ⟨pa, xs, rfl, ha, qa⟩ := its_of rl ea ra
        obtain ⟨pb, ys, rfl, hb, qb⟩ := its_of rl eb rb
        have p : PU S α H (if us.length + vs.length ≤ sizeLine then mk m (us ++ vs) h else none) Q := p
        by_cases hl : us.length + vs.length ≤ sizeLine
        · rw [if_pos hl] at p
          exact op_cat pins s σ H _ _ v u Q I rx ry ⟨pa, pb, xs, ys, rfl, rfl, ha, hb, by rw [← qa.len, ← qb.len]; exact hl, fun z hz => p.mk rl (qa.app qb) hz⟩
        · rw [if_neg hl] at p; exact (no_pu p rfl).elim
  cases a with
  | int i =>
    cases b with
    | int j => cases ra; cases rb; exact op_add pins s σ H _ _ v u Q I rx ry ⟨i, j, rfl, rfl, p.val rl (.int _)⟩
    | _ => exact lists p
  | str i =>
    cases b with
    | str j =>
      cases ra; cases rb
      have p : PU S α H (if i.length + j.length ≤ sizeLine then some (.str (i ++ j), h) else none) Q := p
      by_cases hl : i.length + j.length ≤ sizeLine
      · rw [if_pos hl] at p
        exact op_add_str pins s σ H _ _ v u Q I rx ry ⟨i, j, rfl, rfl, hl, p.val rl (.str _)⟩
      · rw [if_neg hl] at p; exact (no_pu p rfl).elim
    | _ => exact lists p
  | tup us =>
    cases b with
    | tup vs =>
      cases ra with
      | @tup pa xs _ ha qa =>
        cases rb with
        | @tup pb ys _ hb qb =>
          have p : PU S α H (if us.length + vs.length ≤ sizeLine then some (.tup (us ++ vs), h) else none) Q := p
          by_cases hl : us.length + vs.length ≤ sizeLine
          · rw [if_pos hl] at p
            refine op_catA hf.K pins s σ H _ _ v u Q I rx ry ⟨pa, pb, xs, ys, rfl, rfl, ha.sq, hb.sq, by rw [← qa.len, ← qb.len]; exact hl, fun e => ?_, fun _ e => ?_, fun _ _ z hz => p.tup rl (qa.app qb) hz⟩
            · subst e
              refine p.val rl (.tup hb ?_)
              cases qa; exact qb
            · subst e
              refine p.val rl (.tup ha ?_)
              cases qb; rw [List.append_nil]; exact qa
          · rw [if_neg hl] at p; exact (no_pu p rfl).elim
    | _ => exact lists p
  | _ => exact lists p
@[simp] def uSub : G2 := fun h u v => match u, v with
  | .int i, .int j => some (.int (i - j), h)
  | _, _ => none
theorem oS_sub : OpR X (binaryOp .Sub) (rS2 S uSub) := by
  intro pins s σ H x y v u Q I rx ry hh
  obtain ⟨α, h, a, b, rl, ra, rb, p⟩ := hh
  cases a with
  | int i =>
    cases b with
    | int j => cases ra; cases rb; exact op_sub pins s σ H _ _ v u Q I rx ry ⟨i, j, rfl, rfl, p.val rl (.int _)⟩
    | _ => exact (no_pu p rfl).elim
  | _ => exact (no_pu p rfl).elim
open Classical in
noncomputable def uMul (m : Bool) : G2 := fun h u v => match u, v with
  | .int i, .int j => if IntMulOk i j then some (.int (i * j), h) else none
  | .tup us, .int k => if us ≠ [] ∧ 2 ≤ k ∧ k ≤ 1000 ∧ us.length * k.toNat ≤ sizeLine then some (.tup (List.replicate k.toNat us).flatten, h) else none
  | u, .int k => (its h u).bind fun us => if -(2 ^ 63) ≤ k ∧ k < 2 ^ 63 ∧ us.length * k.toNat ≤ sizeLine then mk m (List.replicate k.toNat us).flatten h else none
  | _, _ => none
theorem oS_mul (hf : Fit X S) {m : Bool} : OpR X (binaryOp .Mult) (rS2 S (uMul m)) := by
  intro pins s σ H x y v u Q I rx ry hh
  obtain ⟨α, h, a, b, rl, ra, rb, p⟩ := hh
  cases b with
  | int k =>
    have lists : PU S α H ((its h a).bind fun us => if -(2 ^ 63) ≤ k ∧ k < 2 ^ 63 ∧ us.length * k.toNat ≤ sizeLine then mk m (List.replicate k.toNat us).flatten h else none) Q → wpAny (model X.prog X.w) X.A (binaryOp .Mult v u) (EP X pins σ Q) X.xe s := fun p => by
      cases ea : its h a with
      | none => rw [ea] at p; exact (no_pu p rfl).elim
      | some us =>
        rw [ea] at p
        have p : PU S α H (if -(2 ^ 63) ≤ k ∧ k < 2 ^ 63 ∧ us.length * k.toNat ≤ sizeLine then mk m (List.replicate k.toNat us).flatten h else none) Q := p
        obtain ⟨pa, xs, rfl, ha, qa⟩ := its_of rl ea ra
        by_cases hl : -(2 ^ 63) ≤ k ∧ k < 2 ^ 63 ∧ us.length * k.toNat ≤ sizeLine
        · rw [if_pos hl] at p
          cases rb
          exact op_rep pins s σ H _ _ v u Q I rx ry ⟨pa, k, xs, rfl, rfl, ha, hl.1, hl.2.1, by rw [← qa.len]; exact hl.2.2, fun z hz => p.mk rl (qa.rep _) hz⟩
        · rw [if_neg hl] at p; exact (no_pu p rfl).elim
    cases a with
    | int i =>
      have p : PU S α H (open Classical in if IntMulOk i k then some (.int (i * k), h) else none) Q := p
      by_cases hl : IntMulOk i k
      · rw [if_pos hl] at p
        cases ra; cases rb
        obtain ⟨t, rfl⟩ := rx
        obtain ⟨t', rfl⟩ := ry
        exact mul_int ⟨.int (i * k), H, I.tok _, ⟨_, rfl⟩, p.val rl (.int _)⟩ hl
      · rw [if_neg hl] at p; exact (no_pu p rfl).elim
    | tup us =>
      have p : PU S α H (if us ≠ [] ∧ 2 ≤ k ∧ k ≤ 1000 ∧ us.length * k.toNat ≤ sizeLine then some (.tup (List.replicate k.toNat us).flatten, h) else none) Q := p
      by_cases hl : us ≠ [] ∧ 2 ≤ k ∧ k ≤ 1000 ∧ us.length * k.toNat ≤ sizeLine
      · rw [if_pos hl] at p
        cases rb
        cases ra with
        | @tup pa xs _ ha qa =>
          exact op_repT hf.K pins s σ H _ _ v u Q I rx ry ⟨pa, k, xs, rfl, rfl, ha.sq, fun z => hl.1 (by subst z; cases qa; rfl), hl.2.1, hl.2.2.1, by rw [← qa.len]; exact hl.2.2.2, fun z hz => p.tup rl (qa.rep _) hz⟩
      · rw [if_neg hl] at p; exact (no_pu p rfl).elim
    | _ => exact lists p
  | _ => exact (no_pu (by cases a <;> exact p) rfl).elim
@[simp] def uDiv : G2 := fun h u v => match u, v with
  | .int i, .int j => if 0 < j ∧ j < BIG then some (.int (i / j), h) else none
  | _, _ => none
theorem oS_div : OpR X (binaryOp .FloorDiv) (rS2 S uDiv) := by
  intro pins s σ H x y v u Q I rx ry hh
  obtain ⟨α, h, a, b, rl, ra, rb, p⟩ := hh
  cases a with
  | int i =>
    cases b with
    | int j =>
      have p : PU S α H (if 0 < j ∧ j < BIG then some (.int (i / j), h) else none) Q := p
      by_cases hl : 0 < j ∧ j < BIG
      · rw [if_pos hl] at p
        cases ra; cases rb
        obtain ⟨t, rfl⟩ := rx
        obtain ⟨t', rfl⟩ := ry
        have h1 := hl.1
        refine floordiv_int (by omega) ?_ (.inl (PyProof.noPylong_of_log2 (big_log hl.1 hl.2)))
        rw [Int.fdiv_eq_ediv_of_nonneg i (by omega)]
        exact ⟨.int (i / j), H, I.tok _, ⟨_, rfl⟩, p.val rl (.int _)⟩
      · rw [if_neg hl] at p; exact (no_pu p rfl).elim
    | _ => exact (no_pu p rfl).elim
  | _ => exact (no_pu p rfl).elim
@[simp] def uI (C : Int → Int → Prop) [∀ i j, Decidable (C i j)] (g : Int → Int → U) : G2 := fun h u v => match u, v with
  | .int i, .int j => if C i j then some (g i j, h) else none
  | _, _ => none
theorem oS_I {f : Value → Value → Sem Value} {C : Int → Int → Prop} [∀ i j, Decidable (C i j)] {g : Int → Int → U} {g' : Int → Int → V} (o : OpR X f (rI C g')) (hg : ∀ i j α H, RU S α H (g i j) (g' i j)) : OpR X f (rS2 S (uI C g)) := by
  intro pins s σ H x y v u Q I rx ry hh
  obtain ⟨α, h, a, b, rl, ra, rb, p⟩ := hh
  cases a with
  | int i =>
    cases b with
    | int j =>
      have p : PU S α H (if C i j then some (g i j, h) else none) Q := p
      by_cases hl : C i j
      · rw [if_pos hl] at p
        cases ra; cases rb
        exact o pins s σ H _ _ v u Q I rx ry ⟨i, j, rfl, rfl, hl, p.val rl (hg i j _ _)⟩
      · rw [if_neg hl] at p; exact (no_pu p rfl).elim
    | _ => exact (no_pu p rfl).elim
  | _ => exact (no_pu p rfl).elim
instance : ∀ i j, Decidable (CPow i j) := fun i j => by unfold CPow; infer_instance
def uMod : G2 := uI (fun _ j => 0 < j) fun i j => .int (i % j)
theorem oS_mod : OpR X (binaryOp .Mod) (rS2 S uMod) := oS_I op_mod fun _ _ _ _ => .int _
def uPow : G2 := uI CPow fun i j => .int (i ^ j.toNat)
theorem oS_pow : OpR X (binaryOp .Pow) (rS2 S uPow) := oS_I op_pow fun _ _ _ _ => .int _
def uShl : G2 := uI CPow fun i j => .int (i * 2 ^ j.toNat)
def uShr : G2 := uI (fun _ j => 0 ≤ j) fun i j => .int (i / 2 ^ j.toNat)
@[simp] def uNeg : G1 := fun h u => match u with
  | .int i => some (.int (-i), h)
  | _ => none
def intsU : List U → Option (List Int)
  | [] => some []
  | .int i :: r => (intsU r).map (i :: ·)
  | _ :: _ => none
theorem intsU_eq : ∀ {us : List U} {ns : List Int}, intsU us = some ns → us = ns.map U.int
  | [], _, h => by cases h; rfl
  | u :: r, ns, h => by
    cases u with
    | int i =>
      cases e : intsU r with
      | none => rw [intsU, e] at h; cases h
      | some ms => rw [intsU, e] at h; cases h; rw [intsU_eq e]; rfl
    | _ => cases h
@[simp] theorem intsU_map : ∀ ns : List Int, intsU (ns.map U.int) = some ns
  | [] => rfl
  | i :: r => by rw [List.map_cons, intsU, intsU_map r]; rfl
def uLt : G2 := fun h u v => match u, v with
  | .int i, .int j => some (.bl (decide (i < j)), h)
  | .str x, .str y => some (.bl (decide (x.cps.toList < y.cps.toList)), h)
  | .tup us, .tup vs => (intsU us).bind fun ns => (intsU vs).map fun ms => (.bl (HT.lexLt ns ms), h)
  | _, _ => none
theorem oS_lt (hf : Fit X S) (hu : X.A.units + 64 < cLine) : OpR X (compareOp .Lt) (rS2 S uLt) := by
  intro pins s σ H x y v u Q I rx ry hh
  obtain ⟨α, h, a, b, rl, ra, rb, p⟩ := hh
  cases a with
  | int i =>
    cases b with
    | int j => cases ra; cases rb; exact op_lt pins s σ H _ _ v u Q I rx ry ⟨i, j, rfl, rfl, p.val rl (.bl _)⟩
    | _ => exact (no_pu p rfl).elim
  | str i =>
    cases b with
    | str j => cases ra; cases rb; exact op_lt_str pins s σ H _ _ v u Q I rx ry ⟨i, j, rfl, rfl, p.val rl (.bl _)⟩
    | _ => exact (no_pu p rfl).elim
  | tup us =>
    cases b with
    | tup vs =>
      cases ea : intsU us with
      | none => exact (no_pu p (by show ((intsU us).bind _) = none; rw [ea]; rfl)).elim
      | some ns =>
        cases eb : intsU vs with
        | none => exact (no_pu p (by show ((intsU us).bind _) = none; rw [ea, eb]; rfl)).elim
        | some ms =>
          have p : PU S α H ((intsU us).bind fun ns => (intsU vs).map fun ms => (.bl (HT.lexLt ns ms), h)) Q := p
          rw [ea, eb] at p
          have p : PU S α H (some (.bl (HT.lexLt ns ms), h)) Q := p
          rw [intsU_eq ea] at ra
          rw [intsU_eq eb] at rb
          cases ra with
          | @tup pa xs _ ha qa =>
            cases rb with
            | @tup pb ys _ hb qb =>
              rw [qa.ints] at ha
              rw [qb.ints] at hb
              exact k_ltT hu hf.K pins s σ H _ _ v u Q I rx ry ⟨pa, pb, ns, ms, rfl, rfl, ha.sq, hb.sq, p.val rl (.bl _)⟩
    | _ => exact (no_pu p rfl).elim
  | _ => exact (no_pu p rfl).elim
def uLe : G2 := uI (fun _ _ => True) fun i j => .bl (decide (i ≤ j))
def uGt : G2 := uI (fun _ _ => True) fun i j => .bl (decide (j < i))
def uGe : G2 := uI (fun _ _ => True) fun i j => .bl (decide (j ≤ i))
theorem opT {f : Value → Value → Sem Value} {g : Int → Int → V} (o : OpR X f (rI0 g)) : OpR X f (rI (fun _ _ => True) g) := fun pins s σ H x y v u Q I rx ry ⟨i, j, a, b, _, q⟩ => o pins s σ H x y v u Q I rx ry ⟨i, j, a, b, q⟩
theorem oS_gt : OpR X (compareOp .Gt) (rS2 S uGt) := oS_I (opT op_gt) fun _ _ _ _ => .bl _
theorem oS_ge : OpR X (compareOp .GtE) (rS2 S uGe) := oS_I (opT op_ge) fun _ _ _ _ => .bl _
mutual
def datF : U → Option PyData
  | .non => some .none
  | .bl b => some (.bool b)
  | .int i => some (.int i)
  | .str x => some (.str x)
  | .tup us => (datFs us).map .tuple
  | .lst us => (datFs us).map .list
  | .scr us => (datFs us).map .list
  | _ => none
def datFs : List U → Option (List PyData)
  | [] => some []
  | u :: r => (datF u).bind fun d => (datFs r).map (d :: ·)
end
def dat (h : PH) : U → Option PyData
  | .ref a => match h[a]? with
    | some (.lst us) => (datFs us).map .list
    | _ => none
  | u => datF u
mutual
theorem datF_dp {α : Am} {H : Hp} : ∀ {u : U} {x : V} {d : PyData}, datF u = some d → RU S α H u x → Dp S.K H x d
  | .non, _, _, e, r => by rw [datF] at e; cases e; cases r; exact .non
  | .bl _, _, _, e, r => by rw [datF] at e; cases e; cases r; exact .bl _
  | .int _, _, _, e, r => by rw [datF] at e; cases e; cases r; exact .int _
  | .str _, _, _, e, r => by rw [datF] at e; cases e; cases r; exact .str _
  | .tup us, _, _, e, r => by
    rw [datF] at e
    cases q : datFs us with
    | none => rw [q] at e; cases e
    | some ds =>
      rw [q] at e; cases e
      cases r with
      | tup a b => exact .tup a.sq (datFs_dp q b)
  | .lst us, _, _, e, r => by
    rw [datF] at e
    cases q : datFs us with
    | none => rw [q] at e; cases e
    | some ds =>
      rw [q] at e; cases e
      cases r with
      | lst a b => exact .lst (SqL.of a.1) (datFs_dp q b)
  | .scr us, _, _, e, r => by
    rw [datF] at e
    cases q : datFs us with
    | none => rw [q] at e; cases e
    | some ds =>
      rw [q] at e; cases e
      cases r with
      | scr a b => exact .lst a.sq (datFs_dp q b)
  | .dct _, _, _, e, _ => by simp [datF] at e
  | .set _, _, _, e, _ => by simp [datF] at e
  | .ref _, _, _, e, _ => by simp [datF] at e
theorem datFs_dp {α : Am} {H : Hp} : ∀ {us : List U} {xs : List V} {ds : List PyData}, datFs us = some ds → RUs S α H us xs → DpAll S.K H xs ds
  | [], _, _, e, r => by rw [datFs] at e; cases e; cases r; exact .nil
  | u :: us, _, _, e, r => by
    rw [datFs] at e
    cases q : datF u with
    | none => rw [q] at e; cases e
    | some d =>
      cases q2 : datFs us with
      | none => rw [q, q2] at e; cases e
      | some ds =>
        rw [q, q2] at e; cases e
        cases r with
        | cons a b => exact .cons (datF_dp q a) (datFs_dp q2 b)
end
theorem dat_dp {α : Am} {H : Hp} {h : PH} (rl : Rl S α H h) {u : U} {x : V} {d : PyData} (e : dat h u = some d) (r : RU S α H u x) : Dp S.K H x d := by
  cases u with
  | ref a =>
    rw [dat] at e
    cases q : h[a]? with
    | none => simp only [q] at e; cases e
    | some o =>
      simp only [q] at e
      cases o with
      | lst us =>
        cases q2 : datFs us with
        | none => simp only [q2] at e; cases e
        | some ds =>
          simp only [q2] at e; cases e
          cases r with
          | ref hp =>
            obtain ⟨xs, h1, h2⟩ := rl.get hp q
            exact .lst (SqL.of h1) (datFs_dp q2 h2)
      | _ => cases e
  | _ => exact datF_dp e r
def scalU : U → U → Option Bool
  | .int i, .int j => some (decide (i = j))
  | .str i, .str j => some (decide (i = j))
  | .bl i, .bl j => some (decide (i = j))
  | .non, .non => some true
  | .non, .int _ => some false
  | .int _, .non => some false
  | .non, .bl _ => some false
  | .bl _, .non => some false
  | .non, .str _ => some false
  | .str _, .non => some false
  | .int _, .str _ => some false
  | .str _, .int _ => some false
  | .bl _, .str _ => some false
  | .str _, .bl _ => some false
  | _, _ => none
def eqP (h : PH) (u v : U) : Option Bool := match scalU u v with
  | some b => some b
  | none => (dat h u).bind fun d => (dat h v).bind fun e => if SeqAt.shaped d = true ∧ SeqAt.shaped e = true then some (PyData.eqv d e) else none
@[simp] def uEq : G2 := fun h u v => (eqP h u v).map fun b => (.bl b, h)
@[simp] def uNe : G2 := fun h u v => (eqP h u v).map fun b => (.bl (!b), h)
theorem scal_of {α : Am} {H : Hp} {u v : U} {x y : V} {b : Bool} (e : scalU u v = some b) (ra : RU S α H u x) (rb : RU S α H v y) : scal x y = true ∧ decide (x = y) = b := by
  cases u <;> cases v <;> first | cases e | skip
  all_goals (cases ra; cases rb; refine ⟨rfl, ?_⟩; first | rfl | simp)
theorem oS_eq (hf : Fit X S) (hu : X.A.units + 64 < cLine) : OpR X (compareOp .Eq) (rS2 S uEq) := by
  intro pins s σ H x y v u Q I rx ry hh
  obtain ⟨α, h, a, b, rl, ra, rb, p⟩ := hh
  unfold uEq at p
  cases e : eqP h a b with
  | none => rw [e] at p; exact (no_pu p rfl).elim
  | some k =>
    rw [e] at p
    have p : PU S α H (some (.bl k, h)) Q := p
    have q := p.val rl (.bl k)
    unfold eqP at e
    cases sc : scalU a b with
    | some k' =>
      rw [sc] at e; cases e
      obtain ⟨h1, h2⟩ := scal_of sc ra rb
      exact op_eq pins s σ H _ _ v u Q I rx ry ⟨h1, by rw [h2]; exact q⟩
    | none =>
      rw [sc] at e
      simp only at e
      cases ea : dat h a with
      | none => rw [ea] at e; cases e
      | some d =>
        cases eb : dat h b with
        | none => rw [ea, eb] at e; cases e
        | some d' =>
          rw [ea, eb] at e
          simp only [Option.bind_some] at e
          by_cases hs : SeqAt.shaped d = true ∧ SeqAt.shaped d' = true
          · rw [if_pos hs] at e; cases e
            exact k_eqD hu hf.K pins s σ H _ _ v u Q I rx ry ⟨d, d', dat_dp rl ea ra, dat_dp rl eb rb, hs.1, hs.2, q⟩
          · rw [if_neg hs] at e; cases e
theorem oS_ne (hf : Fit X S) (hu : X.A.units + 64 < cLine) : OpR X (compareOp .NotEq) (rS2 S uNe) := by
  intro pins s σ H x y v u Q I rx ry hh
  obtain ⟨α, h, a, b, rl, ra, rb, p⟩ := hh
  unfold uNe at p
  cases e : eqP h a b with
  | none => rw [e] at p; exact (no_pu p rfl).elim
  | some k =>
    rw [e] at p
    have p : PU S α H (some (.bl (!k), h)) Q := p
    have q := p.val rl (.bl (!k))
    unfold eqP at e
    cases sc : scalU a b with
    | some k' =>
      rw [sc] at e; cases e
      obtain ⟨h1, h2⟩ := scal_of sc ra rb
      exact op_ne pins s σ H _ _ v u Q I rx ry ⟨h1, by rw [h2]; exact q⟩
    | none =>
      rw [sc] at e
      simp only at e
      cases ea : dat h a with
      | none => rw [ea] at e; cases e
      | some d =>
        cases eb : dat h b with
        | none => rw [ea, eb] at e; cases e
        | some d' =>
          rw [ea, eb] at e
          simp only [Option.bind_some] at e
          by_cases hs : SeqAt.shaped d = true ∧ SeqAt.shaped d' = true
          · rw [if_pos hs] at e; cases e
            exact k_neD hu hf.K pins s σ H _ _ v u Q I rx ry ⟨d, d', dat_dp rl ea ra, dat_dp rl eb rb, hs.1, hs.2, q⟩
          · rw [if_neg hs] at e; cases e
end
end L2
end
section
set_option Elab.async false
set_option maxRecDepth 100000
set_option linter.unusedVariables false
set_option maxHeartbeats 1000000
namespace L2
open PySem PySem.Spec PySem.F PyProof.Rows
def keyU : U → Option Key
  | .int i => some (.inl i)
  | .str x => some (.inr x)
  | _ => none
def valK {β : Type} (kus : List (Key × β)) (k : Key) : Option β := (kus.find? fun kv => decide (kv.1 = k)).map (·.2)
def keysOf (h : PH) : U → Option (List (Key × U))
  | .dct kus => some kus
  | .ref a => match h[a]? with
    | some (.dK kus) => some kus
    | _ => none
  | _ => none
section
variable {X : Cx} {S : Sx}
theorem keyU_of {α : Am} {H : Hp} {u : U} {x : V} {k : Key} (e : keyU u = some k) (r : RU S α H u x) : x = kV k := by
  cases u with
  | int i => cases e; cases r; rfl
  | str i => cases e; cases r; rfl
  | _ => cases e
theorem RKs.val {α : Am} {H : Hp} (k : Key) : ∀ {kus : List (Key × U)} {kvs : List (Key × V)}, RKs S α H kus kvs → (valK kus k = none ∧ valV kvs k = none) ∨ ∃ u x, valK kus k = some u ∧ valV kvs k = some x ∧ RU S α H u x
  | _, _, .nil => .inl ⟨rfl, rfl⟩
  | _, _, .cons (k := k') (u := u) (x := x) a r => by
    by_cases e : k' = k
    · exact .inr ⟨u, x, by simp [valK, List.find?_cons, e], by simp [valV, List.find?_cons, e], a⟩
    · rcases RKs.val k r with ⟨h1, h2⟩ | ⟨u', x', h1, h2, h3⟩
      · exact .inl ⟨by rw [← h1]; simp [valK, List.find?_cons, e], by rw [← h2]; simp [valV, List.find?_cons, e]⟩
      · exact .inr ⟨u', x', by rw [← h1]; simp [valK, List.find?_cons, e], by rw [← h2]; simp [valV, List.find?_cons, e], h3⟩
theorem keysOf_of {α : Am} {H : Hp} {h : PH} (rl : Rl S α H h) {u : U} {x : V} {kus : List (Key × U)} (e : keysOf h u = some kus) (r : RU S α H u x) : ∃ p kvs, x = .ref p ∧ (H p = some (.dK kvs) ∨ KDict S.P S.w S.K p kvs) ∧ RKs S α H kus kvs := by
  cases u with
  | dct k =>
    cases e
    cases r with
    | dct a b =>
      rcases a with a | a
      · exact ⟨_, _, rfl, .inl a.1, b⟩
      · exact ⟨_, _, rfl, .inr a, b⟩
  | ref a =>
    unfold keysOf at e
    cases q : h[a]? with
    | none => simp only [q] at e; cases e
    | some o =>
      simp only [q] at e
      cases o with
      | dK k =>
        cases e
        cases r with
        | ref hp =>
          obtain ⟨kvs, h1, h2⟩ := rl.get hp q
          exact ⟨_, kvs, rfl, .inl h1, h2⟩
      | _ => cases e
  | _ => cases e
def sign1 (z : Str) : Option Nat := if z.cps.size = 1 then z.cps[0]? else none
theorem sign1_eq {z : Str} {c : Nat} (h : sign1 z = some c) : z = ⟨#[c]⟩ := by
  unfold sign1 at h
  by_cases e : z.cps.size = 1
  · rw [if_pos e] at h
    obtain ⟨⟨l⟩⟩ := z
    match l, e, h with
    | [x], _, h => simp at h; rw [h]
  · rw [if_neg e] at h; cases h
def inP (h : PH) (u v : U) : Option Bool := match u, v with
  | .str x, .str z => (sign1 x).map fun c => decide (c ∈ z.cps.toList)
  | u, v => match keysOf h v with
    | some kus => (keyU u).map fun k => (valK kus k).isSome
    | none => (sq h v).bind fun us => (datF u).bind fun d => (datFs us).bind fun es => if SeqAt.shaped d = true ∧ d.depth ≤ 60 ∧ PyData.canLayAll0 es = true then some (es.any fun e => PyData.eqv e d) else none
@[simp] def uIn (neg : Bool) : G2 := fun h u v => (inP h u v).map fun b => (.bl (if neg = true then !b else b), h)
theorem oS_in (hf : Fit X S) (hu : X.A.units + 64 < cLine) {neg : Bool} : OpR X (compareOp (if neg then .NotIn else .In)) (rS2 S (uIn neg)) := by
  intro pins s σ H x y v u Q I rx ry hh
  obtain ⟨α, h, a, b, rl, ra, rb, p⟩ := hh
  unfold uIn at p
  cases e : inP h a b with
  | none => rw [e] at p; exact (no_pu p rfl).elim
  | some k =>
    rw [e] at p
    have p : PU S α H (some (.bl (if neg = true then !k else k), h)) Q := p
    have q := p.val rl (.bl (if neg = true then !k else k))
    have main : (match keysOf h b with
        | some kus => (keyU a).map fun k => (valK kus k).isSome
        | none => (sq h b).bind fun us => (datF a).bind fun d => (datFs us).bind fun es => if SeqAt.shaped d = true ∧ d.depth ≤ 60 ∧ PyData.canLayAll0 es = true then some (es.any fun e => PyData.eqv e d) else none) = some k → wpAny (model X.prog X.w) X.A (compareOp (if neg then .NotIn else .In) v u) (EP X pins σ Q) X.xe s := fun e => by
      cases ek : keysOf h b with
      | some kus =>
        rw [ek] at e
        simp only at e
        cases eu : keyU a with
        | none => rw [eu] at e; cases e
        | some kk =>
          rw [eu] at e
          have e : some (valK kus kk).isSome = some k := e
          cases e
          obtain ⟨pa, kvs, rfl, hd, rk⟩ := keysOf_of rl ek rb
          have hx := keyU_of eu ra
          have hv : (valV kvs kk).isSome = (valK kus kk).isSome := by
            rcases rk.val kk with ⟨h1, h2⟩ | ⟨_, _, h1, h2, _⟩ <;> rw [h1, h2] <;> rfl
          rcases hd with hd | hd
          · cases ry
            have g : DGet H pa x (valV kvs kk) := .inl ⟨kvs, kk, .inl hd, hx, rfl⟩
            cases neg with
            | false => exact d_in (by omega) I g rx fun s' I' => ⟨.bl _, H, I', rfl, by rw [hv]; exact q⟩
            | true => exact d_notIn (by omega) I g rx fun s' I' => ⟨.bl _, H, I', rfl, by rw [hv]; exact q⟩
          · cases neg with
            | false => exact k_inT hf.P hf.w hf.K pins s σ H _ _ v u Q I rx ry ⟨pa, kvs, kk, rfl, hx, hd, by rw [hv]; exact q⟩
            | true => exact k_notInT hf.P hf.w hf.K pins s σ H _ _ v u Q I rx ry ⟨pa, kvs, kk, rfl, hx, hd, by rw [hv]; exact q⟩
      | none =>
        rw [ek] at e
        simp only at e
        cases e1 : sq h b with
        | none => rw [e1] at e; cases e
        | some us =>
          cases e2 : datF a with
          | none => rw [e1, e2] at e; cases e
          | some d =>
            cases e3 : datFs us with
            | none => rw [e1, e2] at e; simp only [Option.bind_some, e3, Option.bind_none] at e; cases e
            | some es =>
              rw [e1, e2] at e
              simp only [Option.bind_some, e3] at e
              by_cases hc : SeqAt.shaped d = true ∧ d.depth ≤ 60 ∧ PyData.canLayAll0 es = true
              · rw [if_pos hc] at e
                cases e
                obtain ⟨pa, xs, rfl, hq, rs⟩ := sq_of rl e1 rb
                refine op_inD hu hf.K neg pins s σ H _ _ v u Q I rx ry ⟨pa, xs, d, es, rfl, hq, datF_dp e2 ra, datFs_dp e3 rs, hc.1, hc.2.1, hc.2.2, ?_⟩
                cases neg <;> exact q
              · rw [if_neg hc] at e; cases e
    unfold inP at e
    split at e
    · rename_i x1 z1
      cases e1 : sign1 x1 with
      | none => rw [e1] at e; cases e
      | some c1 =>
      rw [e1] at e
      cases e
      have ex := sign1_eq e1
      subst ex
      cases ra; cases rb
      cases neg with
      | false => exact op_in_sign pins s σ H _ _ v u Q I rx ry ⟨_, _, rfl, rfl, q⟩
      | true => exact op_notIn_sign pins s σ H _ _ v u Q I rx ry ⟨_, _, rfl, rfl, q⟩
    · exact main e
def isP : U → U → Option Bool
  | .non, .non => some true
  | _, .non => some false
  | .bl c, .bl d => some (c == d)
  | _, _ => none
@[simp] def uIs : G2 := fun h u v => (isP u v).map fun b => (.bl b, h)
def uIsNot : G2 := fun h u v => match v with
  | .non => (isP u v).map fun b => (.bl (!b), h)
  | _ => none
theorem isN_dec {α : Am} {H : Hp} {u : U} {x : V} {b : Bool} (e : isP u .non = some b) (r : RU S α H u x) : decide (x = .non) = b := by
  cases u <;> cases r <;> cases e <;> simp
theorem op_isNotB {X : Cx} : OpR X (compareOp .IsNot) (fun x y H Q => ∃ c d, x = .bl c ∧ y = .bl d ∧ Q (.bl (!(c == d))) H) := by
  intro pins s σ H x y v u Q I rx ry h
  obtain ⟨c, d, rfl, rfl, q⟩ := h
  cases rx; cases ry
  exact isnot_bool (fin_bl I q rfl)
theorem RUs.at {α : Am} {H : Hp} {us : List U} {xs : List V} {i : Int} {u : U} (r : RUs S α H us xs) (e : atI us i = some u) : ∃ x, atI xs i = some x ∧ RU S α H u x := by
  unfold atI at e ⊢
  rw [← r.len]
  cases q : ixN us.length i with
  | none => rw [q] at e; cases e
  | some j => rw [q] at e; exact r.get (show us[j]? = some u from e)
def uIx : G2 := fun h u v => match u, v with
  | .str z, .int i => if z.length ≤ sizeLine then (atI z.cps.toList i).map fun c => (.str ⟨#[c]⟩, h) else none
  | u, .int i => (sq h u).bind fun us => (atI us i).map fun w => (w, h)
  | _, _ => none
theorem ix_S (hf : Fit X S) : IxR X (rS2 S uIx) := by
  intro value slice pins s σ H x y v u Q I rx ry hh hs
  obtain ⟨α, h, a, b, rl, ra, rb, p⟩ := hh
  cases b with
  | int i =>
    have seq : PU S α H ((sq h a).bind fun us => (atI us i).map fun w => (w, h)) Q → wpAny (model X.prog X.w) X.A (subscriptTail value slice v u) (EP X pins σ Q) X.xe s := fun p => by
      cases e : sq h a with
      | none => rw [e] at p; exact (no_pu p rfl).elim
      | some us =>
        rw [e] at p
        cases e2 : atI us i with
        | none => exact (no_pu p (by show ((atI us i).map _) = none; rw [e2]; rfl)).elim
        | some w =>
          have p : PU S α H ((atI us i).map fun w => (w, h)) Q := p
          rw [e2] at p
          have p : PU S α H (some (w, h)) Q := p
          obtain ⟨pa, xs, rfl, hq, rs⟩ := sq_of rl e ra
          obtain ⟨z, ez, rz⟩ := rs.at e2
          cases rb
          rcases hq with hq | hq
          · exact k_ix hf.K value slice pins s σ H _ _ v u Q I rx ry (.inl ⟨pa, xs, i, z, rfl, rfl, hq, ez, p.val rl rz⟩) hs
          · exact k_ix hf.K value slice pins s σ H _ _ v u Q I rx ry (.inr (.inl ⟨pa, xs, i, z, rfl, rfl, hq, ez, p.val rl rz⟩)) hs
    cases a with
    | str z =>
      have p : PU S α H (if z.length ≤ sizeLine then (atI z.cps.toList i).map fun c => (.str ⟨#[c]⟩, h) else none) Q := p
      by_cases hl : z.length ≤ sizeLine
      · rw [if_pos hl] at p
        cases e2 : atI z.cps.toList i with
        | none => exact (no_pu p (by rw [e2]; rfl)).elim
        | some c =>
          rw [e2] at p
          have p : PU S α H (some (.str ⟨#[c]⟩, h)) Q := p
          cases ra; cases rb
          exact k_ix hf.K value slice pins s σ H _ _ v u Q I rx ry (.inr (.inr ⟨z, i, c, rfl, rfl, hl, e2, p.val rl (.str _)⟩)) hs
      · rw [if_neg hl] at p; exact (no_pu p rfl).elim
    | _ => exact seq p
  | _ => exact (no_pu (by cases a <;> exact p) rfl).elim
variable {a b e : Expr} {fa fb : EF} {pos : Pos}
theorem s_ix (hf : Fit X S) (ha : PE X a (tS S fa)) (hb : PE X b (tS S fb)) (hs : PlainIx b) : PE X (.Subscript a b pos) (tS S (eOp uIx fa fb)) := (pe_ix (ix_S hf) ha hb hs).wk fun _ _ _ => tS_op
@[simp] def uGet : G2 := fun h u v => (keysOf h u).bind fun kus => (keyU v).bind fun k => (valK kus k).map fun w => (w, h)
theorem s_dget (hf : Fit X S) (hu : X.A.units + 64 < cLine) (ha : PE X a (tS S fa)) (hb : PE X b (tS S fb)) (hs : NoSl b) : PE X (.Subscript a b pos) (tS S (eOp uGet fa fb)) := by
  intro pins s σ H Q I h
  have h := tS_op h
  refine subD_of PySem.F.slot_dict_getitem.lookup hs (thn (ha pins s σ H _ I h) fun u s1 ⟨x, H1, I1, rx, q1⟩ => thn (hb pins s1 σ H1 _ I1 q1) fun iv s2 ⟨y, H2, I2, ry, α, h, a, b, rl, ra, rb, p⟩ => ?_)
  unfold uGet at p
  cases e1 : keysOf h a with
  | none => rw [e1] at p; exact (no_pu p rfl).elim
  | some kus =>
    rw [e1] at p
    cases e2 : keyU b with
    | none => rw [e2] at p; exact (no_pu p rfl).elim
    | some k =>
      rw [e2] at p
      obtain ⟨pa, kvs, rfl, hd, rk⟩ := keysOf_of rl e1 ra
      have hx := keyU_of e2 rb
      obtain rfl : u = Value.ref pa := rx
      rcases rk.val k with ⟨h1, h2⟩ | ⟨w, z, h1, h2, h3⟩
      · exact (no_pu p (by show ((valK kus k).map _) = none; rw [h1]; rfl)).elim
      · have p : PU S α H2 ((valK kus k).map fun w => (w, h)) Q := p
        rw [h1] at p
        have q := PU.val (show PU S α H2 (some (w, h)) Q from p) rl h3
        rcases hd with hd | hd
        · have g : DGet H2 pa y (some z) := .inl ⟨kvs, k, .inl hd, hx, h2.symm⟩
          exact ⟨dict_typeIs I2 g, d_getItem (by omega) I2 g ry fun w' s3 I3 rw' => ⟨z, H2, I3, rw', q⟩⟩
        · subst hx
          obtain ⟨vs, rel, dd⟩ := hd.ok _ (by rw [← hf.K]; exact I2.kIn)
          rw [← hf.P, ← hf.w] at dd
          obtain ⟨w', hw, rw'⟩ := RelO.some_of (v := z) (o := valueAt vs k) (by rw [← h2]; exact rel.val k)
          exact ⟨dd.typeIs, wpAny_getItem_of (kV_is ry) dd.mapOf hw ⟨z, H2, I2.tok _, rw', q⟩⟩
abbrev GC := PH → List U → Option (U × PH)
@[simp] def eCB (c : GC) (fr : AF) : EF := fun ρ h => bnd (fr ρ h) fun us h1 => c h1 us
theorem s_cb {c : GC} {fr : AF} (h : PE X e (tCB (rSs S c) (tA S fr))) : PE X e (tS S (eCB c fr)) := h.wk fun σ H Q ⟨α, ρ, h, re, rl, w, h3, e, k⟩ => by
  obtain ⟨us, h1, e1, e⟩ := bnd_eq e
  exact ⟨α, ρ, h, re, rl, us, h1, e1, fun α1 H1 xs ex1 rl1 rs => ⟨α1, h1, us, rl1, rs, w, h3, e, fun α2 H2 y ex2 rl2 ry => k α2 H2 y (ex1.trans ex2) rl2 ry⟩⟩
def lenU (h : PH) : U → Option Nat
  | .str z => if z.length ≤ sizeLine then some z.length else none
  | .set ns => some ns.length
  | .ref a => match h[a]? with
    | some (.lst us) => some us.length
    | some (.dK us) => some us.length
    | _ => none
  | u => (sq h u).map (·.length)
@[simp] def cLen : GC := fun h us => match us with
  | [u] => (lenU h u).map fun n => (.int n, h)
  | _ => none
theorem RUs.one {α : Am} {H : Hp} {u : U} {xs : List V} (r : RUs S α H [u] xs) : ∃ x, xs = [x] ∧ RU S α H u x := by
  cases r with | cons a r => cases r; exact ⟨_, rfl, a⟩
theorem RUs.two {α : Am} {H : Hp} {u v : U} {xs : List V} (r : RUs S α H [u, v] xs) : ∃ x y, xs = [x, y] ∧ RU S α H u x ∧ RU S α H v y := by
  cases r with | cons a r => obtain ⟨y, e, b⟩ := r.one; subst e; exact ⟨_, y, rfl, a, b⟩
theorem RKs.len {α : Am} {H : Hp} : ∀ {us : List (Key × U)} {xs : List (Key × V)}, RKs S α H us xs → us.length = xs.length
  | _, _, .nil => rfl
  | _, _, .cons _ r => congrArg (· + 1) (RKs.len r)
theorem cS_len (hf : Fit X S) : CallR X (.builtin "len") (rSs S cLen) := by
  intro pins s σ H xs us Q I r hh
  obtain ⟨α, h, vs, rl, rs, p⟩ := hh
  match vs, rs, p with
  | [], _, p => exact (no_pu p rfl).elim
  | _ :: _ :: _, _, p => exact (no_pu p rfl).elim
  | [u], rs, p =>
    obtain ⟨x, rfl, rx⟩ := rs.one
    have p : PU S α H ((lenU h u).map fun n => (.int n, h)) Q := p
    cases e : lenU h u with
    | none => rw [e] at p; exact (no_pu p rfl).elim
    | some n =>
      rw [e] at p
      have q := PU.val (show PU S α H (some (.int (n : Nat), h)) Q from p) rl (.int _)
      have seq : ∀ us, sq h u = some us → us.length = n → wpAny (model X.prog X.w) X.A (call (.builtin "len") _) (EP X pins σ Q) X.xe s := fun vs ev en => by
        obtain ⟨pa, ys, rfl, hq, rs⟩ := sq_of rl ev rx
        exact k_len hf.K pins s σ H _ us Q I r ⟨pa, ys, rfl, hq, by rw [← rs.len, en]; exact q⟩
      cases u with
      | str z =>
        rw [lenU] at e
        by_cases hl : z.length ≤ sizeLine
        · rw [if_pos hl] at e; cases e; cases rx
          exact call_len_str pins s σ H _ us Q I r ⟨z, rfl, hl, q⟩
        · rw [if_neg hl] at e; cases e
      | set ns =>
        cases e
        cases rx with
        | set hx => exact call_lenSet pins s σ H _ us Q I r ⟨_, _, _, rfl, hx.1, q⟩
      | ref a =>
        cases eq : h[a]? with
        | none => rw [lenU, eq] at e; cases e
        | some o =>
          rw [lenU, eq] at e
          cases o with
          | lst us => exact seq us (its_ref eq) (Option.some.inj e)
          | dK us =>
            cases e
            cases rx with
            | ref hp =>
              obtain ⟨kvs, h1, h2⟩ := rl.get hp eq
              exact call_lenD pins s σ H _ _ Q I r ⟨_, kvs, rfl, h1, by rw [← h2.len]; exact q⟩
          | ins c fs => cases e
      | tup us => exact seq us rfl (Option.some.inj e)
      | lst us => exact seq us rfl (Option.some.inj e)
      | scr us => exact seq us rfl (Option.some.inj e)
      | _ => cases e
@[simp] def kindU (h : PH) : U → Option String
  | .non => some "NoneType"
  | .bl _ => some "bool"
  | .int _ => some "int"
  | .str _ => some "str"
  | .tup _ => some "tuple"
  | .lst _ => some "list"
  | .scr _ => some "list"
  | .ref a => (its h (.ref a)).map fun _ => "list"
  | _ => none
theorem kindU_of {α : Am} {H : Hp} {h : PH} (rl : Rl S α H h) {u : U} {x : V} {n : String} (e : kindU h u = some n) (r : RU S α H u x) : kindV S.K H x n := by
  cases u with
  | ref a =>
    rw [kindU] at e
    cases q : its h (.ref a) with
    | none => rw [q] at e; cases e
    | some us =>
      rw [q] at e; cases e
      obtain ⟨p, xs, rfl, hp, _⟩ := its_of rl q r
      exact .inl ⟨rfl, xs, SqL.of hp⟩
  | tup us => cases e; cases r with | tup a b => exact .inr ⟨rfl, _, a.sq⟩
  | lst us => cases e; cases r with | lst a b => exact .inl ⟨rfl, _, SqL.of a.1⟩
  | scr us => cases e; cases r with | scr a b => exact .inl ⟨rfl, _, a.sq⟩
  | non => cases e; cases r; rfl
  | bl _ => cases e; cases r; rfl
  | int _ => cases e; cases r; rfl
  | str _ => cases e; cases r; rfl
  | _ => cases e
@[simp] def eIsi (T : String) (fa : EF) : EF := fun ρ h => bnd (fa ρ h) fun u h1 => (kindU h1 u).map fun n => (.bl (isa n T), h1)
theorem s_isi {T : String} (hf : Fit X S) (hT : isT T) (h : PE X e (tCB (rIsi S.K) (tCons (tS S fa) (tCons (tC (.ty T)) tNil)))) : PE X e (tS S (eIsi T fa)) := h.wk fun σ H Q ⟨α, ρ, h, re, rl, w, h3, e, k⟩ => by
  obtain ⟨u, h1, e1, e⟩ := bnd_eq e
  refine ⟨α, ρ, h, re, rl, u, h1, e1, fun α1 H1 x ex1 rl1 ru => ?_⟩
  cases q : kindU h1 u with
  | none => rw [q] at e; cases e
  | some n =>
    rw [q] at e; cases e
    exact ⟨x, n, T, rfl, hT, kindU_of rl1 q ru, k α1 H1 _ ex1 rl1 (.bl _)⟩
@[simp] def eIsi2 (T T' : String) (fa : EF) : EF := fun ρ h => bnd (fa ρ h) fun u h1 => match u with
  | .non => some (.bl false, h1)
  | u => (kindU h1 u).map fun n => (.bl (isa n T || isa n T'), h1)
@[simp] def cList (m : Bool) : GC := fun h us => match us with
  | [u] => (sq h u).bind fun vs => mk m vs h
  | _ => none
theorem cS_list (hf : Fit X S) {m : Bool} : CallR X (.type "list") (rSs S (cList m)) := by
  intro pins s σ H xs us Q I r hh
  obtain ⟨α, h, vs, rl, rs, p⟩ := hh
  match vs, rs, p with
  | [], _, p => exact (no_pu p rfl).elim
  | _ :: _ :: _, _, p => exact (no_pu p rfl).elim
  | [u], rs, p =>
    obtain ⟨x, rfl, rx⟩ := rs.one
    have p : PU S α H ((sq h u).bind fun vs => mk m vs h) Q := p
    cases e : sq h u with
    | none => rw [e] at p; exact (no_pu p rfl).elim
    | some vs =>
      rw [e] at p
      have p : PU S α H (mk m vs h) Q := p
      obtain ⟨pa, ys, rfl, hq, rs⟩ := sq_of rl e rx
      exact k_listOf hf.K pins s σ H _ us Q I r ⟨pa, ys, rfl, hq, fun z hz => p.mk rl rs hz⟩
@[simp] def cTuple : GC := fun h us => match us with
  | [.tup vs] => some (.tup vs, h)
  | [.scr vs] => some (.tup vs, h)
  | [u] => (its h u).map fun vs => (.tup vs, h)
  | _ => none
def numsP (h : PH) (u : U) : Option (List Int) := (sq h u).bind intsU
theorem numsP_of {α : Am} {H : Hp} {h : PH} (rl : Rl S α H h) {u : U} {x : V} {ns : List Int} (e : numsP h u = some ns) (r : RU S α H u x) : ∃ b p, x = .ref p ∧ Sq b S.K H p (ns.map V.int) := by
  unfold numsP at e
  cases q : sq h u with
  | none => rw [q] at e; cases e
  | some us =>
    rw [q] at e
    have e : intsU us = some ns := e
    obtain ⟨p, xs, rfl, hq, rs⟩ := sq_of rl q r
    rw [intsU_eq e] at rs
    rw [rs.ints] at hq
    rcases hq with hq | hq
    · exact ⟨true, p, rfl, hq⟩
    · exact ⟨false, p, rfl, hq⟩
@[simp] def cNums (C : List Int → Prop) [DecidablePred C] (g : List Int → Int) : GC := fun h us => match us with
  | [u] => (numsP h u).bind fun ns => if C ns then some (.int (g ns), h) else none
  | _ => none
theorem cS_nums {f : Value} {C : List Int → Prop} [DecidablePred C] {g : List Int → Int} (o : CallR X f (fun vs H Q => ∃ (b : Bool) (a : Addr) (ns : List Int), vs = [V.ref a] ∧ Sq b S.K H a (ns.map V.int) ∧ C ns ∧ Q (.int (g ns)) H)) : CallR X f (rSs S (cNums C g)) := by
  intro pins s σ H xs us Q I r hh
  obtain ⟨α, h, vs, rl, rs, p⟩ := hh
  match vs, rs, p with
  | [], _, p => exact (no_pu p rfl).elim
  | _ :: _ :: _, _, p => exact (no_pu p rfl).elim
  | [u], rs, p =>
    obtain ⟨x, rfl, rx⟩ := rs.one
    have p : PU S α H ((numsP h u).bind fun ns => if C ns then some (.int (g ns), h) else none) Q := p
    cases e : numsP h u with
    | none => rw [e] at p; exact (no_pu p rfl).elim
    | some ns =>
      rw [e] at p
      have p : PU S α H (if C ns then some (.int (g ns), h) else none) Q := p
      by_cases hc : C ns
      · rw [if_pos hc] at p
        obtain ⟨b, pa, rfl, hq⟩ := numsP_of rl e rx
        exact o pins s σ H _ us Q I r ⟨b, pa, ns, rfl, hq, hc, p.val rl (.int _)⟩
      · rw [if_neg hc] at p; exact (no_pu p rfl).elim
def maxL : List Int → Int
  | [] => 0
  | [x] => x
  | x :: y :: r => max x (maxL (y :: r))
def minL : List Int → Int
  | [] => 0
  | [x] => x
  | x :: y :: r => min x (minL (y :: r))
theorem maxL_mem : ∀ {ns : List Int}, ns ≠ [] → maxL ns ∈ ns
  | [], h => absurd rfl h
  | [x], _ => List.mem_cons_self
  | x :: y :: r, _ => by
    have ih := maxL_mem (ns := y :: r) (by simp)
    rw [maxL]
    by_cases q : x ≤ maxL (y :: r)
    · rw [Int.max_eq_right q]; exact List.mem_cons_of_mem _ ih
    · rw [Int.max_eq_left (by omega)]; exact List.mem_cons_self
theorem maxL_ge : ∀ {ns : List Int} {m : Int}, m ∈ ns → m ≤ maxL ns
  | [x], m, h => by rw [List.mem_singleton.mp h]; exact Int.le_refl _
  | x :: y :: r, m, h => by
    rw [maxL]
    rcases List.mem_cons.mp h with e | e
    · rw [e]; exact Int.le_max_left _ _
    · exact Int.le_trans (maxL_ge e) (Int.le_max_right _ _)
theorem minL_mem : ∀ {ns : List Int}, ns ≠ [] → minL ns ∈ ns
  | [], h => absurd rfl h
  | [x], _ => List.mem_cons_self
  | x :: y :: r, _ => by
    have ih := minL_mem (ns := y :: r) (by simp)
    rw [minL]
    by_cases q : x ≤ minL (y :: r)
    · rw [Int.min_eq_left q]; exact List.mem_cons_self
    · rw [Int.min_eq_right (by omega)]; exact List.mem_cons_of_mem _ ih
theorem minL_le : ∀ {ns : List Int} {m : Int}, m ∈ ns → minL ns ≤ m
  | [x], m, h => by rw [List.mem_singleton.mp h]; exact Int.le_refl _
  | x :: y :: r, m, h => by
    rw [minL]
    rcases List.mem_cons.mp h with e | e
    · rw [e]; exact Int.min_le_left _ _
    · exact Int.le_trans (Int.min_le_right _ _) (minL_le e)
@[simp] def cSum : GC := cNums (fun _ => True) List.sum
@[simp] def cMaxL : GC := cNums (fun ns => 0 < ns.length) maxL
@[simp] def cMinL : GC := cNums (fun ns => 0 < ns.length) minL
theorem cS_sum (hf : Fit X S) (hc : X.calm = true) : CallR X (.builtin "sum") (rSs S cSum) := cS_nums fun pins s σ H xs us Q I r ⟨b, a, ns, e, hq, _, q⟩ => k_sumS hf.K hc pins s σ H xs us Q I r ⟨b, a, ns, e, hq, q⟩
def argsI : List U → Option (List Int) := intsU
@[simp] def cI (C : List Int → Prop) [DecidablePred C] (g : List Int → U) : GC := fun h us => (intsU us).bind fun ns => if C ns then some (g ns, h) else none
theorem cS_I {f : Value} {C : List Int → Prop} [DecidablePred C] {g : List Int → U} {g' : List Int → V} (hg : ∀ ns α H, RU S α H (g ns) (g' ns)) (o : CallR X f (fun vs H Q => ∃ (ns : List Int), vs = ns.map V.int ∧ C ns ∧ Q (g' ns) H)) : CallR X f (rSs S (cI C g)) := by
  intro pins s σ H xs us Q I r hh
  obtain ⟨α, h, vs, rl, rs, p⟩ := hh
  unfold cI at p
  cases e : intsU vs with
  | none => rw [e] at p; exact (no_pu p rfl).elim
  | some ns =>
    rw [e] at p
    have p : PU S α H (if C ns then some (g ns, h) else none) Q := p
    by_cases hc : C ns
    · rw [if_pos hc] at p
      rw [intsU_eq e] at rs
      exact o pins s σ H xs us Q I r ⟨ns, rs.ints, hc, p.val rl (hg ns _ _)⟩
    · rw [if_neg hc] at p; exact (no_pu p rfl).elim
@[simp] def cMax2 : GC := cI (fun ns => ns.length = 2) fun ns => .int (maxL ns)
@[simp] def cMin2 : GC := cI (fun ns => ns.length = 2) fun ns => .int (minL ns)
@[simp] def cMax3 : GC := cI (fun ns => ns.length = 3) fun ns => .int (maxL ns)
@[simp] def cAbs : GC := cI (fun ns => ns.length = 1) fun ns => .int ((ns.headD 0).natAbs : Int)
theorem len2 {ns : List Int} (h : ns.length = 2) : ∃ i j, ns = [i, j] := by
  match ns, h with
  | [i, j], _ => exact ⟨i, j, rfl⟩
theorem cS_max2 (hc : X.calm = true) : CallR X (.builtin "max") (rSs S cMax2) := cS_I (g' := fun ns => .int (maxL ns)) (fun _ _ _ => .int _) fun pins s σ H xs us Q I r ⟨ns, e, hl, q⟩ => by
  obtain ⟨i, j, rfl⟩ := len2 hl
  refine call_max2 hc pins s σ H xs us Q I r ⟨i, j, e, ?_⟩
  have : (if j > i then j else i) = maxL [i, j] := by
    show _ = max i j
    by_cases q : j > i
    · rw [if_pos q, Int.max_eq_right (by omega)]
    · rw [if_neg q, Int.max_eq_left (by omega)]
  rw [this]; exact q
theorem cS_min2 (hc : X.calm = true) : CallR X (.builtin "min") (rSs S cMin2) := cS_I (g' := fun ns => .int (minL ns)) (fun _ _ _ => .int _) fun pins s σ H xs us Q I r ⟨ns, e, hl, q⟩ => by
  obtain ⟨i, j, rfl⟩ := len2 hl
  refine call_min2 hc pins s σ H xs us Q I r ⟨i, j, e, ?_⟩
  have : (if j < i then j else i) = minL [i, j] := by
    show _ = min i j
    by_cases q : j < i
    · rw [if_pos q, Int.min_eq_right (by omega)]
    · rw [if_neg q, Int.min_eq_left (by omega)]
  rw [this]; exact q
theorem cS_abs : CallR X (.builtin "abs") (rSs S cAbs) := cS_I (g' := fun ns => .int ((ns.headD 0).natAbs : Int)) (fun _ _ _ => .int _) fun pins s σ H xs us Q I r ⟨ns, e, hl, q⟩ => by
  match ns, hl with
  | [i], _ =>
    refine call_abs pins s σ H xs us Q I r ⟨i, e, ?_⟩
    have : (if i < 0 then -i else i) = (i.natAbs : Int) := by split <;> omega
    rw [this]; exact q
@[simp] def cDivmod : GC := fun h us => match us with
  | [.int i, .int j] => if 0 < j ∧ j < 1073741824 then some (.tup [.int (i / j), .int (i % j)], h) else none
  | _ => none
theorem cS_divmod : CallR X (.builtin "divmod") (rSs S cDivmod) := by
  intro pins s σ H xs us Q I r hh
  obtain ⟨α, h, vs, rl, rs, p⟩ := hh
  by_cases hv : ∃ i j, vs = [.int i, .int j]
  · obtain ⟨i, j, rfl⟩ := hv
    have p : PU S α H (if 0 < j ∧ j < 1073741824 then some (.tup [.int (i / j), .int (i % j)], h) else none) Q := p
    by_cases hl : 0 < j ∧ j < 1073741824
    · rw [if_pos hl] at p
      obtain ⟨x, y, rfl, rx, ry⟩ := rs.two
      cases rx; cases ry
      exact call_divmod pins s σ H _ us Q I r ⟨i, j, rfl, hl, fun z hz => p.tup rl (.cons (.int _) (.cons (.int _) .nil)) hz⟩
    · rw [if_neg hl] at p; exact (no_pu p rfl).elim
  · refine (no_pu p ?_).elim
    unfold cDivmod
    split
    · exact absurd ⟨_, _, rfl⟩ hv
    · rfl
@[simp] def cInt : GC := fun h us => match us with
  | [.int i] => some (.int i, h)
  | [.bl b] => some (.int (if b = true then 1 else 0), h)
  | _ => none
theorem cS_int : CallR X (.type "int") (rSs S cInt) := by
  intro pins s σ H xs us Q I r hh
  obtain ⟨α, h, vs, rl, rs, p⟩ := hh
  match vs, rs, p with
  | [], _, p => exact (no_pu p rfl).elim
  | a :: _ :: _, _, p => exact (no_pu p (by cases a <;> rfl)).elim
  | [u], rs, p =>
    obtain ⟨x, rfl, rx⟩ := rs.one
    cases u with
    | int i => cases rx; exact call_int1 pins s σ H _ us Q I r (.inl ⟨i, rfl, PU.val p rl (.int _)⟩)
    | bl b => cases rx; exact call_int1 pins s σ H _ us Q I r (.inr ⟨b, rfl, PU.val p rl (.int _)⟩)
    | _ => exact (no_pu p rfl).elim
def strOkD (d : PyData) : Prop := d.showable = true ∧ d.hasDict = false ∧ d.depth ≤ 64 ∧ d.shown.length ≤ sizeLine
instance (d : PyData) : Decidable (strOkD d) := by unfold strOkD; infer_instance
@[simp] def cStr : GC := fun h us => match us with
  | [u] => (dat h u).bind fun d => if strOkD d then some (.str (txtD d), h) else none
  | _ => none
def blsU : List U → Option (List Bool)
  | [] => some []
  | .bl i :: r => (blsU r).map (i :: ·)
  | _ :: _ => none
theorem blsU_eq : ∀ {us : List U} {ns : List Bool}, blsU us = some ns → us = ns.map U.bl
  | [], _, h => by cases h; rfl
  | u :: r, ns, h => by
    cases u with
    | bl i =>
      cases e : blsU r with
      | none => rw [blsU, e] at h; cases h
      | some ms => rw [blsU, e] at h; cases h; rw [blsU_eq e]; rfl
    | _ => cases h
@[simp] theorem blsU_map : ∀ ns : List Bool, blsU (ns.map U.bl) = some ns
  | [] => rfl
  | i :: r => by rw [List.map_cons, blsU, blsU_map r]; rfl
@[simp] def cBls (g : List Bool → Bool) : GC := fun h us => match us with
  | [u] => (its h u).bind fun vs => (blsU vs).map fun bs => (.bl (g bs), h)
  | _ => none
theorem cS_bls {f : Value} {g : List Bool → Bool} (o : CallR X f (fun vs H Q => ∃ (a : Addr) (bs : List Bool), vs = [V.ref a] ∧ SqL S.K H a (bs.map V.bl) ∧ Q (.bl (g bs)) H)) : CallR X f (rSs S (cBls g)) := by
  intro pins s σ H xs us Q I r hh
  obtain ⟨α, h, vs, rl, rs, p⟩ := hh
  match vs, rs, p with
  | [], _, p => exact (no_pu p rfl).elim
  | _ :: _ :: _, _, p => exact (no_pu p rfl).elim
  | [u], rs, p =>
    obtain ⟨x, rfl, rx⟩ := rs.one
    have p : PU S α H ((its h u).bind fun vs => (blsU vs).map fun bs => (.bl (g bs), h)) Q := p
    cases e : its h u with
    | none => rw [e] at p; exact (no_pu p rfl).elim
    | some vs =>
      rw [e] at p
      cases e2 : blsU vs with
      | none => exact (no_pu p (by show ((blsU vs).map _) = none; rw [e2]; rfl)).elim
      | some bs =>
        have p : PU S α H ((blsU vs).map fun bs => (.bl (g bs), h)) Q := p
        rw [e2] at p
        obtain ⟨pa, ys, rfl, hq, rs⟩ := its_of rl e rx
        rw [blsU_eq e2] at rs
        rw [rs.bls] at hq
        exact o pins s σ H _ us Q I r ⟨pa, bs, rfl, SqL.of hq, PU.val p rl (.bl _)⟩
@[simp] def cAll : GC := cBls fun bs => bs.all id
@[simp] def cAny : GC := cBls fun bs => bs.any id
theorem cS_all (hf : Fit X S) (hc : X.calm = true) : CallR X (.builtin "all") (rSs S cAll) := cS_bls (k_all hc hf.K)
theorem cS_any (hf : Fit X S) (hc : X.calm = true) : CallR X (.builtin "any") (rSs S cAny) := cS_bls (k_any hc hf.K)
@[simp] def cSet : GC := fun h us => match us with
  | [u] => (its h u).bind fun vs => (intsU vs).bind fun ns => if ns.length ≤ 4000 then some (.set (dedup ns), h) else none
  | _ => none
end
end L2
end
section
set_option Elab.async false
set_option maxRecDepth 100000
set_option linter.unusedVariables false
set_option maxHeartbeats 1000000
namespace L2
open PySem PySem.Spec PySem.F PyProof.Rows
inductive Fl where
  | nx (ρ : En) | rt (u : U) | bk (ρ : En) | ct (ρ : En)
abbrev SF := En → PH → Option (Fl × PH)
def EndOk (S : Sx) (α : Am) (H : Hp) (D : Ends) (h' : PH) : Fl → Prop
  | .nx ρ' => ∀ α' H' σ', Ex α H α' H' → Rl S α' H' h' → RE S α' H' ρ' σ' → D.nx σ' H'
  | .rt u => ∀ α' H' x, Ex α H α' H' → Rl S α' H' h' → RU S α' H' u x → D.rt x H'
  | .bk ρ' => ∀ α' H' σ', Ex α H α' H' → Rl S α' H' h' → RE S α' H' ρ' σ' → D.bk σ' H'
  | .ct ρ' => ∀ α' H' σ', Ex α H α' H' → Rl S α' H' h' → RE S α' H' ρ' σ' → D.ct σ' H'
def PSt (S : Sx) (α : Am) (H : Hp) (r : Option (Fl × PH)) (D : Ends) : Prop := ∃ fl h', r = some (fl, h') ∧ EndOk S α H D h' fl
def tSt (S : Sx) (g : SF) : TS := fun D σ H => ∃ α ρ h, RE S α H ρ σ ∧ Rl S α H h ∧ PSt S α H (g ρ h) D
section
variable {X : Cx} {S : Sx} {α α' : Am} {H H' : Hp} {h h' : PH}
theorem PS.wk {e : Stmt} {t t' : TS} (q : PS X e t) (w : ∀ D σ H, t' D σ H → t D σ H) : PS X e t' := fun pins s σ H D I p => q pins s σ H D I (w D σ H p)
theorem PSs.wk {e : List Stmt} {t t' : TS} (q : PSs X e t) (w : ∀ D σ H, t' D σ H → t D σ H) : PSs X e t' := fun pins s σ H D I p => q pins s σ H D I (w D σ H p)
theorem EndOk.ex {D : Ends} (e : Ex α H α' H') : ∀ {fl : Fl}, EndOk S α H D h' fl → EndOk S α' H' D h' fl
  | .nx _, k => fun a b c x => k a b c (e.trans x)
  | .rt _, k => fun a b c x => k a b c (e.trans x)
  | .bk _, k => fun a b c x => k a b c (e.trans x)
  | .ct _, k => fun a b c x => k a b c (e.trans x)
@[simp] def sNil : SF := fun ρ h => some (.nx ρ, h)
@[simp] def sSeq (a b : SF) : SF := fun ρ h => bnd (a ρ h) fun fl h1 => match fl with
  | .nx ρ1 => b ρ1 h1
  | fl => some (fl, h1)
variable {st : Stmt} {rest : List Stmt} {a b : SF} {pos : Pos} {e c : Expr} {fa : EF} {ba : BF}
theorem ss_nil : PSs X [] (tSt S sNil) := pss_nil.wk fun D σ H ⟨α, ρ, h, re, rl, fl, h', e, k⟩ => by cases e; exact k α H σ (Ex.refl _ _) rl re
theorem tSt_seq {D : Ends} {σ : St} (p : tSt S (sSeq a b) D σ H) : tSt S a { D with nx := tSt S b D } σ H := by
  obtain ⟨α, ρ, h, re, rl, fl, h', e, k⟩ := p
  obtain ⟨f1, h1, e1, e2⟩ := bnd_eq e
  refine ⟨α, ρ, h, re, rl, f1, h1, e1, ?_⟩
  cases f1 with
  | nx ρ1 => exact fun α1 H1 σ1 ex1 rl1 re1 => ⟨α1, ρ1, h1, re1, rl1, fl, h', e2, k.ex ex1⟩
  | rt u => cases e2; exact k
  | bk u => cases e2; exact k
  | ct u => cases e2; exact k
theorem ss_cons (h1 : PS X st (tSt S a)) (h2 : PSs X rest (tSt S b)) : PSs X (st :: rest) (tSt S (sSeq a b)) := (pss_cons h1 h2).wk fun _ _ _ => tSt_seq
theorem ss_one (h1 : PS X st (tSt S a)) : PSs X [st] (tSt S a) := pss_one h1
@[simp] def sBreak : SF := fun ρ h => some (.bk ρ, h)
@[simp] def sCont : SF := fun ρ h => some (.ct ρ, h)
theorem s_break : PS X (.Break pos) (tSt S sBreak) := ps_break.wk fun D σ H ⟨α, ρ, h, re, rl, fl, h', e, k⟩ => by cases e; exact k α H σ (Ex.refl _ _) rl re
@[simp] def sEx (fa : EF) : SF := fun ρ h => bnd (fa ρ h) fun _ h1 => some (.nx ρ, h1)
@[simp] def sRet (fa : EF) : SF := fun ρ h => bnd (fa ρ h) fun u h1 => some (.rt u, h1)
@[simp] def sRetN : SF := fun _ h => some (.rt .non, h)
theorem s_expr (he : PE X e (tS S fa)) (hs : swapsWith e none pos.line X.env = pure false := by rfl) : PS X (.Expr e pos) (tSt S (sEx fa)) := (ps_expr he hs).wk fun D σ H ⟨α, ρ, h, re, rl, fl, h', e, k⟩ => by
  obtain ⟨u, h1, e1, e2⟩ := bnd_eq e
  cases e2
  exact ⟨α, ρ, h, re, rl, u, _, e1, fun α1 H1 x ex1 rl1 ru => k α1 H1 σ ex1 rl1 (re.ex ex1)⟩
theorem s_ret (he : PE X e (tS S fa)) : PS X (.Return (some e) pos) (tSt S (sRet fa)) := (ps_ret he).wk fun D σ H ⟨α, ρ, h, re, rl, fl, h', e, k⟩ => by
  obtain ⟨u, h1, e1, e2⟩ := bnd_eq e
  cases e2
  exact ⟨α, ρ, h, re, rl, u, _, e1, k⟩
@[simp] def sIf (t : BF) (a b : SF) : SF := fun ρ h => bnd (t ρ h) fun k h1 => if k = true then a ρ h1 else b ρ h1
theorem s_ifS {x y : List Stmt} (hc : PT X c (tT S ba)) (ha : PSs X x (tSt S a)) (hb : PSs X y (tSt S b)) : PS X (.If c x y pos) (tSt S (sIf ba a b)) := (ps_if hc ha hb).wk fun D σ H ⟨α, ρ, h, re, rl, fl, h', e, k⟩ => by
  obtain ⟨u, h1, e1, e2⟩ := bnd_eq e
  refine ⟨α, ρ, h, re, rl, u, h1, e1, fun α1 H1 ex1 rl1 => ?_⟩
  cases u with
  | true => exact ⟨α1, ρ, h1, re.ex ex1, rl1, fl, h', e2, k.ex ex1⟩
  | false => exact ⟨α1, ρ, h1, re.ex ex1, rl1, fl, h', e2, k.ex ex1⟩
abbrev GF := U → En → PH → Option (En × PH)
def PG1 (S : Sx) (α : Am) (H : Hp) (σ : St) (is : List Nat) (r : Option (En × PH)) (Q : St → Hp → Prop) : Prop := ∃ ρ' h', r = some (ρ', h') ∧ ∀ α' H' σ', Ex α H α' H' → Rl S α' H' h' → RE S α' H' ρ' σ' → (∀ j, j ∉ is → σ'[j]? = σ[j]?) → σ'.length = σ.length → Q σ' H'
def tG (S : Sx) (is : List Nat) (f : GF) : TG := fun v σ H Q => ∃ α ρ h u, RE S α H ρ σ ∧ Rl S α H h ∧ RU S α H u v ∧ PG1 S α H σ is (f u ρ h) Q
def tGs (S : Sx) (is : List Nat) (f : List U → En → PH → Option (En × PH)) : TGs := fun vs σ H Q => ∃ α ρ h us, RE S α H ρ σ ∧ Rl S α H h ∧ RUs S α H us vs ∧ PG1 S α H σ is (f us ρ h) Q
theorem PG.wk {e : Expr} {t t' : TG} (q : PG X e t) (w : ∀ v σ H Q, t' v σ H Q → t v σ H Q) : PG X e t' := fun pins s σ H v u Q I r p => q pins s σ H v u Q I r (w v σ H Q p)
theorem PGs.wk {e : List Expr} {t t' : TGs} (q : PGs X e t) (w : ∀ v σ H Q, t' v σ H Q → t v σ H Q) : PGs X e t' := fun pins s σ H v u Q I r p => q pins s σ H v u Q I r (w v σ H Q p)
theorem RE.set {ρ : En} {σ : St} {u : U} {v : V} (re : RE S α H ρ σ) (r : RU S α H u v) (i : Nat) : RE S α H (ρ.set i (some u)) (σ.set i (some v)) := by
  refine ⟨by rw [List.length_set, List.length_set]; exact re.1, fun j w q => ?_⟩
  by_cases hj : i = j
  · subst hj
    have hl : i < ρ.length := by
      have := (List.getElem?_eq_some_iff.mp q).1
      rwa [List.length_set] at this
    rw [List.getElem?_set_self hl] at q
    cases q
    exact ⟨v, List.getElem?_set_self (by rw [← re.1]; exact hl), r⟩
  · rw [List.getElem?_set_ne hj] at q
    rw [List.getElem?_set_ne hj]
    exact re.2 j w q
@[simp] def gN (i : Nat) : GF := fun u ρ h => some (ρ.set i (some u), h)
theorem sg_name {i : Nat} {x : Str} (hN : X.N.Nodup) (hi : X.N[i]? = some x) (hx : Loc X.env.scope x) (hf : X.fn x = true ∨ X.env.scope.names.lookup x = some .local := by first | exact .inl rfl | exact .inr rfl | assumption) : PG X (.Name x pos) (tG S [i] (gN i)) :=
  (pg_name hN hi hx hf).wk fun v σ H Q ⟨α, ρ, h, u, re, rl, ru, ρ', h', e, k⟩ => by
    cases e
    exact k α H _ (Ex.refl _ _) rl (re.set ru i) (fun j hj => List.getElem?_set_ne (fun z => hj (by rw [z]; exact List.mem_singleton.mpr rfl))) (List.length_set ..)
@[simp] def gsNil : List U → En → PH → Option (En × PH) := fun us ρ h => match us with
  | [] => some (ρ, h)
  | _ => none
@[simp] def gsCons (f : GF) (g : List U → En → PH → Option (En × PH)) : List U → En → PH → Option (En × PH) := fun us ρ h => match us with
  | u :: r => bnd (f u ρ h) fun ρ1 h1 => g r ρ1 h1
  | [] => none
theorem sgs_nil : PGs X [] (tGs S [] gsNil) := pgs_nil.wk fun v σ H Q ⟨α, ρ, h, us, re, rl, ru, ρ', h', e, k⟩ => by
  cases ru with
  | nil => cases e; exact ⟨rfl, k α H σ (Ex.refl _ _) rl re (fun _ _ => rfl) rfl⟩
  | cons _ _ => cases e
theorem sgs_cons {is js : List Nat} {es : List Expr} {f : GF} {g : List U → En → PH → Option (En × PH)} (h1 : PG X e (tG S is f)) (h2 : PGs X es (tGs S js g))
    (hs : (assignEach (e :: es) X.env).map (·.2) = assign e X.env :: (assignEach es X.env).map (·.2) := by rfl) : PGs X (e :: es) (tGs S (is ++ js) (gsCons f g)) := (pgs_cons h1 h2 hs).wk fun v σ H Q ⟨α, ρ, h, us, re, rl, ru, ρ', h', e, k⟩ => by
  cases ru with
  | nil => cases e
  | cons r rr =>
    obtain ⟨ρ1, hh1, e1, e2⟩ := bnd_eq e
    exact ⟨_, _, rfl, α, ρ, h, _, re, rl, r, ρ1, hh1, e1, fun α1 H1 σ1 ex1 rl1 re1 o1 l1 => ⟨α1, ρ1, hh1, _, re1, rl1, rr.ex ex1, ρ', h', e2, fun α2 H2 σ2 ex2 rl2 re2 o2 l2 => k α2 H2 σ2 (ex1.trans ex2) rl2 re2 (fun j hj => (o2 j fun z => hj (List.mem_append_right _ z)).trans (o1 j fun z => hj (List.mem_append_left _ z))) (l2.trans l1)⟩⟩
@[simp] def gT (n : Nat) (g : List U → En → PH → Option (En × PH)) : GF := fun u ρ h => match u with
  | .tup us => if us.length = n then g us ρ h else none
  | _ => none
theorem sg_tup {is : List Nat} {es : List Expr} {k : Nat} {n : Nat} {g : List U → En → PH → Option (En × PH)} (hf : Fit X S) (hc : X.calm = true) (h : PGs X es (tGs S is g)) (hn : (assignEach es X.env).length = n := by rfl) (hst : (assignEach es X.env).findIdx? (·.1) = none := by rfl) : PG X (.Tuple es k pos) (tG S is (gT n g)) :=
  (k_gTup hf.K hc h hn hst).wk fun v σ H Q ⟨α, ρ, h, u, re, rl, ru, ρ', h', e, k⟩ => by
    cases u with
    | tup us =>
      cases ru with
      | tup hq rs =>
        have e : (if us.length = n then g us ρ h else none) = some (ρ', h') := e
        by_cases hl : us.length = n
        · rw [if_pos hl] at e
          exact ⟨_, _, rfl, hq.sq, by rw [← rs.len]; exact hl, α, ρ, h, us, re, rl, rs, ρ', h', e, k⟩
        · rw [if_neg hl] at e; cases e
    | _ => cases e
def putU {β : Type} (kus : List (Key × β)) (k : Key) (v : β) : List (Key × β) :=
  if (kus.any fun kv => decide (kv.1 = k)) = true then kus.map (fun kv => if kv.1 = k then (kv.1, v) else kv) else kus ++ [(k, v)]
theorem RKs.any {k : Key} : ∀ {kus : List (Key × U)} {kvs : List (Key × V)}, RKs S α H kus kvs → (kus.any fun kv => decide (kv.1 = k)) = (kvs.any fun kv => decide (kv.1 = k))
  | _, _, .nil => rfl
  | _, _, .cons a r => by rw [List.any_cons, List.any_cons, RKs.any r]
theorem RKs.app1 {k : Key} {u : U} {x : V} (a : RU S α H u x) : ∀ {kus : List (Key × U)} {kvs : List (Key × V)}, RKs S α H kus kvs → RKs S α H (kus ++ [(k, u)]) (kvs ++ [(k, x)])
  | _, _, .nil => .cons a .nil
  | _, _, .cons b r => .cons b (RKs.app1 a r)
theorem RKs.repl {k : Key} {u : U} {x : V} (a : RU S α H u x) : ∀ {kus : List (Key × U)} {kvs : List (Key × V)}, RKs S α H kus kvs → RKs S α H (kus.map fun kv => if kv.1 = k then (kv.1, u) else kv) (kvs.map fun kv => if kv.1 = k then (kv.1, x) else kv)
  | _, _, .nil => .nil
  | _, _, .cons (k := k') b r => by
    rw [List.map_cons, List.map_cons]
    by_cases q : k' = k
    · simp only [q, if_true]; exact .cons a (RKs.repl a r)
    · simp only [q, if_false]; exact .cons b (RKs.repl a r)
theorem RKs.put {k : Key} {u : U} {x : V} (a : RU S α H u x) {kus : List (Key × U)} {kvs : List (Key × V)} (r : RKs S α H kus kvs) : RKs S α H (putU kus k u) (putK kvs k x) := by
  unfold putU putK
  rw [r.any]
  by_cases q : (kvs.any fun kv => decide (kv.1 = k)) = true
  · rw [if_pos q, if_pos q]; exact r.repl a
  · rw [if_neg q, if_neg q]; exact r.app1 a
def setP (h : PH) (o i v : U) : Option PH := match o with
  | .ref a => match h[a]? with
    | some (.lst us) => match i with
      | .int k => (ixN us.length k).map fun j => h.set a (.lst (us.set j v))
      | _ => none
    | some (.dK kus) => (keyU i).bind fun k => if kus.length < sizeLine then some (h.set a (.dK (putU kus k v))) else none
    | _ => none
  | _ => none
def rSetS (S : Sx) : TSet := fun o i v H Q => ∃ α h a b u, Rl S α H h ∧ RU S α H a o ∧ RU S α H b i ∧ RU S α H u v ∧ ∃ h', setP h a b u = some h' ∧ ∀ α' H', Ex α H α' H' → Rl S α' H' h' → Q H'
theorem set_S (hu : X.A.units + 64 < cLine) : PSet X (rSetS S) := by
  intro pins s σ H o i v ov iv w Q I ro ri rv hh
  obtain ⟨α, h, a, b, u, rl, ra, rb, ru, h', e, k⟩ := hh
  cases a with
  | ref n =>
    cases ra with
    | @ref _ p hp =>
      rw [setP] at e
      cases q : h[n]? with
      | none => simp only [q] at e; cases e
      | some ob =>
        simp only [q] at e
        have ro' := rl.get hp q
        cases ob with
        | lst us =>
          obtain ⟨xs, h1, h2⟩ := ro'
          cases b with
          | int z =>
            cases rb
            simp only at e
            cases ez : ixN us.length z with
            | none => rw [ez] at e; cases e
            | some j =>
              rw [ez] at e; cases e
              have ex := Ex.wr rl hp (.lst (xs.set j v))
              exact set_list pins s σ H _ _ v ov iv w Q I ro ri rv ⟨p, xs, z, j, rfl, rfl, h1, by rw [← h2.len]; exact ez, k α _ ex (rl.wr hp ⟨_, upd_same, (h2.ex ex).set (ru.ex ex) j⟩)⟩
          | _ => cases e
        | dK kus =>
          obtain ⟨kvs, h1, h2⟩ := ro'
          simp only at e
          cases ek : keyU b with
          | none => rw [ek] at e; cases e
          | some kk =>
            rw [ek] at e
            have e : (if kus.length < sizeLine then some (h.set n (.dK (putU kus kk u))) else none) = some h' := e
            by_cases hl : kus.length < sizeLine
            · rw [if_pos hl] at e; cases e
              have ex := Ex.wr rl hp (.dK (putK kvs kk v))
              have hi := keyU_of ek rb
              refine set_dict (by omega) pins s σ H _ _ v ov iv w Q I ro ri rv ⟨p, _, rfl, ?_, k α _ ex (rl.wr hp ⟨_, upd_same, (h2.ex ex).put (ru.ex ex)⟩)⟩
              rw [hi]
              exact DPut.k h1 (by rw [← h2.len]; exact hl)
            · rw [if_neg hl] at e; cases e
        | ins c fs => cases e
  | _ => cases e
@[simp] def gSubU (fo fi : EF) : GF := fun v ρ h => bnd (fo ρ h) fun o h1 => bnd (fi ρ h1) fun i h2 => (setP h2 o i v).map fun h3 => (ρ, h3)
theorem sg_sub {o i : Expr} {fo fi : EF} (hu : X.A.units + 64 < cLine) (ho : PE X o (tS S fo)) (hi : PE X i (tS S fi))
    (ha : ∀ v, assign (.Subscript o i pos) X.env v = (do
      let ov ← holding [v] (eval o X.env)
      let iv ← holding [v, ov] (eval i X.env)
      standAt pos
      holding [v, ov, iv] (setItem ov iv v)
      release [v, ov, iv] []) := by intro _; rfl) : PG X (.Subscript o i pos) (tG S [] (gSubU fo fi)) := (pg_sub ho hi (set_S hu) ha).wk fun v σ H Q ⟨α, ρ, h, u, re, rl, ru, ρ', h', e, k⟩ => by
  obtain ⟨a, h1, e1, e⟩ := bnd_eq e
  obtain ⟨b, h2, e2, e⟩ := bnd_eq e
  cases es : setP h2 a b u with
  | none => rw [es] at e; cases e
  | some h3 =>
    rw [es] at e; cases e
    exact ⟨α, ρ, h, re, rl, a, h1, e1, fun α1 H1 x ex1 rl1 ra => ⟨α1, ρ, h1, re.ex ex1, rl1, b, h2, e2, fun α2 H2 y ex2 rl2 rb => ⟨α2, h2, a, b, u, rl2, ra.ex ex2, rb, ru.ex (ex1.trans ex2), _, es, fun α3 H3 ex3 rl3 => k α3 H3 σ ((ex1.trans ex2).trans ex3) rl3 (re.ex ((ex1.trans ex2).trans ex3)) (fun _ _ => rfl) rfl⟩⟩⟩
@[simp] def sAsg (fa : EF) (g : GF) : SF := fun ρ h => bnd (fa ρ h) fun u h1 => bnd (g u ρ h1) fun ρ1 h2 => some (.nx ρ1, h2)
theorem tSt_asg {is : List Nat} {g : GF} {D : Ends} {σ : St} (p : tSt S (sAsg fa g) D σ H) : tAsg (tS S fa) (tG S is g) D σ H := by
  obtain ⟨α, ρ, h, re, rl, fl, h', e, k⟩ := p
  obtain ⟨u, h1, e1, e⟩ := bnd_eq e
  obtain ⟨ρ1, h2, e2, e⟩ := bnd_eq e
  cases e
  exact ⟨α, ρ, h, re, rl, u, h1, e1, fun α1 H1 x ex1 rl1 ru => ⟨α1, ρ, h1, u, re.ex ex1, rl1, ru, ρ1, _, e2, fun α2 H2 σ2 ex2 rl2 re2 _ _ => k α2 H2 σ2 (ex1.trans ex2) rl2 re2⟩⟩
theorem s_asg {tg : Expr} {is : List Nat} {g : GF} (he : PE X e (tS S fa)) (hg : PG X tg (tG S is g)) (hs : swapsWithSole [tg] e pos.line X.env = pure false := by rfl) (hw : swappedStores [tg] e X.env = pure none := by rfl)
    (h1 : (assignEach [tg] X.env).map (·.2) = [assign tg X.env] := by rfl) : PS X (.Assign [tg] e pos) (tSt S (sAsg fa g)) := (ps_asg he hg hs hw h1).wk fun _ _ _ => tSt_asg
theorem tSt_set {i : Nat} {te : TE} {D : Ends} {σ : St} (w : tS S fa σ H = te σ H) (p : tSt S (sAsg fa (gN i)) D σ H) : tAsg te (gName i) D σ H := by
  obtain ⟨α, ρ, h, re, rl, fl, h', e, k⟩ := p
  obtain ⟨u, h1, e1, e⟩ := bnd_eq e
  cases e
  show te σ H _
  rw [← w]
  exact ⟨α, ρ, h, re, rl, u, _, e1, fun α1 H1 x ex1 rl1 ru => k α1 H1 _ ex1 rl1 ((re.ex ex1).set ru i)⟩
theorem s_set {i : Nat} {x : Str} {pos' : Pos} (hN : X.N.Nodup) (hi : X.N[i]? = some x) (hx : Loc X.env.scope x) (he : PE X e (tS S fa)) (hs : swapsWith e (some (.Name x pos')) pos.line X.env = pure false := by rfl) (hf : X.fn x = true ∨ X.env.scope.names.lookup x = some .local := by first | exact .inl rfl | exact .inr rfl | assumption) :
    PS X (.Assign [.Name x pos'] e pos) (tSt S (sAsg fa (gN i))) := (ps_set hN hi hx he hs hf).wk fun _ _ _ => tSt_set rfl
@[simp] def sPar (i j : Nat) (fr : AF) : SF := fun ρ h => bnd (fr ρ h) fun us h1 => match us with
  | [u, v] => some (.nx ((ρ.set i (some u)).set j (some v)), h1)
  | _ => none
@[simp] def sPar3 (i j l : Nat) (fr : AF) : SF := fun ρ h => bnd (fr ρ h) fun us h1 => match us with
  | [u, v, w] => some (.nx (((ρ.set i (some u)).set j (some v)).set l (some w)), h1)
  | _ => none
abbrev Srcs := List (Nat × List U)
def srcOk (h : PH) : Srcs → Prop
  | [] => True
  | p :: r => h[p.1]? = some (.lst p.2) ∧ srcOk h r
theorem srcOk_app {r q : Srcs} : srcOk h (r ++ q) ↔ srcOk h r ∧ srcOk h q := by
  induction r with
  | nil => simp [srcOk]
  | cons p r ih => rw [List.cons_append, srcOk, srcOk, ih, and_assoc]
def Wk (S : Sx) (α1 : Am) (H1 : Hp) (J : It) (us : List U) (srcs : Srcs) : Prop := ∀ α H h, Mo α1 H1 α H → Rl S α H h → srcOk h srcs → ∀ i, (us.length ≤ i → J.stop i H) ∧
  ∀ u, us[i]? = some u → J.go i H ∧ ∀ x H', J.yld i H x H' → ∃ α', Ex α H α' H' ∧ Rl S α' H' h ∧ RU S α' H' u x
abbrev IF := En → PH → Option ((List U × Srcs) × PH)
def iS (S : Sx) (f : IF) : TI := fun σ H R => ∃ α ρ h, RE S α H ρ σ ∧ Rl S α H h ∧ ∃ p h', f ρ h = some (p, h') ∧ ∀ α' H' J, Ex α H α' H' → Rl S α' H' h' → Wk S α' H' J p.1 p.2 → R J H'
theorem PI.wk {tg e : Expr} {t t' : TI} (q : PI X tg e t) (w : ∀ σ H R, t' σ H R → t σ H R) : PI X tg e t' := fun pins s σ H R I p => q pins s σ H R I (w σ H R p)
def itemsU (h : PH) : U → Option (Bool × List U × Srcs)
  | .lst us => some (true, us, [])
  | .scr us => some (true, us, [])
  | .tup us => some (false, us, [])
  | .ref a => match h[a]? with
    | some (.lst us) => some (true, us, [(a, us)])
    | _ => none
  | _ => none
theorem items_stay {α1 : Am} {H1 : Hp} {h1 : PH} {u : U} {x : V} {b : Bool} {us : List U} {srcs : Srcs} (e : itemsU h1 u = some (b, us, srcs)) (r : RU S α1 H1 u x) :
    ∃ p, x = .ref p ∧ ∀ α H h, Mo α1 H1 α H → Rl S α H h → srcOk h srcs → ∃ xs, Sq b S.K H p xs ∧ RUs S α H us xs := by
  cases u with
  | lst vs =>
    cases e
    cases r with
    | lst a q => exact ⟨_, rfl, fun α H h mo rl _ => ⟨_, SqL.of (a.mo mo).1, q.mo mo⟩⟩
  | scr vs =>
    cases e
    cases r with
    | scr a q => exact ⟨_, rfl, fun α H h mo rl _ => ⟨_, (a.mo mo).sq, q.mo mo⟩⟩
  | tup vs =>
    cases e
    cases r with
    | tup a q => exact ⟨_, rfl, fun α H h mo rl _ => ⟨_, (a.mo mo).sq, q.mo mo⟩⟩
  | ref n =>
    rw [itemsU] at e
    cases q : h1[n]? with
    | none => simp only [q] at e; cases e
    | some o =>
      simp only [q] at e
      cases o with
      | lst vs =>
        cases e
        cases r with
        | @ref _ p hp =>
          refine ⟨p, rfl, fun α H h mo rl so => ?_⟩
          obtain ⟨β, eb⟩ := mo.pre
          have hp' : α.a[n]? = some p := by rw [eb, List.getElem?_append_left (List.getElem?_eq_some_iff.mp hp).1]; exact hp
          obtain ⟨xs, h2, h3⟩ := rl.get hp' so.1
          exact ⟨xs, SqL.of h2, h3⟩
      | _ => cases e
  | _ => cases e
def iAny (K : PySem.W.Frag) (tl : TE) : TI := fun σ H R => tl σ H fun x H1 => ∃ a, x = .ref a ∧ (((∃ xs, SqL K H1 a xs) ∧ R (Itl K a) H1) ∨ ((∃ xs, SqT K H1 a xs) ∧ R (Itt K a) H1))
theorem pi_any {tg l : Expr} {tl : TE} {K : PySem.W.Frag} (hK : X.K = K) (hl : PE X l tl) : PI X tg l (iAny K tl) := by
  subst hK
  intro pins s σ H R I h
  refine thn (hl pins s σ H _ I h) fun v s1 ⟨x, H1, I1, r1, q1⟩ => ?_
  obtain ⟨a, e, q1⟩ := q1
  subst e
  cases r1
  rcases q1 with ⟨⟨xs, hq⟩, q⟩ | ⟨⟨xs, hq⟩, q⟩
  · obtain ⟨its, rv, p, hz⟩ := I1.list hq
    refine wpAny_pyIter_list p.isList ?_
    refine ⟨s1.heap.objs.size, [s1.heap.objs.size], _, _, H1, rfl, I1.kept (t' := s1.toks) fun b o e => Heap.get?_push_of_some _ e, turn_list a _, ⟨_, Heap.get?_push_size _ rfl, rfl, rfl⟩, fun b hb => ?_, q⟩
    have e : b = s1.heap.objs.size := by simpa using hb
    subst e
    exact I1.fpOk (Nat.le_refl _) (I1.hok.fresh (Nat.le_refl _))
  · obtain ⟨its, rv, p, hz⟩ := I1.tuple hq
    refine wpAny_pyIter_tuple (show s1.heap.IsTuple a its.toArray from p) ?_
    refine ⟨s1.heap.objs.size, [s1.heap.objs.size], _, _, H1, rfl, I1.kept (t' := s1.toks) fun b o e => Heap.get?_push_of_some _ e, turn_tuple a _, ⟨_, Heap.get?_push_size _ rfl, rfl, rfl⟩, fun b hb => ?_, q⟩
    have e : b = s1.heap.objs.size := by simpa using hb
    subst e
    exact I1.fpOk (Nat.le_refl _) (I1.hok.fresh (Nat.le_refl _))
@[simp] def iSeq (fa : EF) : IF := fun ρ h => bnd (fa ρ h) fun u h1 => (itemsU h1 u).map fun p => ((p.2.1, p.2.2), h1)
theorem Wk.list {α1 : Am} {H1 : Hp} {p : Addr} {us : List U} {srcs : Srcs} (st : ∀ α H h, Mo α1 H1 α H → Rl S α H h → srcOk h srcs → ∃ xs, SqL S.K H p xs ∧ RUs S α H us xs) : Wk S α1 H1 (Itl S.K p) us srcs := fun α H h mo rl so i => by
  obtain ⟨xs, hq, rs⟩ := st α H h mo rl so
  refine ⟨fun hi => ⟨xs, hq, by rw [← rs.len]; exact hi⟩, fun u hu => ?_⟩
  obtain ⟨x, hx, rx⟩ := rs.get hu
  exact ⟨⟨xs, x, hq, hx⟩, fun y H' ⟨eH, hy⟩ => by
    subst eH
    have := hy xs hq
    rw [hx] at this; cases this
    exact ⟨α, Ex.refl _ _, rl, rx⟩⟩
theorem Wk.tup {α1 : Am} {H1 : Hp} {p : Addr} {us : List U} {srcs : Srcs} (st : ∀ α H h, Mo α1 H1 α H → Rl S α H h → srcOk h srcs → ∃ xs, SqT S.K H p xs ∧ RUs S α H us xs) : Wk S α1 H1 (Itt S.K p) us srcs := fun α H h mo rl so i => by
  obtain ⟨xs, hq, rs⟩ := st α H h mo rl so
  refine ⟨fun hi => ⟨xs, hq, by rw [← rs.len]; exact hi⟩, fun u hu => ?_⟩
  obtain ⟨x, hx, rx⟩ := rs.get hu
  exact ⟨⟨xs, x, hq, hx⟩, fun y H' ⟨eH, hy⟩ => by
    subst eH
    have := hy xs hq
    rw [hx] at this; cases this
    exact ⟨α, Ex.refl _ _, rl, rx⟩⟩
theorem itemsU_ok {α1 : Am} {H1 : Hp} {h1 : PH} {u : U} {b : Bool} {us : List U} {srcs : Srcs} (e : itemsU h1 u = some (b, us, srcs)) : srcOk h1 srcs := by
  cases u with
  | lst vs => cases e; trivial
  | scr vs => cases e; trivial
  | tup vs => cases e; trivial
  | ref n =>
    rw [itemsU] at e
    cases q : h1[n]? with
    | none => simp only [q] at e; cases e
    | some o =>
      simp only [q] at e
      cases o with
      | lst vs => cases e; exact ⟨q, trivial⟩
      | _ => cases e
  | _ => cases e
theorem si_seq {tg : Expr} (hf : Fit X S) (ha : PE X e (tS S fa)) : PI X tg e (iS S (iSeq fa)) := (pi_any hf.K ha).wk fun σ H R ⟨α, ρ, h, re, rl, w, h3, e, k⟩ => by
  obtain ⟨u, h1, e1, e⟩ := bnd_eq e
  refine ⟨α, ρ, h, re, rl, u, h1, e1, fun α1 H1 x ex1 rl1 ru => ?_⟩
  cases q : itemsU h1 u with
  | none => rw [q] at e; cases e
  | some p =>
    obtain ⟨b, us, srcs⟩ := p
    rw [q] at e; cases e
    obtain ⟨p, rfl, st⟩ := items_stay q ru
    refine ⟨p, rfl, ?_⟩
    obtain ⟨xs, hq, _⟩ := st α1 H1 _ (Mo.refl _ _) rl1 (itemsU_ok (α1 := α1) (H1 := H1) q)
    cases b with
    | true => exact .inl ⟨⟨xs, hq⟩, k α1 H1 _ ex1 rl1 (Wk.list st)⟩
    | false => exact .inr ⟨⟨xs, hq⟩, k α1 H1 _ ex1 rl1 (Wk.tup st)⟩
def rngU (lo : Int) (n : Nat) : List U := (List.range n).map fun i => U.int (lo + (i : Nat))
theorem Wk.rng {α1 : Am} {H1 : Hp} {lo : Int} {n : Nat} : Wk S α1 H1 (Itr lo n) (rngU lo n) [] := fun α H h mo rl so i => by
  refine ⟨fun hi => ?_, fun u hu => ?_⟩
  · unfold rngU at hi; rw [List.length_map, List.length_range] at hi; exact hi
  · have hl := (List.getElem?_eq_some_iff.mp hu).1
    unfold rngU at hu hl
    rw [List.length_map, List.length_range] at hl
    rw [List.getElem?_map, List.getElem?_range hl] at hu
    cases hu
    exact ⟨hl, fun y H' ⟨eH, hy⟩ => by subst eH; subst hy; exact ⟨α, Ex.refl _ _, rl, .int _⟩⟩
def Rg (j : Int) : Prop := -(2 ^ 62) ≤ j ∧ j < 2 ^ 62
instance (j : Int) : Decidable (Rg j) := by unfold Rg; infer_instance
theorem Rg.ok {j : Int} (h0 : -1000000000 ≤ j) (h1 : j ≤ 1000000000) : Rg j := ⟨by omega, by omega⟩
def iRng1U (fr : AF) : IF := fun ρ h => bnd (fr ρ h) fun us h1 => match us with
  | [.int j] => if Rg j then some ((rngU 0 j.toNat, []), h1) else none
  | _ => none
def iRng2U (fr : AF) : IF := fun ρ h => bnd (fr ρ h) fun us h1 => match us with
  | [.int i, .int j] => if Rg i ∧ Rg j then some ((rngU i (j - i).toNat, []), h1) else none
  | _ => none
theorem si_rng1 {tg a : Expr} {fr : AF} {p pos : Pos} (hg : Gl X "range") (hm : X.mg "range" = none) (ha : PA X [a] (tA S fr)) (hs : starEach [a] X.env = [(false, eval a X.env)] := by rfl) : PI X tg (.Call (.Name "range" p) [a] [] pos) (iS S (iRng1U fr)) := (pi_range1 hg hm ha hs).wk fun σ H R ⟨α, ρ, h, re, rl, w, h3, e, k⟩ => by
  obtain ⟨us, h1, e1, e⟩ := bnd_eq e
  refine ⟨α, ρ, h, re, rl, us, h1, e1, fun α1 H1 xs ex1 rl1 rs => ?_⟩
  by_cases hv : ∃ j, us = [.int j]
  · obtain ⟨j, rfl⟩ := hv
    have e : (if Rg j then some ((rngU 0 j.toNat, []), h1) else none) = some (w, h3) := e
    by_cases hl : Rg j
    · rw [if_pos hl] at e; cases e
      obtain ⟨x, rfl, rx⟩ := rs.one
      cases rx
      exact ⟨j, rfl, hl.1, hl.2, k α1 H1 _ ex1 rl1 Wk.rng⟩
    · rw [if_neg hl] at e; cases e
  · exfalso
    split at e
    · exact hv ⟨_, rfl⟩
    · cases e
def enumU (us : List U) : List U := us.zipIdx.map fun p => .tup [.int (p.2 : Nat), p.1]
def zipU (us vs : List U) : List U := List.zipWith (fun u v => .tup [u, v]) us vs
@[simp] def iEnumU (fa : EF) : IF := fun ρ h => bnd (fa ρ h) fun u h1 => (itemsU h1 u).map fun p => ((enumU p.2.1, p.2.2), h1)
@[simp] def iZipU (fa fb : EF) : IF := fun ρ h => bnd (fa ρ h) fun u h1 => bnd (fb ρ h1) fun v h2 => (itemsU h2 u).bind fun p => (itemsU h2 v).map fun q => ((zipU p.2.1 q.2.1, p.2.2 ++ q.2.2), h2)
theorem new_tup {x y : V} {u v : U} {T : Addr} (rl : Rl S α H h) (ru : RU S α H u x) (rv : RU S α H v y) (hT : H T = none) : Ex α H α (upd H T (.tup [x, y])) ∧ Rl S α (upd H T (.tup [x, y])) h ∧ RU S α (upd H T (.tup [x, y])) (.tup [u, v]) (.ref T) :=
  have ex := Ex.new hT rl (.tup [x, y])
  ⟨ex, rl.new hT _, .tup (.inl ⟨.inl upd_same, rl.free hT⟩) (.cons (ru.ex ex) (.cons (rv.ex ex) .nil))⟩
theorem enumU_get {us : List U} {i : Nat} {u : U} (e : (enumU us)[i]? = some u) : ∃ v, us[i]? = some v ∧ u = .tup [.int (i : Nat), v] := by
  unfold enumU at e
  rw [List.getElem?_map, List.getElem?_zipIdx] at e
  cases q : us[i]? with
  | none => rw [q] at e; cases e
  | some v => rw [q] at e; simp at e; exact ⟨v, rfl, e.symm⟩
theorem Wk.enum {α1 : Am} {H1 : Hp} {b : Bool} {p : Addr} {us : List U} {srcs : Srcs} (st : ∀ α H h, Mo α1 H1 α H → Rl S α H h → srcOk h srcs → ∃ xs, Sq b S.K H p xs ∧ RUs S α H us xs) : Wk S α1 H1 (Item S.K b p) (enumU us) srcs := fun α H h mo rl so i => by
  obtain ⟨xs, hq, rs⟩ := st α H h mo rl so
  refine ⟨fun hi => ⟨xs, hq, by rw [← rs.len]; unfold enumU at hi; rw [List.length_map, List.length_zipIdx] at hi; exact hi⟩, fun u hu => ?_⟩
  obtain ⟨v, hv, rfl⟩ := enumU_get hu
  obtain ⟨x, hx, rx⟩ := rs.get hv
  refine ⟨⟨xs, x, hq, hx⟩, fun y H' ⟨T, x', ey, hT, eH, hy⟩ => ?_⟩
  have := hy xs hq
  rw [hx] at this; cases this
  subst ey; subst eH
  obtain ⟨a, b, c⟩ := new_tup rl (.int (i : Nat)) rx hT
  exact ⟨α, a, b, c⟩
theorem zipU_len {us vs : List U} : (zipU us vs).length = min us.length vs.length := by unfold zipU; rw [List.length_zipWith]
theorem zipU_get {us vs : List U} {i : Nat} {u : U} (e : (zipU us vs)[i]? = some u) : ∃ a b, us[i]? = some a ∧ vs[i]? = some b ∧ u = .tup [a, b] := by
  unfold zipU at e
  rw [List.getElem?_zipWith] at e
  cases q : us[i]? with
  | none => rw [q] at e; cases e
  | some a =>
    cases q2 : vs[i]? with
    | none => rw [q, q2] at e; cases e
    | some b => rw [q, q2] at e; cases e; exact ⟨a, b, rfl, rfl, rfl⟩
theorem Wk.zip {α1 : Am} {H1 : Hp} {b1 b2 : Bool} {p q : Addr} {us vs : List U} {s1 s2 : Srcs} (st : ∀ α H h, Mo α1 H1 α H → Rl S α H h → srcOk h s1 → ∃ xs, Sq b1 S.K H p xs ∧ RUs S α H us xs) (st2 : ∀ α H h, Mo α1 H1 α H → Rl S α H h → srcOk h s2 → ∃ xs, Sq b2 S.K H q xs ∧ RUs S α H vs xs) :
    Wk S α1 H1 (Itzm S.K b1 b2 p q) (zipU us vs) (s1 ++ s2) := fun α H h mo rl so i => by
  obtain ⟨so1, so2⟩ := srcOk_app.mp so
  obtain ⟨xs, hq, rs⟩ := st α H h mo rl so1
  obtain ⟨ys, hq2, rs2⟩ := st2 α H h mo rl so2
  refine ⟨fun hi => ⟨xs, ys, hq, hq2, by rw [← rs.len, ← rs2.len]; rw [zipU_len] at hi; omega⟩, fun u hu => ?_⟩
  obtain ⟨a, b, ha, hb, rfl⟩ := zipU_get hu
  obtain ⟨x, hx, rx⟩ := rs.get ha
  obtain ⟨y, hy, ry⟩ := rs2.get hb
  refine ⟨⟨xs, ys, x, y, hq, hq2, hx, hy⟩, fun z H' ⟨T, x', y', ez, hT, eH, hy1, hy2⟩ => ?_⟩
  have t1 := hy1 xs hq
  rw [hx] at t1; cases t1
  have t2 := hy2 ys hq2
  rw [hy] at t2; cases t2
  subst ez; subst eH
  obtain ⟨a, b, c⟩ := new_tup rl rx ry hT
  exact ⟨α, a, b, c⟩
theorem si_enum {e : Expr} {p pos tpos : Pos} {elts : List Expr} {kk : Nat} (hf : Fit X S) (hg : Gl X "enumerate") (hm : X.mg "enumerate" = none) (ha : PE X e (tS S fa)) (hs : starEach [e] X.env = [(false, eval e X.env)] := by rfl) :
    PI X (.Tuple elts kk tpos) (.Call (.Name "enumerate" p) [e] [] pos) (iS S (iEnumU fa)) := (k_enumm hf.K hg hm (pa_cons ha pa_nil (by rw [hs]; rfl)) hs).wk fun σ H R ⟨α, ρ, h, re, rl, w, h3, e, k⟩ => by
  obtain ⟨u, h1, e1, e⟩ := bnd_eq e
  refine ⟨α, ρ, h, re, rl, u, h1, e1, fun α1 H1 x ex1 rl1 ru => ?_⟩
  cases q : itemsU h1 u with
  | none => rw [q] at e; cases e
  | some p =>
    obtain ⟨b, us, srcs⟩ := p
    rw [q] at e; cases e
    obtain ⟨p, rfl, st⟩ := items_stay q ru
    obtain ⟨xs, hq, _⟩ := st α1 H1 _ (Mo.refl _ _) rl1 (itemsU_ok (α1 := α1) (H1 := H1) q)
    exact ⟨b, p, xs, rfl, hq, k α1 H1 _ ex1 rl1 (Wk.enum st)⟩
end
end L2
end
section
set_option Elab.async false
set_option maxRecDepth 100000
set_option linter.unusedVariables false
set_option maxHeartbeats 1000000
namespace L2
open PySem PySem.Spec PySem.F PyProof.Rows
section
variable {X : Cx} {S : Sx} {α α' : Am} {H H' : Hp} {h h' : PH} {e c tg iter : Expr} {pos : Pos} {fa : EF} {ba : BF} {fi : IF} {g : GF} {b : SF} {is : List Nat}
open Classical in
noncomputable def forS (g : GF) (b : SF) (srcs : Srcs) : List U → SF
  | [], ρ, h => if srcOk h srcs then some (.nx ρ, h) else none
  | u :: r, ρ, h => if srcOk h srcs then bnd (g u ρ h) fun ρ1 h1 => bnd (b ρ1 h1) fun fl h2 => match fl with
      | .nx ρ2 => forS g b srcs r ρ2 h2
      | .ct ρ2 => forS g b srcs r ρ2 h2
      | .bk ρ2 => some (.nx ρ2, h2)
      | .rt v => some (.rt v, h2)
    else none
noncomputable def sFor (fi : IF) (g : GF) (b : SF) : SF := fun ρ h => bnd (fi ρ h) fun p h1 => forS g b p.2 p.1 ρ h1
theorem s_for {body : List Stmt} (hp : PassesOwn (model X.prog X.w) X.A X.env X.xe) (hc : X.calm = true) (hi : PI X tg iter (iS S fi)) (hg : PG X tg (tG S is g)) (hb : PSs X body (tSt S b))
    (hs : ∀ x, foldedSetIterable iter X.env x = pure x := by intro _; rfl) : PS X (.For tg iter body [] pos) (tSt S (sFor fi g b)) := (ps_for hp hc hi hg hb hs).wk fun D σ H ⟨α, ρ, h, re, rl, fl, h', e, k⟩ => by
  obtain ⟨⟨us, srcs⟩, h1, e1, e2⟩ := bnd_eq e
  have e2 : forS g b srcs us ρ h1 = some (fl, h') := e2
  refine ⟨α, ρ, h, re, rl, (us, srcs), h1, e1, fun α1 H1 J ex1 rl1 wk => ?_⟩
  refine ⟨fun i m σ H => m = us.length - i ∧ i ≤ us.length ∧ ∃ α ρ h, Ex α1 H1 α H ∧ RE S α H ρ σ ∧ Rl S α H h ∧ PSt S α H (forS g b srcs (us.drop i) ρ h) D, ⟨us.length, by omega, Nat.zero_le _, α1, ρ, h1, Ex.refl _ _, re.ex ex1, rl1, fl, h', e2, k.ex ex1⟩, ?_⟩
  rintro i m σ H ⟨rfl, hi, α, ρ, h, ex, re, rl, fl, h', e, k⟩
  by_cases hlt : i < us.length
  · rw [List.drop_eq_getElem_cons hlt, forS] at e
    by_cases so : srcOk h srcs
    · rw [if_pos so] at e
      obtain ⟨ρ1, h2, e3, e⟩ := bnd_eq e
      obtain ⟨f1, h3, e4, e5⟩ := bnd_eq e
      obtain ⟨go, yl⟩ := (wk α H h ex.mo rl so i).2 us[i] (List.getElem?_eq_getElem hlt)
      refine .inr ⟨go, fun σ' H' => ∃ α ρ h, Ex α1 H1 α H' ∧ RE S α H' ρ σ' ∧ Rl S α H' h ∧ PSt S α H' (forS g b srcs (us.drop (i + 1)) ρ h) D, fun σ' H' q => ⟨us.length - (i + 1), by omega, rfl, hlt, q⟩, fun x H' y => ?_⟩
      obtain ⟨α', ex', rl', ru⟩ := yl x H' y
      refine ⟨α', ρ, h, us[i], re.ex ex', rl', ru, ρ1, h2, e3, fun α2 H2 σ2 ex2 rl2 re2 _ _ => ⟨α2, ρ1, h2, re2, rl2, f1, h3, e4, ?_⟩⟩
      have exA := ex'.trans ex2
      cases f1 with
      | nx ρ2 => exact fun α3 H3 σ3 ex3 rl3 re3 => ⟨α3, ρ2, h3, ex.trans (exA.trans ex3), re3, rl3, fl, h', e5, k.ex (exA.trans ex3)⟩
      | ct ρ2 => exact fun α3 H3 σ3 ex3 rl3 re3 => ⟨α3, ρ2, h3, ex.trans (exA.trans ex3), re3, rl3, fl, h', e5, k.ex (exA.trans ex3)⟩
      | bk ρ2 => cases e5; exact fun α3 H3 σ3 ex3 rl3 re3 => k α3 H3 σ3 (exA.trans ex3) rl3 re3
      | rt v => cases e5; exact fun α3 H3 σ3 ex3 rl3 re3 => k α3 H3 σ3 (exA.trans ex3) rl3 re3
    · rw [if_neg so] at e; cases e
  · have hl : i = us.length := by omega
    subst hl
    rw [List.drop_length, forS] at e
    by_cases so : srcOk h srcs
    · rw [if_pos so] at e; cases e
      exact .inl ⟨(wk α H h ex.mo rl so us.length).1 (Nat.le_refl _), k α H σ (Ex.refl _ _) rl re⟩
    · rw [if_neg so] at e; cases e
def whileN (c : BF) (b : SF) : Nat → SF
  | 0, _, _ => none
  | n + 1, ρ, h => bnd (c ρ h) fun k h1 => if k = true then bnd (b ρ h1) fun fl h2 => match fl with
      | .nx ρ2 => whileN c b n ρ2 h2
      | .ct ρ2 => whileN c b n ρ2 h2
      | .bk ρ2 => some (.nx ρ2, h2)
      | .rt v => some (.rt v, h2)
    else some (.nx ρ, h1)
theorem whileN_succ {c : BF} {b : SF} : ∀ {n : Nat} {ρ : En} {h : PH} {r : Fl × PH}, whileN c b n ρ h = some r → whileN c b (n + 1) ρ h = some r
  | 0, _, _, _, e => nomatch e
  | n + 1, ρ, h, (fl, h'), e => by
    rw [whileN] at e ⊢
    obtain ⟨k, h1, e1, e2⟩ := bnd_eq e
    rw [e1]
    cases k with
    | false => exact e2
    | true =>
      obtain ⟨f1, h2, e3, e4⟩ := bnd_eq (show bnd (b ρ h1) _ = _ from e2)
      show (bnd (b ρ h1) _) = _
      rw [e3]
      cases f1 with
      | nx ρ2 => exact whileN_succ e4
      | ct ρ2 => exact whileN_succ e4
      | bk _ => exact e4
      | rt _ => exact e4
theorem whileN_mono {c : BF} {b : SF} {n m : Nat} {ρ : En} {h : PH} {r : Fl × PH} (hm : n ≤ m) (e : whileN c b n ρ h = some r) : whileN c b m ρ h = some r := by
  induction hm with
  | refl => exact e
  | step _ ih => exact whileN_succ ih
open Classical in
noncomputable def sWhile (c : BF) (b : SF) : SF := fun ρ h => if x : ∃ r n, whileN c b n ρ h = some r then some x.choose else none
theorem sWhile_of {c : BF} {b : SF} {n : Nat} {ρ : En} {h : PH} {r : Fl × PH} (e : whileN c b n ρ h = some r) : sWhile c b ρ h = some r := by
  have x : ∃ r n, whileN c b n ρ h = some r := ⟨r, n, e⟩
  unfold sWhile
  rw [dif_pos x]
  obtain ⟨m, hm⟩ := x.choose_spec
  have a := whileN_mono (Nat.le_max_left n m) e
  rw [whileN_mono (Nat.le_max_right n m) hm] at a
  exact a
theorem of_sWhile {c : BF} {b : SF} {ρ : En} {h : PH} {r : Fl × PH} (e : sWhile c b ρ h = some r) : ∃ n, whileN c b n ρ h = some r := by
  unfold sWhile at e
  by_cases x : ∃ r n, whileN c b n ρ h = some r
  · rw [dif_pos x] at e
    cases e
    exact x.choose_spec
  · rw [dif_neg x] at e; cases e
theorem s_while {body : List Stmt} (hp : PassesOwn (model X.prog X.w) X.A X.env X.xe) (hc : PT X c (tT S ba)) (hb : PSs X body (tSt S b)) : PS X (.While c body [] pos) (tSt S (sWhile ba b)) := (ps_while hp hc hb).wk fun D σ H ⟨α, ρ, h, re, rl, fl, h', e, k⟩ => by
  obtain ⟨n0, e0⟩ := of_sWhile e
  refine ⟨fun m σ H => ∃ α ρ h, RE S α H ρ σ ∧ Rl S α H h ∧ PSt S α H (whileN ba b m ρ h) D, ⟨n0, α, ρ, h, re, rl, fl, h', e0, k⟩, ?_⟩
  rintro m σ H ⟨α, ρ, h, re, rl, fl, h', e, k⟩
  cases m with
  | zero => cases e
  | succ m =>
    rw [whileN] at e
    obtain ⟨q, h1, e1, e2⟩ := bnd_eq e
    refine ⟨α, ρ, h, re, rl, q, h1, e1, fun α1 H1 ex1 rl1 => ?_⟩
    cases q with
    | false => cases e2; exact k α1 H1 σ ex1 rl1 (re.ex ex1)
    | true =>
      obtain ⟨f1, h2, e3, e4⟩ := bnd_eq (show bnd (b ρ h1) _ = _ from e2)
      rw [if_pos rfl]
      refine ⟨fun σ' H' => ∃ α ρ h, RE S α H' ρ σ' ∧ Rl S α H' h ∧ PSt S α H' (whileN ba b m ρ h) D, fun σ' H' q => ⟨m, Nat.lt_succ_self m, q⟩, α1, ρ, h1, re.ex ex1, rl1, f1, h2, e3, ?_⟩
      cases f1 with
      | nx ρ2 => exact fun α3 H3 σ3 ex3 rl3 re3 => ⟨α3, ρ2, h2, re3, rl3, fl, h', e4, k.ex (ex1.trans ex3)⟩
      | ct ρ2 => exact fun α3 H3 σ3 ex3 rl3 re3 => ⟨α3, ρ2, h2, re3, rl3, fl, h', e4, k.ex (ex1.trans ex3)⟩
      | bk ρ2 => cases e4; exact fun α3 H3 σ3 ex3 rl3 re3 => k α3 H3 σ3 (ex1.trans ex3) rl3 re3
      | rt v => cases e4; exact fun α3 H3 σ3 ex3 rl3 re3 => k α3 H3 σ3 (ex1.trans ex3) rl3 re3
@[simp] def wipeE (ρ : En) : List Nat → En
  | [] => ρ
  | v :: vs => (wipeE ρ vs).set v none
theorem RE.wipe {ρ : En} {σ : St} (re : RE S α H ρ σ) : ∀ vs : List Nat, RE S α H (wipeE ρ vs) (wipe σ vs)
  | [] => re
  | v :: vs => by
    have ih := RE.wipe re vs
    refine ⟨by rw [wipeE, L2.wipe, List.length_set, List.length_set]; exact ih.1, fun i u q => ?_⟩
    rw [wipeE] at q
    by_cases hv : v = i
    · subst hv
      by_cases hl : v < (wipeE ρ vs).length
      · rw [List.getElem?_set_self hl] at q; cases q
      · rw [List.getElem?_eq_none (by rw [List.length_set]; omega)] at q; cases q
    · rw [List.getElem?_set_ne hv] at q
      rw [L2.wipe, List.getElem?_set_ne hv]
      exact ih.2 i u q
theorem wipe_get (τ : St) (i : Nat) : ∀ vs : List Nat, (wipe τ vs)[i]? = if i ∈ vs then (if i < τ.length then some none else none) else τ[i]?
  | [] => by simp [wipe]
  | v :: vs => by
    rw [wipe]
    by_cases hv : v = i
    · subst hv
      rw [if_pos List.mem_cons_self]
      by_cases hl : v < τ.length
      · rw [if_pos hl, List.getElem?_set_self (by rw [wipe_length]; exact hl)]
      · rw [if_neg hl, List.getElem?_eq_none (by rw [List.length_set, wipe_length]; omega)]
    · rw [List.getElem?_set_ne hv, wipe_get τ i vs]
      by_cases hm : i ∈ vs
      · rw [if_pos hm, if_pos (List.mem_cons_of_mem _ hm)]
      · rw [if_neg hm, if_neg (fun z => (List.mem_cons.mp z).elim (fun z => hv z.symm) hm)]
theorem wipe_eq {σ σ' : St} {vs : List Nat} (ho : ∀ j, j ∉ vs → σ'[j]? = σ[j]?) (hl : σ'.length = σ.length) : wipe σ' vs = wipe σ vs := by
  apply List.ext_getElem?
  intro i
  rw [wipe_get, wipe_get]
  by_cases hm : i ∈ vs
  · rw [if_pos hm, if_pos hm, hl]
  · rw [if_neg hm, if_neg hm]; exact ho i hm
theorem wipe_idem (σ : St) (vs : List Nat) : wipe (wipe σ vs) vs = wipe σ vs := wipe_eq (fun j hj => by rw [wipe_get, if_neg hj]) (wipe_length σ vs)
@[simp] def bYes : BF := fun _ h => some (true, h)
theorem tT_yes {σ : St} {Q : Bool → Hp → Prop} (p : tT S bYes σ H Q) : tYes σ H Q := by
  obtain ⟨α, ρ, h, re, rl, w, h3, e, q⟩ := p
  cases e
  exact q α H (Ex.refl _ _) rl
theorem PTs.wk {ifs : List Expr} {t t' : TT} (q : PTs X ifs t) (w : ∀ σ H Q, t' σ H Q → t σ H Q) : PTs X ifs t' := fun pins s σ H Q I p => q pins s σ H Q I (w σ H Q p)
theorem sts_nil : PTs X [] (tT S bYes) := pts_nil.wk fun _ _ _ => tT_yes
open Classical in
noncomputable def lcS (g : GF) (t : BF) (f : EF) (srcs : Srcs) (ρ : En) : List U → PH → Option (List U × PH)
  | [], h => if srcOk h srcs then some ([], h) else none
  | u :: r, h => if srcOk h srcs then bnd (g u ρ h) fun ρ1 h1 => bnd (t ρ1 h1) fun k h2 =>
      if k = true then bnd (f ρ1 h2) fun y h3 => bnd (lcS g t f srcs ρ r h3) fun ys h4 => some (y :: ys, h4) else lcS g t f srcs ρ r h2
    else none
@[simp] noncomputable def eLc (m : Bool) (fi : IF) (g : GF) (t : BF) (f : EF) (vs : List Nat) : EF := fun ρ h => bnd (fi ρ h) fun p h1 => bnd (lcS g t f p.2 (wipeE ρ vs) p.1 h1) fun ys h2 => if ys.length ≤ sizeLine then mk m ys h2 else none
def Am.hide (α : Am) (D : Addr) : Am := ⟨α.a, D :: α.x⟩
def Am.show (α : Am) (x : List Addr) : Am := ⟨α.a, x⟩
theorem own_hide {D p : Addr} : (α.hide D).own p ↔ α.own p ∨ p = D := by
  unfold Am.own Am.hide
  simp only [List.mem_cons]
  constructor
  · rintro (z | z | z)
    · exact .inl (.inl z)
    · exact .inr z
    · exact .inl (.inr z)
  · rintro ((z | z) | z)
    · exact .inl z
    · exact .inr (.inr z)
    · exact .inr (.inl z)
theorem Mo.hide {D : Addr} {o : HO} (hD : H D = none) : Mo α H (α.hide D) (upd H D o) := ⟨fun q u e n => ⟨by rw [upd_ne (ne_of_none e hD)]; exact e, fun z => (own_hide.mp z).elim n fun z => ne_of_none e hD z⟩, ⟨[], by simp [Am.hide]⟩⟩
theorem Rl.hide {D : Addr} {o : HO} (rl : Rl S α H h) (hD : H D = none) : Rl S (α.hide D) (upd H D o) h where
  len := rl.len
  nd := rl.nd
  dj := fun p hp z => by
    rcases List.mem_cons.mp (show p ∈ D :: α.x from z) with z | z
    · exact rl.free hD (.inl (by rw [← z]; exact hp))
    · exact rl.dj p hp z
  ob := fun i u e => by
    obtain ⟨q, e1, ro⟩ := rl.ob i u e
    exact ⟨q, e1, ro.mo (Mo.hide hD) (upd_ne fun z => ro.some (by rw [z]; exact hD))⟩
  tr := fun q hq => by
    rcases List.mem_cons.mp (show q ∈ D :: α.x from hq) with z | z
    · rw [z, upd_same]; exact fun z => nomatch z
    · rw [upd_ne fun w => rl.tr q z (by rw [w]; exact hD)]; exact rl.tr q z
  tab := fun q hq => ⟨by rw [upd_ne (ne_of_none (rl.tab q hq).1 hD)]; exact (rl.tab q hq).1, fun z => (own_hide.mp z).elim (rl.tab q hq).2 fun z => ne_of_none (rl.tab q hq).1 hD z⟩
theorem Mo.wrx {D : Addr} {o : HO} (hD : D ∈ α.x) : Mo α H α (upd H D o) := ⟨fun q u e n => ⟨by rw [upd_ne (fun z => n (by rw [z]; exact .inr hD))]; exact e, n⟩, ⟨[], by simp⟩⟩
theorem Rl.wrx {D : Addr} {o : HO} (rl : Rl S α H h) (hD : D ∈ α.x) : Rl S α (upd H D o) h where
  len := rl.len
  nd := rl.nd
  dj := rl.dj
  ob := fun i u e => by
    obtain ⟨q, e1, ro⟩ := rl.ob i u e
    exact ⟨q, e1, ro.mo (Mo.wrx hD) (upd_ne fun z => rl.dj q (List.mem_of_getElem? e1) (by rw [z]; exact hD))⟩
  tr := fun q hq => by
    by_cases z : q = D
    · rw [z, upd_same]; exact fun z => nomatch z
    · rw [upd_ne z]; exact rl.tr q hq
  tab := fun q hq => ⟨by rw [upd_ne (fun z => (rl.tab q hq).2 (by rw [z]; exact .inr hD))]; exact (rl.tab q hq).1, (rl.tab q hq).2⟩
theorem Mo.show {x : List Addr} (hx : ∀ p ∈ x, p ∈ α.x) : Mo α H (α.show x) H := ⟨fun q u e n => ⟨e, fun z => n (z.elim .inl fun z => .inr (hx q z))⟩, ⟨[], by simp [Am.show]⟩⟩
theorem Rl.show {x : List Addr} (rl : Rl S α H h) (hx : ∀ p ∈ x, p ∈ α.x) : Rl S (α.show x) H h where
  len := rl.len
  nd := rl.nd
  dj := fun p hp z => rl.dj p hp (hx p z)
  ob := fun i u e => by
    obtain ⟨q, e1, ro⟩ := rl.ob i u e
    exact ⟨q, e1, ro.mo (Mo.show hx) rfl⟩
  tr := fun q hq => rl.tr q (hx q hq)
  tab := fun q hq => ⟨(rl.tab q hq).1, fun z => (rl.tab q hq).2 (z.elim .inl fun z => .inr (hx q z))⟩
theorem PU.made {α0 : Am} {H0 : Hp} {m : Bool} {us : List U} {xs : List V} {D : Addr} {Q : VK} (q : PU S α0 H0 (L2.mk m us h) Q) (hD0 : H0 D = none) (hD : H D = some (.lst xs)) (r : RUs S α H us xs) (rl : Rl S α H h) (hx : α.x = D :: α0.x)
    (mo : Mo α0 H0 α H) (pv : ∀ p ∈ α0.x, H p = H0 p) (tr0 : ∀ p ∈ α0.x, H0 p ≠ none) : Q (.ref D) H := by
  have sub : ∀ p ∈ α0.x, p ∈ α.x := fun p hp => by rw [hx]; exact List.mem_cons_of_mem _ hp
  have rlS := rl.show sub
  have rS := r.mo (Mo.show (H := H) sub)
  have nD : ¬ (α.show α0.x).own D := by
    rintro (z | z)
    · exact rl.dj D z (by rw [hx]; exact List.mem_cons_self)
    · exact tr0 D z hD0
  have exS : Ex α0 H0 (α.show α0.x) H := ⟨fun p o e n => by
      obtain ⟨a, b⟩ := mo.keep p o e n
      exact ⟨a, fun z => b (z.elim .inl fun z => .inr (sub p z))⟩, mo.pre, rfl, pv⟩
  obtain ⟨v, h1, e, k⟩ := q
  cases m with
  | false =>
    cases e
    exact k _ _ _ exS rlS (.lst ⟨hD, nD⟩ rS)
  | true =>
    cases e
    have moA : Mo (α.show α0.x) H ((α.show α0.x).add D) H → True := fun _ => trivial
    -- what has no number yet and isn't D stays out
    have key : ∀ {u : U} {x : V}, RU S α H u x → RU S ((α.show α0.x).add D) H u x := fun {u x} ru => ru.mo ⟨fun p o e n => ⟨e, fun z => by
      rcases own_add.mp z with z | z
      · exact n (z.elim .inl fun z => .inr (sub p z))
      · exact n (by rw [z]; exact .inr (by rw [hx]; exact List.mem_cons_self))⟩, ⟨[D], rfl⟩⟩
    have moB : Mo α H ((α.show α0.x).add D) H := ⟨fun p o e n => ⟨e, fun z => by
      rcases own_add.mp z with z | z
      · exact n (z.elim .inl fun z => .inr (sub p z))
      · exact n (by rw [z]; exact .inr (by rw [hx]; exact List.mem_cons_self))⟩, ⟨[D], rfl⟩⟩
    refine k ((α.show α0.x).add D) H (.ref D) ⟨fun p o e n => ?_, ?_, rfl, pv⟩ ?_ (.ref ?_)
    · obtain ⟨a, b⟩ := exS.keep p o e n
      exact ⟨a, fun z => (own_add.mp z).elim b fun z => ne_of_none e hD0 z⟩
    · obtain ⟨β, eb⟩ := mo.pre
      exact ⟨β ++ [D], by show α.a ++ [D] = _; rw [eb, List.append_assoc]⟩
    · exact {
        len := by show (α.a ++ [D]).length = _; rw [List.length_append, List.length_append, rl.len]; rfl
        nd := by
          show (α.a ++ [D]).Nodup
          rw [List.nodup_append]
          exact ⟨rl.nd, by simp, fun a ha b hb e => by rw [List.mem_singleton.mp hb] at e; subst e; exact nD (.inl ha)⟩
        dj := fun p hp z => by
          rcases List.mem_append.mp (show p ∈ α.a ++ [D] from hp) with hp | hp
          · exact rl.dj p hp (sub p z)
          · rw [List.mem_singleton.mp hp] at z; exact tr0 D z hD0
        ob := fun i u e => by
          by_cases hi : i < h.length
          · rw [List.getElem?_append_left hi] at e
            obtain ⟨q, e1, ro⟩ := rl.ob i u e
            exact ⟨q, by show (α.a ++ [D])[i]? = _; rw [List.getElem?_append_left (by rw [rl.len]; exact hi)]; exact e1, ro.mo moB rfl⟩
          · have hl : i = h.length := by
              have := (List.getElem?_eq_some_iff.mp e).1
              rw [List.length_append, List.length_singleton] at this; omega
            subst hl
            rw [List.getElem?_append_right (Nat.le_refl _), Nat.sub_self] at e
            cases e
            exact ⟨D, by show (α.a ++ [D])[h.length]? = _; rw [← rl.len, List.getElem?_append_right (Nat.le_refl _), Nat.sub_self]; rfl, xs, hD, r.mo moB⟩
        tr := fun p hp => by rw [pv p hp]; exact tr0 p hp
        tab := fun p hp => ⟨(rl.tab p hp).1, fun z => (own_add.mp z).elim (fun z => (rl.tab p hp).2 (z.elim .inl fun z => .inr (sub p z))) fun z => (rl.tab p hp).2 (by rw [z]; exact .inr (by rw [hx]; exact List.mem_cons_self))⟩ }
    · show (α.a ++ [D])[h.length]? = some D
      rw [← rl.len, List.getElem?_append_right (Nat.le_refl _), Nat.sub_self]; rfl
theorem tS_lc {m : Bool} {t : BF} {vs : List Nat} {σ : St} {Q : VK} (hsub : ∀ j ∈ is, j ∈ vs) (p : tS S (eLc m fi g t fa vs) σ H Q) : tLc (iS S fi) (tG S is g) (tT S t) (tS S fa) vs σ H Q := by
  obtain ⟨α, ρ, h, re, rl, fl, h', e, k⟩ := p
  obtain ⟨⟨us, srcs⟩, h1, e1, e2⟩ := bnd_eq e
  obtain ⟨ys, h2, e3, e4⟩ := bnd_eq e2
  have e3 : lcS g t fa srcs (wipeE ρ vs) us h1 = some (ys, h2) := e3
  have e4 : (if ys.length ≤ sizeLine then mk m ys h2 else none) = some (fl, h') := e4
  by_cases hys : ys.length ≤ sizeLine
  case neg => rw [if_neg hys] at e4; cases e4
  rw [if_pos hys] at e4
  refine ⟨α, ρ, h, re, rl, (us, srcs), h1, e1, fun α1 H1 J ex1 rl1 wk D hD => ?_⟩
  have fin : PU S α1 H1 (mk m ys h2) Q := ⟨fl, h', e4, fun α3 H3 x ex3 rl3 rx => k α3 H3 x (ex1.trans ex3) rl3 rx⟩
  have re1 := re.ex ex1
  refine ⟨fun i n H => n = us.length - i ∧ i ≤ us.length ∧ ∃ α h acc xs zs, Mo α1 H1 α H ∧ α.x = D :: α1.x ∧ (∀ p ∈ α1.x, H p = H1 p) ∧ Rl S α H h ∧ H D = some (.lst xs) ∧ RUs S α H acc xs ∧ lcS g t fa srcs (wipeE ρ vs) (us.drop i) h = some (zs, h2) ∧ acc ++ zs = ys,
    ⟨us.length, by omega, Nat.zero_le _, α1.hide D, h1, [], [], ys, Mo.hide hD, rfl, fun p hp => upd_ne fun z => rl1.tr p hp (by rw [z]; exact hD), rl1.hide hD, upd_same, .nil, e3, rfl⟩, ?_⟩
  rintro i n H ⟨rfl, hi, α, h, acc, xs, zs, mo, hx, pv, rl, hl, ra, ez, ea⟩
  have memD : D ∈ α.x := by rw [hx]; exact List.mem_cons_self
  by_cases hlt : i < us.length
  · rw [List.drop_eq_getElem_cons hlt, lcS] at ez
    by_cases so : srcOk h srcs
    case neg => rw [if_neg so] at ez; cases ez
    rw [if_pos so] at ez
    obtain ⟨ρ1, h3, q1, ez⟩ := bnd_eq ez
    obtain ⟨kk, h4, q2, ez⟩ := bnd_eq ez
    obtain ⟨go, yl⟩ := (wk α H h mo rl so i).2 us[i] (List.getElem?_eq_getElem hlt)
    refine .inr ⟨go, fun H => ∃ α h acc xs zs, Mo α1 H1 α H ∧ α.x = D :: α1.x ∧ (∀ p ∈ α1.x, H p = H1 p) ∧ Rl S α H h ∧ H D = some (.lst xs) ∧ RUs S α H acc xs ∧ lcS g t fa srcs (wipeE ρ vs) (us.drop (i + 1)) h = some (zs, h2) ∧ acc ++ zs = ys,
      fun H' q => ⟨us.length - (i + 1), by omega, rfl, hlt, q⟩, fun x H' y => ?_⟩
    obtain ⟨α', ex', rl', ru⟩ := yl x H' y
    have rew : RE S α' H' (wipeE ρ vs) (wipe σ vs) := by
      have z : RE S α H ρ σ := ⟨re1.1, fun j u q => by obtain ⟨x, a, b⟩ := re1.2 j u q; exact ⟨x, a, b.mo mo⟩⟩
      exact (z.ex ex').wipe vs
    refine ⟨α', wipeE ρ vs, h, us[i], rew, rl', ru, ρ1, h3, q1, fun α2 H2 σ2 ex2 rl2 re2 o2 l2 => ⟨?_, ?_⟩⟩
    · exact (wipe_eq (σ := wipe σ vs) (fun j hj => o2 j fun z => hj (hsub j z)) l2).trans (wipe_idem σ vs)
    · refine ⟨α2, ρ1, h3, re2, rl2, kk, h4, q2, fun α3 H3 ex3 rl3 => ?_⟩
      have exA := (ex'.trans ex2).trans ex3
      have moA := mo.trans exA.mo
      have hxA : α3.x = D :: α1.x := exA.x.trans hx
      have pvA : ∀ p ∈ α1.x, H3 p = H1 p := fun p hp => (exA.priv p (by rw [hx]; exact List.mem_cons_of_mem _ hp)).trans (pv p hp)
      have hlA : H3 D = some (.lst xs) := (exA.priv D memD).trans hl
      have raA := ra.ex exA
      cases kk with
      | false =>
        exact ⟨α3, h4, acc, xs, zs, moA, hxA, pvA, rl3, hlA, raA, ez, ea⟩
      | true =>
        obtain ⟨y1, h5, q3, ez⟩ := bnd_eq (show bnd (fa ρ1 h4) _ = _ from ez)
        obtain ⟨zs', h6, q4, ez⟩ := bnd_eq ez
        cases ez
        refine ⟨α3, ρ1, h4, re2.ex ex3, rl3, y1, h5, q3, fun α4 H4 yv ex4 rl4 ry => ?_⟩
        have exB := exA.trans ex4
        have memB : D ∈ α4.x := by rw [exB.x]; exact memD
        have hlB : H4 D = some (.lst xs) := (exB.priv D memD).trans hl
        refine ⟨xs, hlB, ?_, α4, h5, acc ++ [y1], xs ++ [yv], zs', (mo.trans exB.mo).trans (Mo.wrx memB), exB.x.trans hx, fun p hp => ?_, rl4.wrx memB, upd_same, ((ra.ex exB).mo (Mo.wrx memB)).app (.cons (ry.mo (Mo.wrx memB)) .nil), q4, by rw [← ea, List.append_assoc]; rfl⟩
        · have : acc.length + (y1 :: zs').length = ys.length := by rw [← ea, List.length_append]
          rw [List.length_cons] at this
          rw [← ra.len]; omega
        · rw [upd_ne (fun z => rl1.tr p hp (by rw [z]; exact hD))]
          exact (exB.priv p (by rw [hx]; exact List.mem_cons_of_mem _ hp)).trans (pv p hp)
  · have hl' : i = us.length := by omega
    subst hl'
    rw [List.drop_length, lcS] at ez
    by_cases so : srcOk h srcs
    case neg => rw [if_neg so] at ez; cases ez
    rw [if_pos so] at ez
    cases ez
    rw [List.append_nil] at ea
    subst ea
    exact .inl ⟨(wk α H _ mo rl so us.length).1 (Nat.le_refl _), fin.made hD hl ra rl hx mo pv rl1.tr⟩
end
end L2
end
section
set_option Elab.async false
set_option maxRecDepth 100000
set_option linter.unusedVariables false
set_option maxHeartbeats 1000000
namespace L2
open PySem PySem.Spec PySem.F PyProof.Rows
section
variable {X : Cx} {S : Sx} {α α' : Am} {H H' : Hp} {h h' : PH} {e c tg iter : Expr} {pos : Pos} {fa : EF} {ba : BF} {fi : IF} {g : GF} {b : SF} {is : List Nat}
theorem s_lc {m : Bool} {elt : Expr} {ifs : List Expr} {scope : Scope} {own : List (Str × Nat)} {t : BF} (hc : X.calm = true) (hN : X.N.Nodup) (hi : PI X tg iter (iS S fi)) (ok : BlkOk X.N X.env.scope scope own)
    (hg : ∀ (s : Shared) (H : Hp) (C : Addr) (cl : List (Str × Addr)) (fp : List Addr), PG (X.blk s H scope (compEnvC scope cl C X.env) fp) tg (tG S is g)) (ht : ∀ (s : Shared) (H : Hp) (C : Addr) (cl : List (Str × Addr)) (fp : List Addr), PTs (X.blk s H scope (compEnvC scope cl C X.env) fp) ifs (tT S t))
    (he : ∀ (s : Shared) (H : Hp) (C : Addr) (cl : List (Str × Addr)) (fp : List Addr), PE (X.blk s H scope (compEnvC scope cl C X.env) fp) elt (tS S fa)) (hsub : ∀ j ∈ is, j ∈ own.map (·.2) := by decide) (hs : ∀ x, foldedSetIterable iter X.env x = pure x := by intro _; rfl) :
    PE X (.ListComp elt [⟨tg, iter, ifs, 0⟩] scope pos) (tS S (eLc m fi g t fa (own.map (·.2)))) := (pe_lc hc hN hi ok hg ht he hs).wk fun _ _ _ p => tS_lc hsub p
open Classical in
noncomputable def genS (cont : Bool) (g : GF) (f : EF) (srcs : Srcs) (ρ : En) : List U → PH → Option (U × PH)
  | [], h => if srcOk h srcs then some (.bl cont, h) else none
  | u :: r, h => if srcOk h srcs then bnd (g u ρ h) fun ρ1 h1 => bnd (f ρ1 h1) fun y h2 => match y with
      | .bl k => if k = cont then genS cont g f srcs ρ r h2 else some (.bl (!cont), h2)
      | _ => none
    else none
@[simp] noncomputable def eGen (cont : Bool) (fi : IF) (g : GF) (f : EF) (vs : List Nat) : EF := fun ρ h => bnd (fi ρ h) fun p h1 => genS cont g f p.2 (wipeE ρ vs) p.1 h1
theorem tS_gen {cont : Bool} {vs : List Nat} {Pt : Addr} {σ : St} {Q : VK} (hP : Pt ∈ S.tabs) (hsub : ∀ j ∈ is, j ∈ vs) (p : tS S (eGen cont fi g fa vs) σ H Q) : tGenB cont (iS S fi) (tG S is g) (tS S fa) vs Pt σ H Q := by
  obtain ⟨α, ρ, h, re, rl, fl, h', e, k⟩ := p
  obtain ⟨⟨us, srcs⟩, h1, e1, e2⟩ := bnd_eq e
  have e2 : genS cont g fa srcs (wipeE ρ vs) us h1 = some (fl, h') := e2
  refine ⟨α, ρ, h, re, rl, (us, srcs), h1, e1, fun α1 H1 J ex1 rl1 wk => ⟨(rl1.tab Pt hP).1, ?_⟩⟩
  have re1 := re.ex ex1
  have nots : (!cont) = !cont := rfl
  refine ⟨fun i n H => n = us.length - i ∧ i ≤ us.length ∧ ∃ α h, Ex α1 H1 α H ∧ Rl S α H h ∧ genS cont g fa srcs (wipeE ρ vs) (us.drop i) h = some (fl, h'), ⟨us.length, by omega, Nat.zero_le _, α1, h1, Ex.refl _ _, rl1, e2⟩, ?_⟩
  rintro i n H ⟨rfl, hi, α, h, ex, rl, ez⟩
  by_cases hlt : i < us.length
  · rw [List.drop_eq_getElem_cons hlt, genS] at ez
    by_cases so : srcOk h srcs
    case neg => rw [if_neg so] at ez; cases ez
    rw [if_pos so] at ez
    obtain ⟨ρ1, h3, q1, ez⟩ := bnd_eq ez
    obtain ⟨y, h4, q2, ez⟩ := bnd_eq ez
    obtain ⟨go, yl⟩ := (wk α H h ex.mo rl so i).2 us[i] (List.getElem?_eq_getElem hlt)
    refine .inr ⟨go, fun H => ∃ α h, Ex α1 H1 α H ∧ Rl S α H h ∧ genS cont g fa srcs (wipeE ρ vs) (us.drop (i + 1)) h = some (fl, h'), fun H' q => ⟨us.length - (i + 1), by omega, rfl, hlt, q⟩, fun x H' yy => ?_⟩
    obtain ⟨α', ex', rl', ru⟩ := yl x H' yy
    refine ⟨α', wipeE ρ vs, h, us[i], ((re1.ex ex).ex ex').wipe vs, rl', ru, ρ1, h3, q1, fun α2 H2 σ2 ex2 rl2 re2 o2 l2 => ⟨?_, ?_⟩⟩
    · exact (wipe_eq (σ := wipe σ vs) (fun j hj => o2 j fun z => hj (hsub j z)) l2).trans (wipe_idem σ vs)
    · refine ⟨α2, ρ1, h3, re2, rl2, y, h4, q2, fun α3 H3 v ex3 rl3 ry => ?_⟩
      have exA := ex.trans ((ex'.trans ex2).trans ex3)
      cases y with
      | bl kk =>
        refine ⟨kk, ry.bl_of, ?_⟩
        have ez : (if kk = cont then genS cont g fa srcs (wipeE ρ vs) (us.drop (i + 1)) h4 else some (.bl (!cont), h4)) = some (fl, h') := ez
        by_cases hk : kk = cont
        · rw [if_pos hk] at ez ⊢
          exact ⟨α3, h4, exA, rl3, ez⟩
        · rw [if_neg hk] at ez ⊢
          cases ez
          exact k α3 H3 _ (ex1.trans exA) rl3 (.bl _)
      | _ => cases ez
  · have hl' : i = us.length := by omega
    subst hl'
    rw [List.drop_length, genS] at ez
    by_cases so : srcOk h srcs
    case neg => rw [if_neg so] at ez; cases ez
    rw [if_pos so] at ez
    cases ez
    exact .inl ⟨(wk α H _ ex.mo rl so us.length).1 (Nat.le_refl _), k α H _ (ex1.trans ex) rl (.bl _)⟩
instance (i j : Int) : Decidable (IntMulOk i j) := by unfold IntMulOk; infer_instance
def mulsOk : List Int → List Int → Bool
  | x :: xs, y :: ys => decide (IntMulOk x y) && mulsOk xs ys
  | _, _ => true
theorem mulsOk_get : ∀ {xs ys : List Int}, mulsOk xs ys = true → ∀ (i : Nat) (x y : Int), xs[i]? = some x → ys[i]? = some y → IntMulOk x y
  | [], _, _, i, x, y, h, _ => by simp at h
  | _ :: _, [], _, i, x, y, _, h => by simp at h
  | a :: xs, b :: ys, q, 0, x, y, h1, h2 => by
    simp at h1 h2; subst h1; subst h2
    rw [mulsOk, Bool.and_eq_true] at q; exact of_decide_eq_true q.1
  | a :: xs, b :: ys, q, i + 1, x, y, h1, h2 => by
    rw [mulsOk, Bool.and_eq_true] at q; exact mulsOk_get q.2 i x y (by simpa using h1) (by simpa using h2)
@[simp] def eWeigh (fa fb : EF) : EF := fun ρ h => bnd (fa ρ h) fun u h1 => bnd (fb ρ h1) fun v h2 => (numsP h2 u).bind fun xs => (numsP h2 v).bind fun ys => if mulsOk xs ys = true then some (.int (dot xs ys), h2) else none
theorem s_weigh {fb : EF} {Pt : Addr} (hf : Fit X S) (hP : Pt ∈ S.tabs) (q : PE X e (tWeigh S.K Pt (tCons (tS S fa) (tCons (tS S fb) tNil)))) : PE X e (tS S (eWeigh fa fb)) := q.wk fun σ H Q ⟨α, ρ, h, re, rl, w, h3, e, k⟩ => by
  obtain ⟨u, h1, e1, e⟩ := bnd_eq e
  obtain ⟨v, h2, e2, e⟩ := bnd_eq e
  refine ⟨α, ρ, h, re, rl, u, h1, e1, fun α1 H1 x ex1 rl1 ru => ⟨α1, ρ, h1, re.ex ex1, rl1, v, h2, e2, fun α2 H2 y ex2 rl2 rv => ?_⟩⟩
  cases q1 : numsP h2 u with
  | none => rw [q1] at e; cases e
  | some xs =>
    cases q2 : numsP h2 v with
    | none => rw [q1, q2] at e; cases e
    | some ys =>
      rw [q1, q2] at e
      have e : (if mulsOk xs ys = true then some (U.int (dot xs ys), h2) else none) = some (w, h3) := e
      by_cases hm : mulsOk xs ys = true
      · rw [if_pos hm] at e; cases e
        obtain ⟨b1, a, rfl, s1⟩ := numsP_of rl2 q1 (ru.ex ex2)
        obtain ⟨b2, b, rfl, s2⟩ := numsP_of rl2 q2 rv
        exact ⟨b1, b2, a, b, xs, ys, rfl, s1, s2, mulsOk_get hm, (rl2.tab Pt hP).1, k α2 H2 _ (ex1.trans ex2) rl2 (.int _)⟩
      · rw [if_neg hm] at e; cases e
abbrev FF := List U → PH → Option (U × PH)
def spS (S : Sx) (F : FF) : Sp := fun vs H Q _ => ∃ α h us, Rl S α H h ∧ RUs S α H us vs ∧ PU S α H (F us h) Q
@[simp] def startE (n : Nat) (us : List U) : En := us.map some ++ List.replicate (n - us.length) none
@[simp] def fnR (n m : Nat) (b : SF) : FF := fun us h => if us.length = n then bnd (b (startE m us) h) fun fl h' => match fl with
    | .rt u => some (u, h')
    | .nx _ => some (.non, h')
    | _ => none
  else none
theorem RE.start {N : List Str} {us : List U} {vs : List V} (r : RUs S α H us vs) : RE S α H (startE N.length us) (L2.start N vs) := by
  refine ⟨?_, fun i u q => ?_⟩
  · unfold startE L2.start; rw [List.length_append, List.length_append, List.length_map, List.length_map, List.length_replicate, List.length_replicate, r.len]
  · unfold startE at q
    by_cases hi : i < us.length
    · rw [List.getElem?_append_left (by rw [List.length_map]; exact hi), List.getElem?_map, List.getElem?_eq_getElem hi] at q
      cases q
      obtain ⟨x, hx, rx⟩ := r.get (List.getElem?_eq_getElem hi)
      refine ⟨x, ?_, rx⟩
      unfold L2.start
      rw [List.getElem?_append_left (by rw [List.length_map, ← r.len]; exact hi), List.getElem?_map, hx]; rfl
    · rw [List.getElem?_append_right (by rw [List.length_map]; omega), List.getElem?_replicate] at q
      split at q <;> cases q
theorem spS_len {F : FF} {n : Nat} (hF : ∀ us h r, F us h = some r → us.length = n) : ∀ vs H Q E, spS S F vs H Q E → vs.length = n := fun vs H Q E ⟨α, h, us, rl, rs, u, h', e, _⟩ => by rw [← rs.len]; exact hF us h _ e
theorem fnR_len {n m : Nat} {b : SF} : ∀ us h r, fnR n m b us h = some r → us.length = n := fun us h r e => by
  unfold fnR at e
  by_cases hl : us.length = n
  · exact hl
  · rw [if_neg hl] at e; cases e
theorem tSt_fn {N : List Str} {n : Nat} {vs : List V} {Q : VK} {E : XK} (p : spS S (fnR n N.length b) vs H Q E) : tSt S b { nx := fun _ H' => Q .non H', rt := Q } (start N vs) H := by
  obtain ⟨α, h, us, rl, rs, u, h', e, k⟩ := p
  have hl := fnR_len us h _ e
  unfold fnR at e
  rw [if_pos hl] at e
  obtain ⟨fl, h1, e1, e2⟩ := bnd_eq e
  refine ⟨α, startE N.length us, h, RE.start rs, rl, fl, h1, e1, ?_⟩
  cases fl with
  | nx ρ => cases e2; exact fun α1 H1 σ1 ex1 rl1 re1 => k α1 H1 .non ex1 rl1 .non
  | rt u => cases e2; exact k
  | bk _ => cases e2
  | ct _ => cases e2
variable {P : Program} {w : World} {K : PySem.W.Frag} {mg : Str → Option Value} {base : Heap}
theorem Df.okS {x : Str} {N ps : List Str} {st : Stmt} {k : Nat} (D : Df K mg x ps st) (sc : FnScope N ps (defScope st))
    (hb : ∀ (f : Addr) (cdv : Value) (A : Around) (outer : List Env) (s : Shared) (H : Hp) (E : XK), Room k (A.deeper (envOfC x (defScope st) s.heap.objs.size f cdv)) → PSs (cxOf CX0 P w K mg base N x (defScope st) f cdv A outer s H E).nox (defBody st) (tSt S b)) :
    Kn P w K mg base x ps (k + 1) (spS S (fnR ps.length N.length b)) := D.ok sc (spS_len fnR_len) fun f cdv A outer s H vs Q E hr p => ⟨_, hb f cdv A outer s H E hr, tSt_fn p⟩
theorem Kn.imp {x : Str} {ps : List Str} {k : Nat} {sp sp' : Sp} (G : Kn P w K mg base x ps k sp) (h : ∀ vs H Q E, sp' vs H Q E → sp vs H Q E) : Kn P w K mg base x ps k sp' := by
  obtain ⟨f, fd, F, r⟩ := G.ex
  exact ⟨f, fd, F.imp h, r⟩
theorem noS {k : Nat} {x : Str} {ps : List Str} {st : Stmt} (D : Df K mg x ps st) : Kn P w K mg base x ps k (spS S fun _ _ => Option.none) := Kn.none D fun vs H Q E p => by
  obtain ⟨_, _, _, _, _, _, _, e, _⟩ := p
  cases e
@[simp] def eCall (F : FF) (fr : AF) : EF := fun ρ h => bnd (fr ρ h) fun us h1 => F us h1
theorem tS_call {F : FF} {fr : AF} {σ : St} {Q : VK} {E : XK} (p : tS S (eCall F fr) σ H Q) : tCall (spS S F) [] E (tA S fr) σ H Q := by
  obtain ⟨α, ρ, h, re, rl, w, h3, e, k⟩ := p
  obtain ⟨us, h1, e1, e⟩ := bnd_eq e
  refine ⟨α, ρ, h, re, rl, us, h1, e1, fun α1 H1 xs ex1 rl1 rs => ?_⟩
  show spS S F (xs ++ []) H1 Q E
  rw [List.append_nil]
  exact ⟨α1, h1, us, rl1, rs, w, h3, e, fun α2 H2 y ex2 rl2 ry => k α2 H2 y (ex1.trans ex2) rl2 ry⟩
theorem s_kn {x : Str} {ps : List Str} {k : Nat} {F : FF} {es : List Expr} {fr : AF} {p : Pos} (G : Kn X.prog X.w X.K X.mg X.base x ps k (spS S F)) (hr : Room k X.A) (hg : Gl X x) (ha : PA X (e :: es) (tA S fr))
    (hdb : (x == ("__debug__" : Str)) = false := by decide) (he : starEach (e :: es) X.env = (false, eval e X.env) :: starEach es X.env := by rfl) (hpl : (backTo pos (starEach es X.env)).any (·.1) = false := by rfl) : PE X (.Call (.Name x p) (e :: es) [] pos) (tS S (eCall F fr)) := (pe_kn G hr hg ha hdb he hpl).wk fun _ _ _ => tS_call
mutual
def blwU (n : Nat) : U → Prop
  | .tup us => blwUs n us
  | .lst us => blwUs n us
  | .scr us => blwUs n us
  | .dct us => blwKs n us
  | .ref a => a < n
  | _ => True
def blwUs (n : Nat) : List U → Prop
  | [] => True
  | u :: r => blwU n u ∧ blwUs n r
def blwKs (n : Nat) : List (Key × U) → Prop
  | [] => True
  | (_, u) :: r => blwU n u ∧ blwKs n r
end
def blwF (n : Nat) : List (Str × U) → Prop
  | [] => True
  | (_, u) :: r => blwU n u ∧ blwF n r
def blwO (n : Nat) : O → Prop
  | .lst us => blwUs n us
  | .dK us => blwKs n us
  | .ins _ fs => blwF n fs
mutual
theorem RU.blw : ∀ {u : U} {x : V}, RU S α H u x → blwU α.a.length u
  | _, _, .non => by simp [blwU]
  | _, _, .bl _ => by simp [blwU]
  | _, _, .int _ => by simp [blwU]
  | _, _, .str _ => by simp [blwU]
  | _, _, .tup _ r => by rw [blwU]; exact RUs.blw r
  | _, _, .lst _ r => by rw [blwU]; exact RUs.blw r
  | _, _, .scr _ r => by rw [blwU]; exact RUs.blw r
  | _, _, .dct _ r => by rw [blwU]; exact RKs.blw r
  | _, _, .set _ => by simp [blwU]
  | _, _, .ref h => by rw [blwU]; exact (List.getElem?_eq_some_iff.mp h).1
theorem RUs.blw : ∀ {u : List U} {x : List V}, RUs S α H u x → blwUs α.a.length u
  | _, _, .nil => by simp [blwUs]
  | _, _, .cons a r => by rw [blwUs]; exact ⟨RU.blw a, RUs.blw r⟩
theorem RKs.blw : ∀ {u : List (Key × U)} {x : List (Key × V)}, RKs S α H u x → blwKs α.a.length u
  | _, _, .nil => by simp [blwKs]
  | _, _, .cons a r => by rw [blwKs]; exact ⟨RU.blw a, RKs.blw r⟩
end
theorem RF.blw : ∀ {u : List (Str × U)} {x : List (Str × V)}, RF S α H u x → blwF α.a.length u
  | _, _, .nil => trivial
  | _, _, .cons a r => ⟨a.2.blw, RF.blw r⟩
theorem RO.blw {o : O} {p : Addr} (r : RO S α H o p) : blwO α.a.length o := by
  cases o with
  | lst us => obtain ⟨_, _, q⟩ := r; exact q.blw
  | dK us => obtain ⟨_, _, q⟩ := r; exact q.blw
  | ins c fs => obtain ⟨_, _, _, q⟩ := r; exact q.blw
def Am.cut (α : Am) (n : Nat) : Am := ⟨α.a.take n, α.x⟩
theorem own_cut {n : Nat} {p : Addr} (h : (α.cut n).own p) : α.own p := h.elim (fun z => .inl (List.mem_of_mem_take z)) .inr
section
variable {n : Nat}
theorem TAt.cut {p : Addr} {xs : List V} (h : TAt S α H p xs) : TAt S (α.cut n) H p xs := h.elim (fun z => .inl ⟨z.1, fun y => z.2 (own_cut y)⟩) .inr
theorem LAt.cut {p : Addr} {xs : List V} (h : LAt S α H p xs) : LAt S (α.cut n) H p xs := ⟨h.1, fun y => h.2 (own_cut y)⟩
theorem CAt.cut {p : Addr} {xs : List V} (h : CAt S α H p xs) : CAt S (α.cut n) H p xs := h.elim (fun z => .inl ⟨z.1, fun y => z.2 (own_cut y)⟩) .inr
theorem DAt.cut {p : Addr} {xs : List (Key × V)} (h : DAt S α H p xs) : DAt S (α.cut n) H p xs := h.elim (fun z => .inl ⟨z.1, fun y => z.2 (own_cut y)⟩) .inr
theorem EAt.cut {p : Addr} {xs : List Int} (h : EAt S α H p xs) : EAt S (α.cut n) H p xs := ⟨h.1, fun y => h.2 (own_cut y)⟩
mutual
theorem RU.cut : ∀ {u : U} {x : V}, blwU n u → RU S α H u x → RU S (α.cut n) H u x
  | _, _, _, .non => .non
  | _, _, _, .bl _ => .bl _
  | _, _, _, .int _ => .int _
  | _, _, _, .str _ => .str _
  | _, _, b, .tup h r => .tup h.cut (RUs.cut2 (by rw [blwU] at b; exact b) r)
  | _, _, b, .lst h r => .lst h.cut (RUs.cut2 (by rw [blwU] at b; exact b) r)
  | _, _, b, .scr h r => .scr h.cut (RUs.cut2 (by rw [blwU] at b; exact b) r)
  | _, _, b, .dct h r => .dct h.cut (RKs.cut2 (by rw [blwU] at b; exact b) r)
  | _, _, _, .set h => .set h.cut
  | _, _, b, .ref h => .ref (by rw [blwU] at b; show (α.a.take n)[_]? = _; rw [List.getElem?_take_of_lt b]; exact h)
theorem RUs.cut2 : ∀ {u : List U} {x : List V}, blwUs n u → RUs S α H u x → RUs S (α.cut n) H u x
  | _, _, _, .nil => .nil
  | _, _, b, .cons a r => .cons (RU.cut (by rw [blwUs] at b; exact b.1) a) (RUs.cut2 (by rw [blwUs] at b; exact b.2) r)
theorem RKs.cut2 : ∀ {u : List (Key × U)} {x : List (Key × V)}, blwKs n u → RKs S α H u x → RKs S (α.cut n) H u x
  | _, _, _, .nil => .nil
  | _, _, b, .cons a r => .cons (RU.cut (by rw [blwKs] at b; exact b.1) a) (RKs.cut2 (by rw [blwKs] at b; exact b.2) r)
end
theorem RF.cut : ∀ {u : List (Str × U)} {x : List (Str × V)}, blwF n u → RF S α H u x → RF S (α.cut n) H u x
  | _, _, _, .nil => .nil
  | _, _, b, .cons a r => .cons ⟨a.1, a.2.cut b.1⟩ (RF.cut b.2 r)
theorem RO.cut {o : O} {p : Addr} (b : blwO n o) (r : RO S α H o p) : RO S (α.cut n) H o p := by
  cases o with
  | lst us => obtain ⟨xs, e, q⟩ := r; exact ⟨xs, e, q.cut2 b⟩
  | dK us => obtain ⟨xs, e, q⟩ := r; exact ⟨xs, e, q.cut2 b⟩
  | ins c fs => obtain ⟨dx, xs, e, q⟩ := r; exact ⟨dx, xs, e, q.cut b⟩
end
def frzU (n : Nat) (h : PH) : U → U
  | .ref a => if a < n then .ref a else match h[a]? with
    | some (.lst us) => .lst us
    | _ => .ref a
  | u => u
def CutOk (h h' : PH) : Prop := h.length ≤ h'.length ∧ ∀ i, i < h.length → h'[i]? = h[i]? ∨ ∃ o, h'[i]? = some o ∧ blwO h.length o
open Classical in
noncomputable def finR (F : FF) : FF := fun us h => bnd (F us h) fun u h' => if CutOk h h' ∧ blwU h.length (frzU h.length h' u) then some (frzU h.length h' u, h'.take h.length) else none
theorem spS_fin {F : FF} {vs : List V} {Q : VK} {E : XK} (p : spS S (finR F) vs H Q E) : spS S F vs H Q E := by
  obtain ⟨α, h, us, rl, rs, u, h1, e, k⟩ := p
  obtain ⟨v, h', e1, e2⟩ := bnd_eq e
  by_cases hc : CutOk h h' ∧ blwU h.length (frzU h.length h' v)
  case neg => rw [if_neg hc] at e2; cases e2
  rw [if_pos hc] at e2
  cases e2
  refine ⟨α, h, us, rl, rs, v, h', e1, fun α1 H1 x ex rl1 ru => ?_⟩
  obtain ⟨⟨hl, hu⟩, hb⟩ := hc
  obtain ⟨β, eβ⟩ := ex.pre
  have ecut : α1.a.take h.length = α.a := by rw [eβ, ← rl.len]; exact List.take_left' rfl
  have ecut' : α1.cut h.length = α := by
    show (⟨α1.a.take h.length, α1.x⟩ : Am) = α
    rw [ecut, ex.x]
  have sub : ∀ {p : Addr}, α.own p → α1.own p := fun {p} z => by rw [← ecut'] at z; exact own_cut z
  have exA : Ex α H α H1 := ⟨fun p o e n => ⟨(ex.keep p o e n).1, n⟩, ⟨[], by simp⟩, rfl, ex.priv⟩
  have rlA : Rl S α H1 (h'.take h.length) := by
    refine ⟨by rw [List.length_take, Nat.min_eq_left hl]; exact rl.len, rl.nd, rl.dj, fun i o e => ?_, fun p hp => rl1.tr p (by rw [ex.x]; exact hp), fun p hp => ⟨(rl1.tab p hp).1, fun z => (rl1.tab p hp).2 (sub z)⟩⟩
    have hi : i < h.length := by
      have := (List.getElem?_eq_some_iff.mp e).1
      rw [List.length_take] at this; omega
    rw [List.getElem?_take_of_lt hi] at e
    obtain ⟨p, e1, ro⟩ := rl1.ob i o e
    have bo : blwO h.length o := by
      rcases hu i hi with q | ⟨o', q, b⟩
      · rw [q] at e
        obtain ⟨p', _, ro'⟩ := rl.ob i o e
        rw [← rl.len]; exact ro'.blw
      · rw [q] at e; cases e; exact b
    refine ⟨p, ?_, ?_⟩
    · rw [← ecut, List.getElem?_take_of_lt hi]; exact e1
    · have := ro.cut bo
      rw [ecut'] at this; exact this
  have fin : ∀ {u' : U}, blwU h.length u' → RU S α1 H1 u' x → frzU h.length h' v = u' → Q x H1 := fun {u'} b r eq => by
    have r' := r.cut b
    rw [ecut'] at r'
    exact k α H1 x exA rlA (by rw [eq]; exact r')
  cases v with
  | ref a =>
    rw [frzU] at hb
    by_cases ha : a < h.length
    · exact fin (by rw [if_pos ha] at hb; exact hb) ru (by rw [frzU, if_pos ha])
    · rw [if_neg ha] at hb
      cases q : h'[a]? with
      | none => rw [q] at hb; exact fin hb ru (by rw [frzU, if_neg ha, q])
      | some o =>
        rw [q] at hb
        cases o with
        | lst ws =>
          cases ru with
          | @ref _ p hp =>
            obtain ⟨xs, h2, h3⟩ := rl1.get hp q
            have nin : ¬ α.own p := by
              rintro (z | z)
              · obtain ⟨j, hj⟩ := List.mem_iff_getElem?.mp z
                have hj' : α1.a[j]? = some p := by rw [eβ, List.getElem?_append_left (List.getElem?_eq_some_iff.mp hj).1]; exact hj
                have := nodup_inj rl1.nd hp hj'
                have := (List.getElem?_eq_some_iff.mp hj).1
                rw [rl.len] at this; omega
              · exact rl1.dj p (List.mem_of_getElem? hp) (by rw [ex.x]; exact z)
            have b : blwUs h.length ws := by have hb : blwU h.length (.lst ws) := hb; rw [blwU] at hb; exact hb
            have r' := h3.cut2 b
            rw [ecut'] at r'
            exact k α H1 _ exA rlA (by rw [frzU, if_neg ha, q]; exact .lst ⟨h2, nin⟩ r')
        | dK _ => exact fin hb ru (by rw [frzU, if_neg ha, q])
        | ins _ _ => exact fin hb ru (by rw [frzU, if_neg ha, q])
  | _ => exact fin hb ru rfl
theorem Kn.fin {x : Str} {ps : List Str} {k : Nat} {F : FF} (G : Kn P w K mg base x ps k (spS S F)) : Kn P w K mg base x ps k (spS S (finR F)) := G.imp fun _ _ _ _ => spS_fin
end
end L2
end
section
set_option Elab.async false
set_option maxRecDepth 100000
set_option linter.unusedVariables false
set_option maxHeartbeats 1000000
namespace L2
open PySem PySem.Spec PySem.F PyProof.Rows
section
variable {X : Cx} {S : Sx} {α α' : Am} {H H' : Hp} {h h' : PH} {a b e c : Expr} {pos : Pos} {fa fb : EF}
theorem RE.mo {ρ : En} {σ : St} (r : RE S α H ρ σ) (m : Mo α H α' H') : RE S α' H' ρ σ := ⟨r.1, fun i u q => by
  obtain ⟨x, a, b⟩ := r.2 i u q
  exact ⟨x, a, b.mo m⟩⟩
theorem sv (i : Nat) {x : Str} {pos : Pos} (hN : X.N[i]? = some x := by rfl) (hv : Vis X.env.scope x := by first | exact Or.inl rfl | exact Or.inr (Or.inl rfl) | exact Or.inr (Or.inr rfl)) (hd : (x == ("__debug__" : Str)) = false := by decide)
    (hcd : (x == ("__classdict__" : Str)) = false := by decide) : PE X (.Name x pos) (tS S (eVar i)) := s_var hN hv hd hcd
theorem oS_inF (hf : Fit X S) (hu : X.A.units + 64 < cLine) : OpR X (compareOp .In) (rS2 S (uIn false)) := oS_in hf hu (neg := false)
@[simp] def uIsN : G2 := fun h u v => (isP u v).map fun b => (.bl (!b), h)
theorem oS_isN : OpR X (compareOp .IsNot) (rS2 S uIsN) := by
  intro pins s σ H x y v u Q I rx ry hh
  obtain ⟨α, h, a, b, rl, ra, rb, p⟩ := hh
  unfold uIsN at p
  cases e : isP a b with
  | none => rw [e] at p; exact (no_pu p rfl).elim
  | some k =>
    rw [e] at p
    have p : PU S α H (some (.bl (!k), h)) Q := p
    have q := p.val rl (.bl (!k))
    cases b with
    | non => cases rb; exact op_notN pins s σ H _ _ v u Q I rx ry ⟨rfl, by rw [isN_dec e ra]; exact q⟩
    | bl d =>
      cases a with
      | bl c => cases e; cases ra; cases rb; exact op_isNotB pins s σ H _ _ v u Q I rx ry ⟨c, d, rfl, rfl, q⟩
      | _ => cases e
    | _ => cases a <;> cases e
@[simp] def eLRng (m : Bool) (fa : EF) : EF := fun ρ h => bnd (fa ρ h) fun u h1 => match u with
  | .int j => if 0 ≤ j ∧ j ≤ 1000 then mk m (rngU 0 j.toNat) h1 else none
  | _ => none
@[simp] def eRev (m : Bool) (fa : EF) : EF := fun ρ h => bnd (fa ρ h) fun u h1 => match u with
  | .scr us => mk m us.reverse h1
  | u => (its h1 u).bind fun us => mk m us.reverse h1
abbrev MF := PH → U → List U → Option (U × PH)
def rSm (S : Sx) (f : MF) : V → List V → Hp → VK → Prop := fun x xs H Q => ∃ α h u us, Rl S α H h ∧ RU S α H u x ∧ RUs S α H us xs ∧ PU S α H (f h u us) Q
def tyOk (T : String) (h : PH) : U → Bool
  | .str _ => T == "str"
  | .int _ => T == "int"
  | .lst _ => T == "list"
  | .scr _ => T == "list"
  | .set _ => T == "set"
  | .ref a => match h[a]? with
    | some (.lst _) => T == "list"
    | some (.dK _) => T == "dict"
    | _ => false
  | _ => false
theorem tyOk_of {T : String} (rl : Rl S α H h) {u : U} {x : V} (e : tyOk T h u = true) (r : RU S α H u x) : tyV S.K T x H := by
  cases u with
  | str _ => cases r; exact eq_of_beq e
  | int _ => cases r; exact eq_of_beq e
  | lst _ => cases r with | lst a b => exact .inl ⟨eq_of_beq e, _, SqL.of a.1⟩
  | scr _ => cases r with | scr a b => exact .inl ⟨eq_of_beq e, _, a.sq⟩
  | set _ => cases r with | set a => exact .inr (.inr (.inr ⟨eq_of_beq e, _, _, a.1⟩))
  | ref n =>
    rw [tyOk] at e
    cases q : h[n]? with
    | none => simp only [q] at e; cases e
    | some o =>
      simp only [q] at e
      cases r with
      | ref hp =>
        have ro := rl.get hp q
        cases o with
        | lst us => obtain ⟨xs, h1, _⟩ := ro; exact .inl ⟨eq_of_beq e, xs, SqL.of h1⟩
        | dK us => obtain ⟨xs, h1, _⟩ := ro; exact .inr (.inr (.inl ⟨eq_of_beq e, .inl ⟨xs, h1⟩⟩))
        | ins c fs => cases e
  | _ => cases e
@[simp] def eM (T : String) (f : MF) (fo : EF) (fr : AF) : EF := fun ρ h => bnd (fo ρ h) fun o h1 => if tyOk T h1 o = true then bnd (fr ρ h1) fun us h2 => f h2 o us else none
theorem s_m {T : String} {f : MF} {fo : EF} {fr : AF} (q : PE X e (tBM S.K T (rSm S f) (tS S fo) (tA S fr))) : PE X e (tS S (eM T f fo fr)) := q.wk fun σ H Q ⟨α, ρ, h, re, rl, w, h3, e, k⟩ => by
  obtain ⟨u, h1, e1, e⟩ := bnd_eq e
  by_cases ht : tyOk T h1 u = true
  case neg => rw [if_neg ht] at e; cases e
  rw [if_pos ht] at e
  obtain ⟨us, h2, e2, e⟩ := bnd_eq e
  exact ⟨α, ρ, h, re, rl, u, h1, e1, fun α1 H1 x ex1 rl1 ru => ⟨tyOk_of rl1 ht ru, α1, ρ, h1, re.ex ex1, rl1, us, h2, e2, fun α2 H2 xs ex2 rl2 rs => ⟨α2, h2, u, us, rl2, ru.ex ex2, rs, w, h3, e, fun α3 H3 y ex3 rl3 ry => k α3 H3 y ((ex1.trans ex2).trans ex3) rl3 ry⟩⟩⟩
theorem s_m0 {T : String} {f : MF} {fo : EF} (q : PE X e (tBM0 S.K T (rSm S f) (tS S fo))) : PE X e (tS S (eM T f fo aNil)) := q.wk fun σ H Q ⟨α, ρ, h, re, rl, w, h3, e, k⟩ => by
  obtain ⟨u, h1, e1, e⟩ := bnd_eq e
  by_cases ht : tyOk T h1 u = true
  case neg => rw [if_neg ht] at e; cases e
  rw [if_pos ht] at e
  exact ⟨α, ρ, h, re, rl, u, h1, e1, fun α1 H1 x ex1 rl1 ru => ⟨tyOk_of rl1 ht ru, α1, h1, u, [], rl1, ru, .nil, w, h3, e, fun α3 H3 y ex3 rl3 ry => k α3 H3 y (ex1.trans ex3) rl3 ry⟩⟩
def lsAt (h : PH) : U → Option (Nat × List U)
  | .ref a => match h[a]? with
    | some (.lst us) => some (a, us)
    | _ => none
  | _ => none
theorem lsAt_of (rl : Rl S α H h) {u : U} {x : V} {n : Nat} {us : List U} (e : lsAt h u = some (n, us)) (r : RU S α H u x) : ∃ p xs, x = .ref p ∧ α.a[n]? = some p ∧ H p = some (.lst xs) ∧ RUs S α H us xs := by
  cases u with
  | ref m =>
    rw [lsAt] at e
    cases q : h[m]? with
    | none => simp only [q] at e; cases e
    | some o =>
      simp only [q] at e
      cases o with
      | lst vs =>
        cases e
        cases r with
        | ref hp =>
          obtain ⟨xs, h1, h2⟩ := rl.get hp q
          exact ⟨_, xs, rfl, hp, h1, h2⟩
      | _ => cases e
  | _ => cases e
theorem PU.chg {n : Nat} {us' : List U} {xs' : List V} {w : U} {y : V} {p : Addr} {Q : VK} (q : PU S α H (some (w, h.set n (.lst us'))) Q) (rl : Rl S α H h) (hp : α.a[n]? = some p) (r : RUs S α H us' xs') (ry : RU S α H w y) : Q y (upd H p (.lst xs')) := by
  obtain ⟨v, h1, e, k⟩ := q
  cases e
  have ex := Ex.wr rl hp (.lst xs')
  exact k α _ y ex (rl.wr hp ⟨_, upd_same, r.ex ex⟩) (ry.ex ex)
@[simp] def mApp : MF := fun h o us => match us with
  | [y] => (lsAt h o).bind fun p => if p.2.length < sizeLine then some (.non, h.set p.1 (.lst (p.2 ++ [y]))) else none
  | _ => none
theorem mS_app : MtR X "list.append" (rSm S mApp) := by
  intro pins s σ H x xs v us Q I rx rxs hh
  obtain ⟨α, h, o, vs, rl, ro, rs, p⟩ := hh
  match vs, rs, p with
  | [], _, p => exact (no_pu p rfl).elim
  | _ :: _ :: _, _, p => exact (no_pu p rfl).elim
  | [y], rs, p =>
    obtain ⟨z, rfl, rz⟩ := rs.one
    have p : PU S α H ((lsAt h o).bind fun p => if p.2.length < sizeLine then some (.non, h.set p.1 (.lst (p.2 ++ [y]))) else none) Q := p
    cases q : lsAt h o with
    | none => rw [q] at p; exact (no_pu p rfl).elim
    | some nu =>
      obtain ⟨n, ws⟩ := nu
      rw [q] at p
      have p : PU S α H (if ws.length < sizeLine then some (.non, h.set n (.lst (ws ++ [y]))) else none) Q := p
      by_cases hl : ws.length < sizeLine
      · rw [if_pos hl] at p
        obtain ⟨pa, ys, rfl, hp, h1, h2⟩ := lsAt_of rl q ro
        exact mt_append pins s σ H _ _ v us Q I rx rxs ⟨pa, ys, z, rfl, rfl, h1, by rw [← h2.len]; exact hl, p.chg rl hp (h2.app (.cons rz .nil)) .non⟩
      · rw [if_neg hl] at p; exact (no_pu p rfl).elim
@[simp] def mExt : MF := fun h o us => match us with
  | [y] => (lsAt h o).bind fun p => (its h y).bind fun vs => if p.2.length + vs.length ≤ sizeLine then some (.non, h.set p.1 (.lst (p.2 ++ vs))) else none
  | _ => none
theorem mS_ext : MtR X "list.extend" (rSm S mExt) := by
  intro pins s σ H x xs v us Q I rx rxs hh
  obtain ⟨α, h, o, vs, rl, ro, rs, p⟩ := hh
  match vs, rs, p with
  | [], _, p => exact (no_pu p rfl).elim
  | _ :: _ :: _, _, p => exact (no_pu p rfl).elim
  | [y], rs, p =>
    obtain ⟨z, rfl, rz⟩ := rs.one
    have p : PU S α H ((lsAt h o).bind fun p => (its h y).bind fun vs => if p.2.length + vs.length ≤ sizeLine then some (.non, h.set p.1 (.lst (p.2 ++ vs))) else none) Q := p
    cases q : lsAt h o with
    | none => rw [q] at p; exact (no_pu p rfl).elim
    | some nu =>
      obtain ⟨n, ws⟩ := nu
      rw [q] at p
      cases q2 : its h y with
      | none => exact (no_pu p (by show ((its h y).bind _) = none; rw [q2]; rfl)).elim
      | some vs =>
        have p : PU S α H ((its h y).bind fun vs => if ws.length + vs.length ≤ sizeLine then some (.non, h.set n (.lst (ws ++ vs))) else none) Q := p
        rw [q2] at p
        have p : PU S α H (if ws.length + vs.length ≤ sizeLine then some (.non, h.set n (.lst (ws ++ vs))) else none) Q := p
        by_cases hl : ws.length + vs.length ≤ sizeLine
        · rw [if_pos hl] at p
          obtain ⟨pa, ys, rfl, hp, h1, h2⟩ := lsAt_of rl q ro
          obtain ⟨pb, zs, rfl, h3, h4⟩ := its_of rl q2 rz
          exact mt_extend pins s σ H _ _ v us Q I rx rxs ⟨pa, pb, ys, zs, rfl, rfl, h1, h3, by rw [← h2.len, ← h4.len]; exact hl, p.chg rl hp (h2.app h4) .non⟩
        · rw [if_neg hl] at p; exact (no_pu p rfl).elim
@[simp] def mPop : MF := fun h o us => match us with
  | [] => (lsAt h o).bind fun p => (p.2[p.2.length - 1]?).map fun y => (y, h.set p.1 (.lst p.2.dropLast))
  | [.int i] => (lsAt h o).bind fun p => if 0 ≤ i ∧ i < p.2.length ∧ p.2.length ≤ 1000000 then (p.2[i.toNat]?).map fun y => (y, h.set p.1 (.lst (p.2.eraseIdx i.toNat))) else none
  | _ => none
theorem mS_pop : MtR X "list.pop" (rSm S mPop) := by
  intro pins s σ H x xs v us Q I rx rxs hh
  obtain ⟨α, h, o, vs, rl, ro, rs, p⟩ := hh
  cases q : lsAt h o with
  | none =>
    refine (no_pu p ?_).elim
    unfold mPop
    split
    · rw [q]; rfl
    · rw [q]; rfl
    · rfl
  | some nu =>
    obtain ⟨n, ws⟩ := nu
    obtain ⟨pa, ys, rfl, hp, h1, h2⟩ := lsAt_of rl q ro
    by_cases hv : vs = []
    · subst hv
      cases rs
      have p : PU S α H ((lsAt h o).bind fun p => (p.2[p.2.length - 1]?).map fun y => (y, h.set p.1 (.lst p.2.dropLast))) Q := p
      rw [q] at p
      have p : PU S α H ((ws[ws.length - 1]?).map fun y => (y, h.set n (.lst ws.dropLast))) Q := p
      cases ey : ws[ws.length - 1]? with
      | none => rw [ey] at p; exact (no_pu p rfl).elim
      | some y =>
        rw [ey] at p
        obtain ⟨z, hz, rz⟩ := h2.get ey
        exact mt_pop pins s σ H _ _ v us Q I rx rxs ⟨pa, ys, z, rfl, rfl, h1, by rw [← h2.len]; exact hz, PU.chg p rl hp h2.dropLast rz⟩
    · by_cases hi : ∃ i, vs = [.int i]
      · obtain ⟨i, rfl⟩ := hi
        have p : PU S α H ((lsAt h o).bind fun p => if 0 ≤ i ∧ i < p.2.length ∧ p.2.length ≤ 1000000 then (p.2[i.toNat]?).map fun y => (y, h.set p.1 (.lst (p.2.eraseIdx i.toNat))) else none) Q := p
        rw [q] at p
        have p : PU S α H (if 0 ≤ i ∧ i < ws.length ∧ ws.length ≤ 1000000 then (ws[i.toNat]?).map fun y => (y, h.set n (.lst (ws.eraseIdx i.toNat))) else none) Q := p
        by_cases hl : 0 ≤ i ∧ i < ws.length ∧ ws.length ≤ 1000000
        case neg => rw [if_neg hl] at p; exact (no_pu p rfl).elim
        rw [if_pos hl] at p
        cases ey : ws[i.toNat]? with
        | none => rw [ey] at p; exact (no_pu p rfl).elim
        | some y =>
          rw [ey] at p
          obtain ⟨z, hz, rz⟩ := h2.get ey
          obtain ⟨ui, rfl, rui⟩ := rs.one
          cases rui
          exact mt_popAt pins s σ H _ _ v us Q I rx rxs (rd_popAt h1 hl.1 (by rw [← h2.len]; exact hl.2.1) (by rw [← h2.len]; exact hl.2.2) hz (PU.chg p rl hp (h2.eraseIdx _) rz))
      · refine (no_pu p ?_).elim
        unfold mPop
        split
        · exact absurd rfl hv
        · exact absurd ⟨_, rfl⟩ hi
        · rfl
@[simp] def mRev : MF := fun h o us => match us with
  | [] => (lsAt h o).map fun p => (.non, h.set p.1 (.lst p.2.reverse))
  | _ => none
theorem mS_rev : MtR X "list.reverse" (rSm S mRev) := by
  intro pins s σ H x xs v us Q I rx rxs hh
  obtain ⟨α, h, o, vs, rl, ro, rs, p⟩ := hh
  match vs, rs, p with
  | _ :: _, _, p => exact (no_pu p rfl).elim
  | [], rs, p =>
    cases rs
    have p : PU S α H ((lsAt h o).map fun p => (.non, h.set p.1 (.lst p.2.reverse))) Q := p
    cases q : lsAt h o with
    | none => rw [q] at p; exact (no_pu p rfl).elim
    | some nu =>
      obtain ⟨n, ws⟩ := nu
      rw [q] at p
      obtain ⟨pa, ys, rfl, hp, h1, h2⟩ := lsAt_of rl q ro
      exact mt_reverse pins s σ H _ _ v us Q I rx rxs ⟨pa, ys, rfl, rfl, h1, PU.chg p rl hp h2.rev .non⟩
@[simp] def mClear : MF := fun h o us => match us with
  | [] => (lsAt h o).map fun p => (.non, h.set p.1 (.lst []))
  | _ => none
@[simp] def mBits : MF := fun h o us => match o, us with
  | .int i, [] => some (.int ((Builtin.Int.intBits i : Nat) : Int), h)
  | _, _ => none
def mergeU (kus more : List (Key × U)) : List (Key × U) := more.foldl (fun acc kv => putU acc kv.1 kv.2) kus
theorem RKs.merge : ∀ {more : List (Key × U)} {mv : List (Key × V)} {kus : List (Key × U)} {kvs : List (Key × V)}, RKs S α H more mv → RKs S α H kus kvs → RKs S α H (mergeU kus more) (mergeK kvs mv)
  | _, _, _, _, .nil, r => r
  | _, _, _, _, .cons (k := kk) a q, r => by
    have z := RKs.merge q (RKs.put (k := kk) a r)
    exact z
@[simp] def pairsS : List (EF × EF) → En → PH → Option (List (Key × U) × PH)
  | [], _, h => some ([], h)
  | (fk, fv) :: r, ρ, h => bnd (fk ρ h) fun u h1 => bnd (fv ρ h1) fun v h2 => match keyU u with
    | some k => bnd (pairsS r ρ h2) fun ps h3 => some ((k, v) :: ps, h3)
    | none => none
theorem tPairs_S {σ : St} {Q : List (V × V) → Hp → Prop} : ∀ {ps : List (EF × EF)} {α : Am} {H : Hp} {ρ : En} {h : PH} {kus : List (Key × U)} {h' : PH}, RE S α H ρ σ → Rl S α H h → pairsS ps ρ h = some (kus, h') →
    (∀ α' H' kvs, Ex α H α' H' → Rl S α' H' h' → RKs S α' H' kus kvs → Q (kvs.map fun kv => (kV kv.1, kv.2)) H') → tPairs (ps.map fun p => (tS S p.1, tS S p.2)) σ H Q
  | [], α, H, ρ, h, kus, h', re, rl, e, k => by cases e; exact k α H [] (Ex.refl _ _) rl .nil
  | (fk, fv) :: r, α, H, ρ, h, kus, h', re, rl, e, k => by
    rw [pairsS] at e
    obtain ⟨u, h1, e1, e⟩ := bnd_eq e
    obtain ⟨v, h2, e2, e⟩ := bnd_eq e
    cases ek : keyU u with
    | none => rw [ek] at e; cases e
    | some kk =>
      rw [ek] at e
      obtain ⟨ps, h3, e3, e⟩ := bnd_eq (show bnd (pairsS r ρ h2) _ = _ from e)
      cases e
      refine ⟨α, ρ, h, re, rl, u, h1, e1, fun α1 H1 x ex1 rl1 ru => ⟨α1, ρ, h1, re.ex ex1, rl1, v, h2, e2, fun α2 H2 y ex2 rl2 rv => ?_⟩⟩
      refine tPairs_S (re.ex (ex1.trans ex2)) rl2 e3 fun α3 H3 kvs ex3 rl3 rk => ?_
      have hx := keyU_of ek ru
      subst hx
      exact k α3 H3 ((kk, y) :: kvs) ((ex1.trans ex2).trans ex3) rl3 (.cons (rv.ex ex3) rk)
@[simp] def eDict (ps : List (EF × EF)) : EF := fun ρ h => bnd (pairsS ps ρ h) fun kus h1 => if kus.length ≤ 15 then some (.dct (mergeU [] kus), h1) else none
theorem s_dict {ps : List (EF × EF)} (q : PE X e (tDisp (ps.map fun p => (tS S p.1, tS S p.2)))) : PE X e (tS S (eDict ps)) := q.wk fun σ H Q ⟨α, ρ, h, re, rl, w, h3, e, k⟩ => by
  intro D hD
  obtain ⟨kus, h1, e1, e⟩ := bnd_eq e
  have e : (if kus.length ≤ 15 then some (U.dct (mergeU [] kus), h1) else none) = some (w, h3) := e
  by_cases hl : kus.length ≤ 15
  case neg => rw [if_neg hl] at e; cases e
  rw [if_pos hl] at e
  cases e
  refine tPairs_S (re.mo (Mo.hide (o := .dK []) hD)) (rl.hide hD) e1 fun α1 H1 kvs ex1 rl1 rk => ?_
  have memD : D ∈ (α.hide D).x := List.mem_cons_self
  have memD1 : D ∈ α1.x := by rw [ex1.x]; exact memD
  refine ⟨(ex1.priv D memD).trans upd_same, kvs, rfl, by rw [← rk.len]; exact hl, ?_⟩
  have sub : ∀ p ∈ α.x, p ∈ α1.x := fun p hp => by rw [ex1.x]; exact List.mem_cons_of_mem _ hp
  have rl2 := (rl1.wrx (o := .dK (mergeK [] kvs)) memD1).show sub
  have rk2 : RKs S (α1.show α.x) (upd H1 D (.dK (mergeK [] kvs))) (mergeU [] kus) (mergeK [] kvs) := ((RKs.merge rk .nil).mo (Mo.wrx memD1)).mo (Mo.show sub)
  have nD : ¬ (α1.show α.x).own D := by
    rintro (z | z)
    · exact rl1.dj D z memD1
    · exact rl.tr D z hD
  refine k (α1.show α.x) _ _ ⟨fun p o e n => ?_, ex1.pre, rfl, fun p hp => ?_⟩ rl2 (.dct (.inl ⟨upd_same, nD⟩) rk2)
  · have hpD : p ≠ D := ne_of_none e hD
    obtain ⟨a, b⟩ := ex1.keep p o (by rw [upd_ne hpD]; exact e) (fun z => (own_hide.mp z).elim n hpD)
    exact ⟨by rw [upd_ne hpD]; exact a, fun z => b (z.elim .inl fun z => .inr (sub p z))⟩
  · have hpD : p ≠ D := fun z => rl.tr p hp (by rw [z]; exact hD)
    rw [upd_ne hpD, ex1.priv p (List.mem_cons_of_mem _ hp), upd_ne hpD]
end
end L2
end
section
set_option Elab.async false
set_option maxRecDepth 100000
set_option linter.unusedVariables false
set_option maxHeartbeats 1000000
namespace L2
open PySem PySem.Spec PySem.F PyProof.Rows
section
variable {P : Program} {w : World} {K : PySem.W.Frag} {mg : Str → Option Value} {base : Heap}
theorem FnLift {x : Str} {ps : List Str} {j k : Nat} {sp : Sp} (G : Kn P w K mg base x ps k sp) (h : k = j) : Kn P w K mg base x ps j sp := by subst h; exact G
theorem Fun.okS {S : Sx} {b : SF} {x qual : Str} {st : Stmt} {f : Addr} {fd : FuncData} {N ps : List Str} {k : Nat} (F : Fun K x qual st f fd) (sc : FnScope N ps (defScope st))
    (hb : ∀ (cdv : Value) (A : Around) (outer : List Env) (s : Shared) (H : Hp) (E : XK), Room k (A.deeper (envOfC qual (defScope st) s.heap.objs.size f cdv)) → PSs (cxOf CX0 P w K mg base N qual (defScope st) f cdv A outer s H E).nox (defBody st) (tSt S b)) :
    FnOk P w K mg base CX0 (k + 1) f fd ps (spS S (fnR ps.length N.length b)) := F.ok sc (spS_len fnR_len) fun cdv A outer s H vs Q E hr p => ⟨_, hb cdv A outer s H E hr, tSt_fn p⟩
def spLS (K : PySem.W.Frag) (ts : List Addr) : Sp := fun vs H Q _ => ∃ (a : Addr) (ns : List Int), vs = [.ref a] ∧ SqL K H a (ns.map V.int) ∧ ns.length ≤ 63 ∧ (∀ p ∈ ts, H p = some (TabO p)) ∧ ∀ H' : Hp, (∀ p ∈ ts, H' p = some (TabO p)) → Q (.bl true) H'
theorem law_sp {S : Sx} {F : FF} (hF : ∀ ns : List Int, ns.length ≤ 63 → ∃ h', F [.scr (ns.map .int)] [] = some (.bl true, h')) {vs : List V} {H : Hp} {Q : VK} {E : XK} (p : spLS S.K S.tabs vs H Q E) : spS S F vs H Q E := by
  obtain ⟨a, ns, rfl, hs, hl, ht, k⟩ := p
  obtain ⟨h', e⟩ := hF ns hl
  have no : ∀ p : Addr, ¬ (⟨[], []⟩ : Am).own p := fun p z => by
    rcases z with z | z
    · exact absurd (show p ∈ ([] : List Addr) from z) (by simp)
    · exact absurd (show p ∈ ([] : List Addr) from z) (by simp)
  have rl : Rl S ⟨[], []⟩ H [] := ⟨rfl, List.nodup_nil, fun p z => absurd (show p ∈ ([] : List Addr) from z) (by simp), fun i o e => absurd e (by simp), fun p z => absurd (show p ∈ ([] : List Addr) from z) (by simp), fun p hp => ⟨ht p hp, no p⟩⟩
  refine ⟨⟨[], []⟩, [], _, rl, .cons (.scr (xs := ns.map V.int) ?_ (RUs.ofInts ns)) .nil, _, h', e, fun α1 H1 x ex rl1 rx => ?_⟩
  · rcases hs with hs | hs
    · exact .inl ⟨hs, no a⟩
    · exact .inr (.inr hs)
  · cases rx
    exact k H1 fun p hp => (rl1.tab p hp).1
end
end L2
end
section
set_option Elab.async false
set_option maxRecDepth 100000
set_option linter.unusedVariables false
set_option maxHeartbeats 1000000
namespace L2
open PySem PySem.Spec PySem.F PyProof.Rows
section
variable {X : Cx} {S : Sx} {α α' : Am} {H H' : Hp} {h h' : PH} {e : Expr} {fa fb : EF}
@[simp] def eM1 (f : MF) (fo fa : EF) : EF := fun ρ h => bnd (fo ρ h) fun o h1 => match o with
  | .str _ => bnd (fa ρ h1) fun u h2 => f h2 o [u]
  | _ => none
theorem RUs.ofStrs : ∀ (ns : List Str), RUs S α H (ns.map U.str) (ns.map V.str)
  | [] => .nil
  | _ :: r => .cons (.str _) (RUs.ofStrs r)
@[simp] def mSplit (m : Bool) : MF := fun h o us => match o, us with
  | .str a, [.str b] => if (b.length == 0) = false ∧ a.length + 2 ≤ sizeLine then mk m ((Txt.split a b).map U.str) h else none
  | _, _ => none
@[simp] def mPart : MF := fun h o us => match o, us with
  | .str a, [.str b] => if (b.length == 0) = false ∧ a.length ≤ sizeLine then some (.tup [.str (Txt.partition a b).1, .str (Txt.partition a b).2.1, .str (Txt.partition a b).2.2], h) else none
  | _, _ => none
def strsU : List U → Option (List Str)
  | [] => some []
  | .str i :: r => (strsU r).map (i :: ·)
  | _ :: _ => none
theorem strsU_eq : ∀ {us : List U} {ns : List Str}, strsU us = some ns → us = ns.map U.str
  | [], _, h => by cases h; rfl
  | u :: r, ns, h => by
    cases u with
    | str i =>
      cases e : strsU r with
      | none => rw [strsU, e] at h; cases h
      | some ms => rw [strsU, e] at h; cases h; rw [strsU_eq e]; rfl
    | _ => cases h
@[simp] theorem strsU_map : ∀ ns : List Str, strsU (ns.map U.str) = some ns
  | [] => rfl
  | i :: r => by rw [List.map_cons, strsU, strsU_map r]; rfl
@[simp] def mJoin : MF := fun h o us => match o, us with
  | .str a, [v] => (sq h v).bind fun vs => (strsU vs).bind fun ys => if (ys.map (·.length)).sum + ys.length * a.length ≤ 16777216 then some (.str (Txt.join a ys), h) else none
  | _, _ => none
end
end L2
end
section
set_option Elab.async false
set_option maxRecDepth 100000
set_option linter.unusedVariables false
set_option maxHeartbeats 1000000
namespace L2
open PySem PySem.Spec PySem.F PyProof.Rows
structure SE (X : Cx) (S : Sx) (e : Expr) (f : EF) : Prop where
  h : PE X e (tS S f)
structure ST (X : Cx) (S : Sx) (e : Expr) (f : BF) : Prop where
  h : PT X e (tT S f)
structure SW (X : Cx) (S : Sx) (e : Expr) (f : BF) : Prop where
  h : PW X e (tT S f)
structure SA (X : Cx) (S : Sx) (es : List Expr) (f : AF) : Prop where
  h : PA X es (tA S f)
structure SO (X : Cx) (S : Sx) (o : Option Expr) (f : OF) : Prop where
  h : PO X o (tO S f)
structure SS (X : Cx) (S : Sx) (st : Stmt) (f : SF) : Prop where
  h : PS X st (tSt S f)
structure SB (X : Cx) (S : Sx) (st : List Stmt) (f : SF) : Prop where
  h : PSs X st (tSt S f)
structure SI (X : Cx) (S : Sx) (tg it : Expr) (f : IF) : Prop where
  h : PI X tg it (iS S f)
structure STs (X : Cx) (S : Sx) (ifs : List Expr) (f : BF) : Prop where
  h : PTs X ifs (tT S f)
structure SG (X : Cx) (S : Sx) (tg : Expr) (is : List Nat) (f : GF) : Prop where
  h : PG X tg (tG S is f)
structure SGs (X : Cx) (S : Sx) (tg : List Expr) (is : List Nat) (f : List U → En → PH → Option (En × PH)) : Prop where
  h : PGs X tg (tGs S is f)
theorem SW.pt {X : Cx} {S : Sx} {e : Expr} {f : BF} (h : SW X S e f) : ST X S e f := ⟨PW.pt h.h⟩
section
variable {X : Cx} {S : Sx} {e a b c tg iter : Expr} {pos : Pos} {fa fb fc : EF} {ba bb : BF} {fi : IF} {g : GF} {b' : SF} {is : List Nat} {st : Stmt} {rest : List Stmt} {es : List Expr} {fr : AF}
end
theorem rs_int {X : Cx} {S : Sx} {i j pos} : SE X S (.Constant (.int i) j pos) (eC (.int i)) := ⟨s_int ⟩
theorem rs_bl {X : Cx} {S : Sx} {i j pos} : SE X S (.Constant (.bool i) j pos) (eC (.bl i)) := ⟨s_bl ⟩
theorem rs_str {X : Cx} {S : Sx} {x j pos} : SE X S (.Constant (.str x) j pos) (eC (.str x)) := ⟨s_str ⟩
theorem rs_op {X : Cx} {S : Sx} {a : Expr} {b : Expr} {pos : Pos} {fa : EF} {fb : EF} {op : Operator} {g : G2} (ho : OpR X (binaryOp op) (rS2 S g)) (ha : SE X S a fa) (hb : SE X S b fb) : SE X S (.BinOp a op b pos) (eOp g fa fb) := ⟨s_op ho ha.h hb.h⟩
theorem rs_cmp {X : Cx} {S : Sx} {a : Expr} {b : Expr} {pos : Pos} {fa : EF} {fb : EF} {op : CmpOp} {g : G2} (ho : OpR X (compareOp op) (rS2 S g)) (ha : SE X S a fa) (hb : SE X S b fb) (hm : behindInMarks op b = false) : SE X S (.Compare a [op] [b] pos) (eOp g fa fb) := ⟨s_cmp ho ha.h hb.h hm⟩
theorem rb_cmp {X : Cx} {S : Sx} {a : Expr} {b : Expr} {pos : Pos} {fa : EF} {fb : EF} {op : CmpOp} {g : G2} (ho : OpR X (compareOp op) (rS2 S g)) (ha : SE X S a fa) (hb : SE X S b fb) (hm : behindInMarks op b = false) : ST X S (.Compare a [op] [b] pos) (bVal (eOp g fa fb)) := ⟨b_cmp ho ha.h hb.h hm⟩
theorem rb_tru {X : Cx} {S : Sx} {a : Expr} {fa : EF} (hf : Fit X S) (ha : SE X S a fa) (he : ∀ whole, isTrue a X.env whole = (do let v ← whole; standAt a.pos; holding [v] (truthy v)) := by intro _; rfl) : ST X S a (bTru fa) := ⟨b_tru hf ha.h he⟩
theorem rw_or1 {X : Cx} {S : Sx} {a : Expr} {pos : Pos} {ba : BF} (ha : ST X S a ba) : SW X S (.BoolOp .Or [a] pos) ba := ⟨w_or1 ha.h⟩
theorem rw_or {X : Cx} {S : Sx} {a : Expr} {b : Expr} {pos : Pos} {ba : BF} {bb : BF} {rest : List Expr} (ha : ST X S a ba) (hb : SW X S (.BoolOp .Or (b :: rest) pos) bb) : SW X S (.BoolOp .Or (a :: b :: rest) pos) (bOr ba bb) := ⟨w_or ha.h hb.h⟩
theorem rb_not {X : Cx} {S : Sx} {a : Expr} {pos : Pos} {ba : BF} (ha : ST X S a ba) : ST X S (.UnaryOp .Not a pos) (bNot ba) := ⟨b_not ha.h⟩
theorem rsa_nil {X : Cx} {S : Sx}  : SA X S [] aNil := ⟨sa_nil ⟩
theorem rsa_cons {X : Cx} {S : Sx} {a : Expr} {fa : EF} {es : List Expr} {fr : AF} (ha : SE X S a fa) (hr : SA X S es fr) (hs : starEach (a :: es) X.env = (false, eval a X.env) :: starEach es X.env := by rfl) : SA X S (a :: es) (aCons fa fr) := ⟨sa_cons ha.h hr.h hs⟩
theorem rs_tup {X : Cx} {S : Sx} {pos : Pos} {es : List Expr} {fr : AF} {x1} (hr : SA X S es fr) : SE X S (.Tuple es x1 pos) (eTup fr) := ⟨s_tup hr.h⟩
theorem rs_lst {X : Cx} {S : Sx} {pos : Pos} {es : List Expr} {fr : AF} {m : Bool} (hr : SA X S es fr) : SE X S (.List es pos) (eLst m fr) := ⟨s_lst hr.h⟩
theorem rso_none {X : Cx} {S : Sx}  : SO X S none oNone := ⟨so_none ⟩
theorem rso_some {X : Cx} {S : Sx} {a : Expr} {fa : EF} (ha : SE X S a fa) : SO X S (some a) (oSome fa) := ⟨so_some ha.h⟩
theorem rs_sl {X : Cx} {S : Sx} {a : Expr} {pos : Pos} {fa : EF} {m : Bool} {lo hi : Option Expr} {fl fh : OF} {p2 : Pos} (hf : Fit X S) (ha : SE X S a fa) (hl : SO X S lo fl) (hh : SO X S hi fh) : SE X S (.Subscript a (.Slice lo hi none p2) pos) (eSl m fa fl fh) := ⟨s_sl hf ha.h hl.h hh.h⟩
theorem rs_ix {X : Cx} {S : Sx} {a : Expr} {b : Expr} {pos : Pos} {fa : EF} {fb : EF} (hf : Fit X S) (ha : SE X S a fa) (hb : SE X S b fb) (hs : PlainIx b) : SE X S (.Subscript a b pos) (eOp uIx fa fb) := ⟨s_ix hf ha.h hb.h hs⟩
theorem rss_nil {X : Cx} {S : Sx}  : SB X S [] sNil := ⟨ss_nil ⟩
theorem rss_cons {X : Cx} {S : Sx} {a : SF} {b : SF} {st : Stmt} {rest : List Stmt} (h1 : SS X S st a) (h2 : SB X S rest b) : SB X S (st :: rest) (sSeq a b) := ⟨ss_cons h1.h h2.h⟩
theorem rss_one {X : Cx} {S : Sx} {a : SF} {st : Stmt} (h1 : SS X S st a) : SB X S [st] a := ⟨ss_one h1.h⟩
theorem rs_expr {X : Cx} {S : Sx} {e : Expr} {pos : Pos} {fa : EF} (he : SE X S e fa) (hs : swapsWith e none pos.line X.env = pure false := by rfl) : SS X S (.Expr e pos) (sEx fa) := ⟨s_expr he.h hs⟩
theorem rs_ret {X : Cx} {S : Sx} {e : Expr} {pos : Pos} {fa : EF} (he : SE X S e fa) : SS X S (.Return (some e) pos) (sRet fa) := ⟨s_ret he.h⟩
theorem rs_ifS {X : Cx} {S : Sx} {a : SF} {b : SF} {c : Expr} {pos : Pos} {ba : BF} {x y : List Stmt} (hc : ST X S c ba) (ha : SB X S x a) (hb : SB X S y b) : SS X S (.If c x y pos) (sIf ba a b) := ⟨s_ifS hc.h ha.h hb.h⟩
theorem rsg_name {X : Cx} {S : Sx} {pos : Pos} {i : Nat} {x : Str} (hN : X.N.Nodup) (hi : X.N[i]? = some x) (hx : Loc X.env.scope x) (hf : X.fn x = true ∨ X.env.scope.names.lookup x = some .local := by first | exact .inl rfl | exact .inr rfl | assumption) : SG X S (.Name x pos) [i] (gN i) := ⟨sg_name hN hi hx hf⟩
theorem rsgs_nil {X : Cx} {S : Sx}  : SGs X S [] [] gsNil := ⟨sgs_nil ⟩
theorem rsgs_cons {X : Cx} {S : Sx} {e : Expr} {is js : List Nat} {es : List Expr} {f : GF} {g : List U → En → PH → Option (En × PH)} (h1 : SG X S e is f) (h2 : SGs X S es js g) (hs : (assignEach (e :: es) X.env).map (·.2) = assign e X.env :: (assignEach es X.env).map (·.2) := by rfl) : SGs X S (e :: es) (is ++ js) (gsCons f g) := ⟨sgs_cons h1.h h2.h hs⟩
theorem rsg_tup {X : Cx} {S : Sx} {pos : Pos} {is : List Nat} {es : List Expr} {k : Nat} {n : Nat} {g : List U → En → PH → Option (En × PH)} (hf : Fit X S) (hc : X.calm = true) (h : SGs X S es is g) (hn : (assignEach es X.env).length = n := by rfl) (hst : (assignEach es X.env).findIdx? (·.1) = none := by rfl) : SG X S (.Tuple es k pos) is (gT n g) := ⟨sg_tup hf hc h.h hn hst⟩
theorem rsg_sub {X : Cx} {S : Sx} {pos : Pos} {o i : Expr} {fo fi : EF} (hu : X.A.units + 64 < cLine) (ho : SE X S o fo) (hi : SE X S i fi) (ha : ∀ v, assign (.Subscript o i pos) X.env v = (do
      let ov ← holding [v] (eval o X.env)
      let iv ← holding [v, ov] (eval i X.env)
      standAt pos
      holding [v, ov, iv] (setItem ov iv v)
      release [v, ov, iv] []) := by intro _; rfl) : SG X S (.Subscript o i pos) [] (gSubU fo fi) := ⟨sg_sub hu ho.h hi.h ha⟩
theorem rs_asg {X : Cx} {S : Sx} {e : Expr} {pos : Pos} {fa : EF} {tg : Expr} {is : List Nat} {g : GF} (he : SE X S e fa) (hg : SG X S tg is g) (hs : swapsWithSole [tg] e pos.line X.env = pure false := by rfl) (hw : swappedStores [tg] e X.env = pure none := by rfl) (h1 : (assignEach [tg] X.env).map (·.2) = [assign tg X.env] := by rfl) : SS X S (.Assign [tg] e pos) (sAsg fa g) := ⟨s_asg he.h hg.h hs hw h1⟩
theorem rs_set {X : Cx} {S : Sx} {e : Expr} {pos : Pos} {fa : EF} {i : Nat} {x : Str} {pos' : Pos} (hN : X.N.Nodup) (hi : X.N[i]? = some x) (hx : Loc X.env.scope x) (he : SE X S e fa) (hs : swapsWith e (some (.Name x pos')) pos.line X.env = pure false := by rfl) (hf : X.fn x = true ∨ X.env.scope.names.lookup x = some .local := by first | exact .inl rfl | exact .inr rfl | assumption) : SS X S (.Assign [.Name x pos'] e pos) (sAsg fa (gN i)) := ⟨s_set hN hi hx he.h hs hf⟩
theorem rsi_seq {X : Cx} {S : Sx} {e : Expr} {fa : EF} {tg : Expr} (hf : Fit X S) (ha : SE X S e fa) : SI X S tg e (iSeq fa) := ⟨si_seq hf ha.h⟩
theorem rsi_rng1 {X : Cx} {S : Sx} {tg a : Expr} {fr : AF} {p pos : Pos} (hg : Gl X "range") (hm : X.mg "range" = none) (ha : SA X S [a] fr) (hs : starEach [a] X.env = [(false, eval a X.env)] := by rfl) : SI X S tg (.Call (.Name "range" p) [a] [] pos) (iRng1U fr) := ⟨si_rng1 hg hm ha.h hs⟩
theorem rsi_enum {X : Cx} {S : Sx} {fa : EF} {e : Expr} {p pos tpos : Pos} {elts : List Expr} {kk : Nat} (hf : Fit X S) (hg : Gl X "enumerate") (hm : X.mg "enumerate" = none) (ha : SE X S e fa) (hs : starEach [e] X.env = [(false, eval e X.env)] := by rfl) : SI X S (.Tuple elts kk tpos) (.Call (.Name "enumerate" p) [e] [] pos) (iEnumU fa) := ⟨si_enum hf hg hm ha.h hs⟩
theorem rs_for {X : Cx} {S : Sx} {b : SF} {tg : Expr} {iter : Expr} {pos : Pos} {fi : IF} {g : GF} {is : List Nat} {body : List Stmt} (hp : PassesOwn (model X.prog X.w) X.A X.env X.xe) (hc : X.calm = true) (hi : SI X S tg iter fi) (hg : SG X S tg is g) (hb : SB X S body b) (hs : ∀ x, foldedSetIterable iter X.env x = pure x := by intro _; rfl) : SS X S (.For tg iter body [] pos) (sFor fi g b) := ⟨s_for hp hc hi.h hg.h hb.h hs⟩
theorem rs_while {X : Cx} {S : Sx} {b : SF} {c : Expr} {pos : Pos} {ba : BF} {body : List Stmt} (hp : PassesOwn (model X.prog X.w) X.A X.env X.xe) (hc : ST X S c ba) (hb : SB X S body b) : SS X S (.While c body [] pos) (sWhile ba b) := ⟨s_while hp hc.h hb.h⟩
theorem rsts_nil {X : Cx} {S : Sx}  : STs X S [] bYes := ⟨sts_nil ⟩
theorem rs_lc {X : Cx} {S : Sx} {tg : Expr} {iter : Expr} {pos : Pos} {fa : EF} {fi : IF} {g : GF} {is : List Nat} {m : Bool} {elt : Expr} {ifs : List Expr} {scope : Scope} {own : List (Str × Nat)} {t : BF} (hc : X.calm = true) (hN : X.N.Nodup) (hi : SI X S tg iter fi) (ok : BlkOk X.N X.env.scope scope own) (hg : ∀ (s : Shared) (H : Hp) (C : Addr) (cl : List (Str × Addr)) (fp : List Addr), SG (X.blk s H scope (compEnvC scope cl C X.env) fp) S tg is g) (ht : ∀ (s : Shared) (H : Hp) (C : Addr) (cl : List (Str × Addr)) (fp : List Addr), STs (X.blk s H scope (compEnvC scope cl C X.env) fp) S ifs t) (he : ∀ (s : Shared) (H : Hp) (C : Addr) (cl : List (Str × Addr)) (fp : List Addr), SE (X.blk s H scope (compEnvC scope cl C X.env) fp) S elt fa) (hsub : ∀ j ∈ is, j ∈ own.map (·.2) := by decide) (hs : ∀ x, foldedSetIterable iter X.env x = pure x := by intro _; rfl) : SE X S (.ListComp elt [⟨tg, iter, ifs, 0⟩] scope pos) (eLc m fi g t fa (own.map (·.2))) := ⟨s_lc hc hN hi.h ok (fun x0 x1 x2 x3 x4 => (hg x0 x1 x2 x3 x4).h) (fun x0 x1 x2 x3 x4 => (ht x0 x1 x2 x3 x4).h) (fun x0 x1 x2 x3 x4 => (he x0 x1 x2 x3 x4).h) hsub hs⟩
theorem rs_kn {X : Cx} {S : Sx} {e : Expr} {pos : Pos} {x : Str} {ps : List Str} {k : Nat} {F : FF} {es : List Expr} {fr : AF} {p : Pos} (G : Kn X.prog X.w X.K X.mg X.base x ps k (spS S F)) (hr : Room k X.A) (hg : Gl X x) (ha : SA X S (e :: es) fr) (hdb : (x == ("__debug__" : Str)) = false := by decide) (he : starEach (e :: es) X.env = (false, eval e X.env) :: starEach es X.env := by rfl) (hpl : (backTo pos (starEach es X.env)).any (·.1) = false := by rfl) : SE X S (.Call (.Name x p) (e :: es) [] pos) (eCall F fr) := ⟨s_kn G hr hg ha.h hdb he hpl⟩
theorem rsv {X : Cx} {S : Sx} (i : Nat) {x : Str} {pos : Pos} (hN : X.N[i]? = some x := by rfl) (hv : Vis X.env.scope x := by first | exact Or.inl rfl | exact Or.inr (Or.inl rfl) | exact Or.inr (Or.inr rfl)) (hd : (x == ("__debug__" : Str)) = false := by decide) (hcd : (x == ("__classdict__" : Str)) = false := by decide) : SE X S (.Name x pos) (eVar i) := ⟨sv i hN hv hd hcd⟩
section
variable {X : Cx} {S : Sx} {e : Expr} {es : List Expr} {x : Str} {p pos : Pos} {fa fb : EF} {fr : AF} {id T : String}
theorem rglob {v : V} {u : Value} {w : U} (hg : Gl X x) (hm : X.mg x = some u) (r : RelV v u) (q : ∀ α H, RU S α H w v) (hd : (x == ("__debug__" : Str)) = false := by decide) : SE X S (.Name x pos) (eC w) := ⟨s_c (pe_glob hg hm r hd) q⟩
theorem rcallB {c : GC} (hc : CallR X (.builtin id) (rSs S c)) (hg : Gl X x) (hm : X.mg x = none) (hv : bootBuiltins x = some (.builtin id)) (ha : SA X S (e :: es) fr) (hn : x ≠ "__name__" := by decide) (hdb : (x == ("__debug__" : Str)) = false := by decide)
    (he : starEach (e :: es) X.env = (false, eval e X.env) :: starEach es X.env := by rfl) (hpl : (backTo pos (starEach es X.env)).any (·.1) = false := by rfl) : SE X S (.Call (.Name x p) (e :: es) [] pos) (eCB c fr) := ⟨s_cb (pe_callB hc hg hm hv ha.h hn hdb he hpl)⟩
theorem rcallTy {c : GC} (hc : CallR X (.type T) (rSs S c)) (hg : Gl X x) (hm : X.mg x = none) (hv : bootBuiltins x = some (.type T)) (ha : SA X S (e :: es) fr) (hn : x ≠ "__name__" := by decide) (hdb : (x == ("__debug__" : Str)) = false := by decide)
    (he : starEach (e :: es) X.env = (false, eval e X.env) :: starEach es X.env := by rfl) (hpl : (backTo pos (starEach es X.env)).any (·.1) = false := by rfl) : SE X S (.Call (.Name x p) (e :: es) [] pos) (eCB c fr) := ⟨s_cb (pe_callTy hc hg hm hv ha.h hn hdb he hpl)⟩
theorem risi {y : Str} {q pi : Pos} {u : Value} (hf : Fit X S) (hT : isT T) (hg : Gl X "isinstance") (hm : X.mg "isinstance" = none) (hgt : Gl X y) (hmt : X.mg y = none) (hvt : bootBuiltins y = some u) (hr : RelV (.ty T) u) (ha : SE X S e fa)
    (hnt : y ≠ "__name__" := by decide) (hdt : (y == ("__debug__" : Str)) = false := by decide) (he : starEach [e, .Name y q] X.env = (false, eval e X.env) :: starEach [.Name y q] X.env := by rfl) (he2 : starEach [.Name y q] X.env = (false, eval (.Name y q) X.env) :: starEach [] X.env := by rfl)
    (hpl : (backTo pos (starEach [.Name y q] X.env)).any (·.1) = false := by rfl) : SE X S (.Call (.Name "isinstance" pi) [e, .Name y q] [] pos) (eIsi T fa) :=
  ⟨s_isi hf hT (pe_callB (id := "isinstance") (k_isi hf.K) hg hm (by decide +kernel) (pa_cons ha.h (pa_cons (pe_bltn hgt hmt hvt hr hnt hdt) pa_nil he2) he) (by decide) (by decide) he hpl)⟩
theorem rbm {T : String} {name : Str} {id : String} {f : MF} {o : Expr} {fo : EF} {apos : Pos} (hf : Fit X S) (pa : PlainAttrs T) (slot : Slot T name id) (hty : typeOf (.builtin id) = pure (.type "method_descriptor")) (hm : MtR X id (rSm S f)) (ho : SE X S o fo) (ha : SA X S (e :: es) fr)
    (hbase : attributeBase o name X.env (eval o X.env) = eval o X.env := by rfl)
    (hfew : ((backTo pos (starEach (e :: es) X.env)).all (fun x => !x.1) && (backToKw pos (keywordEach [] X.env)).all (fun x => x.1.isSome)
      && decide ((e :: es).length + ([] : List Keyword).length + (if ([] : List Keyword).isEmpty then 0 else 1) < 30)) = true := by rfl)
    (hline : (apos.endLine == pos.line) = true := by rfl) (hs : starEach (e :: es) X.env = (false, eval e X.env) :: starEach es X.env := by rfl) (hplain : (backTo pos (starEach es X.env)).any (·.1) = false := by rfl) :
    SE X S (.Call (.Attribute o name apos) (e :: es) [] pos) (eM T f fo fr) := ⟨s_m (k_bm hf.K pa slot hty hm ho.h ha.h hbase hfew hline hs hplain)⟩
theorem rbm0 {T : String} {name : Str} {id : String} {f : MF} {o : Expr} {fo : EF} {apos : Pos} (hf : Fit X S) (pa : PlainAttrs T) (slot : Slot T name id) (hty : typeOf (.builtin id) = pure (.type "method_descriptor")) (hm : MtR X id (rSm S f)) (ho : SE X S o fo)
    (hbase : attributeBase o name X.env (eval o X.env) = eval o X.env := by rfl) (hline : (apos.endLine == pos.line) = true := by rfl) : SE X S (.Call (.Attribute o name apos) [] [] pos) (eM T f fo aNil) := ⟨s_m0 (by rw [← hf.K]; exact pe_bm0 pa slot hty hm ho.h hbase hline)⟩
inductive SDp (X : Cx) (S : Sx) : List (Option Expr) → List Expr → List (EF × EF) → Prop
  | nil : SDp X S [] [] []
  | cons {k v : Expr} {ks : List (Option Expr)} {vs : List Expr} {fk fv : EF} {ps : List (EF × EF)} : SE X S k fk → SE X S v fv → SDp X S ks vs ps → SDp X S (some k :: ks) (v :: vs) ((fk, fv) :: ps)
theorem SDp.h : ∀ {ks : List (Option Expr)} {vs : List Expr} {ps : List (EF × EF)}, SDp X S ks vs ps → PPs X pos ks vs (ps.map fun p => (tS S p.1, tS S p.2))
  | _, _, _, .nil => pps_nil
  | _, _, _, .cons a b r => pps_cons a.h b.h (SDp.h r)
theorem rts_one {c : Expr} {t : BF} (h : ST X S c t) : STs X S [c] t := ⟨pts_one h.h⟩
variable {P : Program} {w : World} {K : PySem.W.Frag} {mg : Str → Option Value} {base : Heap} {b : SF}
theorem Df.okR {x : Str} {N ps : List Str} {st : Stmt} {k : Nat} (D : Df K mg x ps st) (sc : FnScope N ps (defScope st))
    (hb : ∀ (f : Addr) (cdv : Value) (A : Around) (outer : List Env) (s : Shared) (H : Hp) (E : XK), Room k (A.deeper (envOfC x (defScope st) s.heap.objs.size f cdv)) → SB (cxOf CX0 P w K mg base N x (defScope st) f cdv A outer s H E).nox S (defBody st) b) :
    Kn P w K mg base x ps (k + 1) (spS S (fnR ps.length N.length b)) := D.okS sc fun f cdv A outer s H E hr => (hb f cdv A outer s H E hr).h
theorem Fun.okR {x qual : Str} {st : Stmt} {f : Addr} {fd : FuncData} {N ps : List Str} {k : Nat} (F : Fun K x qual st f fd) (sc : FnScope N ps (defScope st))
    (hb : ∀ (cdv : Value) (A : Around) (outer : List Env) (s : Shared) (H : Hp) (E : XK), Room k (A.deeper (envOfC qual (defScope st) s.heap.objs.size f cdv)) → SB (cxOf CX0 P w K mg base N qual (defScope st) f cdv A outer s H E).nox S (defBody st) b) :
    FnOk P w K mg base CX0 (k + 1) f fd ps (spS S (fnR ps.length N.length b)) := F.okS sc fun cdv A outer s H E hr => (hb cdv A outer s H E hr).h
end
end L2
end
section
set_option Elab.async false
set_option maxRecDepth 100000
set_option linter.unusedVariables false
set_option maxHeartbeats 1000000
namespace L2
open PySem PySem.Spec PySem.F PyProof.Rows
section
variable {h h' : PH} {m : Bool} {i j : Int} {x y : Str} {us vs : List U} {u v w : U} {a n : Nat}
@[simp] theorem uAdd_int : uAdd m h (.int i) (.int j) = some (.int (i + j), h) := rfl
theorem uAdd_str (e : x.length + y.length ≤ sizeLine) : uAdd m h (.str x) (.str y) = some (.str (x ++ y), h) := by simp [uAdd, e]
theorem len_ok {n : Nat} (e : n ≤ 1000000) : n ≤ sizeLine := Nat.le_trans e (by decide)
theorem len_lt {n : Nat} (e : n ≤ 1000000) : n < sizeLine := Nat.lt_of_le_of_lt e (by decide)
theorem uAdd_lst (e1 : its h u = some us) (e2 : its h v = some vs) (e : us.length + vs.length ≤ 1000000) : uAdd m h u v = mk m (us ++ vs) h := by
  have k : uAdd m h u v = ((its h u).bind fun us => (its h v).bind fun vs => if us.length + vs.length ≤ sizeLine then mk m (us ++ vs) h else none) := by
    cases u <;> cases v <;> first | rfl | exact absurd e1 (by simp [its]) | exact absurd e2 (by simp [its])
  rw [k, e1, e2]
  simp [len_ok e]
theorem mul_l (h1 : -(2 ^ 64) < i) (h2 : i < 2 ^ 64) : IntMulOk i j := CMul.ok (.inl ⟨h1, h2⟩)
theorem mul_r (h1 : -(2 ^ 64) < j) (h2 : j < 2 ^ 64) : IntMulOk i j := CMul.ok (.inr ⟨h1, h2⟩)
theorem uMul_int (c : IntMulOk i j) : uMul m h (.int i) (.int j) = some (.int (i * j), h) := by simp [uMul, c]
theorem uMul_lst (e1 : its h u = some us) (h1 : -(2 ^ 63) ≤ i) (h2 : i < 2 ^ 63) (e : us.length * i.toNat ≤ 1000000) : uMul m h u (.int i) = mk m (List.replicate i.toNat us).flatten h := by
  have k : uMul m h u (.int i) = ((its h u).bind fun us => if -(2 ^ 63) ≤ i ∧ i < 2 ^ 63 ∧ us.length * i.toNat ≤ sizeLine then mk m (List.replicate i.toNat us).flatten h else none) := by
    cases u <;> first | rfl | exact absurd e1 (by simp [its])
  rw [k, e1]
  show (if _ then _ else _) = _
  rw [if_pos ⟨h1, h2, len_ok e⟩]
theorem uMod_int (h0 : 0 < j) : uMod h (.int i) (.int j) = some (.int (i % j), h) := by simp [uMod, uI, h0]
@[simp] theorem uIx_tup : uIx h (.tup us) (.int i) = (atI us i).map fun w => (w, h) := rfl
@[simp] theorem uIx_lst : uIx h (.lst us) (.int i) = (atI us i).map fun w => (w, h) := rfl
@[simp] theorem uIx_scr : uIx h (.scr us) (.int i) = (atI us i).map fun w => (w, h) := rfl
theorem uIx_ref (e : h[a]? = some (.lst us)) : uIx h (.ref a) (.int i) = (atI us i).map fun w => (w, h) := by
  show ((sq h (.ref a)).bind _) = _
  rw [sq_ref, its_ref e]; rfl
@[simp] theorem uLe_int : uLe h (.int i) (.int j) = some (.bl (decide (i ≤ j)), h) := by simp [uLe, uI]
@[simp] theorem uGt_int : uGt h (.int i) (.int j) = some (.bl (decide (j < i)), h) := by simp [uGt, uI]
@[simp] theorem uGe_int : uGe h (.int i) (.int j) = some (.bl (decide (j ≤ i)), h) := by simp [uGe, uI]
theorem uPow_int (c : CPow i j) : uPow h (.int i) (.int j) = some (.int (i ^ j.toNat), h) := by simp [uPow, uI, c]
@[simp] theorem uLt_int : uLt h (.int i) (.int j) = some (.bl (decide (i < j)), h) := rfl
@[simp] theorem uLt_tup : uLt h (.tup us) (.tup vs) = (intsU us).bind fun ns => (intsU vs).map fun ms => (.bl (HT.lexLt ns ms), h) := rfl
@[simp] theorem truU_bl {b : Bool} : truU h (.bl b) = some b := rfl
@[simp] theorem truU_int : truU h (.int i) = some (i != 0) := rfl
@[simp] theorem truU_non : truU h .non = some false := rfl
@[simp] theorem truU_tup : truU h (.tup us) = some (!us.isEmpty) := rfl
@[simp] theorem truU_lst : truU h (.lst us) = some (!us.isEmpty) := rfl
@[simp] theorem lenU_tup : lenU h (.tup us) = some us.length := rfl
@[simp] theorem lenU_lst : lenU h (.lst us) = some us.length := rfl
@[simp] theorem lenU_scr : lenU h (.scr us) = some us.length := rfl
theorem lenU_ref (e : h[a]? = some (.lst us)) : lenU h (.ref a) = some us.length := by simp only [lenU, e]
@[simp] theorem itemsU_lst : itemsU h (.lst us) = some (true, us, []) := rfl
@[simp] theorem itemsU_scr : itemsU h (.scr us) = some (true, us, []) := rfl
@[simp] theorem itemsU_tup : itemsU h (.tup us) = some (false, us, []) := rfl
theorem itemsU_ref (e : h[a]? = some (.lst us)) : itemsU h (.ref a) = some (true, us, [(a, us)]) := by simp only [itemsU, e]
@[simp] theorem eqP_int : eqP h (.int i) (.int j) = some (decide (i = j)) := rfl
@[simp] theorem eqP_str : eqP h (.str x) (.str y) = some (decide (x = y)) := rfl
@[simp] theorem eqP_bl {b c : Bool} : eqP h (.bl b) (.bl c) = some (decide (b = c)) := rfl
@[simp] theorem srcOk_nil : srcOk h [] = True := rfl
@[simp] theorem isP_non : isP u .non = some (match u with | .non => true | _ => false) := by cases u <;> rfl
@[simp] theorem isP_bl {b c : Bool} : isP (.bl b) (.bl c) = some (b == c) := rfl
theorem setP_lst {k : Nat} (e : h[a]? = some (.lst us)) (hk : k < us.length) : setP h (.ref a) (.int (k : Nat)) v = some (h.set a (.lst (us.set k v))) := by
  simp only [setP, e]
  have : ixN us.length (k : Nat) = some k := by
    unfold ixN
    rw [if_pos (by omega), if_pos (by omega), Int.toNat_natCast]
  rw [this]; rfl
theorem lsAt_ref (e : h[a]? = some (.lst us)) : lsAt h (.ref a) = some (a, us) := by simp only [lsAt, e]
theorem tyOk_ref (e : h[a]? = some (.lst us)) : tyOk "list" h (.ref a) = true := by simp only [tyOk, e]; rfl
@[simp] theorem tyOk_int : tyOk "int" h (.int i) = true := rfl
theorem atI_0 {α : Type} {x : α} {l : List α} : atI (x :: l) 0 = some x := by
  simp [atI, ixN]
theorem atI_n {α : Type} {l : List α} {k : Int} {x : α} (h0 : 0 ≤ k) (e : l[k.toNat]? = some x) : atI l k = some x := by
  have hl := (List.getElem?_eq_some_iff.mp e).1
  unfold atI ixN
  rw [if_pos h0, if_pos (by omega)]; exact e
theorem rngU_len {lo : Int} {n : Nat} : (rngU lo n).length = n := by unfold rngU; rw [List.length_map, List.length_range]
theorem rngU_get {lo : Int} {n i : Nat} (hi : i < n) : (rngU lo n)[i]? = some (.int (lo + (i : Nat))) := by unfold rngU; rw [List.getElem?_map, List.getElem?_range hi]; rfl
section
variable {g : GF} {b : SF} {srcs : Srcs} {ρ : En}
theorem forS_nil (e : srcOk h srcs) : forS g b srcs [] ρ h = some (.nx ρ, h) := by rw [forS, if_pos e]
theorem forS_cons {r : List U} (e : srcOk h srcs) : forS g b srcs (u :: r) ρ h = bnd (g u ρ h) fun ρ1 h1 => bnd (b ρ1 h1) fun fl h2 => match fl with
      | .nx ρ2 => forS g b srcs r ρ2 h2
      | .ct ρ2 => forS g b srcs r ρ2 h2
      | .bk ρ2 => some (.nx ρ2, h2)
      | .rt v => some (.rt v, h2) := by rw [forS, if_pos e]; try rfl
variable {t : BF} {f : EF}
theorem lcS_nil (e : srcOk h srcs) : lcS g t f srcs ρ [] h = some ([], h) := by rw [lcS, if_pos e]
theorem lcS_cons {r : List U} (e : srcOk h srcs) : lcS g t f srcs ρ (u :: r) h = bnd (g u ρ h) fun ρ1 h1 => bnd (t ρ1 h1) fun k h2 =>
      if k = true then bnd (f ρ1 h2) fun y h3 => bnd (lcS g t f srcs ρ r h3) fun ys h4 => some (y :: ys, h4) else lcS g t f srcs ρ r h2 := by rw [lcS, if_pos e]
theorem lcS_map {us : List U} (F : U → U) (so : srcOk h srcs) (st : ∀ u ∈ us, ∃ ρ1, g u ρ h = some (ρ1, h) ∧ f ρ1 h = some (F u, h)) : lcS g bYes f srcs ρ us h = some (us.map F, h) := by
  induction us with
  | nil => exact lcS_nil so
  | cons u r ih =>
    obtain ⟨ρ1, e1, e2⟩ := st u List.mem_cons_self
    rw [lcS_cons so, e1]
    simp only [bnd_some, bYes, if_true, e2, ih fun v hv => st v (List.mem_cons_of_mem _ hv), List.map_cons]
theorem lcS_filter {us : List U} (F : U → U) (T : U → Bool) (so : srcOk h srcs) (st : ∀ u ∈ us, ∃ ρ1, g u ρ h = some (ρ1, h) ∧ t ρ1 h = some (T u, h) ∧ (T u = true → f ρ1 h = some (F u, h))) : lcS g t f srcs ρ us h = some ((us.filter T).map F, h) := by
  induction us with
  | nil => exact lcS_nil so
  | cons u r ih =>
    obtain ⟨ρ1, e1, e2, e3⟩ := st u List.mem_cons_self
    have ih := ih fun v hv => st v (List.mem_cons_of_mem _ hv)
    rw [lcS_cons so, e1]
    simp only [bnd_some, e2]
    cases q : T u with
    | true => simp only [if_true, e3 q, bnd_some, ih, List.filter_cons, q, List.map_cons]
    | false => simp only [Bool.false_eq_true, if_false, ih, List.filter_cons, q]
theorem lcS_inv (I : Nat → List U → PH → Prop) {us : List U} (so : ∀ i acc h, I i acc h → srcOk h srcs) (h0 : I 0 [] h)
    (st : ∀ i u acc h, us[i]? = some u → I i acc h → ∃ ρ1 h1 y h2, g u ρ h = some (ρ1, h1) ∧ f ρ1 h1 = some (y, h2) ∧ I (i + 1) (acc ++ [y]) h2) : ∃ ys h', lcS g bYes f srcs ρ us h = some (ys, h') ∧ I us.length ys h' := by
  have key : ∀ (k : Nat) (acc : List U) (h : PH), k ≤ us.length → I (us.length - k) acc h → ∃ ys h', lcS g bYes f srcs ρ (us.drop (us.length - k)) h = some (ys, h') ∧ I us.length (acc ++ ys) h' := by
    intro k
    induction k with
    | zero =>
      intro acc h _ hi
      rw [Nat.sub_zero] at hi ⊢
      rw [List.drop_length, lcS_nil (so _ _ _ hi)]
      exact ⟨[], h, rfl, by rw [List.append_nil]; exact hi⟩
    | succ k ih =>
      intro acc h hk hi
      have hlt : us.length - (k + 1) < us.length := by omega
      obtain ⟨ρ1, h1, y, h2, e1, e2, hi2⟩ := st _ _ acc h (List.getElem?_eq_getElem hlt) hi
      have en : us.length - (k + 1) + 1 = us.length - k := by omega
      rw [List.drop_eq_getElem_cons hlt, lcS_cons (so _ _ _ hi), e1]
      simp only [bnd_some, bYes, if_true, e2]
      rw [en] at hi2 ⊢
      obtain ⟨ys, h3, e3, hi3⟩ := ih (acc ++ [y]) h2 (by omega) hi2
      rw [e3]
      exact ⟨y :: ys, h3, rfl, by rw [List.append_assoc] at hi3; exact hi3⟩
  have := key us.length [] h (Nat.le_refl _) (by rw [Nat.sub_self]; exact h0)
  rw [Nat.sub_self, List.drop_zero] at this
  exact this
end
end
end L2
end
section
set_option Elab.async false
set_option maxRecDepth 100000
set_option linter.unusedVariables false
set_option maxHeartbeats 1000000
namespace L2
open PySem PySem.Spec PySem.F PyProof.Rows
section
variable {X : Cx} {S : Sx} {e : Expr} {pos : Pos} {fa : EF}
@[simp] def eRevT (fa : EF) : EF := fun ρ h => bnd (fa ρ h) fun u h1 => match u with
  | .tup us => if us.isEmpty = true then none else some (.tup us.reverse, h1)
  | _ => none
end
end L2
end
section
set_option Elab.async false
set_option maxRecDepth 100000
set_option linter.unusedVariables false
set_option maxHeartbeats 1000000
namespace L2
open PySem PySem.Spec PySem.F PyProof.Rows
structure Dl (n c : Nat) (ds : List PyData) : Prop where
  sh : PyData.showableAll ds = true
  nd : PyData.hasDictAll ds = false
  dp : PyData.depthAll ds ≤ n
  pl : plainDs ds = true
  co : costs ds ≤ c
  cl : PyData.canLayAll0 ds = true
structure Dd (n c : Nat) (d : PyData) : Prop where
  st : ShwS n c d
  cl : d.canLay0 = true
theorem Dd.up {n m c e : Nat} {d : PyData} (h : Dd n c d) (h1 : n ≤ m) (h2 : c ≤ e) : Dd m e d := ⟨⟨h.st.sh, h.st.nd, Nat.le_trans h.st.dp h1, h.st.pl, Nat.le_trans h.st.co h2⟩, h.cl⟩
theorem Dl.up {n m c e : Nat} {ds : List PyData} (h : Dl n c ds) (h1 : n ≤ m) (h2 : c ≤ e) : Dl m e ds := ⟨h.sh, h.nd, Nat.le_trans h.dp h1, h.pl, Nat.le_trans h.co h2, h.cl⟩
theorem Dl.nil {n c : Nat} : Dl n c [] := ⟨rfl, rfl, Nat.zero_le _, rfl, Nat.zero_le _, rfl⟩
theorem Dl.cons {n c e : Nat} {d : PyData} {ds : List PyData} (h : Dd n c d) (t : Dl n e ds) : Dl n (c + 2 + e) (d :: ds) := by
  refine ⟨?_, ?_, ?_, ?_, ?_, ?_⟩
  · show (d.showable && PyData.showableAll ds) = true; rw [h.st.sh, t.sh]; rfl
  · show (d.hasDict || PyData.hasDictAll ds) = false; rw [h.st.nd, t.nd]; rfl
  · show max d.depth (PyData.depthAll ds) ≤ n; have := h.st.dp; have := t.dp; omega
  · show (plainD d && plainDs ds) = true; rw [h.st.pl, t.pl]; rfl
  · show cost d + 2 + costs ds ≤ _; have := h.st.co; have := t.co; omega
  · show (d.canLay0 && PyData.canLayAll0 ds) = true; rw [h.cl, t.cl]; rfl
theorem Dl.inv {n c : Nat} {d : PyData} {ds : List PyData} (h : Dl n c (d :: ds)) : Dd n (cost d) d ∧ Dl n (costs ds) ds ∧ cost d + 2 + costs ds ≤ c := by
  have h1 : (d.showable && PyData.showableAll ds) = true := h.sh
  have h2 : (d.hasDict || PyData.hasDictAll ds) = false := h.nd
  have h3 : max d.depth (PyData.depthAll ds) ≤ n := h.dp
  have h4 : (plainD d && plainDs ds) = true := h.pl
  have h5 : cost d + 2 + costs ds ≤ c := h.co
  have h6 : (d.canLay0 && PyData.canLayAll0 ds) = true := h.cl
  rw [Bool.and_eq_true] at h1 h4 h6
  rw [Bool.or_eq_false_iff] at h2
  exact ⟨⟨⟨h1.1, h2.1, by omega, h4.1, Nat.le_refl _⟩, h6.1⟩, ⟨h1.2, h2.2, by omega, h4.2, Nat.le_refl _, h6.2⟩, h5⟩
theorem Dl.tup {n c : Nat} {ds : List PyData} (h : Dl n c ds) : Dd (n + 1) (c + 4) (.tuple ds) :=
  ⟨⟨by simpa [PyData.showable] using h.sh, by simpa [PyData.hasDict] using h.nd, by show PyData.depthAll ds + 1 ≤ n + 1; have := h.dp; omega, by simpa [plainD] using h.pl, by show costs ds + 4 ≤ _; have := h.co; omega⟩, by simpa [PyData.canLay0] using h.cl⟩
theorem Dl.lst {n c : Nat} {ds : List PyData} (h : Dl n c ds) : Dd (n + 1) (c + 4) (.list ds) :=
  ⟨⟨by simpa [PyData.showable] using h.sh, by simpa [PyData.hasDict] using h.nd, by show PyData.depthAll ds + 1 ≤ n + 1; have := h.dp; omega, by simpa [plainD] using h.pl, by show costs ds + 4 ≤ _; have := h.co; omega⟩, by simpa [PyData.canLay0] using h.cl⟩
theorem Dd.inv {n c : Nat} {ds : List PyData} (h : Dd (n + 1) c (.tuple ds)) : Dl n (costs ds) ds ∧ costs ds + 4 ≤ c := by
  refine ⟨⟨by simpa [PyData.showable] using h.st.sh, by simpa [PyData.hasDict] using h.st.nd, ?_, by simpa [plainD] using h.st.pl, Nat.le_refl _, by simpa [PyData.canLay0] using h.cl⟩, h.st.co⟩
  have : PyData.depthAll ds + 1 ≤ n + 1 := h.st.dp
  omega
theorem Dl.take {n : Nat} : ∀ {ds : List PyData} {c : Nat} (i : Nat), Dl n c ds → Dl n c (ds.take i)
  | _, _, 0, _ => Dl.nil
  | [], _, _ + 1, _ => Dl.nil
  | d :: ds, c, i + 1, h => by
    obtain ⟨a, b, e⟩ := h.inv
    exact Dl.up (Dl.cons a (Dl.take i b)) (Nat.le_refl _) e
theorem Dl.drop {n : Nat} : ∀ {ds : List PyData} {c : Nat} (i : Nat), Dl n c ds → Dl n c (ds.drop i)
  | _, _, 0, h => h
  | [], _, _ + 1, _ => Dl.nil
  | d :: ds, c, i + 1, h => by
    obtain ⟨a, b, e⟩ := h.inv
    exact Dl.up (Dl.drop i b) (Nat.le_refl _) (by omega)
theorem Dl.app {n : Nat} : ∀ {xs ys : List PyData} {a b : Nat}, Dl n a xs → Dl n b ys → Dl n (a + b) (xs ++ ys)
  | [], _, _, _, _, h => Dl.up h (Nat.le_refl _) (Nat.le_add_left _ _)
  | d :: xs, ys, a, b, h, g => by
    obtain ⟨e1, e2, e3⟩ := h.inv
    exact Dl.up (Dl.cons e1 (Dl.app e2 g)) (Nat.le_refl _) (by omega)
theorem Dl.get {n : Nat} : ∀ {ds : List PyData} {c i : Nat} {d : PyData}, Dl n c ds → ds[i]? = some d → Dd n c d
  | [], c, i, d, _, h => by simp at h
  | x :: r, c, 0, d, g, h => by simp at h; subst h; obtain ⟨a, _, e⟩ := g.inv; exact a.up (Nat.le_refl _) (by omega)
  | x :: r, c, i + 1, d, g, h => by obtain ⟨_, b, e⟩ := g.inv; exact (Dl.get b (by simpa using h)).up (Nat.le_refl _) (by omega)
theorem Dd.shaped {n c : Nat} {d : PyData} (h : Dd n c d) (hn : n ≤ 64) : SeqAt.shaped d = true := by
  unfold SeqAt.shaped
  rw [h.cl, decide_eq_true (Nat.le_trans h.st.dp hn)]; rfl
theorem dd_int {i : Int} (h : i.natAbs.log2 < 1920) : Dd 0 1921 (.int i) := ⟨shwS_int h, rfl⟩
theorem dd_small {i : Int} (h0 : -1000 ≤ i) (h1 : i ≤ 1000) : Dd 0 1921 (.int i) := dd_int (by
  by_cases q : i.natAbs = 0
  · rw [q]; decide
  · exact (Nat.log2_lt q).mpr (Nat.lt_of_lt_of_le (show i.natAbs < 2 ^ 30 by omega) (Nat.pow_le_pow_right (by decide) (by decide))))
theorem dd_str {x : Str} (h : PyData.showable (.str x) = true) (h2 : plainD (.str x) = true) (h3 : cost (.str x) ≤ 1921) (h4 : PyData.canLay0 (.str x) = true) : Dd 0 1921 (.str x) := ⟨⟨h, rfl, Nat.le_refl _, h2, h3⟩, h4⟩
theorem Dl.rev {n : Nat} : ∀ {ds : List PyData} {c : Nat}, Dl n c ds → Dl n c ds.reverse
  | [], _, h => h
  | d :: r, c, h => by
    obtain ⟨a, b, e⟩ := h.inv
    rw [List.reverse_cons]
    exact Dl.up (Dl.app (Dl.rev b) (Dl.cons a (Dl.nil (c := 0)))) (Nat.le_refl _) (by omega)
mutual
def plU : U → Bool
  | .non => true
  | .bl _ => true
  | .int _ => true
  | .str _ => true
  | .tup us => plUs us
  | .lst us => plUs us
  | _ => false
def plUs : List U → Bool
  | [] => true
  | u :: r => plU u && plUs r
end
theorem plUs_mem : ∀ {us : List U} {u : U}, plUs us = true → u ∈ us → plU u = true
  | v :: r, u, p, h => by
    rw [plUs, Bool.and_eq_true] at p
    rcases List.mem_cons.mp h with e | e
    · rw [e]; exact p.1
    · exact plUs_mem p.2 e
theorem plUs_of : ∀ {us : List U}, (∀ u ∈ us, plU u = true) → plUs us = true
  | [], _ => by simp [plUs]
  | v :: r, h => by
    rw [plUs, Bool.and_eq_true]
    exact ⟨h v List.mem_cons_self, plUs_of fun u hu => h u (List.mem_cons_of_mem _ hu)⟩
def Gd (n c : Nat) (u : U) : Prop := plU u = true ∧ ∃ d, datF u = some d ∧ Dd n c d
def Gds (n c : Nat) (us : List U) : Prop := plUs us = true ∧ ∃ ds, datFs us = some ds ∧ Dl n c ds
theorem Gd.up {n m c e : Nat} {u : U} (h : Gd n c u) (h1 : n ≤ m) (h2 : c ≤ e) : Gd m e u := let ⟨p, d, a, b⟩ := h; ⟨p, d, a, b.up h1 h2⟩
theorem Gds.up {n m c e : Nat} {us : List U} (h : Gds n c us) (h1 : n ≤ m) (h2 : c ≤ e) : Gds m e us := let ⟨p, d, a, b⟩ := h; ⟨p, d, a, b.up h1 h2⟩
theorem Gds.nil {n c : Nat} : Gds n c [] := ⟨rfl, [], rfl, Dl.nil⟩
theorem Gds.cons {n c e : Nat} {u : U} {us : List U} (h : Gd n c u) (t : Gds n e us) : Gds n (c + 2 + e) (u :: us) := by
  obtain ⟨p, d, a, b⟩ := h
  obtain ⟨p', d', a', b'⟩ := t
  exact ⟨by rw [plUs, p, p']; rfl, d :: d', by rw [datFs, a, a']; rfl, Dl.cons b b'⟩
theorem Gds.inv {n c : Nat} {u : U} {us : List U} (h : Gds n c (u :: us)) : ∃ a b, Gd n a u ∧ Gds n b us ∧ a + 2 + b ≤ c := by
  obtain ⟨p, ds, a, b⟩ := h
  rw [plUs, Bool.and_eq_true] at p
  rw [datFs] at a
  cases q : datF u with
  | none => rw [q] at a; cases a
  | some d =>
    cases q2 : datFs us with
    | none => rw [q, q2] at a; cases a
    | some ds' =>
      rw [q, q2] at a; cases a
      obtain ⟨b1, b2, b3⟩ := b.inv
      exact ⟨_, _, ⟨p.1, d, q, b1⟩, ⟨p.2, ds', q2, b2⟩, b3⟩
theorem Gds.tup {n c : Nat} {us : List U} (h : Gds n c us) : Gd (n + 1) (c + 4) (.tup us) := by
  obtain ⟨p, ds, a, b⟩ := h
  exact ⟨by rw [plU]; exact p, .tuple ds, by rw [datF, a]; rfl, b.tup⟩
theorem Gds.lst {n c : Nat} {us : List U} (h : Gds n c us) : Gd (n + 1) (c + 4) (.lst us) := by
  obtain ⟨p, ds, a, b⟩ := h
  exact ⟨by rw [plU]; exact p, .list ds, by rw [datF, a]; rfl, b.lst⟩
theorem Gd.inv {n c : Nat} {us : List U} (h : Gd (n + 1) c (.tup us)) : ∃ e, Gds n e us ∧ e + 4 ≤ c := by
  obtain ⟨p, d, a, b⟩ := h
  rw [plU] at p
  rw [datF] at a
  cases q : datFs us with
  | none => rw [q] at a; cases a
  | some ds =>
    rw [q] at a; cases a
    exact ⟨_, ⟨p, ds, q, b.inv.1⟩, b.inv.2⟩
theorem Gd.pos {n c : Nat} {us : List U} (h : Gd n c (.tup us)) : ∃ m, n = m + 1 := by
  obtain ⟨p, d, a, b⟩ := h
  rw [datF] at a
  cases q : datFs us with
  | none => rw [q] at a; cases a
  | some ds =>
    rw [q] at a; cases a
    have := b.st.dp
    have e : PyData.depthAll ds + 1 ≤ n := this
    exact ⟨n - 1, by omega⟩
theorem Gds.take {n : Nat} : ∀ {us : List U} {c : Nat} (i : Nat), Gds n c us → Gds n c (us.take i)
  | _, _, 0, _ => Gds.nil
  | [], _, _ + 1, _ => Gds.nil
  | d :: ds, c, i + 1, h => by
    obtain ⟨x, y, a, b, e⟩ := h.inv
    exact Gds.up (Gds.cons a (Gds.take i b)) (Nat.le_refl _) e
theorem Gds.drop {n : Nat} : ∀ {us : List U} {c : Nat} (i : Nat), Gds n c us → Gds n c (us.drop i)
  | _, _, 0, h => h
  | [], _, _ + 1, _ => Gds.nil
  | d :: ds, c, i + 1, h => by
    obtain ⟨x, y, a, b, e⟩ := h.inv
    exact Gds.up (Gds.drop i b) (Nat.le_refl _) (by omega)
theorem Gds.app {n : Nat} : ∀ {xs ys : List U} {a b : Nat}, Gds n a xs → Gds n b ys → Gds n (a + b) (xs ++ ys)
  | [], _, _, _, _, h => Gds.up h (Nat.le_refl _) (Nat.le_add_left _ _)
  | d :: xs, ys, a, b, h, g => by
    obtain ⟨x, y, e1, e2, e3⟩ := h.inv
    exact Gds.up (Gds.cons e1 (Gds.app e2 g)) (Nat.le_refl _) (by omega)
theorem Gds.mem {n : Nat} : ∀ {us : List U} {c : Nat} {u : U}, Gds n c us → u ∈ us → Gd n c u
  | x :: r, c, u, h, m => by
    obtain ⟨p, q, e1, e2, e3⟩ := h.inv
    rcases List.mem_cons.mp m with e | e
    · rw [e]; exact e1.up (Nat.le_refl _) (by omega)
    · exact (Gds.mem e2 e).up (Nat.le_refl _) (by omega)
theorem Gds.len {n : Nat} : ∀ {us : List U} {c : Nat}, Gds n c us → 2 * us.length ≤ c
  | [], _, _ => Nat.zero_le _
  | u :: r, c, h => by
    obtain ⟨x, y, a, b, e⟩ := h.inv
    have := Gds.len b
    rw [List.length_cons]; omega
theorem Gds.size {n c : Nat} {us : List U} (h : Gds n c us) (hc : c ≤ 16777216) : us.length ≤ sizeLine := by
  have := h.len
  rw [sizeLine_eq]; omega
theorem Gds.rev {n : Nat} : ∀ {us : List U} {c : Nat}, Gds n c us → Gds n c us.reverse
  | [], _, h => h
  | d :: r, c, h => by
    obtain ⟨x, y, a, b, e⟩ := h.inv
    rw [List.reverse_cons]
    exact Gds.up (Gds.app (Gds.rev b) (Gds.cons a (Gds.nil (c := 0)))) (Nat.le_refl _) (by omega)
theorem Gds.of {n c : Nat} : ∀ {us : List U}, (∀ u ∈ us, Gd n c u) → Gds n (us.length * (c + 2)) us
  | [], _ => Gds.nil
  | u :: r, h => (Gds.cons (h u List.mem_cons_self) (Gds.of fun v hv => h v (List.mem_cons_of_mem _ hv))).up (Nat.le_refl _) (by rw [List.length_cons, Nat.add_mul]; omega)
theorem Gds.cut {n c : Nat} {us : List U} {lo hi : Option Int} (h : Gds n c us) : Gds n c (cutU us lo hi) := by unfold cutU; exact (h.drop _).take _
theorem gd_small {i : Int} (h0 : -1000 ≤ i) (h1 : i ≤ 1000) : Gd 0 1921 (.int i) := ⟨rfl, _, rfl, dd_small h0 h1⟩
def wordOk (x : Str) : Bool := PyData.showable (.str x) && plainD (.str x) && decide (cost (.str x) ≤ 1921) && PyData.canLay0 (.str x)
theorem gd_str {x : Str} (h : wordOk x = true) : Gd 0 1921 (.str x) := by
  simp only [wordOk, Bool.and_eq_true, decide_eq_true_eq] at h
  exact ⟨rfl, _, rfl, dd_str h.1.1.1 h.1.1.2 h.1.2 h.2⟩
theorem datFs_strs : ∀ ss : List Str, datFs (ss.map U.str) = some (ss.map PyData.str)
  | [] => rfl
  | x :: r => by rw [List.map_cons, datFs, datFs_strs r]; rfl
theorem lay_strs : ∀ {ss : List Str}, (ss.all fun x => PyData.canLay0 (.str x)) = true → PyData.canLayAll0 (ss.map PyData.str) = true
  | [], _ => rfl
  | x :: r, h => by
    rw [List.all_cons, Bool.and_eq_true] at h
    rw [List.map_cons, PyData.canLayAll0, h.1, lay_strs h.2]; rfl
theorem any_strs {x : Str} : ∀ ss : List Str, (ss.map PyData.str).any (fun e => PyData.eqv e (.str x)) = decide (x ∈ ss)
  | [] => by simp
  | y :: r => by
    rw [List.map_cons, List.any_cons, any_strs r]
    have : PyData.eqv (.str y) (.str x) = (y == x) := by simp [PyData.eqv]
    rw [this]
    by_cases q : x = y
    · subst q; simp
    · have : ¬ y = x := fun e => q e.symm
      simp [q, this]
theorem inD {u v : U} {h : PH} {us : List U} {d : PyData} {es : List PyData} (ns : ∀ x, u ≠ .str x) (k : keysOf h v = none) (s : sq h v = some us) (e : datF u = some d) (sh : SeqAt.shaped d = true) (hn : d.depth ≤ 60) (e2 : datFs us = some es) (hs : PyData.canLayAll0 es = true) : inP h u v = some (es.any fun e => PyData.eqv e d) := by
  have r : inP h u v = (match keysOf h v with
    | some kus => (keyU u).map fun k => (valK kus k).isSome
    | none => (sq h v).bind fun us => (datF u).bind fun d => (datFs us).bind fun es => if SeqAt.shaped d = true ∧ d.depth ≤ 60 ∧ PyData.canLayAll0 es = true then some (es.any fun e => PyData.eqv e d) else none) := by
    cases u <;> first | rfl | exact absurd rfl (ns _)
  rw [r, k]
  simp only [s, Option.bind_some, e, e2, if_pos (show SeqAt.shaped d = true ∧ d.depth ≤ 60 ∧ PyData.canLayAll0 es = true from ⟨sh, hn, hs⟩)]
theorem datFs_ints : ∀ ns : List Int, datFs (ns.map U.int) = some (ns.map PyData.int)
  | [] => rfl
  | x :: r => by rw [List.map_cons, datFs, datFs_ints r]; rfl
theorem lay_ints : ∀ ns : List Int, PyData.canLayAll0 (ns.map PyData.int) = true
  | [] => rfl
  | x :: r => by rw [List.map_cons, PyData.canLayAll0, lay_ints r]; rfl
theorem any_ints {i : Int} : ∀ ns : List Int, (ns.map PyData.int).any (fun e => PyData.eqv e (.int i)) = decide (i ∈ ns)
  | [] => by simp
  | y :: r => by
    rw [List.map_cons, List.any_cons, any_ints r]
    have : PyData.eqv (.int y) (.int i) = (y == i) := by simp [PyData.eqv]
    rw [this]
    by_cases q : i = y
    · subst q; simp
    · have : ¬ y = i := fun e => q e.symm
      simp [q, this]
theorem inI {i : Int} {h : PH} {v : U} (ns : List Int) (k : keysOf h v = none) (s : sq h v = some (ns.map .int)) : inP h (.int i) v = some (decide (i ∈ ns)) := by
  rw [inD (fun _ => U.noConfusion) k s rfl rfl (Nat.zero_le _) (datFs_ints ns) (lay_ints ns), any_ints]
@[simp] theorem blsU_comp {α : Type} {f : α → Bool} {l : List α} : blsU (l.map (U.bl ∘ f)) = some (l.map f) := by rw [← List.map_map, blsU_map]
@[simp] theorem intsU_comp {α : Type} {f : α → Int} {l : List α} : intsU (l.map (U.int ∘ f)) = some (l.map f) := by rw [← List.map_map, intsU_map]
theorem numsP_lst {h : PH} {ns : List Int} : numsP h (.lst (ns.map .int)) = some ns := by unfold numsP; simp [intsU_map]
@[simp] theorem nz1 (n : Nat) : ((n : Int) + 1 = 0) = False := eq_false (by omega)
@[simp] theorem nz2 (n : Nat) : ((n : Int) + 1 + 1 = 0) = False := eq_false (by omega)
@[simp] theorem nz21 (n : Nat) : ((n : Int) + 1 + 1 = 1) = False := eq_false (by omega)
@[simp] theorem nz11 (n : Nat) : ((n : Int) + 1 = 1) = (n = 0) := propext (by omega)
@[simp] theorem nz12 (n : Nat) : ((n : Int) + 1 = 2) = (n = 1) := propext (by omega)
@[simp] theorem nz13 (n : Nat) : ((n : Int) + 1 = 3) = (n = 2) := propext (by omega)
@[simp] theorem nz22 (n : Nat) : ((n : Int) + 1 + 1 = 2) = (n = 0) := propext (by omega)
@[simp] theorem nz23 (n : Nat) : ((n : Int) + 1 + 1 = 3) = (n = 1) := propext (by omega)
@[simp] theorem nz3 (n : Nat) : ((n : Int) + 1 + 1 + 1 = 0) = False := eq_false (by omega)
@[simp] theorem nz31 (n : Nat) : ((n : Int) + 1 + 1 + 1 = 1) = False := eq_false (by omega)
@[simp] theorem nz32 (n : Nat) : ((n : Int) + 1 + 1 + 1 = 2) = False := eq_false (by omega)
@[simp] theorem nz33 (n : Nat) : ((n : Int) + 1 + 1 + 1 = 3) = (n = 0) := propext (by omega)
theorem cut1 {u : U} {r : List U} : cutU (u :: r) (some 1) none = r := by
  unfold cutU
  show ((u :: r).drop (min 1 (r.length + 1))).take ((r.length + 1) - min 1 (r.length + 1)) = r
  rw [Nat.min_eq_left (by omega)]
  show r.take (r.length + 1 - 1) = r
  rw [Nat.add_sub_cancel, List.take_length]
theorem at0 {u : U} {r : List U} : atI (u :: r) 0 = some u := atI_0
theorem at1 {u v : U} {r : List U} : atI (u :: v :: r) 1 = some v := atI_n (by decide) rfl
@[simp] theorem sl_0 : (0 ≤ sizeLine) = True := eq_true (by decide)
@[simp] theorem sl_1 : (1 ≤ sizeLine) = True := eq_true (by decide)
@[simp] theorem sl_2 : (2 ≤ sizeLine) = True := eq_true (by decide)
@[simp] theorem sl_3 : (3 ≤ sizeLine) = True := eq_true (by decide)
@[simp] theorem sl_4 : (4 ≤ sizeLine) = True := eq_true (by decide)
@[simp] theorem sl_5 : (5 ≤ sizeLine) = True := eq_true (by decide)
@[simp] theorem sl_6 : (6 ≤ sizeLine) = True := eq_true (by decide)
@[simp] theorem sl_7 : (7 ≤ sizeLine) = True := eq_true (by decide)
@[simp] theorem sl_8 : (8 ≤ sizeLine) = True := eq_true (by decide)
@[simp] theorem sl_9 : (9 ≤ sizeLine) = True := eq_true (by decide)
@[simp] theorem sl_10 : (10 ≤ sizeLine) = True := eq_true (by decide)
@[simp] theorem sl_11 : (11 ≤ sizeLine) = True := eq_true (by decide)
@[simp] theorem sl_12 : (12 ≤ sizeLine) = True := eq_true (by decide)
@[simp] theorem sl_13 : (13 ≤ sizeLine) = True := eq_true (by decide)
@[simp] theorem sl_14 : (14 ≤ sizeLine) = True := eq_true (by decide)
@[simp] theorem sl_15 : (15 ≤ sizeLine) = True := eq_true (by decide)
@[simp] theorem sl_16 : (16 ≤ sizeLine) = True := eq_true (by decide)
@[simp] theorem sl_17 : (17 ≤ sizeLine) = True := eq_true (by decide)
@[simp] theorem sl_18 : (18 ≤ sizeLine) = True := eq_true (by decide)
@[simp] theorem sl_19 : (19 ≤ sizeLine) = True := eq_true (by decide)
@[simp] theorem sl_20 : (20 ≤ sizeLine) = True := eq_true (by decide)
@[simp] theorem sl_21 : (21 ≤ sizeLine) = True := eq_true (by decide)
@[simp] theorem sl_22 : (22 ≤ sizeLine) = True := eq_true (by decide)
@[simp] theorem sl_23 : (23 ≤ sizeLine) = True := eq_true (by decide)
@[simp] theorem sl_24 : (24 ≤ sizeLine) = True := eq_true (by decide)
@[simp] theorem sl_25 : (25 ≤ sizeLine) = True := eq_true (by decide)
@[simp] theorem sl_26 : (26 ≤ sizeLine) = True := eq_true (by decide)
@[simp] theorem sl_27 : (27 ≤ sizeLine) = True := eq_true (by decide)
@[simp] theorem sl_28 : (28 ≤ sizeLine) = True := eq_true (by decide)
@[simp] theorem sl_29 : (29 ≤ sizeLine) = True := eq_true (by decide)
@[simp] theorem sl_30 : (30 ≤ sizeLine) = True := eq_true (by decide)
@[simp] theorem sl_31 : (31 ≤ sizeLine) = True := eq_true (by decide)
@[simp] theorem sl_32 : (32 ≤ sizeLine) = True := eq_true (by decide)
@[simp] theorem sl_33 : (33 ≤ sizeLine) = True := eq_true (by decide)
@[simp] theorem sl_34 : (34 ≤ sizeLine) = True := eq_true (by decide)
@[simp] theorem sl_35 : (35 ≤ sizeLine) = True := eq_true (by decide)
@[simp] theorem sl_36 : (36 ≤ sizeLine) = True := eq_true (by decide)
@[simp] theorem sl_37 : (37 ≤ sizeLine) = True := eq_true (by decide)
@[simp] theorem sl_38 : (38 ≤ sizeLine) = True := eq_true (by decide)
@[simp] theorem sl_39 : (39 ≤ sizeLine) = True := eq_true (by decide)
@[simp] theorem sl_40 : (40 ≤ sizeLine) = True := eq_true (by decide)
@[simp] theorem ofString_inj {a b : String} : (Str.ofString a = Str.ofString b) = (a = b) := by
  refine propext ⟨fun h => ?_, fun h => by rw [h]⟩
  rw [Str.ofString_eq_toList, Str.ofString_eq_toList] at h
  have h1 : (a.toList.map Char.toNat).toArray = (b.toList.map Char.toNat).toArray := Str.mk.inj h
  have h2 : a.toList.map Char.toNat = b.toList.map Char.toNat := congrArg Array.toList h1
  have inj : Function.Injective Char.toNat := fun c d e => Char.toNat_inj.mp e
  have h3 : a.toList = b.toList := (List.map_inj_right (fun x y => fun e => inj e)).mp h2
  exact String.toList_inj.mp h3
example : ¬ (("is" : Str) = "any") := by simp
end L2
end
section
set_option Elab.async false
set_option maxRecDepth 100000
set_option linter.unusedVariables false
set_option maxHeartbeats 1000000
namespace L2
open PySem PySem.Spec PySem.F PyProof.Rows
def W {α : Type} (m : Option (α × PH)) (P : α → PH → Prop) : Prop := ∃ v h, m = some (v, h) ∧ P v h
section
variable {α β : Type} {m : Option (α × PH)} {k : α → PH → Option (β × PH)} {P : α → PH → Prop} {Q : β → PH → Prop} {v : α} {h h' : PH}
@[simp] theorem W_some : W (some (v, h)) P = P v h := propext ⟨fun ⟨_, _, e, p⟩ => by cases e; exact p, fun p => ⟨_, _, rfl, p⟩⟩
@[simp] theorem W_bnd : W (bnd m k) Q = W m fun v h => W (k v h) Q := propext ⟨fun ⟨w, h2, e, q⟩ => by
  obtain ⟨u, h1, e1, e2⟩ := bnd_eq e
  exact ⟨u, h1, e1, w, h2, e2, q⟩, fun ⟨u, h1, e1, w, h2, e2, q⟩ => ⟨w, h2, by rw [e1]; exact e2, q⟩⟩
@[simp] theorem W_map {f : α → β × PH} {o : Option α} : W (o.map f) Q = ∃ a, o = some a ∧ Q (f a).1 (f a).2 := propext ⟨fun ⟨w, h2, e, q⟩ => by
  cases o with
  | none => cases e
  | some a =>
    have e : f a = (w, h2) := Option.some.inj e
    exact ⟨a, rfl, by rw [e]; exact q⟩, fun ⟨a, e, q⟩ => ⟨_, _, by rw [e]; rfl, q⟩⟩
@[simp] theorem W_ite {c : Prop} [Decidable c] {m' : Option (α × PH)} : W (if c then m else m') P = if c then W m P else W m' P := by split <;> rfl
@[simp] theorem W_none : W (none : Option (α × PH)) P = False := propext ⟨fun ⟨_, _, e, _⟩ => (nomatch e), fun h => False.elim h⟩
@[simp] theorem intsU_nil : intsU [] = some [] := rfl
@[simp] theorem intsU_cons {i : Int} {r : List U} : intsU (.int i :: r) = (intsU r).map (i :: ·) := rfl
@[simp] theorem blsU_nil : blsU [] = some [] := rfl
@[simp] theorem blsU_cons {i : Bool} {r : List U} : blsU (.bl i :: r) = (blsU r).map (i :: ·) := rfl
theorem W.use {R : α → PH → Prop} (w : W m P) (r : ∀ v h, P v h → R v h) : W m R := let ⟨v, h, e, p⟩ := w; ⟨v, h, e, r v h p⟩
theorem W_for {g : GF} {b : SF} {srcs : Srcs} {us : List U} {ρ : En} {P : Fl → PH → Prop} (I : Nat → En → PH → Prop) (so : ∀ i ρ h, I i ρ h → srcOk h srcs) (h0 : I 0 ρ h)
    (st : ∀ i u ρ h, us[i]? = some u → I i ρ h → W (g u ρ h) fun ρ1 h1 => W (b ρ1 h1) fun fl h2 => match fl with
      | .nx ρ2 => I (i + 1) ρ2 h2
      | .ct ρ2 => I (i + 1) ρ2 h2
      | .bk ρ2 => P (.nx ρ2) h2
      | .rt v => P (.rt v) h2)
    (fin : ∀ ρ h, I us.length ρ h → P (.nx ρ) h) : W (forS g b srcs us ρ h) P := by
  have key : ∀ (k : Nat) (ρ : En) (h : PH), k ≤ us.length → I (us.length - k) ρ h → W (forS g b srcs (us.drop (us.length - k)) ρ h) P := by
    intro k
    induction k with
    | zero =>
      intro ρ h _ hi
      rw [Nat.sub_zero] at hi ⊢
      rw [List.drop_length, forS_nil (so _ _ _ hi), W_some]
      exact fin _ _ hi
    | succ k ih =>
      intro ρ h hk hi
      have hlt : us.length - (k + 1) < us.length := by omega
      have w := st _ _ ρ h (List.getElem?_eq_getElem hlt) hi
      rw [List.drop_eq_getElem_cons hlt, forS_cons (so _ _ _ hi), W_bnd]
      refine w.use fun ρ1 h1 w => ?_
      rw [W_bnd]
      refine w.use fun fl h2 w => ?_
      have en : us.length - (k + 1) + 1 = us.length - k := by omega
      rw [en] at w ⊢
      cases fl with
      | nx ρ2 => exact ih ρ2 h2 (by omega) w
      | ct ρ2 => exact ih ρ2 h2 (by omega) w
      | bk ρ2 => rw [W_some]; exact w
      | rt v => rw [W_some]; exact w
  have := key us.length ρ h (Nat.le_refl _) (by rw [Nat.sub_self]; exact h0)
  rw [Nat.sub_self, List.drop_zero] at this
  exact this
theorem W_forR {g : GF} {b : SF} {lo : Int} {n : Nat} {ρ : En} {P : Fl → PH → Prop} (I : Nat → En → PH → Prop) (h0 : I 0 ρ h)
    (st : ∀ i ρ h, i < n → I i ρ h → W (g (.int (lo + (i : Nat))) ρ h) fun ρ1 h1 => W (b ρ1 h1) fun fl h2 => match fl with
      | .nx ρ2 => I (i + 1) ρ2 h2
      | .ct ρ2 => I (i + 1) ρ2 h2
      | .bk ρ2 => P (.nx ρ2) h2
      | .rt v => P (.rt v) h2)
    (fin : ∀ ρ h, I n ρ h → P (.nx ρ) h) : W (forS g b [] (rngU lo n) ρ h) P := by
  refine W_for I (fun _ _ _ _ => trivial) h0 (fun i u ρ h hu hi => ?_) (fun ρ h hi => fin ρ h (by rwa [rngU_len] at hi))
  have hl : i < n := by have := (List.getElem?_eq_some_iff.mp hu).1; rwa [rngU_len] at this
  rw [rngU_get hl] at hu
  cases hu
  exact st i ρ h hl hi
theorem iRng1_ev {fr : AF} {ρ : En} {h1 : PH} {j : Int} {n : Nat} (e : fr ρ h = some ([.int j], h1)) (hj : j = n) (hn : n ≤ 1000000000) : iRng1U fr ρ h = some ((rngU 0 n, []), h1) := by
  unfold iRng1U
  rw [e]
  show (if Rg j then some ((rngU 0 j.toNat, ([] : Srcs)), h1) else none) = _
  rw [if_pos (Rg.ok (by omega) (by omega))]
  have : j.toNat = n := by omega
  rw [this]
theorem W_sFor {fi : IF} {g : GF} {b : SF} {srcs : Srcs} {us : List U} {ρ : En} {h1 : PH} {P : Fl → PH → Prop} (e : fi ρ h = some ((us, srcs), h1)) (I : Nat → En → PH → Prop) (so : ∀ i ρ h, I i ρ h → srcOk h srcs) (h0 : I 0 ρ h1)
    (st : ∀ i u ρ h, us[i]? = some u → I i ρ h → W (g u ρ h) fun ρ1 h1 => W (b ρ1 h1) fun fl h2 => match fl with
      | .nx ρ2 => I (i + 1) ρ2 h2
      | .ct ρ2 => I (i + 1) ρ2 h2
      | .bk ρ2 => P (.nx ρ2) h2
      | .rt v => P (.rt v) h2)
    (fin : ∀ ρ h, I us.length ρ h → P (.nx ρ) h) : W (sFor fi g b ρ h) P := by
  unfold sFor
  rw [W_bnd, e, W_some]
  exact W_for I so h0 st fin
theorem W_sForR {fr : AF} {g : GF} {b : SF} {ρ : En} {h1 : PH} {j : Int} {P : Fl → PH → Prop} (n : Nat) (e : fr ρ h = some ([.int j], h1)) (hj : j = n) (hn : n ≤ 1000000000) (I : Nat → En → PH → Prop) (h0 : I 0 ρ h1)
    (st : ∀ i ρ h, i < n → I i ρ h → W (g (.int (i : Nat)) ρ h) fun ρ1 h1 => W (b ρ1 h1) fun fl h2 => match fl with
      | .nx ρ2 => I (i + 1) ρ2 h2
      | .ct ρ2 => I (i + 1) ρ2 h2
      | .bk ρ2 => P (.nx ρ2) h2
      | .rt v => P (.rt v) h2)
    (fin : ∀ ρ h, I n ρ h → P (.nx ρ) h) : W (sFor (iRng1U fr) g b ρ h) P := by
  unfold sFor
  rw [W_bnd, iRng1_ev e hj hn, W_some]
  refine W_forR I h0 (fun i ρ h hi hI => ?_) fin
  rw [Int.zero_add]
  exact st i ρ h hi hI
theorem W_fnR {n m : Nat} {b : SF} {us : List U} {P : U → PH → Prop} (hl : us.length = n) (w : W (b (startE m us) h) fun fl h' => match fl with
    | .rt u => P u h'
    | .nx _ => P .non h'
    | _ => False) : W (fnR n m b us h) P := by
  unfold fnR
  rw [if_pos hl, W_bnd]
  refine w.use fun fl h' p => ?_
  cases fl with
  | rt u => rw [W_some]; exact p
  | nx _ => rw [W_some]; exact p
  | _ => exact p.elim
theorem W_seq {a b : SF} {ρ : En} {P : Fl → PH → Prop} (Q : En → PH → Prop) (w : W (a ρ h) fun fl h' => ∃ ρ', fl = .nx ρ' ∧ Q ρ' h') (k : ∀ ρ' h', Q ρ' h' → W (b ρ' h') P) : W (sSeq a b ρ h) P := by
  unfold sSeq
  rw [W_bnd]
  refine w.use fun fl h' p => ?_
  obtain ⟨ρ', rfl, q⟩ := p
  exact k ρ' h' q
theorem W_seqR {a b : SF} {ρ : En} {P : Fl → PH → Prop} (w : W (a ρ h) fun fl h' => match fl with
    | .nx ρ' => W (b ρ' h') P
    | fl => P fl h') : W (sSeq a b ρ h) P := by
  unfold sSeq
  rw [W_bnd]
  refine w.use fun fl h' p => ?_
  cases fl with
  | nx ρ' => exact p
  | _ => rw [W_some]; exact p
mutual
theorem plU_blw {n : Nat} : ∀ (u : U), plU u = true → blwU n u
  | .non, _ => by simp [blwU]
  | .bl _, _ => by simp [blwU]
  | .int _, _ => by simp [blwU]
  | .str _, _ => by simp [blwU]
  | .tup us, h => by rw [blwU]; rw [plU] at h; exact plUs_blw us h
  | .lst us, h => by rw [blwU]; rw [plU] at h; exact plUs_blw us h
  | .scr _, h => by simp [plU] at h
  | .dct _, h => by simp [plU] at h
  | .set _, h => by simp [plU] at h
  | .ref _, h => by simp [plU] at h
theorem plUs_blw {n : Nat} : ∀ (us : List U), plUs us = true → blwUs n us
  | [], _ => by simp [blwUs]
  | u :: r, h => by
    rw [plUs, Bool.and_eq_true] at h
    rw [blwUs]
    exact ⟨plU_blw u h.1, plUs_blw r h.2⟩
end
theorem W_finR {F : FF} {us : List U} {P : U → PH → Prop} (w : W (F us h) fun v h' => plU v = true ∧ CutOk h h' ∧ P v (h'.take h.length)) : W (finR F us h) P := by
  obtain ⟨v, h', e, pv, ok, p⟩ := w
  have fz : frzU h.length h' v = v := by
    cases v with
    | ref a => cases pv
    | _ => rfl
  refine ⟨v, h'.take h.length, ?_, p⟩
  unfold finR
  rw [e, bnd_some]
  rw [fz]
  exact if_pos ⟨ok, plU_blw v pv⟩
end
end L2
end
section
set_option Elab.async false
set_option maxRecDepth 100000
set_option linter.unusedVariables false
set_option maxHeartbeats 1000000
namespace L2
open PySem PySem.Spec PySem.F PyProof.Rows
section
variable {prog : Program} {w : World} {A : Around} {E : Value → Shared → Prop} {s : Shared}
end
end L2
end
section
set_option Elab.async false
set_option maxRecDepth 100000
set_option linter.unusedVariables false
set_option maxHeartbeats 1000000
namespace L2
open PySem PySem.Spec PySem.F PyProof.Rows
section
variable {X : Cx} {S : Sx}
def refNe (n : Nat) : U → Bool
  | .ref m => m != n
  | _ => true
@[simp] def gSlU (fo : EF) (fl : OF) : GF := fun v ρ h => bnd (fo ρ h) fun o h1 => bnd (fl ρ h1) fun lo h2 => match lo with
  | some a => (lsAt h2 o).bind fun p => (its h2 v).bind fun ys => if refNe p.1 v = true ∧ 0 ≤ a ∧ a ≤ p.2.length ∧ p.2.length + ys.length ≤ sizeLine then some (ρ, h2.set p.1 (.lst (p.2.take a.toNat ++ ys))) else none
  | none => none
end
end L2
end
section
set_option Elab.async false
set_option maxRecDepth 100000
set_option linter.unusedVariables false
set_option maxHeartbeats 1000000
namespace L2
open PySem PySem.Spec PySem.F PyProof.Rows
section
variable {X : Cx} {S : Sx}
def sortI (ns : List Int) : List Int := ns.mergeSort (fun a b => decide (a ≤ b))
theorem sort_uniq : ∀ {xs ys : List Int}, xs.Perm ys → xs.Pairwise (· ≤ ·) → ys.Pairwise (· ≤ ·) → xs = ys
  | [], ys, p, _, _ => (List.nil_perm.mp p).symm
  | x :: xs, [], p, _, _ => absurd p.length_eq (by simp)
  | x :: xs, y :: ys, p, hx, hy => by
    have h1 : x ≤ y := by
      rcases List.mem_cons.mp (p.mem_iff.mpr (List.mem_cons_self (a := y))) with e | e
      · omega
      · exact (List.pairwise_cons.mp hx).1 y e
    have h2 : y ≤ x := by
      rcases List.mem_cons.mp (p.mem_iff.mp (List.mem_cons_self (a := x))) with e | e
      · omega
      · exact (List.pairwise_cons.mp hy).1 x e
    have e : x = y := by omega
    subst e
    rw [sort_uniq (List.Perm.cons_inv p) (List.pairwise_cons.mp hx).2 (List.pairwise_cons.mp hy).2]
@[simp] def cSorted (m : Bool) : GC := fun h us => match us with
  | [u] => (its h u).bind fun vs => (intsU vs).bind fun ns => if ns.length < 64 then mk m ((sortI ns).map .int) h else none
  | _ => none
def sclV : U → Option V
  | .non => some .non
  | .bl b => some (.bl b)
  | .int i => some (.int i)
  | .str x => some (.str x)
  | _ => none
def sclVs : List U → Option (List V)
  | [] => some []
  | u :: r => (sclV u).bind fun v => (sclVs r).map fun vs => v :: vs
theorem sclV_of {α : Am} {H : Hp} {u : U} {x v : V} (e : sclV u = some v) (r : RU S α H u x) : x = v ∧ flatV v = true := by
  cases u with
  | non => cases e; cases r; exact ⟨rfl, rfl⟩
  | bl b => cases e; cases r; exact ⟨rfl, rfl⟩
  | int b => cases e; cases r; exact ⟨rfl, rfl⟩
  | str b => cases e; cases r; exact ⟨rfl, rfl⟩
  | _ => cases e
theorem sclVs_of {α : Am} {H : Hp} : ∀ {us : List U} {xs vs : List V}, sclVs us = some vs → RUs S α H us xs → xs = vs ∧ vs.all flatV = true
  | [], _, _, e, .nil => by cases e; exact ⟨rfl, rfl⟩
  | u :: us, _, vs, e, .cons r rr => by
    rw [sclVs] at e
    cases e1 : sclV u with
    | none => rw [e1] at e; cases e
    | some v =>
      cases e2 : sclVs us with
      | none => rw [e1, e2] at e; cases e
      | some ws =>
        rw [e1, e2] at e; cases e
        obtain ⟨a, b⟩ := sclV_of e1 r
        obtain ⟨c, d⟩ := sclVs_of e2 rr
        exact ⟨by rw [a, c], by rw [List.all_cons, b, d]; rfl⟩
@[simp] def mCount : MF := fun h o us => match us with
  | [y] => (its h o).bind fun xs => (sclVs xs).bind fun vs => (sclV y).map fun v => (.int ((vs.countP fun z => eqV z v : Nat) : Int), h)
  | _ => none
@[simp] def mIndex : MF := fun h o us => match us with
  | [y] => (its h o).bind fun xs => (sclVs xs).bind fun vs => (sclV y).bind fun v => (vs.findIdx? fun z => eqV z v).map fun j => (.int (j : Nat), h)
  | _ => none
end
end L2
end
section
set_option Elab.async false
set_option maxRecDepth 100000
set_option linter.unusedVariables false
set_option maxHeartbeats 1000000
namespace L2
open PySem PySem.Spec PySem.F PyProof.Rows
section
variable {X : Cx} {S : Sx} {α α' α1 : Am} {H H' H1 : Hp} {h h' h1 : PH} {e : Expr} {pos : Pos}
theorem Rl.adoptH {D : Addr} {x0 : List Addr} {o : O} {ho : HO} (rl : Rl S α1 H1 h1) (hx : α1.x = D :: x0) (nd : D ∉ x0) (new : RO S ((α1.show x0).add D) (upd H1 D ho) o D) : Rl S ((α1.show x0).add D) (upd H1 D ho) (h1 ++ [o]) ∧ Mo α1 H1 ((α1.show x0).add D) (upd H1 D ho) ∧ ((α1.show x0).add D).a[h1.length]? = some D := by
  have memD : D ∈ α1.x := by rw [hx]; exact List.mem_cons_self
  have nDa : D ∉ α1.a := fun z => rl.dj D z memD
  have sub : ∀ p ∈ x0, p ∈ α1.x := fun p hp => by rw [hx]; exact List.mem_cons_of_mem _ hp
  have mo : Mo α1 H1 ((α1.show x0).add D) (upd H1 D ho) := ⟨fun q u e n => by
    have hq : q ≠ D := fun z => n (by rw [z]; exact .inr memD)
    exact ⟨by rw [upd_ne hq]; exact e, fun z => (own_add.mp z).elim (fun z => n (z.elim .inl fun z => .inr (sub q z))) hq⟩, ⟨[D], rfl⟩⟩
  refine ⟨{
    len := by show (α1.a ++ [D]).length = _; rw [List.length_append, List.length_append, rl.len]; rfl
    nd := by
      show (α1.a ++ [D]).Nodup
      rw [List.nodup_append]
      exact ⟨rl.nd, by simp, fun a ha b hb e => by rw [List.mem_singleton.mp hb] at e; subst e; exact nDa ha⟩
    dj := fun p hp z => by
      rcases List.mem_append.mp (show p ∈ α1.a ++ [D] from hp) with hp | hp
      · exact rl.dj p hp (sub p z)
      · rw [List.mem_singleton.mp hp] at z; exact nd z
    ob := fun i u e => by
      by_cases hi : i < h1.length
      · rw [List.getElem?_append_left hi] at e
        obtain ⟨q, e1, ro⟩ := rl.ob i u e
        exact ⟨q, by show (α1.a ++ [D])[i]? = _; rw [List.getElem?_append_left (by rw [rl.len]; exact hi)]; exact e1, ro.mo mo (upd_ne fun z => nDa (by rw [← z]; exact List.mem_of_getElem? e1))⟩
      · have hl : i = h1.length := by
          have := (List.getElem?_eq_some_iff.mp e).1
          rw [List.length_append, List.length_singleton] at this; omega
        subst hl
        rw [List.getElem?_append_right (Nat.le_refl _), Nat.sub_self] at e
        cases e
        exact ⟨D, by show (α1.a ++ [D])[h1.length]? = _; rw [← rl.len, List.getElem?_append_right (Nat.le_refl _), Nat.sub_self]; rfl, new⟩
    tr := fun p hp => by
      have hq : p ≠ D := fun z => nd (by rw [← z]; exact hp)
      rw [upd_ne hq]; exact rl.tr p (sub p hp)
    tab := fun p hp => by
      have hq : p ≠ D := fun z => (rl.tab p hp).2 (by rw [z]; exact .inr memD)
      exact ⟨by rw [upd_ne hq]; exact (rl.tab p hp).1, fun z => (own_add.mp z).elim (fun z => (rl.tab p hp).2 (z.elim .inl fun z => .inr (sub p z))) hq⟩ }, mo, by show (α1.a ++ [D])[h1.length]? = some D; rw [← rl.len, List.getElem?_append_right (Nat.le_refl _), Nat.sub_self]; rfl⟩
@[simp] def eDictM (ps : List (EF × EF)) : EF := fun ρ h => bnd (pairsS ps ρ h) fun kus h1 => if kus.length ≤ 15 then some (.ref h1.length, h1 ++ [.dK (mergeU [] kus)]) else none
theorem s_dictM {ps : List (EF × EF)} (q : PE X e (tDisp (ps.map fun p => (tS S p.1, tS S p.2)))) : PE X e (tS S (eDictM ps)) := q.wk fun σ H Q ⟨α, ρ, h, re, rl, w, h3, e, k⟩ => by
  intro D hD
  obtain ⟨kus, h1, e1, e⟩ := bnd_eq e
  have e : (if kus.length ≤ 15 then some (U.ref h1.length, h1 ++ [.dK (mergeU [] kus)]) else none) = some (w, h3) := e
  by_cases hl : kus.length ≤ 15
  case neg => rw [if_neg hl] at e; cases e
  rw [if_pos hl] at e
  cases e
  refine tPairs_S (re.mo (Mo.hide (o := .dK []) hD)) (rl.hide hD) e1 fun α1 H1 kvs ex1 rl1 rk => ?_
  have memD : D ∈ (α.hide D).x := List.mem_cons_self
  have memD1 : D ∈ α1.x := by rw [ex1.x]; exact memD
  refine ⟨(ex1.priv D memD).trans upd_same, kvs, rfl, by rw [← rk.len]; exact hl, ?_⟩
  have ndx : D ∉ α.x := fun z => rl.tr D z hD
  have sub : ∀ p ∈ α.x, p ∈ α1.x := fun p hp => by rw [ex1.x]; exact List.mem_cons_of_mem _ hp
  have mo1 : Mo α1 H1 ((α1.show α.x).add D) (upd H1 D (.dK (mergeK [] kvs))) := ⟨fun q u e n => by
    have hq : q ≠ D := fun z => n (by rw [z]; exact .inr memD1)
    exact ⟨by rw [upd_ne hq]; exact e, fun z => (own_add.mp z).elim (fun z => n (z.elim .inl fun z => .inr (sub q z))) hq⟩, ⟨[D], rfl⟩⟩
  obtain ⟨r1, r2, r3⟩ := rl1.adoptH (ho := .dK (mergeK [] kvs)) (o := .dK (mergeU [] kus)) ex1.x ndx ⟨_, upd_same, (RKs.merge rk .nil).mo mo1⟩
  refine k ((α1.show α.x).add D) _ _ ⟨fun p o e n => ?_, ?_, rfl, fun p hp => ?_⟩ r1 (.ref r3)
  · have hpD : p ≠ D := ne_of_none e hD
    obtain ⟨a, b⟩ := ex1.keep p o (by rw [upd_ne hpD]; exact e) (fun z => (own_hide.mp z).elim n hpD)
    exact ⟨by rw [upd_ne hpD]; exact a, fun z => (own_add.mp z).elim (fun z => b (z.elim .inl fun z => .inr (sub p z))) hpD⟩
  · obtain ⟨β, eb⟩ := ex1.pre
    exact ⟨β ++ [D], by show α1.a ++ [D] = _; rw [eb, List.append_assoc]; rfl⟩
  · have hpD : p ≠ D := fun z => rl.tr p hp (by rw [z]; exact hD)
    rw [upd_ne hpD, ex1.priv p (List.mem_cons_of_mem _ hp), upd_ne hpD]
@[simp] def eDictNew : EF := fun _ h => some (.ref h.length, h ++ [.dK []])
theorem rdictNew : SE X S (.Dict [] [] pos) eDictNew := ⟨pe_dnewK.wk fun σ H Q ⟨α, ρ, h, re, rl, w, h3, e, k⟩ p hp => by
  cases e
  have ex := Ex.add hp rl (.dK [])
  refine k (α.add p) _ _ ex (rl.add hp ⟨[], upd_same, .nil⟩) (.ref ?_)
  show (α.a ++ [p])[h.length]? = some p
  rw [← rl.len, List.getElem?_append_right (Nat.le_refl _), Nat.sub_self]; rfl⟩
@[simp] def eGet2 (fo fk fx : EF) : EF := fun ρ h => bnd (fo ρ h) fun o h1 => bnd (fk ρ h1) fun k h2 => bnd (fx ρ h2) fun x h3 => match o with
  | .ref a => match h1[a]?, h3[a]? with
    | some (.dK _), some (.dK kus) => (keyU k).map fun kk => ((valK kus kk).getD x, h3)
    | _, _ => none
  | _ => none
@[simp] def eLRng2 (m : Bool) (fa fb : EF) : EF := fun ρ h => bnd (fa ρ h) fun u h1 => bnd (fb ρ h1) fun v h2 => match u, v with
  | .int i, .int j => if -1000000 ≤ i ∧ i ≤ 1000000 ∧ -1000000 ≤ j ∧ j ≤ 1000000 ∧ j - i ≤ 1000 then mk m (rngU i (j - i).toNat) h2 else none
  | _, _ => none
end
end L2
end
section
set_option Elab.async false
set_option maxRecDepth 100000
set_option linter.unusedVariables false
set_option maxHeartbeats 1000000
namespace L2
open PySem PySem.Spec PySem.F PyProof.Rows
open Sem (wp)
theorem zip_keys_none : typeLookup (.type "zip") "keys" = pure none := am_miss_of_fast (by first | decide +kernel | rfl)
theorem zip_getattr_none : typeLookup (.type "zip") "__getattr__" = pure none := by rw [typeLookup_type, builtinLookup_eq_fast]; kernel_rfl
theorem am_entry_zip_getattribute : entryFor table "zip.__getattribute__" = some Builtin.«object.__getattribute__» :=
  entryFor_alias (id' := "object.__getattribute__") (by kernel_rfl) (by decide +kernel) (by decide +kernel) (by kernel_rfl)
theorem meets_getattribute_miss_zip (a : Addr) (xs : Array Value) (sl : Array (Option Value)) (name : Str) (u : Tok) (hmiss : typeLookup (.type "zip") name = pure none) (hname : (["__module__", "__name__", "__qualname__", "__doc__", "__annotations__"] : List Str).contains name = false) (hsz : name.length + 100 ≤ sizeLine := by size_fits) :
    Meets (Builtin.«object.__getattribute__» ⟨[.ref a, .str name u], []⟩) (fun A R s => s.heap.get? a = some { cls := .type "zip", dict := none, data := .fields xs, slots := sl } ∧ raisesAttr (.ref a) name A R s) :=
  Meets.of_wp fun prog w A R s hs => by
    obtain ⟨hp, g, d, tk, os⟩ := s
    obtain ⟨hx, hs⟩ := hs
    have hT : (⟨hp, g, d, tk, os⟩ : Shared).TypeIs (.ref a) "zip" := ⟨_, hx, rfl⟩
    unfold Builtin.«object.__getattribute__»
    repeat (any_goals (first | assumption | wp_step))
    simp only [hname, Bool.false_eq_true, if_false]
    repeat (any_goals (first | assumption | wp_step))
    exact wpAny_raiseAttrError hs.1 hs.2 (attrMsg_fits (by decide +kernel) hsz)
section
variable {prog : Program} {w : World} {A : Around} {E : Value → Shared → Prop}
theorem miss_zip {s : Shared} {a : Addr} {o : Obj} {xs : Array Value} {Q : Option Value → Shared → Prop} (hx : s.heap.get? a = some o) (hc : o.cls = .type "zip") (hdat : o.data = .fields xs) (hd : o.dict = none) (hA : A.handled = none)
    (h : ∀ h' tk, (∀ b ob, s.heap.get? b = some ob → h'.get? b = some ob) → Q none { s with heap := h', toks := tk }) : wpAny (model prog w) A (getAttr? (.ref a) "keys") Q E s := by
  obtain ⟨c, dct, dat, sl⟩ := o
  simp only at hc hdat hd
  subst hc hdat hd
  obtain ⟨hp, g, d, tk, os⟩ := s
  have hT : ∀ tk', (⟨hp, g, d, tk', os⟩ : Shared).TypeIs (.ref a) "zip" := fun _ => ⟨_, hx, rfl⟩
  have hmiss := zip_keys_none
  have hname : (["__module__", "__name__", "__qualname__", "__doc__", "__annotations__"] : List Str).contains "keys" = false := by decide +kernel
  have hsz : ("keys" : Str).length + 100 ≤ sizeLine := by first | size_fits | decide +kernel
  have f1 := sub_AttributeError
  have f3 := PySem.F.slot_zip_getattribute.lookup
  have f4 := PySem.F.slot_zip_getattribute.bind (.ref a)
  have f5 := zip_getattr_none
  unfold getAttr? getAttrBy? getAttrBy
  repeat (any_goals (first | assumption | exact hT _ | ((fail_if_success (with_reducible show wpAny _ _ (call (Value.builtin "zip.__getattribute__") _ _) _ _ _)); wp_step)))
  refine call_meets PySem.F.slot_zip_getattribute (hT _) am_entry_zip_getattribute (PySem.F.args_zip_getattribute_2 _ _) (meets_getattribute_miss_zip a xs sl "keys" _ hmiss hname hsz) ⟨hx, hA, fun h' tk' e hx' => ?_⟩
  obtain ⟨t', u', he⟩ := hx'.there
  show wpAny _ _ (getattributeRaised _ _ _ _ _ _ _) _ _ _
  unfold getattributeRaised
  repeat (any_goals (first | assumption | wp_step))
  all_goals first | exact h _ _ hx'.keeps | (dsimp only; repeat (any_goals (first | assumption | exact h _ _ hx'.keeps | wp_step)))
end
end L2
end
section
set_option Elab.async false
set_option maxRecDepth 100000
set_option linter.unusedVariables false
set_option maxHeartbeats 1000000
namespace L2
open PySem PySem.Spec PySem.F PyProof.Rows
section
variable {prog : Program} {w : World} {A : Around} {E : Value → Shared → Prop}
theorem call_dict_zip0 {b1 b2 : Bool} {s : Shared} {z TI TO i1 i2 l1 l2 : Addr} {xs ys : Array Value} {p q : Value} {Q : Value → Shared → Prop} (hh : A.handled = none) (D : ZipApart z TI TO i1 i2 l1 l2)
    (hz : IsZip s.heap z TI TO .none) (hTI : IsPair s.heap TI (.ref i1) (.ref i2)) (hTO : IsPair s.heap TO p q) (h1 : SIt b1 s.heap i1 l1 0) (h2 : SIt b2 s.heap i2 l2 0) (hl1 : SSq b1 s.heap l1 xs) (hl2 : SSq b2 s.heap l2 ys) (hend : xs[0]? = none ∨ ys[0]? = none)
    (hlt : z < s.heap.objs.size) (hlt2 : TO < s.heap.objs.size) (hlt3 : i1 < s.heap.objs.size) (hlt4 : i2 < s.heap.objs.size)
    (h : ∀ h' tk, h'.DictOf (mixKind prog w) s.heap.objs.size ([] : List (Key × Value)) → (∀ c o, c ≠ z → c ≠ TO → c ≠ i1 → c ≠ i2 → s.heap.get? c = some o → h'.get? c = some o) → Q (.ref s.heap.objs.size) { s with heap := h', toks := tk }) :
    wpAny (model prog w) A (call (.type "dict") [.ref z]) Q E s := by
  refine callType_codes (Q₁ := fun obj s₁ => obj = .ref s.heap.objs.size ∧ s₁ = { s with heap := s.heap.push { cls := .type "dict", data := .dict #[] } }) PySem.F.kt_called_dict (PySem.F.kt_typeCall_dict_1 _) PySem.F.entry_dict_init (kt_code_dict_new _ ⟨rfl, rfl⟩) ?_
  rintro obj s₁ ⟨rfl, rfl⟩
  have hnew : (s.heap.push { cls := .type "dict", data := .dict #[] }).DictOf (mixKind prog w) s.heap.objs.size ([] : List (Key × Value)) := Heap.DictOf.new s.heap
  have k0 : ∀ b o, s.heap.get? b = some o → (s.heap.push { cls := .type "dict", data := .dict #[] }).get? b = some o := fun b o e => Heap.get?_push_of_some _ e
  refine ⟨hnew.typeIs, PySem.F.args_dict_init_2 _ _, ?_⟩
  unfold Builtin.«dict.__init__»
  refine wpAny_bind ?_
  unfold Builtin.Dict.selfAndRest
  refine wpAny_bind (wpAny_notOrdered_dict hnew.typeIs ?_)
  show wpAny _ _ (pure (s.heap.objs.size, [Value.ref z])) _ _ _
  refine wpAny_pure ?_
  show wpAny _ _ (Builtin.Dict.updateFrom "dict.__init__" s.heap.objs.size (.ref z) [] .none) _ _ _
  unfold Builtin.Dict.updateFrom
  refine wpAny_bind (wpAny_typeOf (T := "zip") ⟨_, k0 _ _ hz, rfl⟩ ?_)
  rw [if_pos (by first | decide | rfl | simp)]
  refine wpAny_bind (miss_zip (k0 _ _ hz) rfl rfl rfl hh fun g tk1 hk1 => ?_)
  rw [if_pos (show (none : Option Value).isNone = true from rfl)]
  refine wpAny_bind (wpAny_rule ?_)
  have kk : ∀ b o, s.heap.get? b = some o → g.get? b = some o := fun b o e => hk1 _ _ (k0 _ _ e)
  have hz1 : IsZip g z TI TO .none := kk _ _ hz
  have hD1 : g.DictOf (mixKind prog w) s.heap.objs.size ([] : List (Key × Value)) := hnew.at fun o e => hk1 _ _ e
  refine wpAny_bind (wpAny_pyIter_zip hz1 ?_)
  refine wpAny_pure ⟨plainId_quiet ud_plain _, ?_⟩
  refine codeAny_builtin ud_entry ?_
  rw [Around.under_plainId ud_plain _]
  show wpAny _ A.in1.in1 (pyNext (.ref z) >>= _) _ _ _
  refine wpAny_bind (zipm_end (A := A.in1.in1) (b1 := b1) (b2 := b2) (k1 := 0) (k2 := 0) (xs := xs) (ys := ys) (p := p) (q := q) hh D hz1 (kk _ _ hTI) (kk _ _ hTO) (h1.mv fun o e => kk _ _ e) (h2.mv fun o e => kk _ _ e) (hl1.mv fun o e => kk _ _ e) (hl2.mv fun o e => kk _ _ e) hend fun h' hk' => ?_)
  show wpAny _ _ (Builtin.Dict.addKeywords _ [] >>= _) _ _ _
  refine wpAny_bind (wpAny_pure (wpAny_pure ?_))
  refine ⟨rfl, h h' _ (hD1.at fun o e => hk' _ _ (Nat.ne_of_gt hlt) (Nat.ne_of_gt hlt2) (Nat.ne_of_gt hlt3) (Nat.ne_of_gt hlt4) e) fun c o c1 c2 c3 c4 e => hk' c o c1 c2 c3 c4 (kk _ _ e)⟩
end
end L2
end
section
set_option Elab.async false
set_option maxRecDepth 100000
set_option linter.unusedVariables false
set_option maxHeartbeats 1000000
namespace L2
open PySem PySem.Spec PySem.F PyProof.Rows
open Classical in
example : True := trivial
section
variable {X : Cx} {S : Sx}
theorem sq_of' {α : Am} {H : Hp} {h : PH} (r : Rl S α H h) {u : U} {us : List U} {x : V} (e : sq h u = some us) (k : RU S α H u x) : ∃ b p xs, x = .ref p ∧ Sq b S.K H p xs ∧ RUs S α H us xs := by
  obtain ⟨p, xs, rfl, hq, rs⟩ := sq_of r e k
  rcases hq with hq | hq
  · exact ⟨true, p, xs, rfl, hq, rs⟩
  · exact ⟨false, p, xs, rfl, hq, rs⟩
@[simp] def eDictZ0 (fa fb : EF) : EF := fun ρ h => bnd (fa ρ h) fun u h1 => bnd (fb ρ h1) fun v h2 => (sq h2 u).bind fun us => (sq h2 v).bind fun vs => if us = [] ∨ vs = [] then some (.ref h2.length, h2 ++ [.dK []]) else none
theorem rdictZ0 {a b : Expr} {fa fb : EF} {p1 p2 pos1 pos2 : Pos} (hf : Fit X S) (hd : X.A.handled = none) (hgl : Gl X "dict") (hml : X.mg "dict" = none) (hg : Gl X "zip") (hm : X.mg "zip" = none) (ha : SE X S a fa) (hb : SE X S b fb)
    (hs : starEach [a, b] X.env = (false, eval a X.env) :: starEach [b] X.env := by rfl) (hs2 : starEach [b] X.env = (false, eval b X.env) :: starEach [] X.env := by rfl) (hs3 : (backTo pos2 (starEach [b] X.env)).any (·.1) = false := by rfl)
    (hs1 : starEach [.Call (.Name "zip" p2) [a, b] [] pos2] X.env = [(false, eval (.Call (.Name "zip" p2) [a, b] [] pos2) X.env)] := by rfl) : SE X S (.Call (.Name "dict" p1) [.Call (.Name "zip" p2) [a, b] [] pos2] [] pos1) (eDictZ0 fa fb) := ⟨by
  intro pins s σ H Q I hh
  obtain ⟨α, ρ, h, re, rl, w, h3, e, k⟩ := hh
  obtain ⟨u, h1, e1, e⟩ := bnd_eq e
  obtain ⟨v, h2, e2, e⟩ := bnd_eq e
  refine wpAny_Call_Name_kw (ld_blt I hgl hml (u := .type "dict") (by decide +kernel) ?_)
  refine PyProof.Rows.callWith_type1 ?_ hs1 rfl
  rw [hs1]
  show wpAny _ _ (spliced ((false, eval (.Call (.Name "zip" p2) [a, b] [] pos2) X.env) :: backTo pos1 [])) _ _ s
  refine Calls.spliced_cons ?_
  have hA : PA X [a, b] (tCons (tS S fa) (tCons (tS S fb) tNil)) := pa_cons ha.h (pa_cons hb.h pa_nil hs2) hs
  refine Call_ (ld_blt I hg hm boot_zip5 (PyProof.Rows.callWith_type1 (thn (hA pos2 pins s σ H (fun vs H2 => ∃ x y, vs = [x, y] ∧ ∃ α2, Ex α H α2 H2 ∧ Rl S α2 H2 h2 ∧ RU S α2 H2 u x ∧ RU S α2 H2 v y) I ⟨α, ρ, h, re, rl, u, h1, e1, fun α1 H1 x ex1 rl1 ru => ⟨α1, ρ, h1, re.ex ex1, rl1, v, h2, e2, fun α2 H2 y ex2 rl2 rv => ⟨x, y, rfl, α2, ex1.trans ex2, rl2, ru.ex ex2, rv⟩⟩⟩) fun us s1 ⟨vs, H1, I1, r1, x, y, evs, α2, ex2, rl2, ru, rv⟩ => ?_) hs hs3))
  subst evs
  cases q1 : sq h2 u with
  | none => rw [q1] at e; cases e
  | some xs =>
    cases q2 : sq h2 v with
    | none => rw [q1, q2] at e; cases e
    | some ys =>
      rw [q1, q2] at e
      have e : (if xs = [] ∨ ys = [] then some (U.ref h2.length, h2 ++ [.dK []]) else none) = some (w, h3) := e
      by_cases hl : xs = [] ∨ ys = []
      case neg => rw [if_neg hl] at e; cases e
      rw [if_pos hl] at e
      cases e
      obtain ⟨b1, pa, vx, ex, hqx, rx⟩ := sq_of' rl2 q1 ru
      obtain ⟨b2, pb, vy, ey, hqy, ry⟩ := sq_of' rl2 q2 rv
      subst ex; subst ey
      obtain ⟨u1, u2, rfl, ra, rb⟩ := vals2 r1
      cases ra; cases rb
      rw [← hf.K] at hqx hqy
      obtain ⟨its, rvx, p1', la⟩ := I1.sq hqx
      obtain ⟨its2, rvy, p2', lb⟩ := I1.sq hqy
      refine zipm_call p1' p2' fun h' hz hTI hTO hi1 hi2 hsz hk => ?_
      refine Calls.spliced_nil ?_
      have z1 : xs = [] → its.toArray[0]? = none := fun z => by
        subst z; cases rx; cases rvx; rfl
      have z2 : ys = [] → its2.toArray[0]? = none := fun z => by
        subst z; cases ry; cases rvy; rfl
      refine call_dict_zip0 (b1 := b1) (b2 := b2) hd (PySem.W.ktu_apart s1.heap.objs.size pa pb la lb) hz hTI hTO hi1 hi2 (p1'.mv fun o e => hk _ _ e) (p2'.mv fun o e => hk _ _ e) (hl.elim (fun z => .inl (z1 z)) fun z => .inr (z2 z)) (Nat.lt_of_lt_of_eq (Nat.add_lt_add_left (by decide : 4 < 5) _) hsz.symm) (Nat.lt_of_lt_of_eq (Nat.add_lt_add_left (by decide : 3 < 5) _) hsz.symm) (Nat.lt_of_lt_of_eq (Nat.lt_add_of_pos_right (by decide : 0 < 5)) hsz.symm) (Nat.lt_of_lt_of_eq (Nat.add_lt_add_left (by decide : 1 < 5) _) hsz.symm) fun g tk hD hk2 => ?_
      have kk : ∀ b o, s1.heap.get? b = some o → g.get? b = some o := fun b o e => by
        have hlt := Heap.lt_size e
        exact hk2 b o (Nat.ne_of_lt (Nat.lt_of_lt_of_le hlt (Nat.le_add_right _ _))) (Nat.ne_of_lt (Nat.lt_of_lt_of_le hlt (Nat.le_add_right _ _))) (Nat.ne_of_lt hlt) (Nat.ne_of_lt (Nat.lt_of_lt_of_le hlt (Nat.le_add_right _ _))) (hk b o e)
      have hle : s1.heap.objs.size ≤ h'.objs.size := by rw [hsz]; omega
      have I3 := I1.laid (a := h'.objs.size) (o := .dK []) (h' := g) (t' := tk) kk hle ⟨Nat.zero_le _, by
        have : h'.objs.size ≠ sysModules := Nat.ne_of_gt (Nat.lt_of_lt_of_le I1.big hle)
        exact beq_eq_false_iff_ne.mpr this, [], .nil, hD⟩
      have hp := I1.hok.fresh hle
      have ex3 := Ex.add hp rl2 (.dK [])
      refine ⟨.ref _, _, I3, rfl, k (α2.add _) _ _ (ex2.trans ex3) (rl2.add hp ⟨[], upd_same, .nil⟩) (.ref ?_)⟩
      show (α2.a ++ [_])[h2.length]? = some _
      rw [← rl2.len, List.getElem?_append_right (Nat.le_refl _), Nat.sub_self]; rfl⟩
open Classical in
noncomputable def mUpd0 : MF := fun h o us => match o, us with
  | .ref a, [.ref b] => if a ≠ b ∧ (∃ kus, h[a]? = some (.dK kus)) ∧ h[b]? = some (.dK []) then some (.non, h) else none
  | _, _ => none
open Classical in
theorem mS_upd0 : MtR X "dict.update" (rSm S mUpd0) := by
  intro pins s σ H x xs v us Q I rx rxs hh
  obtain ⟨α, h, o, vs, rl, ro, rs, p⟩ := hh
  have hv : ∃ a b, o = .ref a ∧ vs = [.ref b] := by
    obtain ⟨_, _, e, _⟩ := p
    unfold mUpd0 at e
    split at e
    · exact ⟨_, _, rfl, rfl⟩
    · cases e
  obtain ⟨n, m, rfl, rfl⟩ := hv
  have p : PU S α H (if n ≠ m ∧ (∃ kus, h[n]? = some (.dK kus)) ∧ h[m]? = some (.dK []) then some (.non, h) else none) Q := p
  by_cases hc : n ≠ m ∧ (∃ kus, h[n]? = some (.dK kus)) ∧ h[m]? = some (.dK [])
  case neg => rw [if_neg hc] at p; exact (no_pu p rfl).elim
  rw [if_pos hc] at p
  obtain ⟨nm, ⟨kus, qn⟩, qm⟩ := hc
  cases ro with
  | @ref _ pa hp =>
    obtain ⟨z, rfl, rz⟩ := rs.one
    cases rz with
    | @ref _ D hD =>
      obtain ⟨kvs, hH, rk⟩ := rl.get hp qn
      obtain ⟨k0, hH0, rk0⟩ := rl.get hD qm
      cases rk0
      have hne : pa ≠ D := fun z => nm (by subst z; exact nodup_inj rl.nd hp hD)
      obtain ⟨hz1, hd1, vs1, rel1, dd1⟩ := dk_of I.hok hH
      obtain ⟨_, hS, vs0, rel0, dD⟩ := dk_of I.hok hH0
      cases rel0
      cases rx
      obtain ⟨u, rfl, ru⟩ := Vals.one rxs
      cases ru
      refine call_meetsIn PySem.F.slot_dict_update dd1.typeIs PySem.F.entry_dict_update (PySem.F.args_dict_update_2 _ _) (meets_dict_update (mixKind X.prog X.w) pa D hne hS) ⟨vs1, [], dd1, dD, by have := rel1.length; rw [List.length_nil]; omega, fun h' hd' ho' sb => ?_⟩
      have hm : merged vs1 ([] : List (Key × Value)) = vs1 := rfl
      rw [hm] at hd'
      have eqH : upd H pa (.dK kvs) = H := funext fun b => by
        by_cases e : b = pa
        · subst e; rw [upd_same, hH]
        · rw [upd_ne e]
      have I' : Inv X pins σ (upd H pa (.dK kvs)) { s with heap := h', toks := s.toks } := I.write (x := pa) (e := pa) (by rw [hH]; exact trivial) (.inl rfl) (fun b u hb hu => (sb.2 b hb).trans hu) (by
        obtain ⟨o, _, _, e, _⟩ := hd'
        exact ⟨o, e⟩) ⟨hz1, hd1, vs1, rel1, hd'⟩
      rw [eqH] at I'
      exact ⟨.non, H, I', rfl, p.val rl .non⟩
end
end L2
namespace L2
open PySem PySem.Spec PySem.F PyProof.Rows
section
variable {X : Cx} {S : Sx}
theorem extend_tup {pins : List (Addr × Obj)} {s : Shared} {σ : St} {H : Hp} {l b : Addr} {xs zs : List V} {Q : VK} (I : Inv X pins σ H s) (hH : H l = some (.lst xs)) (hB : SqT X.K H b zs) (hne : l ≠ b) (hz : xs.length + zs.length ≤ sizeLine) (q : Q .non (upd H l (.lst (xs ++ zs)))) :
    wpAny (model X.prog X.w) X.A (call (.builtin "list.extend") [.ref l, .ref b]) (EP X pins σ Q) X.xe s := by
  obtain ⟨z, its, n, r, hl, e⟩ := I.lstM hH
  obtain ⟨its2, r2, ht, hz2⟩ := I.tuple hB
  have hl2 := r2.length
  have hL : s.heap.IsList l its.toArray := PySem.IsL.isList e
  have hsz : its.toArray.size + its2.toArray.size ≤ sizeLine := by rw [List.size_toArray, List.size_toArray]; omega
  have hlong : ¬ (!its.toArray.isEmpty && Builtin.List.listTooLong (its.toArray.size + its2.toArray.size)) = true := by
    rw [notLongL hsz, Bool.and_false]
    exact Bool.false_ne_true
  have hsame : Builtin.List.listSameRef (.ref l) (.ref b) = false := by
    unfold Builtin.List.listSameRef
    exact beq_eq_false_iff_ne.mpr hne
  obtain ⟨o2, ho2, hc2, n2, hd2⟩ := id ht
  refine wpAny_call_entry PySem.F.slot_list_extend ⟨_, e, rfl⟩ PySem.F.entry_list_extend ?_ (PySem.F.args_list_extend_2 _ _)
  unfold Builtin.«list.extend»
  show wpAny _ _ (Builtin.List.listExtendWith (.ref l) (.ref b) .none) _ _ s
  unfold Builtin.List.listExtendWith
  refine wpAny_bind (wpAny_typeOf ht.typeIs ?_)
  rw [if_pos (by rw [hsame]; decide)]
  unfold Builtin.List.listItems
  refine wpAny_bind (wpAny_bind (wpAny_seqItems ho2 hd2 (wpAny_pure ?_)))
  refine wpAny_bind (wpAny_bind (wpAny_seqItems e rfl (wpAny_pure ?_)))
  rw [if_neg hlong]
  unfold Builtin.List.listUpdate
  have hz1 : its.toArray.size ≤ sizeLine := Nat.le_trans (Nat.le_add_right _ _) hsz
  have hz' : ((fun x : Array Value => x ++ its2.toArray) its.toArray).size ≤ sizeLine + 1 := by
    show (its.toArray ++ its2.toArray).size ≤ _
    rw [Array.size_append]; omega
  have fin : EP X pins σ Q .none { s with heap := s.heap.update l (Obj.mapSeq fun x => x ++ its2.toArray) } :=
    ⟨.non, _, I.lset (its' := its ++ its2) (t' := s.toks) hH e (by simp) (r.append r2) (by rw [List.length_append]; exact hz), rfl, q⟩
  refine wpAny_bind (wpAny_updateSeq (hz := hz1) (_hz' := hz') e rfl ?_)
  exact wpAny_bind (wpAny_pure (wpAny_pure ⟨.none, rfl, fin⟩))
@[simp] def mExtT : MF := fun h o us => match us with
  | [.tup vs] => (lsAt h o).bind fun p => if p.2.length + vs.length ≤ sizeLine then some (.non, h.set p.1 (.lst (p.2 ++ vs))) else none
  | [y] => (lsAt h o).bind fun p => (its h y).bind fun vs => if p.2.length + vs.length ≤ sizeLine then some (.non, h.set p.1 (.lst (p.2 ++ vs))) else none
  | _ => none
theorem mS_extT (hf : Fit X S) : MtR X "list.extend" (rSm S mExtT) := by
  intro pins s σ H x xs v us Q I rx rxs hh
  obtain ⟨α, h, o, vs, rl, ro, rs, p⟩ := hh
  have other : ∀ y, (∀ us, y ≠ .tup us) → vs = [y] → wpAny (model X.prog X.w) X.A (call (.builtin "list.extend") (v :: us)) (EP X pins σ Q) X.xe s := fun y hy e => by
    subst e
    refine mS_ext pins s σ H x xs v us Q I rx rxs ⟨α, h, o, [y], rl, ro, rs, ?_⟩
    have : mExtT h o [y] = mExt h o [y] := by
      cases y <;> first | rfl | exact absurd rfl (hy _)
    rw [← this]; exact p
  match vs, rs, p with
  | [], _, p => exact (no_pu p rfl).elim
  | _ :: _ :: _, _, p => exact (no_pu p (by simp [mExtT])).elim
  | [.non], _, _ => exact other _ (fun _ => U.noConfusion) rfl
  | [.bl _], _, _ => exact other _ (fun _ => U.noConfusion) rfl
  | [.int _], _, _ => exact other _ (fun _ => U.noConfusion) rfl
  | [.str _], _, _ => exact other _ (fun _ => U.noConfusion) rfl
  | [.lst _], _, _ => exact other _ (fun _ => U.noConfusion) rfl
  | [.scr _], _, _ => exact other _ (fun _ => U.noConfusion) rfl
  | [.dct _], _, _ => exact other _ (fun _ => U.noConfusion) rfl
  | [.set _], _, _ => exact other _ (fun _ => U.noConfusion) rfl
  | [.ref _], _, _ => exact other _ (fun _ => U.noConfusion) rfl
  | [.tup zs], rs, p =>
    have p : PU S α H ((lsAt h o).bind fun p => if p.2.length + zs.length ≤ sizeLine then some (.non, h.set p.1 (.lst (p.2 ++ zs))) else none) Q := p
    cases q : lsAt h o with
    | none => rw [q] at p; exact (no_pu p rfl).elim
    | some nu =>
      obtain ⟨n, ws⟩ := nu
      rw [q] at p
      have p : PU S α H (if ws.length + zs.length ≤ sizeLine then some (.non, h.set n (.lst (ws ++ zs))) else none) Q := p
      by_cases hl : ws.length + zs.length ≤ sizeLine
      case neg => rw [if_neg hl] at p; exact (no_pu p rfl).elim
      rw [if_pos hl] at p
      obtain ⟨pa, ys, rfl, hp, h1, h2⟩ := lsAt_of rl q ro
      obtain ⟨z, rfl, rz⟩ := rs.one
      cases rz with
      | @tup pb zz _ ht rr =>
        cases rx
        obtain ⟨u, rfl, ru⟩ := Vals.one rxs
        cases ru
        have hne : pa ≠ pb := by
          intro e
          subst e
          rcases ht with ⟨_, hn⟩ | ht
          · exact hn (.inl (List.mem_of_getElem? hp))
          · have hB : SqT X.K H pa zz := by rw [hf.K]; exact ht.elim (fun z => by rcases z with z | ⟨_, z⟩ <;> cases z) .inr
            obtain ⟨its, _, t1, _⟩ := I.tuple hB
            obtain ⟨_, _, _, _, _, e1⟩ := I.lstM h1
            obtain ⟨o, e2, hc, _⟩ := t1
            rw [e1] at e2; cases e2
            simp at hc
        exact extend_tup I h1 (by rw [hf.K]; exact ht.sq) hne (by rw [← h2.len, ← rr.len]; exact hl) (p.chg rl hp (h2.app rr) .non)
end
end L2
end
section
set_option Elab.async false
set_option maxRecDepth 100000
set_option linter.unusedVariables false
set_option maxHeartbeats 1000000
namespace L2
open PySem PySem.Spec PySem.F PyProof.Rows
open PySem.Sem (wp wp_loadIfAlive)
section
variable {prog : Program} {w : World} {A : Around} {E : Value → Shared → Prop} {s : Shared}
theorem any_loadIfAlive {M : Model} {a : Addr} {o : Obj} {Q : Option Obj → Shared → Prop} (ho : s.heap.get? a = some o) (h : Q (some o) s) : wpAny M A (loadIfAlive a) Q E s := fun Γ p hΓ => by
  show wp M Γ (.loadIfAlive a .pure) _ _ p s
  rw [Sem.wp_loadIfAlive, ho]
  exact h
abbrev IsZip2 (h : Heap) (z TI TO T : Addr) (f1 : Bool) : Prop :=
  h.get? z = some { cls := .type "zip", dict := none, data := .fields #[rawInt T, .bool f1, .bool false, .ref TI, .ref TO], slots := #[] }
theorem zip2_free {z TI TO T : Addr} {f1 : Bool} {oT : Obj} {Q : Bool → Shared → Prop} (hz : IsZip2 s.heap z TI TO T f1) (hT : s.heap.get? T = some oT)
    (hQ : ∀ h', IsZip2 h' z TI TO T true → Heap.SameBut z s.heap h' → Q false { s with heap := h' }) : wpAny (model prog w) A (Builtin.SmallTypes.ownedTupleIsFree (.ref z)) Q E s := by
  unfold Builtin.SmallTypes.ownedTupleIsFree
  refine wpAny_bind (wpAny_field hz rfl (x := rawInt T) rfl ?_)
  show wpAny _ _ (loadIfAlive ((T : Int)).toNat >>= _) _ _ s
  rw [Int.toNat_natCast]
  refine wpAny_bind (any_loadIfAlive hT ?_)
  rw [if_neg (by simp)]
  refine wpAny_bind (wpAny_field hz rfl (x := .bool f1) rfl ?_)
  cases f1 with
  | true =>
    rw [if_neg (by decide)]
    exact wpAny_pure (hQ _ hz (Heap.SameBut.refl _ _))
  | false =>
    rw [if_pos (by decide)]
    refine wpAny_bind (wpAny_setField_rec hz (by simp) fun g1 z1 e1 => ?_)
    exact wpAny_pure (hQ _ z1 e1)
theorem zip2_item {b1 b2 : Bool} {z TI TO T i1 i2 l1 l2 : Addr} {f1 : Bool} {k1 k2 : Nat} {xs ys : Array Value} {x y : Value} {oT : Obj} {Q : Option Value → Shared → Prop} (D : ZipApart z TI TO i1 i2 l1 l2) (hTz : T ≠ z)
    (hz : IsZip2 s.heap z TI TO T f1) (hT : s.heap.get? T = some oT) (hTI : IsPair s.heap TI (.ref i1) (.ref i2)) (h1 : SIt b1 s.heap i1 l1 k1) (h2 : SIt b2 s.heap i2 l2 k2) (hl1 : SSq b1 s.heap l1 xs) (hl2 : SSq b2 s.heap l2 ys) (hx : xs[k1]? = some x) (hy : ys[k2]? = some y)
    (hQ : ∀ h', IsZip2 h' z TI TO T true → SIt b1 h' i1 l1 (k1 + 1) → SIt b2 h' i2 l2 (k2 + 1) → IsPair h' s.heap.objs.size x y → h'.objs.size = s.heap.objs.size + 1 →
      (∀ c o, c ≠ z → c ≠ i1 → c ≠ i2 → s.heap.get? c = some o → h'.get? c = some o) → Q (some (.ref s.heap.objs.size)) { s with heap := h' }) : wpAny (model prog w) A (pyNext (.ref z)) Q E s := by
  have hTy : s.TypeIs (.ref z) "zip" := ⟨_, hz, rfl⟩
  unfold pyNext
  refine wpAny_bind (wpAny_attempt (wpAny_callSpecial?_slot (name := Str.ofString "__next__") hTy slot_zip_next (wpAny_call_entry slot_zip_next hTy entry_zip_next ?_ (args_zip_next_1 _))))
  show wpAny _ _ (field (.ref z) 2 >>= _) _ _ _; refine wpAny_bind (wpAny_field hz rfl (x := .bool false) rfl ?_)
  show wpAny _ _ (field (.ref z) 3 >>= _) _ _ _; refine wpAny_bind (wpAny_field hz rfl (x := .ref TI) rfl ?_)
  refine wpAny_bind (wpAny_seqItems hTI rfl ?_); show wpAny _ _ (Builtin.SmallTypes.ownedTupleIsFree (.ref z) >>= _) _ _ _
  refine wpAny_bind (zip2_free hz hT fun g1 z1 e1 => ?_)
  rw [if_neg Bool.false_ne_true]
  simp only [← Array.forIn_toList, List.forIn_cons, List.forIn_nil]
  refine wpAny_bind (wpAny_bind (wpAny_bind (wpAny_holding ?_)))
  show wpAny _ _ (Builtin.SmallTypes.nextOf (.ref i1) >>= _) _ _ _
  refine wpAny_bind (draw (h1.mv fun o e => e1.extBut _ _ D.i1z e) (hl1.mv fun o e => e1.extBut _ _ D.l1z e) hx fun g2 a2 e2 => wpAny_pure ?_)
  refine wpAny_pure ?_
  refine wpAny_bind (wpAny_bind (wpAny_holding ?_))
  show wpAny _ _ (Builtin.SmallTypes.nextOf (.ref i2) >>= _) _ _ _
  refine wpAny_bind (draw (h2.mv fun o e => e2.extBut _ _ D.i12.symm (e1.extBut _ _ D.i2z e)) (hl2.mv fun o e => e2.extBut _ _ D.l2i1 (e1.extBut _ _ D.l2z e)) hy fun g4 a4 e4 => wpAny_pure ?_)
  refine wpAny_pure (wpAny_pure ?_)
  refine wpAny_bind (wpAny_newTuple (items := [x, y]) ?_ (by show 2 ≤ sizeLine; size_fits))
  have sz : g4.objs.size = s.heap.objs.size := by rw [e4.1, e2.1, e1.1]
  have z4 : IsZip2 g4 z TI TO T true := e4.extBut _ _ D.i2z.symm (e2.extBut _ _ D.i1z.symm z1)
  have kk : ∀ c o, c ≠ z → c ≠ i1 → c ≠ i2 → s.heap.get? c = some o → g4.get? c = some o := fun c o c1 c3 c4 e => e4.extBut _ _ c4 (e2.extBut _ _ c3 (e1.extBut _ _ c1 e))
  have b1' : SIt b1 g4 i1 l1 (k1 + 1) := a2.mv fun o e => e4.extBut _ _ D.i12 e
  have up : ∀ c o, g4.get? c = some o → (g4.push { cls := .type "tuple", data := .seq #[x, y] }).get? c = some o := fun c o e => Heap.get?_push_of_some _ e
  refine wpAny_pure ⟨_, rfl, wpAny_pure ?_⟩
  show Q (some (.ref g4.objs.size)) _
  have p8 : IsPair (g4.push { cls := .type "tuple", data := .seq #[x, y] }) g4.objs.size x y := Heap.get?_push_size _ rfl
  have s8 : (g4.push { cls := .type "tuple", data := .seq #[x, y] }).objs.size = g4.objs.size + 1 := Heap.size_push ..
  rw [sz] at p8 s8
  rw [sz]
  exact hQ _ (up _ _ z4) (b1'.mv fun o e => up _ o e) (a4.mv fun o e => up _ o e) p8 s8 fun c o c1 c3 c4 e => up c o (kk c o c1 c3 c4 e)
theorem zip2_end {b1 b2 : Bool} {z TI TO T i1 i2 l1 l2 : Addr} {f1 : Bool} {k1 k2 : Nat} {xs ys : Array Value} {oT : Obj} {Q : Option Value → Shared → Prop} (hh : A.handled = none) (D : ZipApart z TI TO i1 i2 l1 l2)
    (hz : IsZip2 s.heap z TI TO T f1) (hT : s.heap.get? T = some oT) (hTI : IsPair s.heap TI (.ref i1) (.ref i2)) (h1 : SIt b1 s.heap i1 l1 k1) (h2 : SIt b2 s.heap i2 l2 k2) (hl1 : SSq b1 s.heap l1 xs) (hl2 : SSq b2 s.heap l2 ys) (hend : xs[k1]? = none ∨ ys[k2]? = none)
    (hQ : ∀ h', (∀ c o, c ≠ z → c ≠ i1 → c ≠ i2 → s.heap.get? c = some o → h'.get? c = some o) → Q none { s with heap := h' }) : wpAny (model prog w) A (pyNext (.ref z)) Q E s := by
  have hTy : s.TypeIs (.ref z) "zip" := ⟨_, hz, rfl⟩
  have fin : ∀ (h' : Heap) (e : Addr), (∀ c o, c ≠ z → c ≠ i1 → c ≠ i2 → s.heap.get? c = some o → h'.get? c = some o) → (∃ o, h'.get? e = some o ∧ o.cls = .type "StopIteration") →
      wpAny (model prog w) A (isInstance (.ref e) (.type "StopIteration")) (fun r s' => wpAny (model prog w) A (if r = true then pure none else throw (.ref e)) Q E s') E { s with heap := h' } := fun h' e hk ⟨o, ho, hc⟩ =>
    wpAny_isInstance (T := "StopIteration") (b := true) ⟨o, ho, hc⟩ isSubtype_stop (wpAny_pure (hQ _ hk))
  unfold pyNext
  refine wpAny_bind (wpAny_attempt (wpAny_callSpecial?_slot (name := Str.ofString "__next__") hTy slot_zip_next (wpAny_call_entry slot_zip_next hTy entry_zip_next ?_ (args_zip_next_1 _))))
  show wpAny _ _ (field (.ref z) 2 >>= _) _ _ _; refine wpAny_bind (wpAny_field hz rfl (x := .bool false) rfl ?_)
  show wpAny _ _ (field (.ref z) 3 >>= _) _ _ _; refine wpAny_bind (wpAny_field hz rfl (x := .ref TI) rfl ?_)
  refine wpAny_bind (wpAny_seqItems hTI rfl ?_); show wpAny _ _ (Builtin.SmallTypes.ownedTupleIsFree (.ref z) >>= _) _ _ _
  refine wpAny_bind (zip2_free hz hT fun g1 z1 e1 => ?_)
  rw [if_neg Bool.false_ne_true]
  simp only [← Array.forIn_toList, List.forIn_cons, List.forIn_nil]
  refine wpAny_bind (wpAny_bind (wpAny_bind (wpAny_holding ?_)))
  show wpAny _ _ (Builtin.SmallTypes.nextOf (.ref i1) >>= _) _ _ _
  have c1 : SIt b1 g1 i1 l1 k1 := h1.mv fun o e => e1.extBut _ _ D.i1z e
  have d1 : SSq b1 g1 l1 xs := hl1.mv fun o e => e1.extBut _ _ D.l1z e
  cases hx : xs[k1]? with
  | none =>
    refine wpAny_bind (draw_end hh c1 d1 hx fun g2 e e2 he => ?_)
    exact wpAny_bind (fin g2 e (fun c o c1 c3 _ r => e2 _ _ c3 (e1.extBut _ _ c1 r)) he)
  | some x =>
    have hy : ys[k2]? = none := by
      rcases hend with r | r
      · rw [hx] at r; cases r
      · exact r
    refine wpAny_bind (draw c1 d1 hx fun g2 a2 e2 => wpAny_pure ?_)
    refine wpAny_pure ?_
    refine wpAny_bind (wpAny_bind (wpAny_holding ?_))
    show wpAny _ _ (Builtin.SmallTypes.nextOf (.ref i2) >>= _) _ _ _
    refine wpAny_bind (draw_end hh (h2.mv fun o e => e2.extBut _ _ D.i12.symm (e1.extBut _ _ D.i2z e)) (hl2.mv fun o e => e2.extBut _ _ D.l2i1 (e1.extBut _ _ D.l2z e)) hy fun g4 e e4 he => ?_)
    exact wpAny_bind (fin g4 e (fun c o c1 c3 c4 r => e4 _ _ c4 (e2.extBut _ _ c3 (e1.extBut _ _ c1 r))) he)
end
end L2
end
section
set_option Elab.async false
set_option maxRecDepth 100000
set_option linter.unusedVariables false
set_option maxHeartbeats 1000000
namespace L2
open PySem PySem.Spec PySem.F PyProof.Rows
section
variable {prog : Program} {w : World} {A : Around} {E : Value → Shared → Prop}
def Zs (h : Heap) (z TI TO i1 i2 S : Addr) : Prop := S < h.objs.size ∧ ((IsZip h z TI TO .none ∧ ∃ p q, IsPair h TO p q) ∨ ∃ T f1 oT, IsZip2 h z TI TO T f1 ∧ h.get? T = some oT ∧ T ≠ z ∧ T ≠ i1 ∧ T ≠ i2 ∧ T ≠ S)
theorem zs_item {s : Shared} {b1 b2 : Bool} {z TI TO i1 i2 l1 l2 S : Addr} {k1 k2 : Nat} {xs ys : Array Value} {x y : Value} {Q : Option Value → Shared → Prop} (D : ZipApart z TI TO i1 i2 l1 l2)
    (hz : Zs s.heap z TI TO i1 i2 S) (hTI : IsPair s.heap TI (.ref i1) (.ref i2)) (h1 : SIt b1 s.heap i1 l1 k1) (h2 : SIt b2 s.heap i2 l2 k2) (hl1 : SSq b1 s.heap l1 xs) (hl2 : SSq b2 s.heap l2 ys) (hx : xs[k1]? = some x) (hy : ys[k2]? = some y)
    (hQ : ∀ h' b, b ≠ S → b ≠ z → Zs h' z TI TO i1 i2 S → SIt b1 h' i1 l1 (k1 + 1) → SIt b2 h' i2 l2 (k2 + 1) → IsPair h' b x y →
      (∀ c o, c ≠ z → c ≠ TO → c ≠ i1 → c ≠ i2 → s.heap.get? c = some o → h'.get? c = some o) → Q (some (.ref b)) { s with heap := h' }) : wpAny (model prog w) A (pyNext (.ref z)) Q E s := by
  obtain ⟨hS, hz⟩ := hz
  rcases hz with ⟨hz, p, q, hTO⟩ | ⟨T, f1, oT, hz, hT, t1, t2, t3, t4⟩
  · have zl := Heap.lt_size hz
    obtain ⟨_, e1, _⟩ := h1.ob
    obtain ⟨_, e2, _⟩ := h2.ob
    have il := Heap.lt_size e1
    have jl := Heap.lt_size e2
    refine zipm_item D hz hTI hTO h1 h2 hl1 hl2 hx hy fun h' a1 a2 a3 a4 a5 a6 a7 => ?_
    exact hQ h' _ (Nat.ne_of_gt hS) (Nat.ne_of_gt zl) ⟨by rw [a6]; exact Nat.lt_succ_of_lt hS, .inr ⟨_, false, _, a1, a5, Nat.ne_of_gt zl, Nat.ne_of_gt il, Nat.ne_of_gt jl, Nat.ne_of_gt hS⟩⟩ a3 a4 a5 a7
  · have zl := Heap.lt_size hz
    refine zip2_item D t1 hz hT hTI h1 h2 hl1 hl2 hx hy fun h' a1 a3 a4 a5 a6 a7 => ?_
    exact hQ h' _ (Nat.ne_of_gt hS) (Nat.ne_of_gt zl) ⟨by rw [a6]; exact Nat.lt_succ_of_lt hS, .inr ⟨T, true, oT, a1, a7 _ _ t1 t2 t3 hT, t1, t2, t3, t4⟩⟩ a3 a4 a5 fun c o c1 _ c3 c4 e => a7 c o c1 c3 c4 e
theorem zs_end {s : Shared} {b1 b2 : Bool} {z TI TO i1 i2 l1 l2 S : Addr} {k1 k2 : Nat} {xs ys : Array Value} {Q : Option Value → Shared → Prop} (hh : A.handled = none) (D : ZipApart z TI TO i1 i2 l1 l2)
    (hz : Zs s.heap z TI TO i1 i2 S) (hTI : IsPair s.heap TI (.ref i1) (.ref i2)) (h1 : SIt b1 s.heap i1 l1 k1) (h2 : SIt b2 s.heap i2 l2 k2) (hl1 : SSq b1 s.heap l1 xs) (hl2 : SSq b2 s.heap l2 ys) (hend : xs[k1]? = none ∨ ys[k2]? = none)
    (hQ : ∀ h', (∀ c o, c ≠ z → c ≠ TO → c ≠ i1 → c ≠ i2 → s.heap.get? c = some o → h'.get? c = some o) → Q none { s with heap := h' }) : wpAny (model prog w) A (pyNext (.ref z)) Q E s := by
  obtain ⟨hS, hz⟩ := hz
  rcases hz with ⟨hz, p, q, hTO⟩ | ⟨T, f1, oT, hz, hT, t1, t2, t3, t4⟩
  · exact zipm_end hh D hz hTI hTO h1 h2 hl1 hl2 hend hQ
  · exact zip2_end hh D hz hT hTI h1 h2 hl1 hl2 hend fun h' k => hQ h' fun c o c1 _ c3 c4 e => k c o c1 c3 c4 e
theorem upd_zip {b1 b2 : Bool} {R : Result → Shared → Prop} {S z TI TO i1 i2 l1 l2 : Addr} {xs ys : Array Value} {res : Value} (hh : A.handled = none) (D : ZipApart z TI TO i1 i2 l1 l2)
    (hSz : S ≠ z) (hS1 : S ≠ i1) (hS2 : S ≠ i2) (hSl1 : S ≠ l1) (hSl2 : S ≠ l2) (hSI : S ≠ TI) (hSO : S ≠ TO) :
    ∀ (rest : List (Key × Value)) (i : Nat) (acc : List (Key × Value)) (ix : Int) (t : Tok) (s : Shared), (xs[i + rest.length]? = none ∨ ys[i + rest.length]? = none) → acc.length + rest.length ≤ sizeLine →
      (∀ (j : Nat) (q : Key × Value), rest[j]? = some q → ∃ (u : Value), xs[i + j]? = some u ∧ ys[i + j]? = some q.2 ∧ keyIs q.1 u = true) →
      Zs s.heap z TI TO i1 i2 S → IsPair s.heap TI (.ref i1) (.ref i2) → SIt b1 s.heap i1 l1 i → SIt b2 s.heap i2 l2 i → SSq b1 s.heap l1 xs → SSq b2 s.heap l2 ys → s.heap.DictOf (mixKind prog w) S acc →
      (∀ h' tk, h'.DictOf (mixKind prog w) S (merged acc rest) → (∀ b o, b ≠ S → b ≠ z → b ≠ TO → b ≠ i1 → b ≠ i2 → s.heap.get? b = some o → h'.get? b = some o) → R (.ok (.ret res)) { s with heap := h', toks := tk }) →
      codeAny (model prog w) A (.builtin "dict.update.loop" ⟨[.ref S, .ref z, .int ix t, res], []⟩) R s
  | [], i, acc, ix, t, s, hsz, hln, ht, hz, hTI, h1, h2, hl1, hl2, hm, hR => by
    refine codeAny_builtin ud_entry ?_
    rw [Around.under_plainId ud_plain _]
    show wpAny _ A.in1 (pyNext (.ref z) >>= _) _ _ s
    refine wpAny_bind (zs_end (A := A.in1) hh D hz hTI h1 h2 hl1 hl2 (by simpa using hsz) fun h' he => ?_)
    show wpAny _ A.in1 (Builtin.Dict.addKeywords S [] >>= _) _ _ _
    refine wpAny_bind (wpAny_pure (wpAny_pure ?_))
    exact hR h' s.toks (hm.at fun o e => he _ _ hSz hSO hS1 hS2 e) fun b o _ c1 c2 c3 c4 e => he b o c1 c2 c3 c4 e
  | q :: rest, i, acc, ix, t, s, hsz, hln, ht, hz, hTI, h1, h2, hl1, hl2, hm, hR => by
    obtain ⟨u, hx, hy, hk⟩ := ht 0 q rfl
    rw [List.length_cons] at hsz hln
    refine codeAny_builtin ud_entry ?_
    rw [Around.under_plainId ud_plain _]
    show wpAny _ A.in1 (pyNext (.ref z) >>= _) _ _ s
    refine wpAny_bind (zs_item (A := A.in1) D hz hTI h1 h2 hl1 hl2 (by simpa using hx) (by simpa using hy) fun g b hbS hbz z1 a1 a2 hb hk1 => ?_)
    have ht1 : IsTup g b #[u, q.2] := ⟨_, hb, rfl, _, rfl⟩
    have hl11 : SSq b1 g l1 xs := hl1.mv fun o e => hk1 _ _ D.l1z D.l1TO D.l1i1 D.l1i2 e
    have hl21 : SSq b2 g l2 ys := hl2.mv fun o e => hk1 _ _ D.l2z D.l2TO D.l2i1 D.l2i2 e
    have hTI1 : IsPair g TI (.ref i1) (.ref i2) := hk1 _ _ D.TIz D.TITO D.TIi1 D.TIi2 hTI
    have hm1 : g.DictOf (mixKind prog w) S acc := hm.at fun o e => hk1 _ _ hSz hSO hS1 hS2 e
    obtain ⟨o, ho, hc, n, hd⟩ := id ht1
    show wpAny _ A.in1 (holding [Value.ref b] _ >>= _) _ _ _
    refine wpAny_bind (wpAny_holding ?_)
    refine wpAny_bind (wpAny_tryCatch ?_)
    unfold Builtin.Dict.pairItems
    refine wpAny_bind (wpAny_typeOf (T := "tuple") ⟨o, ho, hc⟩ ?_)
    rw [if_pos (by first | decide | rfl | simp)]
    refine wpAny_bind (wpAny_seqItems ho hd (wpAny_pure ?_))
    show wpAny _ A.in1 (holding [u, q.2] (dictSet S u q.2)) _ _ _
    refine wpAny_holding (wpAny_dictSet_pairs (knd := mixKind prog w) (k := q.1) hk hm1 (fun g2 hm2 hs2 => ?_) (by omega))
    have z2 : Zs g2 z TI TO i1 i2 S := by
      obtain ⟨hS, zz⟩ := z1
      refine ⟨by rw [hs2.1]; exact hS, ?_⟩
      rcases zz with ⟨y1, p, q', y2⟩ | ⟨T, f1, oT, y1, y2, t1, t2, t3, t4⟩
      · exact .inl ⟨hs2.extBut _ _ (Ne.symm hSz) y1, p, q', hs2.extBut _ _ (Ne.symm hSO) y2⟩
      · exact .inr ⟨T, f1, oT, hs2.extBut _ _ (Ne.symm hSz) y1, hs2.extBut _ _ t4 y2, t1, t2, t3, t4⟩
    refine wpAny_pure ⟨plainId_quiet ud_plain _, upd_zip (b1 := b1) (b2 := b2) (xs := xs) (ys := ys) hh D hSz hS1 hS2 hSl1 hSl2 hSI hSO rest (i + 1) (stored acc q.1 q.2) (ix + 1) 0 _ ?_ ?_ (fun j q' e => ?_) z2 (hs2.extBut _ _ (Ne.symm hSI) hTI1) (a1.mv fun o' e => hs2.extBut _ o' (Ne.symm hS1) e) (a2.mv fun o' e => hs2.extBut _ o' (Ne.symm hS2) e) (hl11.mv fun o' e => hs2.extBut _ o' (Ne.symm hSl1) e) (hl21.mv fun o' e => hs2.extBut _ o' (Ne.symm hSl2) e) hm2 fun h' tk hd' k => ?_⟩
    · rw [show i + 1 + rest.length = i + (rest.length + 1) by omega]; exact hsz
    · have z := stored_length_le acc q.1 q.2
      omega
    · obtain ⟨u', hx', hy', hk'⟩ := ht (j + 1) q' (by simpa using e)
      rw [show i + 1 + j = i + (j + 1) by omega]
      exact ⟨u', hx', hy', hk'⟩
    · exact hR h' tk hd' fun c oc h3 c1 c2 c3 c4 e => k c oc h3 c1 c2 c3 c4 (hs2.extBut c oc h3 (hk1 c oc c1 c2 c3 c4 e))
theorem call_dict_zip {b1 b2 : Bool} {s : Shared} {z TI TO i1 i2 l1 l2 : Addr} {xs ys : Array Value} {p q : Value} {prs : List (Key × Value)} {Q : Value → Shared → Prop} (hh : A.handled = none) (D : ZipApart z TI TO i1 i2 l1 l2)
    (hz : IsZip s.heap z TI TO .none) (hTI : IsPair s.heap TI (.ref i1) (.ref i2)) (hTO : IsPair s.heap TO p q) (h1 : SIt b1 s.heap i1 l1 0) (h2 : SIt b2 s.heap i2 l2 0) (hl1 : SSq b1 s.heap l1 xs) (hl2 : SSq b2 s.heap l2 ys)
    (hend : xs[prs.length]? = none ∨ ys[prs.length]? = none) (hln : prs.length ≤ sizeLine)
    (ht : ∀ (j : Nat) (q : Key × Value), prs[j]? = some q → ∃ (u : Value), xs[j]? = some u ∧ ys[j]? = some q.2 ∧ keyIs q.1 u = true)
    (h : ∀ h' tk, h'.DictOf (mixKind prog w) s.heap.objs.size (merged [] prs) → (∀ c o, c ≠ z → c ≠ TO → c ≠ i1 → c ≠ i2 → s.heap.get? c = some o → h'.get? c = some o) → Q (.ref s.heap.objs.size) { s with heap := h', toks := tk }) :
    wpAny (model prog w) A (call (.type "dict") [.ref z]) Q E s := by
  refine callType_codes (Q₁ := fun obj s₁ => obj = .ref s.heap.objs.size ∧ s₁ = { s with heap := s.heap.push { cls := .type "dict", data := .dict #[] } }) PySem.F.kt_called_dict (PySem.F.kt_typeCall_dict_1 _) PySem.F.entry_dict_init (kt_code_dict_new _ ⟨rfl, rfl⟩) ?_
  rintro obj s₁ ⟨rfl, rfl⟩
  have hnew : (s.heap.push { cls := .type "dict", data := .dict #[] }).DictOf (mixKind prog w) s.heap.objs.size ([] : List (Key × Value)) := Heap.DictOf.new s.heap
  have k0 : ∀ b o, s.heap.get? b = some o → (s.heap.push { cls := .type "dict", data := .dict #[] }).get? b = some o := fun b o e => Heap.get?_push_of_some _ e
  refine ⟨hnew.typeIs, PySem.F.args_dict_init_2 _ _, ?_⟩
  unfold Builtin.«dict.__init__»
  refine wpAny_bind ?_
  unfold Builtin.Dict.selfAndRest
  refine wpAny_bind (wpAny_notOrdered_dict hnew.typeIs ?_)
  show wpAny _ _ (pure (s.heap.objs.size, [Value.ref z])) _ _ _
  refine wpAny_pure ?_
  show wpAny _ _ (Builtin.Dict.updateFrom "dict.__init__" s.heap.objs.size (.ref z) [] .none) _ _ _
  unfold Builtin.Dict.updateFrom
  refine wpAny_bind (wpAny_typeOf (T := "zip") ⟨_, k0 _ _ hz, rfl⟩ ?_)
  rw [if_pos (by first | decide | rfl | simp)]
  refine wpAny_bind (miss_zip (k0 _ _ hz) rfl rfl rfl hh fun g tk1 hk1 => ?_)
  rw [if_pos (show (none : Option Value).isNone = true from rfl)]
  refine wpAny_bind (wpAny_rule ?_)
  have kk : ∀ b o, s.heap.get? b = some o → g.get? b = some o := fun b o e => hk1 _ _ (k0 _ _ e)
  have hz1 : IsZip g z TI TO .none := kk _ _ hz
  have hD1 : g.DictOf (mixKind prog w) s.heap.objs.size ([] : List (Key × Value)) := hnew.at fun o e => hk1 _ _ e
  refine wpAny_bind (wpAny_pyIter_zip hz1 ?_)
  obtain ⟨_, e1, _⟩ := h1.ob
  obtain ⟨_, e2, _⟩ := h2.ob
  have lt1 : l1 < s.heap.objs.size := by
    cases b1 <;> · obtain ⟨o, ho, _⟩ := hl1; exact Heap.lt_size ho
  have lt2 : l2 < s.heap.objs.size := by
    cases b2 <;> · obtain ⟨o, ho, _⟩ := hl2; exact Heap.lt_size ho
  have hSg : s.heap.objs.size < g.objs.size := by
    have e : (s.heap.push { cls := .type "dict", data := .dict #[] }).get? s.heap.objs.size = some { cls := .type "dict", data := .dict #[] } := Heap.get?_push_size _ rfl
    exact Heap.lt_size (hk1 _ _ e)
  have nz := Nat.ne_of_gt (Heap.lt_size hz)
  have nTI := Nat.ne_of_gt (Heap.lt_size hTI)
  have nTO := Nat.ne_of_gt (Heap.lt_size hTO)
  have n1 := Nat.ne_of_gt (Heap.lt_size e1)
  have n2 := Nat.ne_of_gt (Heap.lt_size e2)
  have key := upd_zip (prog := prog) (w := w) (A := A.in1) (R := wants (fun r s₂ => r = .none ∧ Q (.ref s.heap.objs.size) s₂) E) (S := s.heap.objs.size) (b1 := b1) (b2 := b2) (xs := xs) (ys := ys) (res := Value.none) hh D
    nz n1 n2 (Nat.ne_of_gt lt1) (Nat.ne_of_gt lt2) nTI nTO prs 0 [] 0 0
    { s with heap := g, toks := tk1 } (by rw [Nat.zero_add]; exact hend) (by rw [List.length_nil, Nat.zero_add]; exact hln)
    (fun j q e => by rw [Nat.zero_add]; exact ht j q e)
    ⟨hSg, .inl ⟨hz1, p, q, kk _ _ hTO⟩⟩ (kk _ _ hTI) (h1.mv fun o e => kk _ _ e) (h2.mv fun o e => kk _ _ e) (hl1.mv fun o e => kk _ _ e) (hl2.mv fun o e => kk _ _ e) hD1
    (fun h' tk hd' k => ⟨rfl, h h' tk hd' fun b o c1 c2 c3 c4 e => k b o (Nat.ne_of_lt (Heap.lt_size e)) c1 c2 c3 c4 (kk _ _ e)⟩)
  first
    | exact wpAny_pure ⟨plainId_quiet ud_plain _, key⟩
    | exact wpAny_bind (wpAny_pure (wpAny_pure ⟨plainId_quiet ud_plain _, key⟩))
end
end L2
end
section
set_option Elab.async false
set_option maxRecDepth 100000
set_option linter.unusedVariables false
set_option maxHeartbeats 1000000
namespace L2
open PySem PySem.Spec PySem.F PyProof.Rows
section
variable {X : Cx} {S : Sx}
@[simp] def zipKU : List U → List U → Option (List (Key × U))
  | u :: us, v :: vs => match keyU u with
    | some k => (zipKU us vs).map fun r => (k, v) :: r
    | none => none
  | _, _ => some []
theorem zipK_of {pins : List (Addr × Obj)} {σ : St} {α : Am} {H : Hp} : ∀ {us vs : List U} {kus : List (Key × U)} {xs ys : List V} {as bs : List Value}, zipKU us vs = some kus → RUs S α H us xs → RUs S α H vs ys → Vals xs as → Vals ys bs →
    ∃ (kvs : List (Key × V)) (prs : List (Key × Value)), RKs S α H kus kvs ∧ KV kvs prs ∧ prs.length = kus.length ∧ kus.length ≤ as.length ∧ (as[prs.length]? = none ∨ bs[prs.length]? = none) ∧
      ∀ (j : Nat) (q : Key × Value), prs[j]? = some q → ∃ u, as[j]? = some u ∧ bs[j]? = some q.2 ∧ keyIs q.1 u = true
  | [], vs, kus, _, ys, as, bs, e, .nil, _, ra, _ => by
    cases ra
    have e : some ([] : List (Key × U)) = some kus := by cases vs <;> exact e
    cases e
    exact ⟨[], [], .nil, .nil, rfl, Nat.le_refl _, .inl rfl, fun j q e => by simp at e⟩
  | u :: us, [], kus, _, _, as, bs, e, .cons _ _, .nil, ra, rb => by
    cases rb
    have e : some ([] : List (Key × U)) = some kus := e
    cases e
    exact ⟨[], [], .nil, .nil, rfl, Nat.zero_le _, .inr rfl, fun j q e => by simp at e⟩
  | u :: us, v :: vs, kus, _, _, _, _, e, .cons (x := x) hx rx, .cons (x := y) hy ry, .cons (b := a) ha ra, .cons (b := b) hb rb => by
    rw [zipKU] at e
    cases ek : keyU u with
    | none => rw [ek] at e; cases e
    | some k =>
      rw [ek] at e
      cases er : zipKU us vs with
      | none => rw [er] at e; cases e
      | some r =>
        rw [er] at e
        cases e
        obtain ⟨kvs, prs, r1, r2, r3, r4, r5, r6⟩ := zipK_of (pins := pins) (σ := σ) er rx ry ra rb
        have hk := keyU_of ek hx
        subst hk
        refine ⟨(k, y) :: kvs, (k, b) :: prs, .cons hy r1, .cons ⟨rfl, hb⟩ r2, by rw [List.length_cons, List.length_cons, r3], by rw [List.length_cons, List.length_cons]; omega, by simpa using r5, fun j q e => ?_⟩
        cases j with
        | zero =>
          have e' : (k, b) = q := Option.some.inj e
          subst e'
          exact ⟨a, rfl, rfl, kV_is (P := S.P) (w := S.w) ha⟩
        | succ j =>
          obtain ⟨u', e1, e2, e3⟩ := r6 j q (by simpa using e)
          exact ⟨u', by simpa using e1, by simpa using e2, e3⟩
@[simp] def eDictZ (fa fb : EF) : EF := fun ρ h => bnd (fa ρ h) fun u h1 => bnd (fb ρ h1) fun v h2 => (sq h2 u).bind fun us => (sq h2 v).bind fun vs => (zipKU us vs).bind fun kus => if kus.length ≤ 15 then some (.ref h2.length, h2 ++ [.dK (mergeU [] kus)]) else none
theorem rdictZ {a b : Expr} {fa fb : EF} {p1 p2 pos1 pos2 : Pos} (hf : Fit X S) (hd : X.A.handled = none) (hgl : Gl X "dict") (hml : X.mg "dict" = none) (hg : Gl X "zip") (hm : X.mg "zip" = none) (ha : SE X S a fa) (hb : SE X S b fb)
    (hs : starEach [a, b] X.env = (false, eval a X.env) :: starEach [b] X.env := by rfl) (hs2 : starEach [b] X.env = (false, eval b X.env) :: starEach [] X.env := by rfl) (hs3 : (backTo pos2 (starEach [b] X.env)).any (·.1) = false := by rfl)
    (hs1 : starEach [.Call (.Name "zip" p2) [a, b] [] pos2] X.env = [(false, eval (.Call (.Name "zip" p2) [a, b] [] pos2) X.env)] := by rfl) : SE X S (.Call (.Name "dict" p1) [.Call (.Name "zip" p2) [a, b] [] pos2] [] pos1) (eDictZ fa fb) := ⟨by
  intro pins s σ H Q I hh
  obtain ⟨α, ρ, h, re, rl, w, h3, e, k⟩ := hh
  obtain ⟨u, h1, e1, e⟩ := bnd_eq e
  obtain ⟨v, h2, e2, e⟩ := bnd_eq e
  refine wpAny_Call_Name_kw (ld_blt I hgl hml (u := .type "dict") (by decide +kernel) ?_)
  refine PyProof.Rows.callWith_type1 ?_ hs1 rfl
  rw [hs1]
  show wpAny _ _ (spliced ((false, eval (.Call (.Name "zip" p2) [a, b] [] pos2) X.env) :: backTo pos1 [])) _ _ s
  refine Calls.spliced_cons ?_
  have hA : PA X [a, b] (tCons (tS S fa) (tCons (tS S fb) tNil)) := pa_cons ha.h (pa_cons hb.h pa_nil hs2) hs
  refine Call_ (ld_blt I hg hm boot_zip5 (PyProof.Rows.callWith_type1 (thn (hA pos2 pins s σ H (fun vs H2 => ∃ x y, vs = [x, y] ∧ ∃ α2, Ex α H α2 H2 ∧ Rl S α2 H2 h2 ∧ RU S α2 H2 u x ∧ RU S α2 H2 v y) I ⟨α, ρ, h, re, rl, u, h1, e1, fun α1 H1 x ex1 rl1 ru => ⟨α1, ρ, h1, re.ex ex1, rl1, v, h2, e2, fun α2 H2 y ex2 rl2 rv => ⟨x, y, rfl, α2, ex1.trans ex2, rl2, ru.ex ex2, rv⟩⟩⟩) fun us s1 ⟨vs, H1, I1, r1, x, y, evs, α2, ex2, rl2, ru, rv⟩ => ?_) hs hs3))
  subst evs
  cases q1 : sq h2 u with
  | none => rw [q1] at e; cases e
  | some xs =>
    cases q2 : sq h2 v with
    | none => rw [q1, q2] at e; cases e
    | some ys =>
      rw [q1, q2] at e
      have e : ((zipKU xs ys).bind fun kus => if kus.length ≤ 15 then some (U.ref h2.length, h2 ++ [.dK (mergeU [] kus)]) else none) = some (w, h3) := e
      cases q3 : zipKU xs ys with
      | none => rw [q3] at e; cases e
      | some kus =>
      rw [q3] at e
      have e : (if kus.length ≤ 15 then some (U.ref h2.length, h2 ++ [.dK (mergeU [] kus)]) else none) = some (w, h3) := e
      by_cases hl : kus.length ≤ 15
      case neg => rw [if_neg hl] at e; cases e
      rw [if_pos hl] at e
      cases e
      obtain ⟨b1, pa, vx, ex, hqx, rx⟩ := sq_of' rl2 q1 ru
      obtain ⟨b2, pb, vy, ey, hqy, ry⟩ := sq_of' rl2 q2 rv
      subst ex; subst ey
      obtain ⟨u1, u2, rfl, ra, rb⟩ := vals2 r1
      cases ra; cases rb
      rw [← hf.K] at hqx hqy
      obtain ⟨its, rvx, p1', la⟩ := I1.sq hqx
      obtain ⟨its2, rvy, p2', lb⟩ := I1.sq hqy
      refine zipm_call p1' p2' fun h' hz hTI hTO hi1 hi2 hsz hk => ?_
      refine Calls.spliced_nil ?_
      obtain ⟨kvs, prs, rk, kv, pl, _, hend, hprs⟩ := zipK_of (pins := pins) (σ := σ) q3 rx ry rvx rvy
      have h15 : (15 : Nat) ≤ sizeLine := by size_fits
      refine call_dict_zip (b1 := b1) (b2 := b2) (prs := prs) hd (PySem.W.ktu_apart s1.heap.objs.size pa pb la lb) hz hTI hTO hi1 hi2 (p1'.mv fun o e => hk _ _ e) (p2'.mv fun o e => hk _ _ e) (by simpa using hend) (by rw [pl]; omega) (fun j q e => by simpa using hprs j q e) fun g tk hD hk2 => ?_
      have kk : ∀ b o, s1.heap.get? b = some o → g.get? b = some o := fun b o e => by
        have hlt := Heap.lt_size e
        exact hk2 b o (Nat.ne_of_lt (Nat.lt_of_lt_of_le hlt (Nat.le_add_right _ _))) (Nat.ne_of_lt (Nat.lt_of_lt_of_le hlt (Nat.le_add_right _ _))) (Nat.ne_of_lt hlt) (Nat.ne_of_lt (Nat.lt_of_lt_of_le hlt (Nat.le_add_right _ _))) (hk b o e)
      have hle : s1.heap.objs.size ≤ h'.objs.size := by rw [hsz]; omega
      have I3 := I1.laid (a := h'.objs.size) (o := .dK (mergeK [] kvs)) (h' := g) (t' := tk) kk hle ⟨by
        refine Nat.le_trans (length_mergeK kvs []) ?_
        rw [List.length_nil, Nat.zero_add, ← rk.len]
        omega, by
        have : h'.objs.size ≠ sysModules := Nat.ne_of_gt (Nat.lt_of_lt_of_le I1.big hle)
        exact beq_eq_false_iff_ne.mpr this, merged [] prs, KV.merge kv .nil, hD⟩
      have hp := I1.hok.fresh hle
      have ex3 := Ex.add hp rl2 (.dK (mergeK [] kvs))
      refine ⟨.ref _, _, I3, rfl, k (α2.add _) _ _ (ex2.trans ex3) (rl2.add hp ⟨_, upd_same, (RKs.merge rk .nil).mo ex3.mo⟩) (.ref ?_)⟩
      show (α2.a ++ [_])[h2.length]? = some _
      rw [← rl2.len, List.getElem?_append_right (Nat.le_refl _), Nat.sub_self]; rfl⟩
def mUpd : MF := fun h o us => match o, us with
  | .ref a, [.ref b] => if a = b then none else match h[a]?, h[b]? with
    | some (.dK kus), some (.dK more) => if kus.length + more.length ≤ 1000 then some (.non, h.set a (.dK (mergeU kus more))) else none
    | _, _ => none
  | _, _ => none
end
end L2
end
section
set_option Elab.async false
set_option maxRecDepth 100000
set_option linter.unusedVariables false
set_option maxHeartbeats 1000000
namespace L2
open PySem PySem.Spec PySem.F PyProof.Rows
section
variable {prog : Program} {w : World} {A : Around} {E : Value → Shared → Prop} {s : Shared}
end
end L2
end
section
set_option Elab.async false
set_option maxRecDepth 100000
set_option linter.unusedVariables false
set_option maxHeartbeats 1000000
namespace L2
open PySem PySem.Spec PySem.F PyProof.Rows
section
variable {X : Cx} {S : Sx}
@[simp] def gSlH (fo : EF) (fl : OF) : GF := fun v ρ h => bnd (fo ρ h) fun o h1 => bnd (fl ρ h1) fun hi h2 => match hi with
  | some c => (lsAt h2 o).bind fun p => (its h2 v).bind fun ys => if refNe p.1 v = true ∧ 0 ≤ c ∧ c ≤ p.2.length ∧ p.2.length + ys.length ≤ sizeLine then some (ρ, h2.set p.1 (.lst (ys ++ p.2.drop c.toNat))) else none
  | none => none
def rInsert : V → List V → Hp → VK → Prop := fun x vs H Q => ∃ l xs i y, x = .ref l ∧ vs = [.int i, y] ∧ H l = some (.lst xs) ∧ 0 ≤ i ∧ i ≤ xs.length ∧ xs.length < sizeLine ∧ Q .non (upd H l (.lst (xs.take i.toNat ++ y :: xs.drop i.toNat)))
end
end L2
end
section
set_option Elab.async false
set_option maxRecDepth 100000
set_option linter.unusedVariables false
set_option maxHeartbeats 1000000
namespace L2
open PySem PySem.Spec PySem.F PyProof.Rows
section
variable {X : Cx} {S : Sx}
@[simp] def mIns : MF := fun h o us => match us with
  | [.int i, y] => (lsAt h o).bind fun p => if 0 ≤ i ∧ i ≤ p.2.length ∧ p.2.length < sizeLine then some (.non, h.set p.1 (.lst (p.2.take i.toNat ++ y :: p.2.drop i.toNat))) else none
  | _ => none
end
section
variable {P : Program} {w : World} {K : PySem.W.Frag} {mg : Str → Option Value} {base : Heap} {S : Sx} {α : Am} {H : Hp}
def frzK (n : Nat) (h : PH) : Nat → U → U
  | 0, u => u
  | k + 1, .tup us => .tup (us.map (frzK n h k))
  | k + 1, .lst us => .lst (us.map (frzK n h k))
  | k + 1, .ref a => if a < n then .ref a else match h[a]? with
    | some (.lst us) => .lst (us.map (frzK n h k))
    | _ => .ref a
  | _, u => u
open Classical in
noncomputable def finD (k : Nat) (F : FF) : FF := fun us h => bnd (F us h) fun u h' => if CutOk h h' ∧ blwU h.length (frzK h.length h' k u) then some (frzK h.length h' k u, h'.take h.length) else none
theorem blw_ref_no {n a : Nat} (ha : ¬ a < n) (b : blwU n (.ref a)) : False := by rw [blwU] at b; exact ha b
theorem frzK_ru {k : Nat} {n : Nat} {h' : PH} {α1 : Am} {H1 : Hp} (rl1 : Rl S α1 H1 h') (nin : ∀ a p, ¬ a < n → α1.a[a]? = some p → ¬ (α1.cut n).own p) : ∀ (k : Nat) {u : U} {x : V}, blwU n (frzK n h' k u) → RU S α1 H1 u x → RU S (α1.cut n) H1 (frzK n h' k u) x := by
  intro k
  induction k with
  | zero => intro u x b r; exact r.cut b
  | succ k ih =>
    have ihs : ∀ {us : List U} {xs : List V}, blwUs n (us.map (frzK n h' k)) → RUs S α1 H1 us xs → RUs S (α1.cut n) H1 (us.map (frzK n h' k)) xs := by
      intro us
      induction us with
      | nil => intro xs _ r; cases r; exact .nil
      | cons u r ih2 =>
        intro xs b rr
        cases rr with
        | cons a rr =>
          rw [List.map_cons] at b ⊢
          rw [blwUs] at b
          exact .cons (ih b.1 a) (ih2 b.2 rr)
    intro u x b r
    cases r with
    | tup h r =>
      rw [frzK] at b ⊢
      rw [blwU] at b
      exact .tup h.cut (ihs b r)
    | lst h r =>
      rw [frzK] at b ⊢
      rw [blwU] at b
      exact .lst h.cut (ihs b r)
    | @ref a p hp =>
      rw [frzK] at b ⊢
      by_cases ha : a < n
      · rw [if_pos ha] at b ⊢
        exact (RU.ref hp).cut b
      · rw [if_neg ha] at b ⊢
        cases q : h'[a]? with
        | none => rw [q] at b; exact (blw_ref_no ha b).elim
        | some o =>
          rw [q] at b
          cases o with
          | lst ws =>
            obtain ⟨xs, h2, h3⟩ := rl1.get hp q
            have b : blwU n (.lst (ws.map (frzK n h' k))) := b
            rw [blwU] at b
            exact .lst ⟨h2, nin a p ha hp⟩ (ihs b h3)
          | dK _ => exact (blw_ref_no ha b).elim
          | ins _ _ => exact (blw_ref_no ha b).elim
    | non => exact RU.cut b .non
    | bl c => exact RU.cut b (.bl c)
    | int c => exact RU.cut b (.int c)
    | str c => exact RU.cut b (.str c)
    | scr h r => exact RU.cut b (.scr h r)
    | dct h r => exact RU.cut b (.dct h r)
    | set h => exact RU.cut b (.set h)
theorem spS_finD {F : FF} {vs : List V} {Q : VK} {E : XK} {k : Nat} (p : spS S (finD k F) vs H Q E) : spS S F vs H Q E := by
  obtain ⟨α, h, us, rl, rs, u, h1, e, kk⟩ := p
  obtain ⟨v, h', e1, e2⟩ := bnd_eq e
  by_cases hc : CutOk h h' ∧ blwU h.length (frzK h.length h' k v)
  case neg => rw [if_neg hc] at e2; cases e2
  rw [if_pos hc] at e2
  cases e2
  refine ⟨α, h, us, rl, rs, v, h', e1, fun α1 H1 x ex rl1 ru => ?_⟩
  obtain ⟨⟨hl, hu⟩, hb⟩ := hc
  obtain ⟨β, eβ⟩ := ex.pre
  have ecut : α1.a.take h.length = α.a := by rw [eβ, ← rl.len]; exact List.take_left' rfl
  have ecut' : α1.cut h.length = α := by
    show (⟨α1.a.take h.length, α1.x⟩ : Am) = α
    rw [ecut, ex.x]
  have sub : ∀ {p : Addr}, α.own p → α1.own p := fun {p} z => by rw [← ecut'] at z; exact own_cut z
  have exA : Ex α H α H1 := ⟨fun p o e n => ⟨(ex.keep p o e n).1, n⟩, ⟨[], by simp⟩, rfl, ex.priv⟩
  have rlA : Rl S α H1 (h'.take h.length) := by
    refine ⟨by rw [List.length_take, Nat.min_eq_left hl]; exact rl.len, rl.nd, rl.dj, fun i o e => ?_, fun p hp => rl1.tr p (by rw [ex.x]; exact hp), fun p hp => ⟨(rl1.tab p hp).1, fun z => (rl1.tab p hp).2 (sub z)⟩⟩
    have hi : i < h.length := by
      have := (List.getElem?_eq_some_iff.mp e).1
      rw [List.length_take] at this; omega
    rw [List.getElem?_take_of_lt hi] at e
    obtain ⟨p, e1, ro⟩ := rl1.ob i o e
    have bo : blwO h.length o := by
      rcases hu i hi with q | ⟨o', q, b⟩
      · rw [q] at e
        obtain ⟨p', _, ro'⟩ := rl.ob i o e
        rw [← rl.len]; exact ro'.blw
      · rw [q] at e; cases e; exact b
    refine ⟨p, ?_, ?_⟩
    · rw [← ecut, List.getElem?_take_of_lt hi]; exact e1
    · have := ro.cut bo
      rw [ecut'] at this; exact this
  have nin : ∀ a p, ¬ a < h.length → α1.a[a]? = some p → ¬ (α1.cut h.length).own p := by
    intro a p ha hp
    rw [ecut']
    rintro (z | z)
    · obtain ⟨j, hj⟩ := List.mem_iff_getElem?.mp z
      have hj' : α1.a[j]? = some p := by rw [eβ, List.getElem?_append_left (List.getElem?_eq_some_iff.mp hj).1]; exact hj
      have := nodup_inj rl1.nd hp hj'
      have := (List.getElem?_eq_some_iff.mp hj).1
      rw [rl.len] at this; omega
    · exact rl1.dj p (List.mem_of_getElem? hp) (by rw [ex.x]; exact z)
  have r' := frzK_ru (k := k) rl1 nin k hb ru
  rw [ecut'] at r'
  exact kk α H1 x exA rlA r'
theorem Kn.finD {x : Str} {ps : List Str} {k j : Nat} {F : FF} (G : Kn P w K mg base x ps k (spS S F)) : Kn P w K mg base x ps k (spS S (finD j F)) := G.imp fun _ _ _ _ => spS_finD
theorem frzK_pl {n : Nat} {h : PH} : ∀ (k : Nat) {u : U}, plU u = true → frzK n h k u = u
  | 0, u, _ => by rw [frzK]
  | k + 1, u, p => by
    have ms : ∀ {us : List U}, plUs us = true → us.map (frzK n h k) = us := fun {us} q => by
      have e : us.map (frzK n h k) = us.map id := List.map_congr_left fun u hu => frzK_pl k (plUs_mem q hu)
      rw [e, List.map_id]
    cases u with
    | tup us => rw [frzK, ms (by rw [plU] at p; exact p)]
    | lst us => rw [frzK, ms (by rw [plU] at p; exact p)]
    | ref a => cases p
    | _ => rfl
end
end L2
end
section
set_option Elab.async false
set_option maxRecDepth 100000
set_option linter.unusedVariables false
set_option maxHeartbeats 1000000
namespace L2
open PySem PySem.Spec PySem.F PyProof.Rows
section
variable {prog : Program} {w : World} {A : Around} {E : Value → Shared → Prop} {s : Shared} {l : Addr} {items : Array Value} {ns : List Int} {Q : Value → Shared → Prop}
end
section
variable {X : Cx} {S : Sx}
def rSetOfS (K : PySem.W.Frag) : List V → Hp → VK → Prop := fun vs H Q => ∃ (b : Bool) (a : Addr) (ns : List Int), vs = [V.ref a] ∧ Sq b K H a (ns.map V.int) ∧ ns.length ≤ 4000 ∧ ∀ p, H p = none → Q (.ref p) (upd H p (.set (fun k => (dedup ns).any (· == k)) (dedup ns).length))
@[simp] def cSetS : GC := fun h us => match us with
  | [u] => (sq h u).bind fun vs => (intsU vs).bind fun ns => if ns.length ≤ 4000 then some (.set (dedup ns), h) else none
  | _ => none
end
end L2
end
section
set_option Elab.async false
set_option maxRecDepth 100000
set_option linter.unusedVariables false
set_option maxHeartbeats 1000000
namespace L2
open PySem PySem.Spec PySem.F PyProof.Rows
section
variable {prog : Program} {w : World} {A : Around} {E : Value → Shared → Prop}
theorem draw_list {I ax : Addr} {items : Array Value} (W : Walks prog w A I [I, ax] [I] items.size (fun i v => items[i]? = some v) fun i h => h.IsListIter I ax i ∧ h.IsList ax items) : ∀ (k i : Nat) (s : Shared) (Q : List Value → Shared → Prop), i + k ≤ items.size → (s.heap.IsListIter I ax i ∧ s.heap.IsList ax items) →
    (∀ h' tk, (h'.IsListIter I ax (i + k) ∧ h'.IsList ax items) → (∀ (b : Addr) (o : Obj), b ≠ I → s.heap.get? b = some o → h'.get? b = some o) → Q ((items.toList.drop i).take k) { s with heap := h', toks := tk }) →
    wpAny (model prog w) A (PySem.draw (Value.ref I) k) Q E s
  | 0, i, s, Q, _, st, h => by
    rw [PySem.draw]
    exact wpAny_pure (h s.heap s.toks st fun _ _ _ e => e)
  | k + 1, i, s, Q, hk, st, h => by
    rw [PySem.draw]
    refine wpAny_bind (W.item i s _ _ (by omega) st fun v h' tk hv st' keep => ?_)
    refine wpAny_bind (wpAny_holding (draw_list W k (i + 1) _ _ (by omega) st' fun h2 tk2 st2 keep2 => ?_))
    have e : (items.toList.drop i).take (k + 1) = v :: (items.toList.drop (i + 1)).take k := by
      have hi : i < items.toList.length := by rw [Array.length_toList]; omega
      have hv' : items.toList[i]? = some v := by rw [Array.getElem?_toList]; exact hv
      rw [List.drop_eq_getElem_cons hi, List.take_succ_cons]
      rw [List.getElem?_eq_getElem hi] at hv'
      rw [Option.some.inj hv']
    have := h h2 tk2 (by rw [show i + (k + 1) = i + 1 + k by omega]; exact st2) fun b o n eb => keep2 b o n (keep b o (by simpa using n) eb)
    rw [e] at this
    exact wpAny_pure this
end
section
variable {X : Cx} {S : Sx} {pos : Pos}
def gTupB (K : PySem.W.Frag) (n : Nat) (t : TGs) : TG := fun v σ H Q => ∃ b a xs, v = .ref a ∧ Sq b K H a xs ∧ xs.length = n ∧ t xs σ H Q
def gTS (n : Nat) (g : List U → En → PH → Option (En × PH)) : GF := fun u ρ h => (sq h u).bind fun us => if us.length = n then g us ρ h else none
end
end L2
end
section
set_option linter.unusedVariables false
set_option linter.unusedSimpArgs false
namespace L2
open PySem
section
variable {X : Cx} {S : Sx} {H : Hp} {h : PH} {is is1 : List Nat} {fi fi1 : IF} {g g1 : GF} {fa : EF}
open Classical in
noncomputable def lcS2 (g : GF) (t : BF) (fi1 : IF) (g1 : GF) (t1 : BF) (f : EF) (vs1 : List Nat) (srcs : Srcs) (ρ : En) : List U → PH → Option (List U × PH)
  | [], h => if srcOk h srcs then some ([], h) else none
  | u :: r, h => if srcOk h srcs then bnd (g u ρ h) fun ρ1 h1 => bnd (t ρ1 h1) fun k h2 =>
      if k = true then bnd (fi1 ρ1 h2) fun p h3 => bnd (lcS g1 t1 f p.2 (wipeE ρ1 vs1) p.1 h3) fun ys h4 => bnd (lcS2 g t fi1 g1 t1 f vs1 srcs ρ r h4) fun zs h5 => some (ys ++ zs, h5)
      else lcS2 g t fi1 g1 t1 f vs1 srcs ρ r h2
    else none
@[simp] noncomputable def eLc2 (m : Bool) (fi : IF) (g : GF) (t : BF) (fi1 : IF) (g1 : GF) (t1 : BF) (f : EF) (vs vs1 : List Nat) : EF := fun ρ h => bnd (fi ρ h) fun p h1 => bnd (lcS2 g t fi1 g1 t1 f vs1 p.2 (wipeE ρ vs) p.1 h1) fun ys h2 => if ys.length ≤ sizeLine then mk m ys h2 else none
theorem tS_lc2 {m : Bool} {t t1 : BF} {vs vs1 : List Nat} {σ : St} {Q : VK} (hsub : ∀ j ∈ is, j ∈ vs) (hsub1 : ∀ j ∈ is1, j ∈ vs1) (p : tS S (eLc2 m fi g t fi1 g1 t1 fa vs vs1) σ H Q) : tLc2 (iS S fi) (tG S is g) (tT S t) (iS S fi1) (tG S is1 g1) (tT S t1) (tS S fa) vs vs1 σ H Q := by
  obtain ⟨α, ρ, h, re, rl, fl, h', e, k⟩ := p
  obtain ⟨⟨us, srcs⟩, h1, e1, e2⟩ := bnd_eq e
  obtain ⟨ys, h2, e3, e4⟩ := bnd_eq e2
  have e3 : lcS2 g t fi1 g1 t1 fa vs1 srcs (wipeE ρ vs) us h1 = some (ys, h2) := e3
  have e4 : (if ys.length ≤ sizeLine then mk m ys h2 else none) = some (fl, h') := e4
  by_cases hys : ys.length ≤ sizeLine
  case neg => rw [if_neg hys] at e4; cases e4
  rw [if_pos hys] at e4
  refine ⟨α, ρ, h, re, rl, (us, srcs), h1, e1, fun α1 H1 J ex1 rl1 wk D hD => ?_⟩
  have fin : PU S α1 H1 (mk m ys h2) Q := ⟨fl, h', e4, fun α3 H3 x ex3 rl3 rx => k α3 H3 x (ex1.trans ex3) rl3 rx⟩
  have re1 := re.ex ex1
  refine ⟨fun i n H => n = us.length - i ∧ i ≤ us.length ∧ ∃ α h acc xs zs, Mo α1 H1 α H ∧ α.x = D :: α1.x ∧ (∀ p ∈ α1.x, H p = H1 p) ∧ Rl S α H h ∧ H D = some (.lst xs) ∧ RUs S α H acc xs ∧ lcS2 g t fi1 g1 t1 fa vs1 srcs (wipeE ρ vs) (us.drop i) h = some (zs, h2) ∧ acc ++ zs = ys,
    ⟨us.length, by omega, Nat.zero_le _, α1.hide D, h1, [], [], ys, Mo.hide hD, rfl, fun p hp => upd_ne fun z => rl1.tr p hp (by rw [z]; exact hD), rl1.hide hD, upd_same, .nil, e3, rfl⟩, ?_⟩
  rintro i n H ⟨rfl, hi, α, h, acc, xs, zs, mo, hx, pv, rl, hl, ra, ez, ea⟩
  have memD : D ∈ α.x := by rw [hx]; exact List.mem_cons_self
  by_cases hlt : i < us.length
  · rw [List.drop_eq_getElem_cons hlt, lcS2] at ez
    by_cases so : srcOk h srcs
    case neg => rw [if_neg so] at ez; cases ez
    rw [if_pos so] at ez
    obtain ⟨ρ1, h3, q1, ez⟩ := bnd_eq ez
    obtain ⟨kk, h4, q2, ez⟩ := bnd_eq ez
    obtain ⟨go, yl⟩ := (wk α H h mo rl so i).2 us[i] (List.getElem?_eq_getElem hlt)
    refine .inr ⟨go, fun H => ∃ α h acc xs zs, Mo α1 H1 α H ∧ α.x = D :: α1.x ∧ (∀ p ∈ α1.x, H p = H1 p) ∧ Rl S α H h ∧ H D = some (.lst xs) ∧ RUs S α H acc xs ∧ lcS2 g t fi1 g1 t1 fa vs1 srcs (wipeE ρ vs) (us.drop (i + 1)) h = some (zs, h2) ∧ acc ++ zs = ys,
      fun H' q => ⟨us.length - (i + 1), by omega, rfl, hlt, q⟩, fun x H' y => ?_⟩
    obtain ⟨α', ex', rl', ru⟩ := yl x H' y
    have rew : RE S α' H' (wipeE ρ vs) (wipe σ vs) := by
      have z : RE S α H ρ σ := ⟨re1.1, fun j u q => by obtain ⟨x, a, b⟩ := re1.2 j u q; exact ⟨x, a, b.mo mo⟩⟩
      exact (z.ex ex').wipe vs
    refine ⟨α', wipeE ρ vs, h, us[i], rew, rl', ru, ρ1, h3, q1, fun α2 H2 σ2 ex2 rl2 re2 o2 l2 => ⟨?_, ?_⟩⟩
    · exact (wipe_eq (σ := wipe σ vs) (fun j hj => o2 j fun z => hj (hsub j z)) l2).trans (wipe_idem σ vs)
    · refine ⟨α2, ρ1, h3, re2, rl2, kk, h4, q2, fun α3 H3 ex3 rl3 => ?_⟩
      have exA := (ex'.trans ex2).trans ex3
      have moA := mo.trans exA.mo
      have hxA : α3.x = D :: α1.x := exA.x.trans hx
      have pvA : ∀ p ∈ α1.x, H3 p = H1 p := fun p hp => (exA.priv p (by rw [hx]; exact List.mem_cons_of_mem _ hp)).trans (pv p hp)
      have hlA : H3 D = some (.lst xs) := (exA.priv D memD).trans hl
      have raA := ra.ex exA
      cases kk with
      | false =>
        exact ⟨α3, h4, acc, xs, zs, moA, hxA, pvA, rl3, hlA, raA, ez, ea⟩
      | true =>
        obtain ⟨⟨us1, srcs1⟩, h5, q3, ez⟩ := bnd_eq (show bnd (fi1 ρ1 h4) _ = _ from ez)
        obtain ⟨ys1, h6, q4, ez⟩ := bnd_eq ez
        obtain ⟨zs', h7, q5, ez⟩ := bnd_eq ez
        cases ez
        have q4 : lcS g1 t1 fa srcs1 (wipeE ρ1 vs1) us1 h5 = some (ys1, h6) := q4
        refine ⟨α3, ρ1, h4, re2.ex ex3, rl3, (us1, srcs1), h5, q3, fun α4 H4 J1 ex4 rl4 wk1 => ?_⟩
        have exB := exA.trans ex4
        have mo4 := mo.trans exB.mo
        have hx4 : α4.x = D :: α1.x := exB.x.trans hx
        have pv4 : ∀ p ∈ α1.x, H4 p = H1 p := fun p hp => (exB.priv p (by rw [hx]; exact List.mem_cons_of_mem _ hp)).trans (pv p hp)
        have hl4 : H4 D = some (.lst xs) := (exB.priv D memD).trans hl
        have ra4 := ra.ex exB
        have re4 : RE S α4 H4 ρ1 σ2 := (re2.ex ex3).ex ex4
        refine ⟨fun j n H => n = us1.length - j ∧ j ≤ us1.length ∧ ∃ α h acc1 xs1 zs1, Mo α4 H4 α H ∧ α.x = D :: α1.x ∧ (∀ p ∈ α1.x, H p = H1 p) ∧ Rl S α H h ∧ H D = some (.lst xs1) ∧ RUs S α H acc1 xs1 ∧ lcS g1 t1 fa srcs1 (wipeE ρ1 vs1) (us1.drop j) h = some (zs1, h6) ∧ acc1 ++ zs1 = acc ++ ys1,
          ⟨us1.length, by omega, Nat.zero_le _, α4, h5, acc, xs, ys1, Mo.refl _ _, hx4, pv4, rl4, hl4, ra4, q4, rfl⟩, ?_⟩
        rintro j n H ⟨rfl, hj, α5, h8, acc1, xs1, zs1, mo5, hx5, pv5, rl5, hl5, ra5, ez1, ea1⟩
        have memD5 : D ∈ α5.x := by rw [hx5]; exact List.mem_cons_self
        by_cases hlt1 : j < us1.length
        · rw [List.drop_eq_getElem_cons hlt1, lcS] at ez1
          by_cases so1 : srcOk h8 srcs1
          case neg => rw [if_neg so1] at ez1; cases ez1
          rw [if_pos so1] at ez1
          obtain ⟨ρ2, h9, r1, ez1⟩ := bnd_eq ez1
          obtain ⟨kk1, h10, r2, ez1⟩ := bnd_eq ez1
          obtain ⟨go1, yl1⟩ := (wk1 α5 H h8 mo5 rl5 so1 j).2 us1[j] (List.getElem?_eq_getElem hlt1)
          refine .inr ⟨go1, fun H => ∃ α h acc1 xs1 zs1, Mo α4 H4 α H ∧ α.x = D :: α1.x ∧ (∀ p ∈ α1.x, H p = H1 p) ∧ Rl S α H h ∧ H D = some (.lst xs1) ∧ RUs S α H acc1 xs1 ∧ lcS g1 t1 fa srcs1 (wipeE ρ1 vs1) (us1.drop (j + 1)) h = some (zs1, h6) ∧ acc1 ++ zs1 = acc ++ ys1,
            fun H' q => ⟨us1.length - (j + 1), by omega, rfl, hlt1, q⟩, fun x H' y => ?_⟩
          obtain ⟨α6, ex6, rl6, ru6⟩ := yl1 x H' y
          have rew1 : RE S α6 H' (wipeE ρ1 vs1) (wipe σ2 vs1) := by
            have z : RE S α5 H ρ1 σ2 := ⟨re4.1, fun j u q => by obtain ⟨x, a, b⟩ := re4.2 j u q; exact ⟨x, a, b.mo mo5⟩⟩
            exact (z.ex ex6).wipe vs1
          refine ⟨α6, wipeE ρ1 vs1, h8, us1[j], rew1, rl6, ru6, ρ2, h9, r1, fun α7 H7 σ3 ex7 rl7 re7 o7 l7 => ⟨?_, ?_⟩⟩
          · exact (wipe_eq (σ := wipe σ2 vs1) (fun j hj => o7 j fun z => hj (hsub1 j z)) l7).trans (wipe_idem σ2 vs1)
          · refine ⟨α7, ρ2, h9, re7, rl7, kk1, h10, r2, fun α8 H8 ex8 rl8 => ?_⟩
            have exC := (ex6.trans ex7).trans ex8
            have moC := mo5.trans exC.mo
            have hxC : α8.x = D :: α1.x := exC.x.trans hx5
            have pvC : ∀ p ∈ α1.x, H8 p = H1 p := fun p hp => (exC.priv p (by rw [hx5]; exact List.mem_cons_of_mem _ hp)).trans (pv5 p hp)
            have hlC : H8 D = some (.lst xs1) := (exC.priv D memD5).trans hl5
            have raC := ra5.ex exC
            cases kk1 with
            | false => exact ⟨α8, h10, acc1, xs1, zs1, moC, hxC, pvC, rl8, hlC, raC, ez1, ea1⟩
            | true =>
              obtain ⟨y1, h11, r3, ez1⟩ := bnd_eq (show bnd (fa ρ2 h10) _ = _ from ez1)
              obtain ⟨zs2, h12, r4, ez1⟩ := bnd_eq ez1
              cases ez1
              refine ⟨α8, ρ2, h10, re7.ex ex8, rl8, y1, h11, r3, fun α9 H9 yv ex9 rl9 ry => ?_⟩
              have exD := exC.trans ex9
              have memB : D ∈ α9.x := by rw [exD.x]; exact memD5
              have hlB : H9 D = some (.lst xs1) := (exD.priv D memD5).trans hl5
              refine ⟨xs1, hlB, ?_, α9, h11, acc1 ++ [y1], xs1 ++ [yv], zs2, (mo5.trans exD.mo).trans (Mo.wrx memB), exD.x.trans hx5, fun p hp => ?_, rl9.wrx memB, upd_same, ((ra5.ex exD).mo (Mo.wrx memB)).app (.cons (ry.mo (Mo.wrx memB)) .nil), r4, by rw [← ea1, List.append_assoc]; rfl⟩
              · have l1 : acc1.length + (y1 :: zs2).length = acc.length + ys1.length := by rw [← List.length_append, ea1, List.length_append]
                have l2 : acc.length + (ys1.length + zs'.length) = ys.length := by rw [← ea, List.length_append, List.length_append]
                rw [List.length_cons] at l1
                rw [← ra5.len]; omega
              · rw [upd_ne (fun z => rl1.tr p hp (by rw [z]; exact hD))]
                exact (exD.priv p (by rw [hx5]; exact List.mem_cons_of_mem _ hp)).trans (pv5 p hp)
        · have hl' : j = us1.length := by omega
          subst hl'
          rw [List.drop_length, lcS] at ez1
          by_cases so1 : srcOk h8 srcs1
          case neg => rw [if_neg so1] at ez1; cases ez1
          rw [if_pos so1] at ez1
          cases ez1
          rw [List.append_nil] at ea1
          subst ea1
          exact .inl ⟨(wk1 α5 H _ mo5 rl5 so1 us1.length).1 (Nat.le_refl _), α5, _, acc ++ ys1, xs1, zs', mo4.trans mo5, hx5, pv5, rl5, hl5, ra5, q5, by rw [← ea, List.append_assoc]⟩
  · have hl' : i = us.length := by omega
    subst hl'
    rw [List.drop_length, lcS2] at ez
    by_cases so : srcOk h srcs
    case neg => rw [if_neg so] at ez; cases ez
    rw [if_pos so] at ez
    cases ez
    rw [List.append_nil] at ea
    subst ea
    exact .inl ⟨(wk α H _ mo rl so us.length).1 (Nat.le_refl _), fin.made hD hl ra rl hx mo pv rl1.tr⟩
end
theorem rs_lc2 {X : Cx} {S : Sx} {tg tg1 : Expr} {iter iter1 : Expr} {pos : Pos} {fa : EF} {fi fi1 : IF} {g g1 : GF} {is is1 : List Nat} {m : Bool} {elt : Expr} {ifs ifs1 : List Expr} {scope : Scope} {own : List (Str × Nat)} {t t1 : BF} (hc : X.calm = true) (hN : X.N.Nodup) (hi : SI X S tg iter fi) (ok : BlkOk X.N X.env.scope scope own)
    (hg : ∀ (s : Shared) (H : Hp) (C : Addr) (cl : List (Str × Addr)) (fp : List Addr), SG (X.blk s H scope (compEnvC scope cl C X.env) fp) S tg is g) (ht : ∀ (s : Shared) (H : Hp) (C : Addr) (cl : List (Str × Addr)) (fp : List Addr), STs (X.blk s H scope (compEnvC scope cl C X.env) fp) S ifs t)
    (hi1 : ∀ (s : Shared) (H : Hp) (C : Addr) (cl : List (Str × Addr)) (fp : List Addr), SI (X.blk s H scope (compEnvC scope cl C X.env) fp) S tg1 iter1 fi1) (hg1 : ∀ (s : Shared) (H : Hp) (C : Addr) (cl : List (Str × Addr)) (fp : List Addr), SG (X.blk s H scope (compEnvC scope cl C X.env) fp) S tg1 is1 g1)
    (ht1 : ∀ (s : Shared) (H : Hp) (C : Addr) (cl : List (Str × Addr)) (fp : List Addr), STs (X.blk s H scope (compEnvC scope cl C X.env) fp) S ifs1 t1) (he : ∀ (s : Shared) (H : Hp) (C : Addr) (cl : List (Str × Addr)) (fp : List Addr), SE (X.blk s H scope (compEnvC scope cl C X.env) fp) S elt fa)
    (hv : ∀ i ∈ is1, i ∈ own.map (·.2) := by decide) (hsub : ∀ j ∈ is, j ∈ own.map (·.2) := by decide) (hs : ∀ x, foldedSetIterable iter X.env x = pure x := by intro _; rfl) (hs1 : ∀ env x, foldedSetIterable iter1 env x = pure x := by intro _ _; rfl) :
    SE X S (.ListComp elt [⟨tg, iter, ifs, 0⟩, ⟨tg1, iter1, ifs1, 0⟩] scope pos) (eLc2 m fi g t fi1 g1 t1 fa (own.map (·.2)) is1) :=
  ⟨(pe_lc2 hc hN hi.h ok hv (fun x0 x1 x2 x3 x4 => (hg x0 x1 x2 x3 x4).h) (fun x0 x1 x2 x3 x4 => (ht x0 x1 x2 x3 x4).h) (fun x0 x1 x2 x3 x4 => (hi1 x0 x1 x2 x3 x4).h) (fun x0 x1 x2 x3 x4 => (hg1 x0 x1 x2 x3 x4).h) (fun x0 x1 x2 x3 x4 => (ht1 x0 x1 x2 x3 x4).h) (fun x0 x1 x2 x3 x4 => (he x0 x1 x2 x3 x4).h) hs hs1).wk fun _ _ _ => tS_lc2 hsub fun _ z => z⟩
end L2
end
section
set_option linter.unusedVariables false
set_option linter.unusedSimpArgs false
namespace L2
open PySem PySem.Spec PySem.F PyProof.Rows
section
variable {X : Cx} {S : Sx} {α α' : Am} {H H' : Hp} {h h' : PH}
@[simp] def mZfill : MF := fun h o us => match o, us with
  | .str a, [.int i] => if PadOk i = true then some (.str (Txt.zfill a i), h) else none
  | _, _ => none
@[simp] def mRemP : MF := fun h o us => match o, us with
  | .str a, [.str b] => if a.length ≤ sizeLine then some (.str (Txt.removeprefix a b), h) else none
  | _, _ => none
@[simp] def sNever : SF := fun _ _ => none
theorem rs_never {st : Stmt} : SS X S st sNever := ⟨ps_never.wk fun _ _ _ p => by
  obtain ⟨α, ρ, h, re, rl, fl, h', e, k⟩ := p
  cases e⟩
end
end L2
end
section
set_option linter.unusedVariables false
set_option linter.unusedSimpArgs false
namespace L2
open PySem PySem.Spec PySem.F PyProof.Rows
theorem notIter {M : Model} {A : Around} {E : Value → Shared → Prop} {s : Shared} {v : Value} {T id : String} {Q : Bool → Shared → Prop} (slot : Slot T "__iter__" id) (ty : s.TypeIs v T) (q : Q false s) : wpAny M A (notIterableAtAll v) Q E s := by
  unfold notIterableAtAll
  exact wpAny_bind (wpAny_specialOf ty slot.lookup (wpAny_pure q))
def tStarL (K : PySem.W.Frag) (ta : TE) (tr : TA) : TA := fun σ H Q => ta σ H fun x H1 => ∃ a ys, x = .ref a ∧ SqL K H1 a ys ∧ tr σ H1 fun xs H2 => Q (ys ++ xs) H2
section
variable {X : Cx} {S : Sx} {e : Expr} {es : List Expr} {te : TE} {t : TA} {p : Pos} {fa : EF} {fr : AF}
theorem pa_star (ha : PE X e te) (hr : PA X es t) : PA X (.Starred e p :: es) (tStarL X.K te t) := by
  intro pos pins s σ H Q I h
  refine W.items_star (thn (ha pins s σ H _ I h) fun u s1 ⟨x, H1, I1, r1, a, ys, hx, hl, q1⟩ => ?_)
  subst hx
  obtain ⟨its, rv, ⟨o, n, ho, hc, hd, hs⟩, hz⟩ := I1.list hl
  have hu : u = .ref a := r1
  subst hu
  have ln := rv.length
  refine notIter PySem.F.slot_list_iter ⟨_, ho, hc⟩ ⟨rfl, wpAny_collect_seq a (.inl rfl) ho hc hs (fun h' k => ?_) (by simpa using (by omega : its.length ≤ sizeLine))⟩
  have I2 := I1.kept (t' := s1.toks) k
  exact thn (hr pos pins _ σ H1 _ I2 q1) fun us s2 ⟨xs, H2, I3, r2, q2⟩ => ⟨ys ++ xs, H2, I3, rv.append r2, q2⟩
@[simp] def aStar (fa : EF) (fr : AF) : AF := fun ρ h => bnd (fa ρ h) fun x h1 => (its h1 x).bind fun us => bnd (fr ρ h1) fun xs h2 => some (us ++ xs, h2)
theorem sa_star (hf : Fit X S) (ha : PE X e (tS S fa)) (hr : PA X es (tA S fr)) : PA X (.Starred e p :: es) (tA S (aStar fa fr)) := by
  refine (pa_star (p := p) ha hr).wk fun σ H Q q => ?_
  obtain ⟨α, ρ, h, re, rl, w, h3, e0, k⟩ := q
  obtain ⟨u, h1, e1, e2⟩ := bnd_eq e0
  refine ⟨α, ρ, h, re, rl, u, h1, e1, fun α1 H1 x ex1 rl1 ru => ?_⟩
  cases q : its h1 u with
  | none =>
    have e2 : ((its h1 u).bind fun us => bnd (fr ρ h1) fun xs h2 => some (us ++ xs, h2)) = some (w, h3) := e2
    rw [q] at e2; cases e2
  | some us =>
    have e2 : ((its h1 u).bind fun us => bnd (fr ρ h1) fun xs h2 => some (us ++ xs, h2)) = some (w, h3) := e2
    rw [q, Option.bind_some] at e2
    obtain ⟨xs, h2, e3, e4⟩ := bnd_eq e2
    cases e4
    obtain ⟨b, ys, rfl, hb, rb⟩ := its_of rl1 q ru
    exact ⟨b, ys, rfl, SqL.of hb, α1, ρ, h1, re.ex ex1, rl1, xs, _, e3, fun α2 H2 zs ex2 rl2 rs => k α2 H2 _ (ex1.trans ex2) rl2 ((rb.ex ex2).app rs)⟩
end
end L2
end
section
set_option linter.unusedVariables false
set_option linter.unusedSimpArgs false
namespace L2
open PySem PySem.Spec PySem.F PyProof.Rows
section
variable {X : Cx} {S : Sx} {fr : AF} {α : Am} {H : Hp} {h : PH}
def rngCU (lo c : Int) (n : Nat) : List U := (List.range n).map fun i => U.int (lo + (i : Nat) * c)
instance {i j c : Int} {n : Nat} : Decidable (RgC i j c n) := by unfold RgC; infer_instance
def iRng3U (fr : AF) : IF := fun ρ h => bnd (fr ρ h) fun us h1 => match us with
  | [.int i, .int j, .int c] => if RgC i j c (Builtin.Range.rangeSize i j c).toNat then some ((rngCU i c (Builtin.Range.rangeSize i j c).toNat, []), h1) else none
  | _ => none
end
end L2
end
section
set_option linter.unusedVariables false
set_option linter.unusedSimpArgs false
namespace L2
open PySem PySem.Spec PySem.F PyProof.Rows
section
variable {X : Cx} {S : Sx} {fa : EF} {α : Am} {H : Hp} {h : PH}
@[simp] def cIntS : GC := fun h us => match us with
  | [.int i] => some (.int i, h)
  | [.bl b] => some (.int (if b = true then 1 else 0), h)
  | [.str a] => if a.length ≤ 640 then (PySem.intText? a).map fun n => (.int n, h) else none
  | _ => none
def sgnU (x : Str) : List U := x.cps.toList.map fun c => U.str ⟨#[c]⟩
@[simp] def iTxtU (fa : EF) : IF := fun ρ h => bnd (fa ρ h) fun u h1 => match u with
  | .str x => some ((sgnU x, []), h1)
  | _ => none
end
end L2
end
section
set_option linter.unusedVariables false
set_option linter.unusedSimpArgs false
namespace L2
open PySem PySem.Spec PySem.F PyProof.Rows
section
variable {X : Cx} {S : Sx} {a : Expr} {pos : Pos} {fa : EF} {fl fh : OF} {lo hi : Option Expr} {p2 : Pos}
@[simp] def uSlS (h : PH) (x : U) (lo hi : Option Int) : Option (U × PH) := match x with
  | .str z => if z.length ≤ sizeLine then some (.str (cutS z lo hi), h) else none
  | _ => none
def rSSt (S : Sx) : V → Option Int → Option Int → Hp → VK → Prop := fun x lo hi H Q => ∃ α h u, Rl S α H h ∧ RU S α H u x ∧ PU S α H (uSlS h u lo hi) Q
theorem sl_St : SlR X (rSSt S) := by
  intro pins s σ H x v vl vu lo hi sl Q I rx hs pl pu hh
  obtain ⟨α, h, u, rl, ru, p⟩ := hh
  cases u with
  | str z =>
    cases ru
    have p : PU S α H (if z.length ≤ sizeLine then some (.str (cutS z lo hi), h) else none) Q := p
    by_cases hl : z.length ≤ sizeLine
    · rw [if_pos hl] at p
      exact sl_str pins s σ H _ v vl vu lo hi sl Q I rx hs pl pu ⟨z, rfl, hl, p.val rl (.str _)⟩
    · rw [if_neg hl] at p; exact (no_pu p rfl).elim
  | _ => exact (no_pu p rfl).elim
@[simp] def eSlS (fa : EF) (fl fh : OF) : EF := fun ρ h => bnd (fa ρ h) fun x h1 => bnd (fl ρ h1) fun lo h2 => bnd (fh ρ h2) fun hi h3 => uSlS h3 x lo hi
theorem s_slS (ha : PE X a (tS S fa)) (hl : PO X lo (tO S fl)) (hh : PO X hi (tO S fh)) : PE X (.Subscript a (.Slice lo hi none p2) pos) (tS S (eSlS fa fl fh)) :=
  (pe_slice (sl_St (S := S)) ha hl hh).wk fun σ H Q ⟨α, ρ, h, re, rl, w, h3, e, k⟩ => by
  obtain ⟨u, h1, e1, e⟩ := bnd_eq e
  obtain ⟨o, h2, e2, e⟩ := bnd_eq e
  obtain ⟨o', h4, e4, e⟩ := bnd_eq e
  exact ⟨α, ρ, h, re, rl, u, h1, e1, fun α1 H1 x ex1 rl1 ru => ⟨α1, ρ, h1, re.ex ex1, rl1, o, h2, e2, fun α2 H2 ex2 rl2 => ⟨α2, ρ, h2, re.ex (ex1.trans ex2), rl2, o', h4, e4, fun α4 H4 ex4 rl4 => ⟨α4, h4, u, rl4, (ru.ex ex2).ex ex4, w, h3, e, fun α5 H5 y ex5 rl5 ry => k α5 H5 y ((ex1.trans (ex2.trans ex4)).trans ex5) rl5 ry⟩⟩⟩⟩
end
end L2
end
section
set_option Elab.async false
set_option maxRecDepth 100000
set_option linter.unusedVariables false
set_option maxHeartbeats 4000000
namespace L2
open PySem PySem.Spec PySem.F PyProof.Rows
def smalls : List (List Nat) := [[],[0],[1],[2],[3],[0,1],[0,2],[0,3],[1,2],[1,3],[2,3],[0,1,2],[0,1,3],[0,2,3],[1,2,3],[0,1,2,3]]
def insN (k : Nat) (ms : List Nat) : List Nat := (List.range 4).filter fun j => j == k || ms.contains j
theorem insN_small : ∀ ms ∈ smalls, ∀ k, k < 4 → insN k ms ∈ smalls := by decide
theorem insN_has : ∀ ms ∈ smalls, ∀ k, k < 4 → ms.contains k = true → insN k ms = ms := by decide
def belowN (k : Nat) (ms : List Nat) : Nat := (ms.filter fun j => decide (j < k)).length
theorem insN_new : ∀ ms ∈ smalls, ∀ k, k < 4 → ms.contains k = false → insN k ms = ms.take (belowN k ms) ++ k :: ms.drop (belowN k ms) := by decide
structure SmT (bt : Bool) (t : SetTable) (ms : List Nat) : Prop where
  mask : t.mask = 7
  place : t.place = ms.toArray
  dum : t.dummies = #[]
  plain : t.plain = true
  led : t.led = true ∨ bt = true
def SmE (es : List (Int × Value)) (ms : List Nat) : Prop := Paired (fun (e : Int × Value) (m : Nat) => e.1 = (m : Int) ∧ ∃ tk, e.2 = Value.int (m : Int) tk) es ms
def bytext (w : World) : Bool := w.params.followText "set-order"
def SmAt (w : World) (a : Addr) (ms : List Nat) (h : Heap) : Prop := ∃ o es ep t, h.get? a = some o ∧ o.ExactSet ∧ o.data = .set es ep t ∧ SmT (bytext w) t ms ∧ SmE es.toList ms ∧ ms ∈ smalls
theorem mkT {bt : Bool} {t : SetTable} {ms : List Nat} (h : SmT bt t ms) : t = ⟨7, ms.toArray, #[], t.finger, t.led, t.moves, true⟩ := by
  obtain ⟨a, b, c, d, e⟩ := h
  cases t; simp only at a b c d; subst a; subst b; subst c; subst d; rfl
theorem free_sm {f mv : Nat} {l : Bool} : ∀ ms ∈ smalls, ∀ k, k < 4 → ms.contains k = false → SetTable.freeSlot ⟨7, ms.toArray, #[], f, l, mv, true⟩ (k : Int) = some (k, false) := by
  intro ms hm k hk
  simp only [smalls, List.mem_cons, List.not_mem_nil, or_false] at hm
  have hk : k = 0 ∨ k = 1 ∨ k = 2 ∨ k = 3 := by omega
  rcases hm with rfl | rfl | rfl | rfl | rfl | rfl | rfl | rfl | rfl | rfl | rfl | rfl | rfl | rfl | rfl | rfl <;> rcases hk with rfl | rfl | rfl | rfl <;> intro hc <;> first | exact absurd hc (by decide) | kernel_rfl
theorem put_sm {f mv : Nat} {l : Bool} : ∀ ms ∈ smalls, ∀ k, k < 4 → ms.contains k = false → SetTable.put ⟨7, ms.toArray, #[], f, l, mv, true⟩ k = (⟨7, (insN k ms).toArray, #[], f, l, mv, true⟩, belowN k ms) := by
  intro ms hm k hk
  simp only [smalls, List.mem_cons, List.not_mem_nil, or_false] at hm
  have hk : k = 0 ∨ k = 1 ∨ k = 2 ∨ k = 3 := by omega
  rcases hm with rfl | rfl | rfl | rfl | rfl | rfl | rfl | rfl | rfl | rfl | rfl | rfl | rfl | rfl | rfl | rfl <;> rcases hk with rfl | rfl | rfl | rfl <;> intro hc <;> first | exact absurd hc (by decide) | kernel_rfl
theorem fits_sm {f mv : Nat} {l : Bool} {n : Nat} : ∀ ms ∈ smalls, n = ms.length → SetTable.fits ⟨7, ms.toArray, #[], f, l, mv, true⟩ n = true := by
  intro ms hm e; subst e
  simp only [smalls, List.mem_cons, List.not_mem_nil, or_false] at hm
  rcases hm with rfl | rfl | rfl | rfl | rfl | rfl | rfl | rfl | rfl | rfl | rfl | rfl | rfl | rfl | rfl | rfl <;> kernel_rfl
theorem full_sm {f mv : Nat} {l : Bool} : ∀ ms ∈ smalls, SetTable.tooFull ⟨7, ms.toArray, #[], f, l, mv, true⟩ = false := by
  intro ms hm
  simp only [smalls, List.mem_cons, List.not_mem_nil, or_false] at hm
  rcases hm with rfl | rfl | rfl | rfl | rfl | rfl | rfl | rfl | rfl | rfl | rfl | rfl | rfl | rfl | rfl | rfl <;> kernel_rfl
def slotN (ms : List Nat) (i : Nat) : Nat := if i = 0 then 0 else ms.getD (i - 1) 0 + 1
theorem below_sm : ∀ ms ∈ smalls, ∀ i, i ≤ ms.length → SetTable.below ms.toArray (slotN ms i) = i := by decide
theorem hash_sm : ∀ k : Nat, k < 4 → hashInt (k : Int) = (k : Int) := by decide
theorem SmE.len {es : List (Int × Value)} {ms : List Nat} (h : SmE es ms) : es.length = ms.length := Paired.length h
theorem small_lt : ∀ ms ∈ smalls, ∀ m ∈ ms, m < 4 := by decide
theorem small_len : ∀ ms ∈ smalls, ms.length ≤ 4 := by decide
theorem SmE.elems {prog : Program} {w : World} : ∀ {es : List (Int × Value)} {ms : List Nat}, SmE es ms → (∀ m ∈ ms, m < 4) → ElemsOf (intKind prog w) es
  | _, _, .nil, _ => fun e he => absurd he (by simp)
  | _, _, .cons (a := e) (b := m) h r, hm => fun e' he => by
    rcases List.mem_cons.mp he with rfl | he
    · obtain ⟨h1, tk, h2⟩ := h
      refine ⟨⟨(m : Int), by rw [h2]; exact intKind_is _ _ _ _, ?_⟩, by rw [h2]; rfl⟩
      rw [h1]; exact (hash_sm m (hm m List.mem_cons_self)).symm
    · exact SmE.elems r (fun m hm' => hm m (List.mem_cons_of_mem _ hm')) e' he
theorem SmE.find {prog : Program} {w : World} {k : Nat} : ∀ {es : List (Int × Value)} {ms : List Nat}, SmE es ms → ((es.findIdx? (fun e => (intKind prog w).is (k : Int) e.2)).isSome = ms.contains k)
  | _, _, .nil => rfl
  | _, _, .cons (a := e) (b := m) h r => by
    obtain ⟨h1, tk, h2⟩ := h
    have e1 : (intKind prog w).is (k : Int) e.2 = decide (k = m) := by
      rw [h2]
      show Value.isInt (k : Int) (.int (m : Int) tk) = _
      unfold Value.isInt
      by_cases q : k = m
      · subst q; simp
      · have : ¬ ((m : Int) = (k : Int)) := by omega
        simp [q]; omega
    rw [List.findIdx?_cons, e1, List.contains_cons]
    by_cases q : k = m
    · subst q; simp
    · have ih := SmE.find (prog := prog) (w := w) (k := k) r
      simp only [q, decide_false, Bool.false_eq_true, if_false, Option.isSome_map, ih]
      simp [q]
theorem SmE.app {es1 es2 : List (Int × Value)} {a b : List Nat} (h1 : SmE es1 a) (h2 : SmE es2 b) : SmE (es1 ++ es2) (a ++ b) := by
  induction h1 with
  | nil => exact h2
  | cons h r ih => exact .cons h ih
theorem SmE.take : ∀ {es : List (Int × Value)} {ms : List Nat} (n : Nat), SmE es ms → SmE (es.take n) (ms.take n)
  | _, _, 0, _ => by rw [List.take_zero, List.take_zero]; exact .nil
  | _, _, _ + 1, .nil => .nil
  | _, _, n + 1, .cons a r => .cons a (SmE.take n r)
theorem SmE.drop : ∀ {es : List (Int × Value)} {ms : List Nat} (n : Nat), SmE es ms → SmE (es.drop n) (ms.drop n)
  | _, _, 0, h => h
  | _, _, _ + 1, .nil => .nil
  | _, _, n + 1, .cons _ r => SmE.drop n r
section
variable {prog : Program} {w : World} {A : Around} {E : Value → Shared → Prop} {s : Shared}
theorem add_sm {a : Addr} {ms : List Nat} {k : Nat} {tk : Tok} {Q : Bool → Shared → Prop} (hk : k < 4) (hS : SmAt w a ms s.heap)
    (h : ∀ h' b, Heap.SameBut a s.heap h' → SmAt w a (insN k ms) h' → Q b { s with heap := h' }) : wpAny (model prog w) A (setAddHashed a (.int (k : Int) tk) (k : Int)) Q E s := by
  obtain ⟨o, es, ep, t, ho, hex, hd, hT, hE, hm⟩ := hS
  obtain ⟨mask, place, dums, fin, led, mv, pl⟩ := t
  obtain ⟨h1, h2, h3, h4, h5⟩ := hT
  simp only at h1 h2 h3 h4 h5
  subst h1; subst h2; subst h3; subst h4
  have hlen : es.size = ms.length := by rw [← Array.length_toList]; exact hE.len
  have hb : es.size < scanBound := by rw [hlen]; have := small_len ms hm; unfold scanBound; omega
  have hf : SetTable.fits ⟨7, ms.toArray, #[], fin, led, mv, true⟩ es.size = true := fits_sm ms hm hlen
  have hel : ElemsOf (intKind prog w) es.toList := hE.elems (small_lt ms hm)
  have hkey : (intKind prog w).is (k : Int) (.int (k : Int) tk) = true := intKind_is _ _ _ _
  have hh : (intKind prog w).hash (k : Int) = (k : Int) := hash_sm k hk
  unfold setAddHashed setAddHashedIn
  refine wpAny_holding (wpAny_bind (wpAny_setState_of ho hd hf ?_))
  dsimp only
  rw [byScan_of rfl hb hel]
  simp only [↓reduceIte]
  unfold setAddByScan
  refine wpAny_bind (wpAny_bind (wpAny_rule (wpAny_bind ?_)))
  have sc := wpAny_setScan_of (A := A) (E := E) (s := s) (adding := true) hkey ho hd hf hel (Q := fun m s' => s' = s ∧ (m = .absent ∧ ms.contains k = false ∨ (∃ j, m = .found j) ∧ ms.contains k = true)) ?_
  · rw [hh] at sc
    refine wpAny_mono sc (fun m s' hq => ?_) fun _ _ x => x
    obtain ⟨rfl, hq⟩ := hq
    rcases hq with ⟨rfl, hc⟩ | ⟨⟨j, rfl⟩, hc⟩
    · have hE' : SmE (SetTable.insertAt es (belowN k ms) ((k : Int), Value.int (k : Int) tk)).toList (insN k ms) := by
        rw [SetTable.toList_insertAt, insN_new ms hm k hk hc]
        exact (hE.take _).app (.cons ⟨rfl, tk, rfl⟩ (hE.drop _))
      have hlay : layNew ⟨7, ms.toArray, #[], fin, led, mv, true⟩ es (k : Int) (.int (k : Int) tk) = (SetTable.insertAt es (belowN k ms) ((k : Int), .int (k : Int) tk), ⟨7, (insN k ms).toArray, #[], fin, led, mv, true⟩, false, false) := by
        unfold layNew
        have hz : (SetTable.insertAt es (belowN k ms) ((k : Int), Value.int (k : Int) tk)).size = (insN k ms).length := by
          rw [← Array.length_toList]; exact hE'.len
        have e3 := fits_sm (f := fin) (mv := mv) (l := led) _ (insN_small ms hm k hk) hz
        simp only [free_sm ms hm k hk hc, put_sm ms hm k hk hc, SetTable.orStandIn, e3, if_true, Bool.not_true]
      dsimp only
      rw [hlay]
      generalize hY : SetTable.insertAt es (belowN k ms) ((k : Int), Value.int (k : Int) tk) = Y at hE'
      dsimp only
      refine wpAny_bind (wpAny_pure ?_)
      simp only [if_true]
      refine wpAny_bind (wpAny_of_eq (hashByValue_scannable 8 rfl) ?_)
      simp only [show plainKind (Value.int (k : Int) tk) = true from rfl, if_true]
      have hz : Y.size ≤ sizeLine := by
        rw [← Array.length_toList, hE'.len]
        have := small_len _ (insN_small ms hm k hk)
        rw [sizeLine_eq]; omega
      refine wpAny_bind (wpAny_storeSet_of ho hd ?_ hz)
      rw [if_neg (by rw [full_sm _ (insN_small ms hm k hk)]; decide)]
      refine wpAny_pure (wpAny_pure (h _ _ (Heap.SameBut.update ..) ?_))
      have hg : (s'.heap.update a (Obj.putSet Y ⟨7, (insN k ms).toArray, #[], fin, led, mv, true⟩)).get? a = some { o with data := .set Y (ep + 1) ⟨7, (insN k ms).toArray, #[], fin, led, mv, true⟩ } := by
        have := Heap.get?_update_self (Obj.putSet Y ⟨7, (insN k ms).toArray, #[], fin, led, mv, true⟩) ho (by rw [putSet_of _ _ hd]; rfl)
        rw [putSet_of _ _ hd] at this; exact this
      exact ⟨_, _, _, _, hg, hex, rfl, ⟨rfl, rfl, rfl, rfl, h5⟩, hE', insN_small ms hm k hk⟩
    · dsimp only
      refine wpAny_pure (wpAny_pure ?_)
      exact h s'.heap false (Heap.SameBut.refl a _) (by rw [insN_has ms hm k hk hc]; exact ⟨o, es, ep, _, ho, hex, hd, ⟨rfl, rfl, rfl, rfl, h5⟩, hE, hm⟩)
  · have hs := hE.find (prog := prog) (w := w) (k := k)
    cases q : es.toList.findIdx? (fun e => (intKind prog w).is (k : Int) e.2) with
    | none => rw [q] at hs; exact ⟨rfl, .inl ⟨rfl, hs.symm⟩⟩
    | some j => rw [q] at hs; exact ⟨rfl, .inr ⟨⟨_, rfl⟩, hs.symm⟩⟩
end
end L2
end
section
set_option Elab.async false
set_option maxRecDepth 100000
set_option linter.unusedVariables false
set_option maxHeartbeats 4000000
namespace L2
open PySem PySem.Spec PySem.F PyProof.Rows
theorem SmAt.keep {w : World} {a : Addr} {ms : List Nat} {h h' : Heap} (x : SmAt w a ms h) (e : ∀ o, h.get? a = some o → h'.get? a = some o) : SmAt w a ms h' := by
  obtain ⟨o, es, ep, t, ho, r⟩ := x
  exact ⟨o, es, ep, t, e o ho, r⟩
def foldN (ms : List Nat) (ks : List Nat) : List Nat := ks.foldl (fun a k => insN k a) ms
section
variable {prog : Program} {w : World} {A : Around} {R : Result → Shared → Prop} {I : Addr} {fp wr : List Addr} {G : Array GenState → Array GenState → Prop} {P : Nat → Value → Prop} {St : Nat → Shared → Prop}
theorem loop_sm {ks : List Nat} (W : WalksS prog w A.in1 I fp wr G ks.length P St) (S : Addr) (hSf : S ∉ fp) (h4 : ∀ k ∈ ks, k < 4) (hval : ∀ i v, P i v → ∃ k t, ks[i]? = some k ∧ v = Value.int (k : Int) t) :
    ∀ (m i : Nat), ks.length - i = m → i ≤ ks.length → ∀ (ms : List Nat) (s : Shared), St i s → SmAt w S ms s.heap →
      (∀ s', Moved (S :: wr) G s s' → SmAt w S (foldN ms (ks.drop i)) s'.heap → R (.ok (.ret .none)) s') →
      codeAny (model prog w) A (.builtin "set.update.loop" ⟨[.ref S, .ref I], []⟩) R s := by
  have notw : S ∉ wr := fun z => hSf (W.sub _ z)
  have sub : ∀ b ∈ wr, b ∈ S :: wr := fun b hb => List.mem_cons_of_mem _ hb
  intro m
  induction m with
  | zero =>
    intro i hm hi ms s st hS hR
    have ei : i = ks.length := by omega
    subst ei
    refine codeAny_builtin PyProof.Rows.F.entry_set_update_loop ?_
    rw [Around.under_plainId PyProof.Rows.F.plain_set_update_loop _]
    show wpAny _ A.in1 (pyNext (.ref I) >>= _) _ _ s
    refine wpAny_bind (W.done s _ _ st fun s1 mv => ?_)
    show wpAny _ A.in1 (ret Value.none) _ _ s1
    refine wpAny_pure (hR s1 (mv.mono sub) ?_)
    rw [List.drop_length]
    exact hS.keep fun o e => mv.heap S o notw e
  | succ m ih =>
    intro i hm hi ms s st hS hR
    have lt : i < ks.length := by omega
    refine codeAny_builtin PyProof.Rows.F.entry_set_update_loop ?_
    rw [Around.under_plainId PyProof.Rows.F.plain_set_update_loop _]
    show wpAny _ A.in1 (pyNext (.ref I) >>= _) _ _ s
    refine wpAny_bind (W.item i s _ _ lt st fun v s1 hP st1 mv => ?_)
    obtain ⟨k, t, ek, rfl⟩ := hval i v hP
    have k4 : k < 4 := h4 k (List.mem_of_getElem? ek)
    have hS1 : SmAt w S ms s1.heap := hS.keep fun o e => mv.heap S o notw e
    show wpAny _ A.in1 (holding [Value.int (k : Int) t] (setAdd S (.int (k : Int) t)) >>= _) _ _ s1
    refine wpAny_bind (wpAny_holding ?_)
    unfold setAdd
    refine wpAny_holding ?_
    refine wpAny_bind ((intKind prog w).pyHash (k := (k : Int)) (intKind_is _ _ _ _) ?_)
    rw [show (intKind prog w).hash (k : Int) = (k : Int) from hash_sm k k4]
    refine add_sm (s := { s1 with toks := s1.toks + 1 }) k4 hS1 fun h' b sb hS2 => ?_
    have ed : ks.drop i = k :: ks.drop (i + 1) := by
      obtain ⟨hh, e⟩ := List.getElem?_eq_some_iff.mp ek
      rw [List.drop_eq_getElem_cons hh, e]
    refine wpAny_pure ⟨plainId_quiet PyProof.Rows.F.plain_set_update_loop _, ih (i + 1) (by omega) lt _ _ (W.frame _ s1 _ _ st1 (Nat.le_succ _) fun b hb o e => ?_) hS2 fun s2 mv2 hS3 => ?_⟩
    · rw [sb.2 b fun z => hSf (by rw [← z]; exact hb)]; exact e
    · refine hR s2 (Moved.trans W.gtrans ((mv.mono sub).then_heap (Nat.le_succ _) fun b o hb e => ?_) mv2) (by rw [ed]; exact hS3)
      rw [sb.2 b fun z => hb (by rw [z]; exact List.mem_cons_self)]; exact e
end
section
variable {prog : Program} {w : World} {A : Around} {E : Value → Shared → Prop} {s : Shared}
abbrev newS (w : World) : Obj := { cls := .type "set", dict := none, data := .set #[] 0 (.fresh 0 0 (!bytext w)) }
theorem new_sm (a : Value) {Q : Value → Shared → Prop} (h : Q (.ref s.heap.objs.size) { s with heap := s.heap.push (newS w) }) :
    codeAny (model prog w) A (.call (.builtin "set.__new__") ⟨[.type "set", a], []⟩) (wants Q E) s := by
  refine codeAny_of_tree ?_
  show wpAny _ A.in1 (do checkBuiltinCall "set.__new__" ⟨[.type "set", a], []⟩; again (.builtin "set.__new__" ⟨[.type "set", a], []⟩)) _ _ s
  refine wpAny_bind (wpAny_of_eq (F.newCall_set_1 a) (wpAny_pure ⟨plainId_quiet F.plain_set_new _, codeAny_builtin F.entry_set_new ?_⟩))
  rw [Around.under_plainId F.plain_set_new _]
  unfold Builtin.«set.__new__» Builtin.Frozenset.newClass
  have sub1 := sub_set_self
  obtain ⟨hp, g, d, tk, os⟩ := s
  dsimp only
  wp_walk
  refine wpAny_askSetting (wpAny_pure ?_)
  dsimp only
  simp only [newObj]
  refine wpAny_bind (wpAny_alloc (wpAny_pure ?_))
  exact wpAny_pure h
theorem fresh_sm {h : Heap} {a : Addr} (e : h.get? a = some (newS w)) : SmAt w a [] h :=
  ⟨_, _, _, _, e, ⟨rfl, rfl, rfl⟩, rfl, ⟨rfl, rfl, rfl, rfl, by show (!bytext w) = true ∨ _; cases bytext w <;> simp⟩, .nil, by decide⟩
set_option maxRecDepth 100000 in
theorem call_sm {l : Addr} {items : Array Value} {ks : List Nat} {Q : Value → Shared → Prop} (hh : A.handled = none) (hl : s.heap.IsList l items) (hz : items.size = ks.length) (h4 : ∀ k ∈ ks, k < 4)
    (hi : ∀ (i : Nat) (v : Value), items[i]? = some v → ∃ k t, ks[i]? = some k ∧ v = Value.int (k : Int) t)
    (h : ∀ (h' : Heap) (tk : Nat), SmAt w s.heap.objs.size (foldN [] ks) h' → (∀ b o, b < s.heap.objs.size → s.heap.get? b = some o → h'.get? b = some o) → Q (.ref s.heap.objs.size) { s with heap := h', toks := tk }) :
    wpAny (model prog w) A (call (.type "set") [.ref l]) Q E s := by
  obtain ⟨c, tl, hmro⟩ := F.called_set.mro
  have hmade := F.called_set.made
  have hsub := F.called_set.sub
  refine wpAny_call (codeAny_of_tree ?_)
  show wpAny _ _ (callAny (.type "set") _) _ _ _
  refine wpAny_pure ⟨Code.quiet_builtin _ (by decide +kernel), codeAny_builtin F.entry_type_call ?_⟩
  rw [Around.under_plain (weight_type_call_type "set" [.ref l] []) rfl]
  have h1 := F.called_set.notType
  have h2 := F.called_set.canCreate
  have hct := F.typeCall_set_1 (.ref l)
  repeat (any_goals (first | assumption | wp_step))
  refine codeAny_mono (new_sm (.ref l) (E := E) (Q := fun obj s1 => obj = .ref s.heap.objs.size ∧ s1 = { s with heap := s.heap.push (newS w) }) ⟨rfl, rfl⟩) fun r s1 hr => ?_
  cases r with
  | error e => exact hr
  | ok fl =>
    cases fl with
    | ret obj =>
      obtain ⟨rfl, rfl⟩ := hr
      have hS : (s.heap.push (newS w)).get? s.heap.objs.size = some (newS w) := Heap.get?_push_size _ rfl
      have hT : Shared.TypeIs { s with heap := s.heap.push (newS w) } (.ref s.heap.objs.size) "set" := ⟨_, hS, rfl⟩
      have hli := F.called_set.init.lookup
      have hbi := F.called_set.init.bind (.ref s.heap.objs.size)
      repeat (any_goals (first | assumption | wp_step))
      refine codeAny_mono (codeAny_call_builtin (R := wants (fun r s2 => r = .none ∧ ∃ h' tk, s2 = { s with heap := h', toks := tk } ∧ SmAt w s.heap.objs.size (foldN [] ks) h' ∧ (∀ b o, b < s.heap.objs.size → s.heap.get? b = some o → h'.get? b = some o)) E) F.called_set.init.plain F.entry_set_init (check_set_init_1 hT ?_)) fun r2 s2 hr2 => ?_
      · obtain ⟨ol, hol, hcl, nl, hdl⟩ := hl
        obtain ⟨ocls, odict, odata, oslots⟩ := ol
        simp only at hcl hdl
        subst hcl; subst hdl
        have hol1 : (s.heap.push (newS w)).get? l = some { cls := .type "list", dict := odict, data := .seq items nl, slots := oslots } := Heap.get?_push_of_some _ hol
        have k1 := F.sub_list_set
        have k2 := F.sub_list_frozenset
        have k3 : (Value.type "list" == Value.type "dict") = false := by decide
        have il : (s.heap.push (newS w)).IsList l items := ⟨_, hol1, rfl, nl, rfl⟩
        unfold Builtin.«set.__init__» noKeywords Builtin.Frozenset.updateFrom
        generalize hPI : pyIter = PI
        wp_walk
        subst hPI
        refine wpAny_pyIter_list il ?_
        refine wpAny_bind (wpAny_runValue ?_)
        have lS : l < s.heap.objs.size := Heap.lt_size hol
        have hh3 : A.in1.in1.in1.handled = none := by simp [hh]
        have neI : l ≠ (s.heap.push (newS w)).objs.size := by
          rw [Heap.size_push]; exact Nat.ne_of_lt (Nat.lt_succ_of_lt lS)
        have hSf : s.heap.objs.size ∉ [(s.heap.push (newS w)).objs.size, l] := by
          rw [Heap.size_push]; simp only [List.mem_cons, List.mem_singleton, List.not_mem_nil, or_false, not_or]
          exact ⟨Nat.ne_of_lt (Nat.lt_succ_self _), Nat.ne_of_gt lS⟩
        have WW := (Walks.list (prog := prog) (w := w) hh3 _ l neI items).toS
        rw [hz] at WW
        refine loop_sm WW s.heap.objs.size hSf h4 (fun i v hv => hi i v hv) (ks.length - 0) 0 (by omega) (Nat.zero_le _) [] _ ⟨⟨_, Heap.get?_push_size _ rfl, rfl, rfl⟩, (il.push _)⟩ ?hS0 ?hR
        case hS0 => exact fresh_sm (Heap.get?_push_of_some _ hS)
        case hR =>
          intro s' hm hS'
          obtain ⟨h', g', d', tk', os'⟩ := s'
          have eg : g' = s.gens := hm.gens
          have ed : d' = s.drawn := hm.drawn
          have eo : os' = s.os := hm.os
          subst eg; subst ed; subst eo
          show wpAny _ _ _ _ _ _
          refine wpAny_pure ?_
          show wpAny _ _ (ret Value.none) _ _ _
          refine wpAny_pure ⟨rfl, h', tk', rfl, hS', fun b o hb e => ?_⟩
          have n1 : b ≠ s.heap.objs.size := Nat.ne_of_lt hb
          have n2 : b ≠ (s.heap.push (newS w)).objs.size := by rw [Heap.size_push]; exact Nat.ne_of_lt (Nat.lt_succ_of_lt hb)
          exact hm.heap b o (by simp only [List.mem_cons, List.mem_singleton, List.not_mem_nil, or_false, not_or]; exact ⟨n1, n2⟩) (Heap.get?_push_of_some _ (Heap.get?_push_of_some _ e))
      · cases r2 with
        | error e => exact hr2
        | ok fl2 =>
          cases fl2 with
          | ret r =>
            obtain ⟨rfl, h', tk, rfl, hS', hk'⟩ := hr2
            repeat (any_goals (first | assumption | wp_step))
            exact h _ _ hS' hk'
          | _ => exact hr2.elim
    | _ => exact hr.elim
end
end L2
end
section
set_option Elab.async false
set_option maxRecDepth 100000
set_option linter.unusedVariables false
set_option linter.unusedSimpArgs false
set_option maxHeartbeats 4000000
namespace L2
open PySem PySem.Spec PySem.F PyProof.Rows
theorem entry_setIter : entryFor table "set.__iter__" = some Builtin.«frozenset.__iter__» := entryFor_alias (id' := "frozenset.__iter__") (by kernel_rfl) rfl (by decide +kernel) (by kernel_rfl)
theorem slot_siNext : Slot "set_iterator" "__next__" "set_iterator.__next__" :=
  .of (owner := "set_iterator") (n := "__next__") (by rw [typeLookup_type, builtinLookup_eq_fast]; kernel_rfl) (by decide +kernel) (by decide +kernel) (by decide +kernel) (by first | exact .inl (by decide +kernel) | exact .inr (by decide +kernel)) (by rw [isSubtype_type]; kernel_rfl)
theorem slot_siIter : Slot "set_iterator" "__iter__" "set_iterator.__iter__" :=
  .of (owner := "set_iterator") (n := "__iter__") (by rw [typeLookup_type, builtinLookup_eq_fast]; kernel_rfl) (by decide +kernel) (by decide +kernel) (by decide +kernel) (by first | exact .inl (by decide +kernel) | exact .inr (by decide +kernel)) (by rw [isSubtype_type]; kernel_rfl)
theorem owner_si : Manifest.owners.lookup (String.ofList ['r', 'o', 't', 'a', 'r', 'e', 't', 'i', '_', 't', 'e', 's'].reverse) = some Manifest.sig_set_iterator := by kernel_rfl
theorem entry_siNext : entryFor table "set_iterator.__next__" = some Builtin.«set_iterator.__next__» := entryFor_of_tree (by kernel_rfl)
theorem entry_siIter : entryFor table "set_iterator.__iter__" = some Builtin.«dict_keyiterator.__iter__» := entryFor_alias (id' := "dict_keyiterator.__iter__") (by kernel_rfl) rfl (by decide +kernel) (by kernel_rfl)
theorem args_siNext (a : Value) : argsOk "set_iterator.__next__" ⟨[a], []⟩ := by
  unfold argsOk; rw [signature?_of (id := "set_iterator.__next__") (n := ['_', '_', 't', 'x', 'e', 'n', '_', '_']) (o := ['r', 'o', 't', 'a', 'r', 'e', 't', 'i', '_', 't', 'e', 's']) (by kernel_rfl) owner_si]; kernel_rfl
theorem args_siIter (a : Value) : argsOk "set_iterator.__iter__" ⟨[a], []⟩ := by
  unfold argsOk; rw [signature?_of (id := "set_iterator.__iter__") (n := ['_', '_', 'r', 'e', 't', 'i', '_', '_']) (o := ['r', 'o', 't', 'a', 'r', 'e', 't', 'i', '_', 't', 'e', 's']) (by kernel_rfl) owner_si]; kernel_rfl
theorem erase_perm {α : Type} : ∀ {l : List α} {i : Nat} (h : i < l.length), (l[i] :: l.eraseIdx i).Perm l
  | [], _, h => absurd h (by simp)
  | x :: r, 0, _ => .rfl
  | x :: r, i + 1, h => by
    have := erase_perm (l := r) (i := i) (by simpa using h)
    simp only [List.getElem_cons_succ, List.eraseIdx_cons_succ]
    exact (List.Perm.swap ..).trans (.cons x this)
theorem pick_go {α : Type} (next : Nat → Nat) : ∀ (n k : Nat) (left : List α) (out : Array α), left.length = n → (pickOrder.go next n k left out).toList.Perm (out.toList ++ left)
  | 0, k, left, out, h => by
    have : left = [] := List.eq_nil_of_length_eq_zero h
    subst this
    rw [List.append_nil]; exact .rfl
  | n + 1, k, left, out, h => by
    have hi : next k % left.length < left.length := Nat.mod_lt _ (by omega)
    unfold pickOrder.go
    rw [List.getElem?_eq_getElem hi]
    dsimp only
    refine (pick_go next n (k + 1) _ _ (by rw [List.length_eraseIdx_of_lt hi]; omega)).trans ?_
    rw [Array.toList_push, List.append_assoc]
    exact List.Perm.append_left _ (erase_perm hi)
theorem pick_perm {α : Type} (next : Nat → Nat) (xs : Array α) : (pickOrder next xs).toList.Perm xs.toList := by
  have := pick_go next xs.size 0 xs.toList #[] (by simp)
  simpa [pickOrder] using this
def pk (w : World) (a : Addr) (ep : Nat) (es : Array (Int × Value)) : Array (Int × Value) := if bytext w = true then pickOrder (w.params.setOrder a ep) es else es
theorem pk_perm (w : World) (a : Addr) (ep : Nat) (es : Array (Int × Value)) : (pk w a ep es).toList.Perm es.toList := by
  unfold pk; split
  · exact pick_perm _ _
  · exact .rfl
def SmIt (w : World) (ms : List Nat) (I a : Addr) (n i ep : Nat) (h : Heap) : Prop := ∃ (o : Obj) (sl : Nat), h.get? I = some o ∧ o.cls = .type "set_iterator" ∧ o.data = .fields #[.int sl 0, .int i 0, .ref a, .int n 0, .int ep 0] ∧ (bytext w = true ∨ sl = slotN ms i)
section
variable {prog : Program} {w : World} {A : Around} {E : Value → Shared → Prop} {s : Shared} {a I : Addr} {o : Obj} {es : Array (Int × Value)} {ep : Nat} {t : SetTable} {ms : List Nat}
theorem sm_len (hE : SmE es.toList ms) : es.size = ms.length := by rw [← Array.length_toList]; exact hE.len
theorem sm_fits (hT : SmT (bytext w) t ms) (hE : SmE es.toList ms) (hm : ms ∈ smalls) : t.fits es.size = true := by rw [mkT hT]; exact fits_sm ms hm (sm_len hE)
theorem setNext_sm {i sl : Nat} {Q : Option (Value × Nat) → Shared → Prop} (ho : s.heap.get? a = some o) (hd : o.data = .set es ep t) (hT : SmT (bytext w) t ms) (hE : SmE es.toList ms) (hm : ms ∈ smalls) (hi : i ≤ ms.length) (hs : bytext w = true ∨ sl = slotN ms i)
    (h : ∀ sl' : Nat, (i < ms.length → (bytext w = true ∨ sl' = slotN ms (i + 1))) → Q (((pk w a ep es)[i]?).map fun e => (e.2, sl')) s) : wpAny (model prog w) A (setNext a sl i ep) Q E s := by
  have hf := sm_fits hT hE hm
  unfold setNext
  refine wpAny_bind (wpAny_setState_of ho hd hf ?_)
  dsimp only
  unfold setsByText
  refine wpAny_bind (wpAny_bind (wpAny_askSetting (wpAny_pure ?_)))
  by_cases hb : bytext w = true
  · have hb1 : (w.params.followText "set-order") = true := hb
    show wpAny _ _ (if (w.params.followText "set-order") = true then _ else _) _ _ _
    rw [if_pos hb1]
    have e0 : (ep != ep) = false := by simp
    simp only [e0, Bool.false_eq_true, if_false]
    unfold setWalk setsByText
    refine wpAny_bind (wpAny_bind (wpAny_setState_of ho hd hf ?_))
    dsimp only
    refine wpAny_bind (wpAny_bind (wpAny_askSetting (wpAny_pure ?_)))
    show wpAny _ _ (if (w.params.followText "set-order") = true then _ else _) _ _ _
    rw [if_pos hb1]
    refine wpAny_bind (wpAny_askSetting (wpAny_pure (wpAny_pure ?_)))
    have := h sl fun _ => .inl hb
    unfold pk at this
    rw [if_pos hb] at this
    exact this
  · have hb1 : ¬ (w.params.followText "set-order") = true := hb
    show wpAny _ _ (if (w.params.followText "set-order") = true then _ else _) _ _ _
    rw [if_neg hb1]
    have hsl : sl = slotN ms i := hs.resolve_left hb
    have hld : t.led = true := hT.led.resolve_right hb
    refine wpAny_bind (wpAny_pure ?_)
    show wpAny _ _ (if (!t.plain && decide (es.size > 1)) = true then _ else _) _ _ _
    rw [if_neg (by rw [hT.plain]; simp)]
    refine wpAny_bind ?_
    show wpAny _ _ (if (!t.led && !es.isEmpty) = true then _ else _) _ _ _
    rw [if_neg (by rw [hld]; simp)]
    refine wpAny_pure ?_
    have eb : SetTable.below t.place sl = i := by rw [hT.place, hsl]; exact below_sm ms hm i hi
    simp only [eb]
    refine wpAny_pure ?_
    have epk : pk w a ep es = es := by unfold pk; rw [if_neg hb]
    have hz := sm_len hE
    by_cases hlt : i < ms.length
    · have he : es[i]? = some es[i] := Array.getElem?_eq_getElem (by omega)
      have hp : t.place[i]? = some (ms[i]'hlt) := by rw [hT.place]; simp [hlt]
      rw [he, hp]
      have := h (ms[i]'hlt + 1) fun _ => .inr (by unfold slotN; rw [if_neg (by omega)]; simp [List.getD, hlt])
      rw [epk, he] at this
      exact this
    · have he : es[i]? = none := Array.getElem?_eq_none (by omega)
      rw [he]
      have := h 0 fun z => absurd z hlt
      rw [epk, he] at this
      exact this
theorem siT {h : Heap} {n i : Nat} {s : Shared} (x : SmIt w ms I a n i ep s.heap) : s.TypeIs (.ref I) "set_iterator" := by obtain ⟨o, _, h1, h2, _⟩ := x; exact ⟨o, h1, h2⟩
theorem next_item {i : Nat} {v : Int × Value} {Q : Option Value → Shared → Prop} (hI : SmIt w ms I a es.size i ep s.heap) (ho : s.heap.get? a = some o) (hd : o.data = .set es ep t) (hT : SmT (bytext w) t ms) (hE : SmE es.toList ms) (hm : ms ∈ smalls)
    (hv : (pk w a ep es)[i]? = some v) (hi : i < ms.length) (hQ : ∀ h', SmIt w ms I a es.size (i + 1) ep h' → Heap.SameBut I s.heap h' → Q (some v.2) { s with heap := h' }) : wpAny (model prog w) A (pyNext (.ref I)) Q E s := by
  have hty := siT (h := s.heap) hI
  obtain ⟨oi, sl, hoi, hci, hdi, hsl⟩ := hI
  have hf := sm_fits hT hE hm
  unfold pyNext
  refine wpAny_bind (wpAny_attempt (wpAny_callSpecial?_slot (name := Str.ofString "__next__") hty slot_siNext (wpAny_call_entry slot_siNext hty entry_siNext ?_ (args_siNext _))))
  show wpAny _ _ (do let it := (← slotArgs "__next__" 0 ⟨[.ref I], []⟩).1; _) _ _ s
  refine wpAny_bind (wpAny_pure ?_)
  refine wpAny_bind (wpAny_fieldsOf hoi hdi ?_)
  dsimp only
  refine wpAny_bind ?_
  unfold setEntries
  refine wpAny_bind (wpAny_setState_of ho hd hf (wpAny_pure ?_))
  have e0 : ((es.size : Int) != (es.size : Int)) = false := by simp
  simp only [e0, Bool.false_eq_true, if_false]
  simp only [Int.toNat_natCast]
  refine wpAny_bind (setNext_sm ho hd hT hE hm (Nat.le_of_lt hi) hsl fun sl' hs' => ?_)
  rw [hv]
  dsimp only [Option.map]
  refine wpAny_bind (wpAny_setField hoi hdi (by simp) ?_)
  have hd1 : (Obj.mapFields (fun x => x.setIfInBounds 0 (rawInt (sl' : Int))) oi).data = .fields #[.int sl' 0, .int i 0, .ref a, .int es.size 0, .int ep 0] := by rw [Obj.data_mapFields hdi]; simp [rawInt]
  have ho1 := Heap.get?_update_self (Obj.mapFields (fun x => x.setIfInBounds 0 (rawInt (sl' : Int)))) hoi (Obj.isFreed_of_fields (Obj.data_mapFields hdi _))
  refine wpAny_bind (wpAny_setField (s := { s with heap := s.heap.update I (Obj.mapFields (fun x => x.setIfInBounds 0 (rawInt (sl' : Int)))) }) ho1 hd1 (by simp) ?_)
  have hd2 : (Obj.mapFields (fun x => x.setIfInBounds 1 (rawInt ((i : Int) + 1))) (Obj.mapFields (fun x => x.setIfInBounds 0 (rawInt (sl' : Int))) oi)).data = .fields #[.int sl' 0, .int (i + 1 : Nat) 0, .ref a, .int es.size 0, .int ep 0] := by rw [Obj.data_mapFields hd1]; simp [rawInt]
  have ho2 := Heap.get?_update_self (Obj.mapFields (fun x => x.setIfInBounds 1 (rawInt ((i : Int) + 1)))) ho1 (Obj.isFreed_of_fields (Obj.data_mapFields hd1 _))
  refine wpAny_pure ⟨v.2, rfl, wpAny_pure (hQ _ ⟨_, sl', ho2, ?_, hd2, hs' hi⟩ ((Heap.SameBut.update ..).trans (Heap.SameBut.update ..)))⟩
  rw [Obj.cls_mapFields, Obj.cls_mapFields]; exact hci
theorem next_end {Q : Option Value → Shared → Prop} (hh : A.handled = none) (hI : SmIt w ms I a es.size ms.length ep s.heap) (ho : s.heap.get? a = some o) (hd : o.data = .set es ep t) (hT : SmT (bytext w) t ms) (hE : SmE es.toList ms) (hm : ms ∈ smalls)
    (hQ : ∀ h', Heap.ExtBut I s.heap h' → Q none { s with heap := h' }) : wpAny (model prog w) A (pyNext (.ref I)) Q E s := by
  have hty := siT (h := s.heap) hI
  obtain ⟨oi, sl, hoi, hci, hdi, hsl⟩ := hI
  have hf := sm_fits hT hE hm
  unfold pyNext
  refine wpAny_bind (wpAny_attempt (wpAny_callSpecial?_slot (name := Str.ofString "__next__") hty slot_siNext (wpAny_call_entry slot_siNext hty entry_siNext ?_ (args_siNext _))))
  show wpAny _ _ (do let it := (← slotArgs "__next__" 0 ⟨[.ref I], []⟩).1; _) _ _ s
  refine wpAny_bind (wpAny_pure ?_)
  refine wpAny_bind (wpAny_fieldsOf hoi hdi ?_)
  dsimp only
  refine wpAny_bind ?_
  unfold setEntries
  refine wpAny_bind (wpAny_setState_of ho hd hf (wpAny_pure ?_))
  have e0 : ((es.size : Int) != (es.size : Int)) = false := by simp
  simp only [e0, Bool.false_eq_true, if_false]
  simp only [Int.toNat_natCast]
  refine wpAny_bind (setNext_sm ho hd hT hE hm (Nat.le_refl _) hsl fun sl' hs' => ?_)
  have e1 : (pk w a ep es)[ms.length]? = none := by
    refine Array.getElem?_eq_none ?_
    have := (pk_perm w a ep es).length_eq
    rw [Array.length_toList, Array.length_toList, sm_len hE] at this
    omega
  rw [e1]
  dsimp only [Option.map]
  refine wpAny_bind (wpAny_setField hoi hdi (by simp) ?_)
  show wpAny _ _ (newExc (.type "StopIteration") [] >>= _) _ _ _
  refine wpAny_bind ?_
  simp only [newExc, newTuple]
  refine wpAny_bind (wpAny_newObj_type ?_ (by size_fits))
  refine wpAny_bind (m := firstArgMember _ _) (wpAny_of_eq (a := Value.none) (by first | rfl | (simp only [firstArgMember]; rfl)) ?_)
  refine wpAny_newObj_type ?_ (by size_fits)
  simp only [raiseNew]
  refine wpAny_bind (wpAny_handled ?_)
  rw [show A.in1.handled = none from hh]
  refine wpAny_bind (wpAny_pure (wpAny_throw ?_))
  refine wpAny_bind (wpAny_isInstance (T := "StopIteration") (b := true) ⟨_, Heap.get?_push_size _ rfl, rfl⟩ isSubtype_stop ?_)
  exact wpAny_pure (hQ _ (((Heap.SameBut.update ..).extBut.push _).push _))
end
end L2
end
section
set_option Elab.async false
set_option maxRecDepth 100000
set_option linter.unusedVariables false
set_option linter.unusedSimpArgs false
set_option maxHeartbeats 4000000
namespace L2
open PySem PySem.Spec PySem.F PyProof.Rows
section
variable {prog : Program} {w : World} {A : Around} {E : Value → Shared → Prop} {s : Shared} {a I : Addr} {o : Obj} {es : Array (Int × Value)} {ep : Nat} {t : SetTable} {ms : List Nat}
theorem iter_si {n i : Nat} {Q : Value → Shared → Prop} (x : SmIt w ms I a n i ep s.heap) (h : Q (.ref I) s) : wpAny (model prog w) A (pyIter (.ref I)) Q E s := by
  have hT := siT (h := s.heap) x
  refine wpAny_pyIter_slot hT slot_siIter (wpAny_call_entry slot_siIter hT entry_siIter ?_ (args_siIter _))
  show wpAny _ _ (ret (.ref I)) _ _ s
  exact wpAny_pure ⟨_, rfl, "set_iterator", _, hT, slot_siNext.lookup, h⟩
theorem SmIt.keep {n i : Nat} {h h' : Heap} (x : SmIt w ms I a n i ep h) (e : ∀ o, h.get? I = some o → h'.get? I = some o) : SmIt w ms I a n i ep h' := by
  obtain ⟨o, sl, h1, r⟩ := x
  exact ⟨o, sl, e o h1, r⟩
theorem walk_sm (hh : A.handled = none) (ne : a ≠ I) (hd : o.data = .set es ep t) (hT : SmT (bytext w) t ms) (hE : SmE es.toList ms) (hm : ms ∈ smalls) :
    Walks prog w A I [I, a] [I] es.size (fun i v => ∃ e, (pk w a ep es)[i]? = some e ∧ v = e.2) (fun i h => SmIt w ms I a es.size i ep h ∧ h.get? a = some o) where
  sub := fun b hb => by simp at hb; simp [hb]
  frame := fun _ _ _ st hk => ⟨st.1.keep fun o e => hk I (by simp) o e, hk a (by simp) _ st.2⟩
  item := fun i s Q E hi st hQ => by
    have hz := (pk_perm w a ep es).length_eq
    rw [Array.length_toList, Array.length_toList] at hz
    have hv : (pk w a ep es)[i]? = some ((pk w a ep es)[i]'(by omega)) := Array.getElem?_eq_getElem _
    refine next_item st.1 st.2 hd hT hE hm hv (by rw [← sm_len hE]; exact hi) fun h' hI' sb => ?_
    exact hQ _ h' s.toks ⟨_, hv, rfl⟩ ⟨hI', by rw [sb.2 a ne]; exact st.2⟩ fun b o hb e => sb.extBut b o (fun h => hb (by simp [h])) e
  done := fun s Q E st hQ => next_end hh (by have := st.1; rw [sm_len hE] at this ⊢; exact this) st.2 hd hT hE hm fun h' eb => hQ h' s.toks fun b o hb e => eb b o (fun h => hb (by simp [h])) e
  self := fun _ _ _ _ st hQ => iter_si st.1 hQ
theorem hint_sm (hT : s.TypeIs (.ref a) "set") {Q : Bool → Shared → Prop} (h : Q false s) : wpAny (model prog w) A (Builtin.List.listLengthHint (.ref a)) Q E s := by
  unfold Builtin.List.listLengthHint
  refine wpAny_bind (wpAny_specialOf hT F.slot_set_len.lookup ?_)
  generalize hid : ("set.__len__" : String) = id0
  wp_delta
  rw [show splitId id0 = some ("set", "__len__") from by subst hid; decide +kernel]
  subst hid
  refine wpAny_bind (wpAny_isInstance (T := "set") (b := true) hT sub_set_self ?_)
  refine wpAny_ite_split (fun z => absurd z (by decide)) fun _ => ?_
  refine wpAny_ite_split (fun _ => ?_) fun z => absurd (by decide +kernel) z
  refine wpAny_bind (wpAny_typeOf hT ?_)
  exact wpAny_pure h
theorem setIter_sm (ho : s.heap.get? a = some o) (hex : o.ExactSet) (hd : o.data = .set es ep t) (hT : SmT (bytext w) t ms) (hE : SmE es.toList ms) (hm : ms ∈ smalls) {Q : Value → Shared → Prop}
    (hQ : Q (.ref s.heap.objs.size) { s with heap := s.heap.push { cls := .type "set_iterator", data := .fields #[.int 0 0, .int 0 0, .ref a, .int es.size 0, .int ep 0] } }) : wpAny (model prog w) A (pyIter (.ref a)) Q E s := by
  have hf := sm_fits hT hE hm
  have hty : s.TypeIs (.ref a) "set" := ⟨o, ho, hex.1⟩
  refine wpAny_pyIter_slot hty F.slot_set_iter (wpAny_call_entry F.slot_set_iter hty entry_setIter ?_ (F.args_set_iter_1 _))
  unfold Builtin.«frozenset.__iter__»
  refine wpAny_bind ?_
  unfold Builtin.Frozenset.slot0
  refine wpAny_bind (wpAny_pure ?_)
  unfold Builtin.Frozenset.addrOf
  refine wpAny_pure ?_
  refine wpAny_bind ?_
  unfold Builtin.Frozenset.sizeOf setEntries
  refine wpAny_bind (wpAny_bind (wpAny_setState_of ho hd hf (wpAny_pure (wpAny_pure ?_))))
  refine wpAny_bind ?_
  unfold setDrawn
  refine wpAny_bind (wpAny_setState_of ho hd hf ?_)
  dsimp only
  unfold setsByText
  refine wpAny_bind (wpAny_bind (wpAny_askSetting (wpAny_pure (wpAny_pure ?_))))
  show wpAny _ _ (if (!(w.params.followText "set-order") && (!t.plain && decide (es.size > 1))) = true then _ else _) _ _ _
  rw [if_neg (by rw [hT.plain]; simp)]
  refine wpAny_bind (wpAny_pure ?_)
  refine wpAny_bind (wpAny_setEpoch_of ho hd hf ?_)
  refine wpAny_bind ?_
  unfold newFields
  refine wpAny_newObj_type ?_
  exact wpAny_pure ⟨_, rfl, "set_iterator", _, ⟨_, Heap.get?_push_size _ rfl, rfl⟩, slot_siNext.lookup, hQ⟩
theorem src_sm (hex : o.ExactSet) (hd : o.data = .set es ep t) (hT : SmT (bytext w) t ms) (hE : SmE es.toList ms) (hm : ms ∈ smalls) :
    PySem.W.KdlSrc prog w "set" a a es.size (fun i v => ∃ e, (pk w a ep es)[i]? = some e ∧ v = e.2) (fun h => h.get? a = some o) where
  type := fun _ hm => ⟨o, hm, hex.1⟩
  there := fun _ ho => ⟨Heap.lt_size ho, Heap.lt_size ho⟩
  keep := fun _ _ ho hk => hk a (.inl rfl) o ho
  notList := by decide
  notTuple := by decide
  hint := fun _ _ _ _ ho hq => hint_sm ⟨o, ho, hex.1⟩ hq
  iter := fun A s hh ho => ⟨_, _, (fun _ _ hq => setIter_sm ho hex hd hT hE hm hq), walk_sm hh (Nat.ne_of_lt (Heap.lt_size ho)) hd hT hE hm, ⟨⟨_, 0, Heap.get?_push_size _ rfl, rfl, rfl, .inr rfl⟩, Heap.get?_push_of_some _ ho⟩⟩
theorem ints_of : ∀ {l : List (Int × Value)}, (∀ e ∈ l, ∃ tk, e.2 = Value.int e.1 tk) → IntsAre (l.map (·.2)) (l.map (·.1))
  | [], _ => .nil
  | (i, v) :: r, h => by
    obtain ⟨tk, e⟩ := h (i, v) List.mem_cons_self
    have e : v = .int i tk := e
    subst e
    exact .cons i tk (ints_of fun e he => h e (List.mem_cons_of_mem _ he))
theorem SmE.vals : ∀ {l : List (Int × Value)} {ms : List Nat}, SmE l ms → l.map (·.1) = ms.map (fun (m : Nat) => (m : Int)) ∧ ∀ e ∈ l, ∃ tk, e.2 = Value.int e.1 tk
  | _, _, .nil => ⟨rfl, fun e he => absurd he (by simp)⟩
  | _, _, .cons (a := e) (b := m) h r => by
    obtain ⟨h1, tk, h2⟩ := h
    obtain ⟨q1, q2⟩ := SmE.vals r
    refine ⟨by rw [List.map_cons, List.map_cons, q1, h1], fun e' he => ?_⟩
    rcases List.mem_cons.mp he with rfl | he
    · exact ⟨tk, by rw [h2, h1]⟩
    · exact q2 e' he
theorem collect_gr {r d : Addr} {n : Nat} {T : String} {P : Nat → Value → Prop} {OK : Heap → Prop} {R : List Value → Shared → Prop} (K : PySem.W.KdlSrc prog w T r d n P OK) (hh : A.handled = none) (hok : OK s.heap) (hn : n ≤ sizeLine)
    (h : ∀ (h' : Heap) (tk : Nat) (acc : Array Value), (∀ b o, s.heap.get? b = some o → h'.get? b = some o) → s.heap.objs.size < h'.objs.size → ItemsOf P acc n → R acc.toList { s with heap := h', toks := tk }) : wpAny (model prog w) A (collect (.ref r)) R E s := by
  have lt := K.there _ hok
  unfold collect
  refine wpAny_bind (wpAny_runValue (codeAny_builtin PyProof.Rows.entry_proto_collect' ?_))
  rw [Around.under_plainId PySem.F.plain_proto_collect _]
  show wpAny _ A.in1 (newList [] >>= fun l => again (.builtin "list.__iadd__" ⟨[l, .ref r], []⟩)) _ _ s
  refine wpAny_bind (wpAny_newObj_type ?_)
  refine wpAny_pure ⟨plainId_quiet PySem.F.plain_list_iadd _, codeAny_builtin PyProof.Rows.entry_list_iadd' ?_⟩
  rw [Around.under_plainId PySem.F.plain_list_iadd _]
  have nw : (s.heap.push { cls := .type "list", data := .seq ([] : List Value).toArray }).get? s.heap.objs.size = some { cls := .type "list", data := .seq #[] } := Heap.get?_push_size _ rfl
  show wpAny _ A.in1 (Builtin.List.listExtendWith (.ref s.heap.objs.size) (.ref r) (.ref s.heap.objs.size)) _ _ _
  have key := PySem.W.kdl_extend (A := A) (s := { s with heap := s.heap.push { cls := .type "list", data := .seq ([] : List Value).toArray } })
    (R := fun (q : Result) (s' : Shared) => ∃ (h' : Heap) (tk : Nat) (acc : Array Value) (c : Nat), q = .ok (.ret (.ref s.heap.objs.size)) ∧ s' = { s with heap := h', toks := tk } ∧
      (∀ b o, s.heap.get? b = some o → h'.get? b = some o) ∧ h'.get? s.heap.objs.size = some { cls := .type "list", dict := none, data := .seq acc c, slots := #[] } ∧ ItemsOf P acc n)
    K hh (K.keep _ _ hok fun b _ o e => Heap.get?_push_of_some _ e) s.heap.objs.size (Nat.ne_of_gt lt.1) (Nat.ne_of_gt lt.2) (.ref s.heap.objs.size) 0 nw
    (fun h' tk acc c hk hS ha => ⟨h', tk, acc, c, rfl, rfl, fun b o e => hk b o (Nat.ne_of_lt (Heap.lt_size e)) (Heap.get?_push_of_some _ e), hS, ha⟩) hn
  refine wpAny_mono key (fun fin s' x => ?_) fun e s' x => ?_
  · cases fin with
    | done f =>
      obtain ⟨h', tk, acc, c, e, rfl, hk, hS, ha⟩ := x
      cases e
      show wpAny _ A (load s.heap.objs.size >>= _) _ _ _
      exact wpAny_bind (wpAny_load hS (wpAny_pure (h h' tk acc hk (Heap.lt_size hS) ha)))
    | again c1 =>
      refine ⟨x.1, codeAny_mono x.2 fun q s2 y => ?_⟩
      obtain ⟨h', tk, acc, c, rfl, rfl, hk, hS, ha⟩ := y
      show wpAny _ A (load s.heap.objs.size >>= _) _ _ _
      exact wpAny_bind (wpAny_load hS (wpAny_pure (h h' tk acc hk (Heap.lt_size hS) ha)))
  · obtain ⟨_, _, _, _, z, _⟩ := x
    cases z
theorem sorted_sm (hh : A.handled = none) (hS : SmAt w a ms s.heap) {Q : Value → Shared → Prop}
    (h : ∀ (h' : Heap) (tk : Nat) (L : Addr) (its : List Value) (ns : List Int) (n : Nat), (∀ b o, s.heap.get? b = some o → h'.get? b = some o) → s.heap.objs.size ≤ L → h'.get? L = some { cls := .type "list", data := .seq its.toArray n } → IntsAre its ns →
      ns.Perm (ms.map (fun (m : Nat) => (m : Int))) → ns.Pairwise (· ≤ ·) → Q (.ref L) { s with heap := h', toks := tk }) : wpAny (model prog w) A (call (.builtin "sorted") [.ref a]) Q E s := by
  obtain ⟨o, es, ep, t, ho, hex, hd, hT, hE, hm⟩ := hS
  have hz := (pk_perm w a ep es).length_eq
  rw [Array.length_toList, Array.length_toList] at hz
  have h4 := small_len ms hm
  have hn : es.size ≤ 4 := by rw [sm_len hE]; exact h4
  refine PySem.Calls.call_function_entry kind_sorted plain_sorted entry_sorted (args_sorted1 _) ?_
  unfold Builtin.«sorted»
  refine wpAny_bind (m := checkCount "sorted" 1 1 _) (wpAny_pure ?_)
  refine wpAny_bind (collect_gr (A := A.in1) (src_sm (prog := prog) hex hd hT hE hm) hh ho (by rw [sizeLine_eq]; omega) fun h' tk acc hk hgr hacc => ?_)
  have el : acc.toList = (pk w a ep es).toList.map (·.2) := by
    apply List.ext_getElem?
    intro j
    by_cases hj : j < es.size
    · have e1 : acc[j]? = some (acc[j]'(by rw [hacc.1]; exact hj)) := Array.getElem?_eq_getElem _
      obtain ⟨e, he, hv⟩ := hacc.2 j _ e1
      rw [List.getElem?_map, Array.getElem?_toList, Array.getElem?_toList, he, e1, hv]; rfl
    · rw [List.getElem?_eq_none (by rw [Array.length_toList, hacc.1]; omega), List.getElem?_eq_none (by rw [List.length_map, Array.length_toList, hz]; omega)]
  obtain ⟨v1, v2⟩ := hE.vals
  have hi : IntsAre acc.toList ((pk w a ep es).toList.map (·.1)) := by
    rw [el]; exact ints_of fun e he => v2 e ((pk_perm w a ep es).mem_iff.mp he)
  have hp : ((pk w a ep es).toList.map (·.1)).Perm (ms.map (fun (m : Nat) => (m : Int))) := by rw [← v1]; exact (pk_perm w a ep es).map _
  have hl : acc.toList.length = es.size := by rw [Array.length_toList]; exact hacc.1
  refine wpAny_bind (wpAny_newList ?_ (by rw [hl, sizeLine_eq]; omega))
  have hob : (h'.push { cls := .type "list", data := .seq acc.toList.toArray }).get? h'.objs.size = some { cls := .type "list", data := .seq acc.toList.toArray } := Heap.get?_push_size _ rfl
  refine wpAny_bind (wpAny_holding (wpAny_call_entry PyProof.Rows.slot_list_sort ⟨_, hob, rfl⟩ PyProof.Rows.entry_list_sort
    (PyProof.Rows.list_sort_tree hob hi (by rw [hi.length, List.length_map, Array.length_toList]; omega) fun out ns' h1 h2 h3 => ⟨.none, rfl, ?_⟩) (PyProof.Rows.args_list_sort _)))
  obtain ⟨ep', he'⟩ := PyProof.Rows.sortedHeap_at (vs := acc.toList) (out := out) hob
  have hle : s.heap.objs.size ≤ h'.objs.size := Nat.le_of_lt hgr
  refine wpAny_pure ⟨_, rfl, h _ _ _ out.toList ns' ep' (fun b u hu => ?_) hle he' h1 (h2.trans hp) h3⟩
  have hu' := hk b u hu
  rw [PyProof.Rows.sortedHeap_old (Nat.ne_of_lt (Heap.lt_size hu')) (by rw [Heap.size_push]; exact Nat.lt_succ_of_lt (Heap.lt_size hu'))]
  exact Heap.get?_push_of_some _ hu'
end
section
variable {X : Cx}
def rSetSm (w : World) (K : PySem.W.Frag) : List V → Hp → VK → Prop := fun vs H Q => ∃ (a : Addr) (ks : List Nat), vs = [V.ref a] ∧ SqL K H a (ks.map fun (k : Nat) => V.int (k : Int)) ∧ (∀ k ∈ ks, k < 4) ∧ ∀ p, H p = none → Q (.ref p) (upd H p (.ext (SmAt w p (foldN [] ks))))
theorem vals_at : ∀ {its : List Value} {ks : List Nat}, Vals (ks.map fun (k : Nat) => V.int (k : Int)) its → ∀ (i : Nat) (v : Value), its[i]? = some v → ∃ k t, ks[i]? = some k ∧ v = Value.int (k : Int) t
  | _, [], .nil, i, v, h => by simp at h
  | _, k :: ks, .cons h r, 0, v, e => by
    obtain ⟨t, rfl⟩ := h
    simp at e; subst e
    exact ⟨k, t, rfl, rfl⟩
  | _, k :: ks, .cons h r, i + 1, v, e => by
    obtain ⟨k', t, e1, e2⟩ := vals_at r i v (by simpa using e)
    exact ⟨k', t, by simpa using e1, e2⟩
theorem k_setSm (hc : X.calm = true) : CallR X (.type "set") (rSetSm X.w X.K) := by
  intro pins s σ H vs us Q I r h
  obtain ⟨a, ks, rfl, hs, h4, q⟩ := h
  obtain ⟨its, rv, hl, _⟩ := I.list hs
  rw [Vals.ref1 r]
  refine call_sm (I.ok.hd hc) hl.isList (ks := ks) (by rw [List.size_toArray, ← rv.length, List.length_map]) h4 (fun i v e => vals_at rv i v (by simpa using e)) fun h' tk hS hk => ?_
  have hS' := hS
  obtain ⟨o, _, _, _, ho, _⟩ := hS'
  exact ⟨.ref s.heap.objs.size, _, I.laid (t' := tk) (o := .ext (SmAt X.w s.heap.objs.size (foldN [] ks))) (fun b ob e => hk b ob (Heap.lt_size e) e) (Nat.le_refl _) ⟨hS, ⟨o, ho⟩, fun h1 h2 x e => x.keep e⟩, rfl, q _ (I.hok.fresh (Nat.le_refl _))⟩
def rSortSm (w : World) : List V → Hp → VK → Prop := fun vs H Q => ∃ (p : Addr) (ms : List Nat), vs = [V.ref p] ∧ H p = some (.ext (SmAt w p ms)) ∧
  ∀ (ns : List Int) (L : Addr), ns.Perm (ms.map fun (m : Nat) => (m : Int)) → ns.Pairwise (· ≤ ·) → H L = none → Q (.ref L) (upd H L (.lst (ns.map V.int)))
theorem k_sortSm (hc : X.calm = true) : CallR X (.builtin "sorted") (rSortSm X.w) := by
  intro pins s σ H vs us Q I r h
  obtain ⟨p, ms, rfl, hp, q⟩ := h
  rw [Vals.ref1 r]
  have hS : SmAt X.w p ms s.heap := (I.hok p _ hp).1
  refine sorted_sm (I.ok.hd hc) hS fun h' tk L its ns n hk hL hg hi pm pw => ?_
  have hlen : (ns.map V.int).length ≤ sizeLine := by
    obtain ⟨_, _, _, _, _, _, _, _, _, hm⟩ := hS
    rw [List.length_map, pm.length_eq, List.length_map, sizeLine_eq]
    have := small_len ms hm; omega
  exact ⟨.ref L, upd H L (.lst (ns.map V.int)), I.laid (t' := tk) (fun b u e => hk b u e) hL ⟨hlen, its, n, vals_of_ints hi, hg⟩, rfl, q ns L pm pw (I.hok.fresh hL)⟩
end
end L2
end
section
set_option Elab.async false
set_option maxRecDepth 100000
set_option linter.unusedVariables false
set_option linter.unusedSimpArgs false
set_option maxHeartbeats 4000000
namespace L2
open PySem PySem.Spec PySem.F PyProof.Rows
section
variable {prog : Program} {w : World} {A : Around} {R : Result → Shared → Prop} {I : Addr} {fp wr : List Addr} {n : Nat} {P : Nat → Value → Prop} {St : Nat → Heap → Prop} {kw : List (Str × Value)}
theorem maxd_loop (W : Walks prog w A.in1 I fp wr n P St) (bt : Nat → Nat → Bool) (cmp : CmpOf prog w A.in1 .Gt P bt) (S : Addr) (out : S ∉ fp) :
    ∀ (m j : Nat) (s : Shared) (b : Value) (c : Nat), n - (j + 1) = m → j + 1 ≤ n → St (j + 1) s.heap → P (argBest bt j) b → s.heap.get? S = some { cls := .type "list", dict := none, data := .seq #[b, b] c, slots := #[] } →
      (∀ v h' tk, P (argBest bt (n - 1)) v → (∀ q o, q ∉ wr → q ≠ S → s.heap.get? q = some o → h'.get? q = some o) → R (.ok (.ret v)) { s with heap := h', toks := tk }) →
      codeAny (model prog w) A (.builtin "max.loop" ⟨[.ref I, .none, .ref S], kw⟩) R s := by
  have outw : S ∉ wr := fun z => out (W.sub _ z)
  have nm : (toString "max" ++ toString ".loop" : String) = "max.loop" := by decide
  intro m
  induction m with
  | zero =>
    intro j s b c hm hj st hb hS hR
    have ej : j + 1 = n := by omega
    refine codeAny_builtin F.entry_max_loop ?_
    rw [Around.under_plainId F.plain_max_loop _]
    show wpAny _ A.in1 (seqItems? (.ref S) >>= _) _ _ s
    refine wpAny_bind (wpAny_seqItems hS rfl ?_)
    show wpAny _ A.in1 (tryCatch (pyNext (.ref I)) _ >>= _) _ _ s
    refine wpAny_bind (wpAny_tryCatch (W.done s _ _ (ej ▸ st) fun h1 tk k1 => ?_))
    have hS1 := k1 S _ outw hS
    show wpAny _ A.in1 (updateSeq S (fun _ => #[]) >>= _) _ _ _
    refine wpAny_bind ?_
    refine wpAny_updateSeq hS1 rfl (wpAny_bind (wpAny_letGo (wpAny_pure ?_)))
    exact hR b _ tk (by rw [← ej]; exact hb) fun q o qw qS e => (Heap.get?_update_other _ _ (Ne.symm qS)).trans (k1 q o qw e)
  | succ m ih =>
    intro j s b c hm hj st hb hS hR
    have lt : j + 1 < n := by omega
    refine codeAny_builtin F.entry_max_loop ?_
    rw [Around.under_plainId F.plain_max_loop _]
    show wpAny _ A.in1 (seqItems? (.ref S) >>= _) _ _ s
    refine wpAny_bind (wpAny_seqItems hS rfl ?_)
    show wpAny _ A.in1 (tryCatch (pyNext (.ref I)) _ >>= _) _ _ s
    refine wpAny_bind (wpAny_tryCatch (W.item (j + 1) s _ _ lt st fun v h1 tk hP st1 k1 => ?_))
    have hS1 := k1 S _ outw hS
    show wpAny _ A.in1 (tryCatch (holding [v, v] (richCompare .Gt v b >>= _)) _ >>= _) _ _ _
    refine wpAny_bind (wpAny_tryCatch (wpAny_holding (wpAny_bind (cmp (j + 1) (argBest bt j) v b _ _ _ hP hb ?_))))
    refine wpAny_bind (wpAny_holding (wpAny_truthy_bool ?_))
    refine wpAny_bind (wpAny_letGo (wpAny_pure ?_))
    cases q : bt (j + 1) (argBest bt j) with
    | true =>
      simp only [if_true]
      refine wpAny_bind ?_
      refine wpAny_updateSeq hS1 rfl (wpAny_bind (wpAny_letGo ?_))
      rw [nm]
      refine wpAny_pure ⟨plainId_quiet F.plain_max_loop _, ih (j + 1) _ v _ (by omega) lt (W.frame _ _ _ st1 fun p hp o e => ?_) (by simp only [argBest, q, if_true]; exact hP) (Heap.get?_update_self _ hS1 rfl) fun v' h2 tk2 hP2 k2 => ?_⟩
      · exact (Heap.get?_update_other _ _ (fun z : S = p => out (by rw [z]; exact hp))).trans e
      · exact hR v' h2 tk2 hP2 fun p o pw pS e => k2 p o pw pS ((Heap.get?_update_other _ _ (Ne.symm pS)).trans (k1 p o pw e))
    | false =>
      simp only [Bool.false_eq_true, if_false]
      refine wpAny_bind (wpAny_letGo ?_)
      rw [nm]
      refine wpAny_pure ⟨plainId_quiet F.plain_max_loop _, ih (j + 1) _ b c (by omega) lt st1 (by simp only [argBest, q, Bool.false_eq_true, if_false]; exact hb) hS1 fun v' h2 tk2 hP2 k2 => ?_⟩
      exact hR v' h2 tk2 hP2 fun p o pw pS e => k2 p o pw pS (k1 p o pw e)
theorem maxd_first {d : Value} {s : Shared} {c : Nat} (W : Walks prog w A.in1 I fp wr n P St) (bt : Nat → Nat → Bool) (cmp : CmpOf prog w A.in1 .Gt P bt) (S : Addr) (out : S ∉ fp) (st : St 0 s.heap)
    (hS : s.heap.get? S = some { cls := .type "list", dict := none, data := .seq #[] c, slots := #[] })
    (hR : ∀ v h' tk, ((n = 0 ∧ v = d) ∨ (0 < n ∧ P (argBest bt (n - 1)) v)) → (∀ q o, q ∉ wr → q ≠ S → s.heap.get? q = some o → h'.get? q = some o) → R (.ok (.ret v)) { s with heap := h', toks := tk }) :
    codeAny (model prog w) A (.builtin "max.loop" ⟨[.ref I, .none, .ref S], [("default", d)]⟩) R s := by
  have outw : S ∉ wr := fun z => out (W.sub _ z)
  have nm : (toString "max" ++ toString ".loop" : String) = "max.loop" := by decide
  refine codeAny_builtin F.entry_max_loop ?_
  rw [Around.under_plainId F.plain_max_loop _]
  show wpAny _ A.in1 (seqItems? (.ref S) >>= _) _ _ s
  refine wpAny_bind (wpAny_seqItems hS rfl ?_)
  show wpAny _ A.in1 (tryCatch (pyNext (.ref I)) _ >>= _) _ _ s
  by_cases hn : n = 0
  · subst hn
    refine wpAny_bind (wpAny_tryCatch (W.done s _ _ st fun h1 tk k1 => ?_))
    refine wpAny_bind (wpAny_rule ?_)
    exact wpAny_pure (hR d h1 tk (.inl ⟨rfl, rfl⟩) fun q o qw _ e => k1 q o qw e)
  · have hn : 0 < n := by omega
    refine wpAny_bind (wpAny_tryCatch (W.item 0 s _ _ hn st fun v h1 tk hP st1 k1 => ?_))
    have hS1 := k1 S _ outw hS
    show wpAny _ A.in1 (updateSeq S (fun _ => #[v, v]) >>= _) _ _ _
    refine wpAny_bind ?_
    refine wpAny_updateSeq hS1 rfl ?_
    rw [nm]
    refine wpAny_pure ⟨plainId_quiet F.plain_max_loop _, maxd_loop W bt cmp S out _ 0 _ v _ rfl hn (W.frame _ _ _ st1 fun p hp o e => ?_) hP (Heap.get?_update_self _ hS1 rfl) fun v' h2 tk2 hP2 k2 => ?_⟩
    · exact (Heap.get?_update_other _ _ (fun z : S = p => out (by rw [z]; exact hp))).trans e
    · exact hR v' h2 tk2 (.inr ⟨hn, hP2⟩) fun p o pw pS e => k2 p o pw pS ((Heap.get?_update_other _ _ (Ne.symm pS)).trans (k1 p o pw e))
end
section
variable {prog : Program} {w : World} {A : Around} {E : Value → Shared → Prop} {s : Shared} {l : Addr} {its : List Value} {ns : List Int} {Q : Value → Shared → Prop}
theorem args_maxd (a d : Value) : argsOk "max" ⟨[a], [("default", d)]⟩ := by unfold argsOk; kernel_rfl
theorem call_maxd {d : Value} (hh : A.handled = none) (hl : s.heap.IsList l its.toArray) (hi : IntsAre its ns)
    (h : ∀ h' tk v, (∀ b o, s.heap.get? b = some o → h'.get? b = some o) → ((ns = [] ∧ v = d) ∨ ∃ M t, v = Value.int M t ∧ M ∈ ns ∧ ∀ a, a ∈ ns → a ≤ M) → Q v { s with heap := h', toks := tk }) : wpAny (model prog w) A (call (.builtin "max") [.ref l] [("default", d)]) Q E s := by
  obtain ⟨xs, e⟩ := hi.allInts.items
  have hn : numsOf (intItems xs).toList = ns := by rw [← e]; exact hi.numsOf
  rw [nums_intItems] at hn
  subst hn
  rw [e] at hl
  have hlt : l < s.heap.objs.size := by obtain ⟨_, q, _⟩ := hl; exact Heap.lt_size q
  have nm : (toString "max" ++ toString ".loop" : String) = "max.loop" := by decide
  refine wpAny_call (codeAny_call_builtin F.plain_max F.entry_max ?_)
  simp only [checkBuiltinCall, F.kind_max]
  have fin : wpAny (model prog w) A.in1 (Builtin.«max» ⟨[.ref l], [("default", d)]⟩) (fun fin s' => match fin with
      | .done f => (match (Except.ok f : Result) with | .ok (.ret v) => Q v s' | .ok _ => False | .error e => E e s')
      | .again c' => c'.quiet = true ∧ codeAny (model prog w) A c' (fun r s' => match r with | .ok (.ret v) => Q v s' | .ok _ => False | .error e => E e s') s') E s := by
    show wpAny _ A.in1 (Builtin.Builtins.bindParams "max" ["key", "default"] 0 ⟨[], [("default", d)]⟩ >>= _) _ _ s
    refine wpAny_bind (wpAny_of_eq (show Builtin.Builtins.bindParams "max" ["key", "default"] 0 ⟨[], [("default", d)]⟩ = pure [none, some d] from rfl) ?_)
    refine wpAny_bind (wpAny_pure ?_)
    refine wpAny_bind (wpAny_pyIter_list hl ?_)
    refine wpAny_bind (wpAny_newObj_type ?_)
    rw [nm]
    have ne : l ≠ s.heap.objs.size := Nat.ne_of_lt hlt
    refine wpAny_pure ⟨plainId_quiet F.plain_max_loop _, maxd_first (Walks.list (A := A.in1) hh _ l ne (intItems xs)) (fun i j => decide (numAt xs i > numAt xs j)) (CmpOf.ints_gt (numAt xs) (fun _ _ => intItems_at)) _ ?_ ?_ (Heap.get?_push_size _ rfl) fun v h' tk hv hk => ?_⟩
    · simp only [List.mem_cons, List.not_mem_nil, or_false, not_or]
      rw [Heap.size_push]
      exact ⟨Nat.ne_of_gt (Nat.lt_succ_self _), Nat.ne_of_gt (Nat.lt_succ_of_lt hlt)⟩
    · exact ⟨Heap.IsListIter.at (h := s.heap.push _) ⟨_, Heap.get?_push_size _ rfl, rfl, rfl⟩ fun o e => Heap.get?_push_of_some _ e, (hl.push _).push _⟩
    · refine h h' tk v (fun b o q => ?_) ?_
      · have hb := Heap.lt_size q
        refine hk b o (fun z => ?_) ?_ (Heap.get?_push_of_some _ (Heap.get?_push_of_some _ q))
        · rw [List.mem_singleton] at z; rw [z] at hb; exact Nat.lt_irrefl _ hb
        · rw [Heap.size_push]; exact Nat.ne_of_lt (Nat.lt_succ_of_lt hb)
      · rcases hv with ⟨hz, rfl⟩ | ⟨hz, hv⟩
        · left
          refine ⟨?_, rfl⟩
          have : xs.size = 0 := by simpa [intItems] using hz
          simp [Array.eq_empty_of_size_eq_zero this]
        · right
          have hz : 0 < xs.size := by simpa [intItems] using hz
          have hv : (intItems xs)[argBest (fun i j => decide (numAt xs i > numAt xs j)) (xs.size - 1)]? = some v := by simpa [intItems] using hv
          obtain ⟨t, rfl⟩ := intItems_at hv
          obtain ⟨h1, h2⟩ := argBest_gt (numAt xs) (xs.size - 1)
          refine ⟨_, t, rfl, ?_, fun a ha => ?_⟩
          · rw [numAt_eq]; exact PySem.getD_mem (by rw [List.length_map, Array.length_toList]; omega)
          · obtain ⟨j, hj, rfl⟩ := mem_getD ha
            rw [List.length_map, Array.length_toList] at hj
            rw [← numAt_eq]; exact h2 j (by omega)
  cases hsig : Manifest.signature? "max" with
  | none => exact wpAny_pure fin
  | some sig =>
    have ha := args_maxd (.ref l) d
    unfold argsOk at ha
    rw [hsig] at ha
    have h2 : Bind.checkArgs "max" sig ⟨[.ref l], [("default", d)]⟩ = pure () := ha
    show wpAny _ A.in1 (Bind.checkArgs "max" sig ⟨[.ref l], [("default", d)]⟩) _ _ s
    rw [h2]; exact wpAny_pure fin
end
section
variable {X : Cx} {e d : Expr} {p pos kp : Pos} {t : TA} {td : TE}
theorem pe_maxd (hc : X.calm = true) (hg : Gl X "max") (hm : X.mg "max" = none) (ha : PA X [e] t) (hd : PE X d td)
    (hall : (backToKw pos (keywordEach [⟨some "default", d, kp⟩] X.env)).all (·.1.isSome) = true := by rfl) (hks : (backToKw pos (keywordEach [⟨some "default", d, kp⟩] X.env)).filterMap (·.1) = [("default" : Str)] := by rfl)
    (he : backTo pos (starEach [e] X.env) = (false, eval e X.env) :: backTo pos (starEach [] X.env) := by rfl) (hpl : (backTo pos (starEach [e] X.env)).any (·.1) = false := by rfl) (hkw : (backToKw pos (keywordEach [⟨some "default", d, kp⟩] X.env)).any (·.1.isNone) = false := by rfl) :
    PE X (.Call (.Name "max" p) [e] [⟨some "default", d, kp⟩] pos) (fun σ H Q => t σ H fun vs H1 => td σ H1 fun y H2 => ∃ a ns dd, vs = [V.ref a] ∧ y = V.int dd ∧ SqL X.K H2 a (ns.map V.int) ∧ (ns = [] → Q (.int dd) H2) ∧ ∀ m, m ∈ ns → (∀ z, z ∈ ns → z ≤ m) → Q (.int m) H2) := by
  intro pins s σ H Q I h
  refine wpAny_Call_Name_kw (ld_blt (u := .builtin "max") I hg hm (by decide +kernel) ?_ (by decide) (by decide))
  refine PyProof.Rows.callWith_kw (thn (ha pos pins s σ H _ I h) fun us s1 ⟨vs, H1, I1, r1, q1⟩ => ?_) he hpl hall hkw
  refine thn ((pk_cons (kpos := kp) (nm := some "default") hd pk_nil) pos pins s1 σ H1 (fun ys H2 => match ys with
    | [y] => ∃ a ns dd, vs = [V.ref a] ∧ y = V.int dd ∧ SqL X.K H2 a (ns.map V.int) ∧ (ns = [] → Q (.int dd) H2) ∧ ∀ m, m ∈ ns → (∀ z, z ∈ ns → z ≤ m) → Q (.int m) H2
    | _ => False) I1 q1) fun ws s2 ⟨zs, H2, I2, rz, q2⟩ => ?_
  match zs, rz, q2 with
  | [], _, q2 => exact q2.elim
  | _ :: _ :: _, _, q2 => exact q2.elim
  | [y], rz, q2 =>
    obtain ⟨a, ns, dd, rfl, rfl, hs, n0, n1⟩ := q2
    rw [hks]
    rw [Vals.ref1 r1]
    cases rz with
    | cons r0 rr =>
      cases rr
      obtain ⟨tk, rfl⟩ := r0
      obtain ⟨its, rv, hl, _⟩ := I2.list hs
      show wpAny _ _ (call (.builtin "max") [.ref a] [("default", .int dd tk)]) _ _ _
      refine call_maxd (I2.ok.hd hc) hl.isList rv.ints fun h' tk' v hk hv => ?_
      rcases hv with ⟨rfl, rfl⟩ | ⟨M, t', rfl, h1, h2⟩
      · exact ⟨.int dd, H2, I2.kept hk, ⟨_, rfl⟩, n0 rfl⟩
      · exact ⟨.int M, H2, I2.kept hk, ⟨_, rfl⟩, n1 M h1 h2⟩
end
end L2
end
section
set_option linter.unusedVariables false
set_option linter.unusedSimpArgs false
set_option maxHeartbeats 4000000
namespace L2
open PySem PySem.Spec PySem.F PyProof.Rows
def fourU (ns : List Int) : List Int := ([0, 1, 2, 3] : List Int).filter fun k => ns.contains k
theorem foldN_eq : ∀ (ks : List Nat) (ms : List Nat), ms ∈ smalls → (∀ k ∈ ks, k < 4) → foldN ms ks = (List.range 4).filter fun j => ms.contains j || ks.contains j
  | [], ms, hm, _ => by
    show ms = _
    have : ∀ ms ∈ smalls, ms = (List.range 4).filter fun j => ms.contains j || ([] : List Nat).contains j := by decide
    exact this ms hm
  | k :: ks, ms, hm, h => by
    have k4 := h k List.mem_cons_self
    show foldN (insN k ms) ks = _
    rw [foldN_eq ks _ (insN_small ms hm k k4) fun j hj => h j (List.mem_cons_of_mem _ hj)]
    apply List.filter_congr
    intro j hj
    have e : (insN k ms).contains j = (j == k || ms.contains j) := by
      have : ∀ ms ∈ smalls, ∀ k, k < 4 → ∀ j ∈ List.range 4, (insN k ms).contains j = (j == k || ms.contains j) := by decide
      exact this ms hm k k4 j hj
    rw [e, List.contains_cons]
    cases j == k <;> cases ms.contains j <;> simp
theorem four_eq {ns : List Int} {ks : List Nat} (e : ns = ks.map fun (k : Nat) => (k : Int)) (h : ∀ k ∈ ks, k < 4) : (foldN [] ks).map (fun (m : Nat) => (m : Int)) = fourU ns := by
  rw [foldN_eq ks [] (by decide) h]
  have c : ∀ j : Nat, ns.contains (j : Int) = ks.contains j := by
    intro j
    subst e
    rw [Bool.eq_iff_iff, List.contains_iff_mem, List.contains_iff_mem, List.mem_map]
    constructor
    · rintro ⟨a, ha, e⟩
      have : a = j := by omega
      subst this; exact ha
    · intro hj; exact ⟨j, hj, rfl⟩
  unfold fourU
  have : ([0, 1, 2, 3] : List Int) = (List.range 4).map fun (m : Nat) => (m : Int) := by decide
  rw [this, List.filter_map]
  congr 1
  apply List.filter_congr
  intro j hj
  show (([] : List Nat).contains j || ks.contains j) = ns.contains (j : Int)
  rw [c]; simp
theorem nat_list : ∀ {ns : List Int}, (ns.all fun k => decide (0 ≤ k ∧ k < 4)) = true → ∃ ks : List Nat, ns = ks.map (fun (k : Nat) => (k : Int)) ∧ ∀ k ∈ ks, k < 4
  | [], _ => ⟨[], rfl, fun k h => absurd h (by simp)⟩
  | n :: r, h => by
    rw [List.all_cons, Bool.and_eq_true] at h
    obtain ⟨ks, e, hk⟩ := nat_list h.2
    have h1 := of_decide_eq_true h.1
    refine ⟨n.toNat :: ks, by rw [List.map_cons, ← e]; congr 1; omega, fun k hk' => ?_⟩
    rcases List.mem_cons.mp hk' with rfl | hk'
    · omega
    · exact hk k hk'
section
variable {X : Cx} {S : Sx} {e d : Expr} {p p2 pos pos2 kp : Pos} {fe fd : EF}
noncomputable def sortSet (m : Bool) (u : U) (h : PH) : Option (U × PH) := ((its h u).bind intsU).bind fun ns => if (ns.all fun k => decide (0 ≤ k ∧ k < 4)) = true then mk m ((fourU ns).map .int) h else none
@[simp] noncomputable def eSortSet (m : Bool) (fe : EF) : EF := fun ρ h => bnd (fe ρ h) fun u h1 => sortSet m u h1
theorem s_sortSet (hf : Fit X S) {m : Bool} (hc : X.calm = true) (hg : Gl X "sorted") (hm : X.mg "sorted" = none) (hg2 : Gl X "set") (hm2 : X.mg "set" = none) (ha : PE X e (tS S fe))
    (he : starEach [.Call (.Name "set" p2) [e] [] pos2] X.env = (false, eval (.Call (.Name "set" p2) [e] [] pos2) X.env) :: starEach [] X.env := by rfl) (he2 : starEach [e] X.env = (false, eval e X.env) :: starEach [] X.env := by rfl)
    (hp : (backTo pos (starEach [] X.env)).any (·.1) = false := by rfl) (hp2 : (backTo pos2 (starEach [] X.env)).any (·.1) = false := by rfl) :
    PE X (.Call (.Name "sorted" p) [.Call (.Name "set" p2) [e] [] pos2] [] pos) (tS S (eSortSet m fe)) :=
  (pe_callB (id := "sorted") (k_sortSm hc) hg hm (by decide +kernel) (pa_cons (pe_callTy (T := "set") (k_setSm hc) hg2 hm2 (by decide +kernel) (pa_cons ha pa_nil he2) (by decide) (by decide) he2 hp2) pa_nil he) (by decide) (by decide) he hp).wk fun σ H Q ⟨α, ρ, h, re, rl, w, h3, e, k⟩ => by
  obtain ⟨u, h1, e1, e⟩ := bnd_eq e
  unfold sortSet at e
  cases q : (its h1 u).bind intsU with
  | none => rw [q] at e; cases e
  | some ns =>
    rw [q] at e
    have e : (if (ns.all fun k => decide (0 ≤ k ∧ k < 4)) = true then mk m ((fourU ns).map .int) h1 else none) = some (w, h3) := e
    by_cases hs : (ns.all fun k => decide (0 ≤ k ∧ k < 4)) = true
    case neg => rw [if_neg hs] at e; cases e
    rw [if_pos hs] at e
    obtain ⟨ks, en, h4⟩ := nat_list hs
    cases q1 : its h1 u with
    | none => rw [q1] at q; cases q
    | some us =>
      rw [q1] at q
      have q : intsU us = some ns := q
      refine ⟨α, ρ, h, re, rl, u, h1, e1, fun α1 H1 x ex1 rl1 ru => ?_⟩
      obtain ⟨a, xs, rfl, hl, rs⟩ := its_of rl1 q1 ru
      rw [intsU_eq q] at rs
      have ex := rs.ints
      subst ex
      refine ⟨a, ks, rfl, ?_, h4, fun p hp => ?_⟩
      · have : (ks.map fun (k : Nat) => V.int (k : Int)) = ns.map V.int := by rw [en, List.map_map]; rfl
        rw [this]; rw [hf.K]; exact SqL.of hl
      · have ex2 := Ex.new hp rl1 (.ext (SmAt X.w p (foldN [] ks)))
        have rl2 := rl1.new hp (.ext (SmAt X.w p (foldN [] ks)))
        refine ⟨p, foldN [] ks, rfl, upd_same, fun ns' L pm pw hL => ?_⟩
        have e4 : ns' = fourU ns := by
          rw [← four_eq en h4]
          refine sort_uniq pm pw ?_
          rw [foldN_eq ks [] (by decide) h4]
          have : ∀ q : Nat → Bool, (((List.range 4).filter q).map fun (m : Nat) => (m : Int)).Pairwise (· ≤ ·) := by
            intro q
            rw [List.pairwise_map]
            refine List.Pairwise.filter _ ?_
            exact (show (List.range 4).Pairwise (fun (a b : Nat) => (a : Int) ≤ (b : Int)) from by decide)
          exact this _
        have p0 : PU S _ _ (mk m ((fourU ns).map .int) h1) Q := ⟨w, h3, e, fun α3 H3 y ex3 rl3 ry => k α3 H3 y ((ex1.trans ex2).trans ex3) rl3 ry⟩
        rw [e4]
        exact p0.mk rl2 (RUs.ofInts _) hL
@[simp] def eMaxD (fe fd : EF) : EF := fun ρ h => bnd (fe ρ h) fun u h1 => bnd (fd ρ h1) fun v h2 => match v with
  | .int d => ((its h2 u).bind intsU).bind fun ns => some (.int (if ns = [] then d else maxL ns), h2)
  | _ => none
theorem s_maxd (hf : Fit X S) (hc : X.calm = true) (hg : Gl X "max") (hm : X.mg "max" = none) (ha : PE X e (tS S fe)) (hd : PE X d (tS S fd)) (he2 : starEach [e] X.env = (false, eval e X.env) :: starEach [] X.env := by rfl)
    (hall : (backToKw pos (keywordEach [⟨some "default", d, kp⟩] X.env)).all (·.1.isSome) = true := by rfl) (hks : (backToKw pos (keywordEach [⟨some "default", d, kp⟩] X.env)).filterMap (·.1) = [("default" : Str)] := by rfl)
    (he : backTo pos (starEach [e] X.env) = (false, eval e X.env) :: backTo pos (starEach [] X.env) := by rfl) (hpl : (backTo pos (starEach [e] X.env)).any (·.1) = false := by rfl) (hkw : (backToKw pos (keywordEach [⟨some "default", d, kp⟩] X.env)).any (·.1.isNone) = false := by rfl) :
    PE X (.Call (.Name "max" p) [e] [⟨some "default", d, kp⟩] pos) (tS S (eMaxD fe fd)) :=
  (pe_maxd hc hg hm (pa_cons ha pa_nil he2) hd hall hks he hpl hkw).wk fun σ H Q ⟨α, ρ, h, re, rl, w, h3, e, k⟩ => by
  obtain ⟨u, h1, e1, e⟩ := bnd_eq e
  obtain ⟨v, h2, e2, e⟩ := bnd_eq e
  refine ⟨α, ρ, h, re, rl, u, h1, e1, fun α1 H1 x ex1 rl1 ru => ⟨α1, ρ, h1, re.ex ex1, rl1, v, h2, e2, fun α2 H2 y ex2 rl2 rv => ?_⟩⟩
  cases v with
  | int dd =>
    cases rv
    have e : (((its h2 u).bind intsU).bind fun ns => some (U.int (if ns = [] then dd else maxL ns), h2)) = some (w, h3) := e
    cases q1 : its h2 u with
    | none => rw [q1] at e; cases e
    | some us =>
      cases q : intsU us with
      | none => rw [q1] at e; have e : ((intsU us).bind fun ns => some (U.int (if ns = [] then dd else maxL ns), h2)) = some (w, h3) := e; rw [q] at e; cases e
      | some ns =>
        rw [q1] at e
        have e : ((intsU us).bind fun ns => some (U.int (if ns = [] then dd else maxL ns), h2)) = some (w, h3) := e
        rw [q] at e; cases e
        obtain ⟨a, xs, rfl, hl, rs⟩ := its_of rl2 q1 (ru.ex ex2)
        rw [intsU_eq q] at rs
        have ex := rs.ints
        subst ex
        refine ⟨a, ns, dd, rfl, rfl, by rw [hf.K]; exact SqL.of hl, fun e0 => ?_, fun m h1 h2' => ?_⟩
        · subst e0
          exact k α2 H2 _ (ex1.trans ex2) rl2 (.int _)
        · have hne : ns ≠ [] := by intro z; subst z; cases h1
          have em : m = maxL ns := Int.le_antisymm (maxL_ge h1) (h2' _ (maxL_mem hne))
          rw [em]
          have := k α2 H2 (.int (maxL ns)) (ex1.trans ex2) rl2
          rw [if_neg hne] at this
          exact this (.int _)
  | _ => cases e
end
theorem rsortSet {X : Cx} {S : Sx} {e : Expr} {p p2 pos pos2 : Pos} {fe : EF} (hf : Fit X S) {m : Bool} (hc : X.calm = true) (hg : Gl X "sorted") (hm : X.mg "sorted" = none) (hg2 : Gl X "set") (hm2 : X.mg "set" = none) (ha : SE X S e fe)
    (he : starEach [.Call (.Name "set" p2) [e] [] pos2] X.env = (false, eval (.Call (.Name "set" p2) [e] [] pos2) X.env) :: starEach [] X.env := by rfl) (he2 : starEach [e] X.env = (false, eval e X.env) :: starEach [] X.env := by rfl)
    (hp : (backTo pos (starEach [] X.env)).any (·.1) = false := by rfl) (hp2 : (backTo pos2 (starEach [] X.env)).any (·.1) = false := by rfl) :
    SE X S (.Call (.Name "sorted" p) [.Call (.Name "set" p2) [e] [] pos2] [] pos) (eSortSet m fe) := ⟨s_sortSet hf hc hg hm hg2 hm2 ha.h he he2 hp hp2⟩
theorem rmaxD {X : Cx} {S : Sx} {e d : Expr} {p pos kp : Pos} {fe fd : EF} (hf : Fit X S) (hc : X.calm = true) (hg : Gl X "max") (hm : X.mg "max" = none) (ha : SE X S e fe) (hd : SE X S d fd) (he2 : starEach [e] X.env = (false, eval e X.env) :: starEach [] X.env := by rfl)
    (hall : (backToKw pos (keywordEach [⟨some "default", d, kp⟩] X.env)).all (·.1.isSome) = true := by rfl) (hks : (backToKw pos (keywordEach [⟨some "default", d, kp⟩] X.env)).filterMap (·.1) = [("default" : Str)] := by rfl)
    (he : backTo pos (starEach [e] X.env) = (false, eval e X.env) :: backTo pos (starEach [] X.env) := by rfl) (hpl : (backTo pos (starEach [e] X.env)).any (·.1) = false := by rfl) (hkw : (backToKw pos (keywordEach [⟨some "default", d, kp⟩] X.env)).any (·.1.isNone) = false := by rfl) :
    SE X S (.Call (.Name "max" p) [e] [⟨some "default", d, kp⟩] pos) (eMaxD fe fd) := ⟨s_maxd hf hc hg hm ha.h hd.h he2 hall hks he hpl hkw⟩
end L2
end
section
set_option Elab.async false
set_option linter.unusedSimpArgs false
set_option maxRecDepth 100000
set_option linter.unusedVariables false
namespace Mine
open PySem L2
def top (i : Nat) : Stmt := PySem.Challenge.pw_somesay_k03_deep_and_named.main.body.getD i (.Pass ⟨0, 0, 0, 0⟩)
abbrev s_l_box : Stmt := top 7
theorem sc_l_box : FnScope ["_law_script", "_law_k", "_law_cell"] ["_law_script", "_law_k"] (defScope s_l_box) := ⟨rfl, rfl, rfl, by decide +kernel, rfl, by decide +kernel, by decide +kernel⟩
abbrev s_l_folded : Stmt := top 9
theorem sc_l_folded : FnScope ["_law_script", "_law_many", "_law_cells", "_law_k", "_law_cell"] ["_law_script", "_law_many"] (defScope s_l_folded) := ⟨rfl, rfl, rfl, by decide +kernel, rfl, by decide +kernel, by decide +kernel⟩
abbrev s_parts_of : Stmt := top 2
theorem sc_parts_of : FnScope ["term"] ["term"] (defScope s_parts_of) := ⟨rfl, rfl, rfl, by decide +kernel, rfl, by decide +kernel, by decide +kernel⟩
abbrev s_depth_of : Stmt := top 3
theorem sc_depth_of : FnScope ["term", "part"] ["term"] (defScope s_depth_of) := ⟨rfl, rfl, rfl, by decide +kernel, rfl, by decide +kernel, by decide +kernel⟩
abbrev s_class_names : Stmt := top 5
theorem sc_class_names : FnScope ["term", "part", "name"] ["term"] (defScope s_class_names) := ⟨rfl, rfl, rfl, by decide +kernel, rfl, by decide +kernel, by decide +kernel⟩
abbrev s_classes_in : Stmt := top 4
theorem sc_classes_in : FnScope ["term"] ["term"] (defScope s_classes_in) := ⟨rfl, rfl, rfl, by decide +kernel, rfl, by decide +kernel, by decide +kernel⟩
abbrev s_l_take : Stmt := top 8
theorem sc_l_take : FnScope ["_law_box_here", "_law_many", "_law_found", "_law_once"] ["_law_box_here", "_law_many"] (defScope s_l_take) := ⟨rfl, rfl, rfl, by decide +kernel, rfl, by decide +kernel, by decide +kernel⟩
abbrev s_l_term : Stmt := top 10
theorem sc_l_term : FnScope ["_law_box_here", "_law_many", "_law_deep", "_law_way", "_law_word"] ["_law_box_here", "_law_many", "_law_deep"] (defScope s_l_term) := ⟨rfl, rfl, rfl, by decide +kernel, rfl, by decide +kernel, by decide +kernel⟩
abbrev s_l_deep_term : Stmt := top 11
theorem sc_l_deep_term : FnScope ["_law_box_here", "_law_many", "_law_deep", "_law_term_here", "_law_turn", "_law_way", "_law_beside"] ["_law_box_here", "_law_many", "_law_deep"] (defScope s_l_deep_term) := ⟨rfl, rfl, rfl, by decide +kernel, rfl, by decide +kernel, by decide +kernel⟩
abbrev s_l_walked : Stmt := top 12
theorem sc_l_walked : FnScope ["_law_term_here", "_law_waiting", "_law_deep", "_law_named", "_law_part", "_law_level", "_law_inner", "_law_k"] ["_law_term_here"] (defScope s_l_walked) := ⟨rfl, rfl, rfl, by decide +kernel, rfl, by decide +kernel, by decide +kernel⟩
abbrev s_l_right : Stmt := top 13
theorem sc_l_right : FnScope ["_law_box_here", "_law_many", "_law_turn", "_law_term_here", "_law_deep", "_law_named", "_law_again", "_law_found", "_law_k"] ["_law_box_here"] (defScope s_l_right) := ⟨rfl, rfl, rfl, by decide +kernel, rfl, by decide +kernel, by decide +kernel⟩
abbrev s_law : Stmt := top 14
theorem sc_law : FnScope ["_law_script", "_law_cells", "_law_k"] ["_law_script"] (defScope s_law) := ⟨rfl, rfl, rfl, by decide +kernel, rfl, by decide +kernel, by decide +kernel⟩
structure Bts (mg : Str → Option Value) : Prop where
  abs : mg "abs" = none
  all : mg "all" = none
  any : mg "any" = none
  bool : mg "bool" = none
  divmod : mg "divmod" = none
  enumerate : mg "enumerate" = none
  int : mg "int" = none
  isinstance : mg "isinstance" = none
  len : mg "len" = none
  list : mg "list" = none
  max : mg "max" = none
  min : mg "min" = none
  range : mg "range" = none
  set : mg "set" = none
  sorted : mg "sorted" = none
def u_PARTS : U := .dct [(.inr "not", .int 1), (.inr "and", .int 2), (.inr "or", .int 2)]
def tnames : List Str := []
abbrev SZ (P : Program) (w : World) (K : PySem.W.Frag) (cl : Str → Addr) (tb : Str → Addr × Addr) : Sx := ⟨P, w, K, cl, tnames.map fun y => (tb y).2⟩
structure Cz (P : Program) (w : World) (K : PySem.W.Frag) (mg : Str → Option Value) (base : Heap) (tb : Str → Addr × Addr) : Prop where
  KX : K.In base
  B : Bts mg
  D_l_box : Df K mg "_law_box" ["_law_script", "_law_k"] s_l_box
  D_l_folded : Df K mg "_law_folded" ["_law_script", "_law_many"] s_l_folded
  D_parts_of : Df K mg "parts_of" ["term"] s_parts_of
  D_depth_of : Df K mg "depth_of" ["term"] s_depth_of
  D_class_names : Df K mg "class_names" ["term"] s_class_names
  D_classes_in : Df K mg "classes_in" ["term"] s_classes_in
  D_l_take : Df K mg "_law_take" ["_law_box_here", "_law_many"] s_l_take
  D_l_term : Df K mg "_law_term" ["_law_box_here", "_law_many", "_law_deep"] s_l_term
  D_l_deep_term : Df K mg "_law_deep_term" ["_law_box_here", "_law_many", "_law_deep"] s_l_deep_term
  D_l_walked : Df K mg "_law_walked" ["_law_term_here"] s_l_walked
  D_l_right : Df K mg "_law_right" ["_law_box_here"] s_l_right
  G_PARTS : ∃ g kv, GDict P w K mg "PARTS" g kv ∧ ∀ (S : Sx) (α : Am) (H : Hp), S.P = P → S.w = w → S.K = K → RU S α H u_PARTS (.ref g)
end Mine
end
section
set_option Elab.async false
set_option linter.unusedSimpArgs false
set_option maxRecDepth 100000
set_option linter.unusedVariables false
set_option maxHeartbeats 4000000
namespace Mine
open PySem L2
noncomputable def F_l_box : FF := (fnR 2 3 (sSeq (sAsg (eOp uIx (eOp (uAdd false) (eVar 0) (eOp (uMul false) (eLst false (aCons (eC (.int 0)) aNil)) (eOp (uAdd false) (eVar 1) (eC (.int 1))))) (eVar 1)) (gN 2)) (sRet (eLst true (aCons (eOp (uMul false) (eCB cAbs (aCons (eVar 2) aNil)) (eCB cInt (aCons (eOp uGe (eCB cAbs (aCons (eVar 2) aNil)) (eOp uPow (eC (.int 10)) (eC (.int 18)))) aNil))) (aCons (eOp uMod (eOp (uMul false) (eOp (uAdd false) (eOp (uAdd false) (eOp uMod (eVar 2) (eC (.int 2147483647))) (eOp (uMul false) (eC (.int 7919)) (eVar 1))) (eC (.int 11))) (eC (.int 48271))) (eC (.int 2147483629))) (aCons (eC (.int 0)) aNil)))))))
noncomputable def F_l_folded : FF := finR (fnR 2 5 (sSeq (sAsg (eCB (cList true) (aCons (eSl false (eVar 0) oNone (oSome (eVar 1))) aNil)) (gN 2)) (sSeq (sFor (iEnumU (eSl false (eVar 0) (oSome (eVar 1)) (oSome (eC (.int 63))))) (gT 2 (gsCons (gN 3) (gsCons (gN 4) gsNil))) (sAsg (eOp (uAdd false) (eOp uIx (eVar 2) (eOp uMod (eVar 3) (eVar 1))) (eOp (uMul false) (eVar 4) (eOp (uAdd false) (eVar 3) (eC (.int 2))))) (gSubU (eVar 2) (eOp uMod (eVar 3) (eVar 1))))) (sRet (eVar 2)))))
noncomputable def F_parts_of : FF := (fnR 1 1 (sSeq (sIf (bVal (eOp (uIn false) (eOp uIx (eVar 0) (eC (.int 0))) (eC u_PARTS))) (sRet (eCB (cList false) (aCons (eSl false (eVar 0) (oSome (eC (.int 1))) oNone) aNil))) sNil) (sRet (eLst false aNil))))
noncomputable def F_depth_of : Nat → FF
  | 0 => fun _ _ => none
  | n + 1 => (fnR 1 2 (sRet (eOp (uAdd false) (eC (.int 1)) (eMaxD (eLc false (iSeq (eCall F_parts_of (aCons (eVar 0) aNil))) (gN 1) bYes (eCall (F_depth_of n) (aCons (eVar 1) aNil)) [1]) (eC (.int 0))))))
noncomputable def F_class_names : Nat → FF
  | 0 => fun _ _ => none
  | n + 1 => (fnR 1 3 (sSeq (sIf (bVal (eOp uEq (eOp uIx (eVar 0) (eC (.int 0))) (eC (.str "is")))) (sRet (eLst false (aCons (eOp uIx (eVar 0) (eC (.int 1))) aNil))) sNil) (sRet (eLc2 false (iSeq (eCall F_parts_of (aCons (eVar 0) aNil))) (gN 1) bYes (iSeq (eCall (F_class_names n) (aCons (eVar 1) aNil))) (gN 2) bYes (eVar 2) [1, 2] [2]))))
noncomputable def F_classes_in : FF := (fnR 1 1 (sRet (eSortSet true (eCall (F_class_names 12) (aCons (eVar 0) aNil)))))
noncomputable def F_l_take : FF := (fnR 2 4 (sSeq (sIf (bVal (eOp uGt (eOp uIx (eVar 0) (eC (.int 0))) (eC (.int 0)))) (sSeq (sAsg (eCB cDivmod (aCons (eOp uIx (eVar 0) (eC (.int 0))) (aCons (eVar 1) aNil))) (gT 2 (gsCons (gSubU (eVar 0) (eC (.int 0))) (gsCons (gN 2) gsNil)))) (sRet (eVar 2))) sNil) (sSeq (sAsg (eOp (uAdd false) (eOp uIx (eVar 0) (eC (.int 2))) (eC (.int 1))) (gSubU (eVar 0) (eC (.int 2)))) (sSeq (sAsg (eOp uMod (eOp (uMul false) (eOp (uAdd false) (eOp uIx (eVar 0) (eC (.int 1))) (eOp (uMul false) (eC (.int 39373)) (eOp uIx (eVar 0) (eC (.int 2))))) (eOp (uAdd false) (eC (.int 48271)) (eOp uIx (eVar 0) (eC (.int 2))))) (eC (.int 2147483647))) (gN 3)) (sSeq (sAsg (eOp uMod (eOp (uAdd false) (eOp (uMul false) (eVar 3) (eOp (uAdd false) (eOp uMod (eVar 3) (eC (.int 40009))) (eC (.int 7)))) (eOp uIx (eVar 0) (eC (.int 2)))) (eC (.int 2147483629))) (gSubU (eVar 0) (eC (.int 1)))) (sRet (eOp uMod (eOp uDiv (eOp uMod (eOp (uMul false) (eOp uIx (eVar 0) (eC (.int 1))) (eOp (uAdd false) (eOp uMod (eOp uIx (eVar 0) (eC (.int 1))) (eC (.int 1009))) (eC (.int 3)))) (eC (.int 998244353))) (eC (.int 7))) (eVar 1))))))))
noncomputable def F_l_term : Nat → FF
  | 0 => fun _ _ => none
  | n + 1 => (fnR 3 5 (sSeq (sAsg (eCall F_l_take (aCons (eVar 0) (aCons (eC (.int 10)) aNil))) (gN 3)) (sSeq (sIf (bVal (eOp uEq (eVar 3) (eC (.int 9)))) (sRet (eTup (aCons (eC (.str "any")) aNil))) sNil) (sSeq (sIf (bOr (bVal (eOp uLt (eVar 2) (eC (.int 2)))) (bVal (eOp uLt (eVar 3) (eC (.int 5))))) (sRet (eTup (aCons (eC (.str "is")) (aCons (eCall F_l_take (aCons (eVar 0) (aCons (eVar 1) aNil))) aNil)))) sNil) (sSeq (sIf (bVal (eOp uEq (eVar 3) (eC (.int 5)))) (sRet (eTup (aCons (eC (.str "not")) (aCons (eCall (F_l_term n) (aCons (eVar 0) (aCons (eVar 1) (aCons (eOp uSub (eVar 2) (eC (.int 1))) aNil)))) aNil)))) sNil) (sSeq (sAsg (eOp uIx (eLst false (aCons (eC (.str "and")) (aCons (eC (.str "or")) aNil))) (eCall F_l_take (aCons (eVar 0) (aCons (eC (.int 2)) aNil)))) (gN 4)) (sRet (eTup (aCons (eVar 4) (aCons (eCall (F_l_term n) (aCons (eVar 0) (aCons (eVar 1) (aCons (eOp uSub (eVar 2) (eC (.int 1))) aNil)))) (aCons (eCall (F_l_term n) (aCons (eVar 0) (aCons (eVar 1) (aCons (eOp uSub (eVar 2) (eC (.int 1))) aNil)))) aNil)))))))))))
noncomputable def F_l_deep_term : FF := (fnR 3 7 (sSeq (sAsg (eOp uIx (eLst false (aCons (eTup (aCons (eC (.str "any")) aNil)) (aCons (eTup (aCons (eC (.str "is")) (aCons (eCall F_l_take (aCons (eVar 0) (aCons (eVar 1) aNil))) aNil))) aNil))) (eCB cMin2 (aCons (eC (.int 1)) (aCons (eCall F_l_take (aCons (eVar 0) (aCons (eC (.int 6)) aNil))) aNil)))) (gN 3)) (sSeq (sFor (iRng1U (aCons (eOp uSub (eVar 2) (eC (.int 1))) aNil)) (gN 4) (sSeq (sAsg (eCall F_l_take (aCons (eVar 0) (aCons (eC (.int 3)) aNil))) (gN 5)) (sSeq (sAsg (eTup (aCons (eC (.str "is")) (aCons (eCall F_l_take (aCons (eVar 0) (aCons (eVar 1) aNil))) aNil))) (gN 6)) (sAsg (eOp uIx (eLst false (aCons (eTup (aCons (eC (.str "not")) (aCons (eVar 3) aNil))) (aCons (eTup (aCons (eC (.str "and")) (aCons (eVar 6) (aCons (eVar 3) aNil)))) (aCons (eTup (aCons (eC (.str "or")) (aCons (eVar 3) (aCons (eVar 6) aNil)))) aNil)))) (eVar 5)) (gN 3))))) (sRet (eVar 3)))))
noncomputable def F_l_walked : FF := finR (fnR 1 8 (sSeq (sAsg (eLst true (aCons (eTup (aCons (eVar 0) (aCons (eC (.int 1)) aNil))) aNil)) (gN 1)) (sSeq (sAsg (eTup (aCons (eC (.int 0)) (aCons (eLst true aNil) aNil))) (gT 2 (gsCons (gN 2) (gsCons (gN 3) gsNil)))) (sSeq (sWhile (bVal (eOp uNe (eVar 1) (eLst false aNil))) (sSeq (sAsg (eM "list" mPop (eVar 1) aNil) (gT 2 (gsCons (gN 4) (gsCons (gN 5) gsNil)))) (sSeq (sAsg (eCB cMax2 (aCons (eVar 2) (aCons (eVar 5) aNil))) (gN 2)) (sIf (bVal (eOp uEq (eOp uIx (eVar 4) (eC (.int 0))) (eC (.str "is")))) (sEx (eM "list" mApp (eVar 3) (aCons (eOp uIx (eVar 4) (eC (.int 1))) aNil))) (sEx (eM "list" mExtT (eVar 1) (aCons (eLc false (iSeq (eSl false (eVar 4) (oSome (eC (.int 1))) oNone)) (gN 6) bYes (eTup (aCons (eVar 6) (aCons (eOp (uAdd false) (eVar 5) (eC (.int 1))) aNil))) [6]) aNil))))))) (sRet (eTup (aCons (eVar 2) (aCons (eLc false (iRng1U (aCons (eC (.int 4)) aNil)) (gN 7) (bVal (eOp (uIn false) (eVar 7) (eVar 3))) (eVar 7) [7]) aNil))))))))
noncomputable def F_l_right : FF := (fnR 1 9 (sSeq (sAsg (eOp (uAdd false) (eC (.int 1)) (eCall F_l_take (aCons (eVar 0) (aCons (eC (.int 4)) aNil)))) (gN 1)) (sSeq (sFor (iRng1U (aCons (eC (.int 8)) aNil)) (gN 2) (sFor (iSeq (eTup (aCons (eCall (F_l_term 9) (aCons (eVar 0) (aCons (eVar 1) (aCons (eOp (uAdd false) (eC (.int 1)) (eCall F_l_take (aCons (eVar 0) (aCons (eC (.int 5)) aNil)))) aNil)))) (aCons (eCall F_l_deep_term (aCons (eVar 0) (aCons (eVar 1) (aCons (eOp (uAdd false) (eC (.int 1)) (eCall F_l_take (aCons (eVar 0) (aCons (eC (.int 8)) aNil)))) aNil)))) aNil)))) (gN 3) (sSeq (sAsg (eCall F_l_walked (aCons (eVar 3) aNil)) (gT 2 (gsCons (gN 4) (gsCons (gN 5) gsNil)))) (sSeq (sIf (bOr (bVal (eOp uNe (eCall (F_depth_of 12) (aCons (eVar 3) aNil)) (eVar 4))) (bTru (eIsi "bool" (eCall (F_depth_of 12) (aCons (eVar 3) aNil))))) (sRet (eC (.bl false))) sNil) (sFor (iRng1U (aCons (eC (.int 2)) aNil)) (gN 6) (sSeq (sAsg (eCall F_classes_in (aCons (eVar 3) aNil)) (gN 7)) (sSeq (sIf (bOr (bNot (bTru (eIsi "list" (eVar 7)))) (bOr (bVal (eOp uNe (eVar 7) (eVar 5))) (bTru (eCB cAny (aCons (eLc false (iSeq (eVar 7)) (gN 8) bYes (eIsi "bool" (eVar 8)) [8]) aNil))))) (sRet (eC (.bl false))) sNil) (sSeq (sEx (eM "list" mApp (eVar 7) (aCons (eC (.int 9)) aNil))) (sEx (eM "list" mRev (eVar 7) aNil)))))))))) (sRet (eC (.bl true))))))
noncomputable def F_law : FF := (fnR 1 3 (sSeq (sAsg (eCall F_l_folded (aCons (eVar 0) (aCons (eC (.int 6)) aNil))) (gN 1)) (sRet (eCB cAll (aCons (eLc false (iRng1U (aCons (eCB cMax2 (aCons (eC (.int 1)) (aCons (eCB cLen (aCons (eVar 1) aNil)) aNil))) aNil)) (gN 2) bYes (eCall F_l_right (aCons (eCall F_l_box (aCons (eVar 1) (aCons (eVar 2) aNil))) aNil)) [2]) aNil)))))
end Mine
end
section
set_option Elab.async false
set_option linter.unusedSimpArgs false
set_option maxRecDepth 100000
set_option linter.unusedVariables false
set_option maxHeartbeats 4000000
namespace Mine
open PySem L2
def Bx (a : Nat) (c : Int) (h h' : PH) : Prop := ∃ A B Z : Int, h' = h.set a (.lst [.int A, .int B, .int Z]) ∧ a < h.length ∧ 0 ≤ A ∧ 0 ≤ B ∧ B < 2147483629 ∧ 0 ≤ Z ∧ Z ≤ c
theorem Bx.mono {a : Nat} {c d : Int} {h h' : PH} (b : Bx a c h h') (k : c ≤ d) : Bx a d h h' := by
  obtain ⟨A, B, Z, e, r1, r2, r3, r4, r5, r6⟩ := b
  exact ⟨A, B, Z, e, r1, r2, r3, r4, r5, by omega⟩
theorem Bx.len {a : Nat} {c : Int} {h h' : PH} (b : Bx a c h h') : h'.length = h.length := by
  obtain ⟨A, B, Z, rfl, _⟩ := b
  rw [List.length_set]
theorem Bx.other {a : Nat} {c : Int} {h h' : PH} (b : Bx a c h h') {i : Nat} (hi : i ≠ a) : h'[i]? = h[i]? := by
  obtain ⟨A, B, Z, rfl, _⟩ := b
  exact List.getElem?_set_ne (Ne.symm hi)
theorem Bx.at {a : Nat} {c : Int} {h h' : PH} (b : Bx a c h h') : ∃ A B Z : Int, h'[a]? = some (.lst [.int A, .int B, .int Z]) ∧ 0 ≤ A ∧ 0 ≤ B ∧ B < 2147483629 ∧ 0 ≤ Z ∧ Z ≤ c := by
  obtain ⟨A, B, Z, rfl, r1, r⟩ := b
  exact ⟨A, B, Z, List.getElem?_set_self r1, r⟩
theorem Bx.put {a : Nat} {c d : Int} {h h' : PH} (b : Bx a c h h') {A B Z : Int} (r : 0 ≤ A ∧ 0 ≤ B ∧ B < 2147483629 ∧ 0 ≤ Z ∧ Z ≤ d) : Bx a d h (h'.set a (.lst [.int A, .int B, .int Z])) := by
  obtain ⟨_, _, _, rfl, r1, _⟩ := b
  exact ⟨A, B, Z, List.set_set .., r1, r⟩
theorem Bx.self {a : Nat} {c : Int} {h : PH} {A B Z : Int} (e : h[a]? = some (.lst [.int A, .int B, .int Z])) (r : 0 ≤ A ∧ 0 ≤ B ∧ B < 2147483629 ∧ 0 ≤ Z ∧ Z ≤ c) : Bx a c h h := by
  obtain ⟨hl, e2⟩ := List.getElem?_eq_some_iff.mp e
  exact ⟨A, B, Z, by rw [← e2]; exact (List.set_getElem_self hl).symm, hl, r⟩
theorem md {x m : Int} (h : 0 < m) : 0 ≤ x % m ∧ x % m < m := ⟨Int.emod_nonneg _ (by omega), Int.emod_lt_of_pos _ h⟩
theorem take_ev {a : Nat} {c m : Int} {h0 h : PH} (b : Bx a c h0 h) (hc : c < 1000000000000) (m0 : 0 < m) (m1 : m < 1073741824) :
    ∃ (r : Int) (h' : PH), F_l_take [.ref a, .int m] h = some (.int r, h') ∧ 0 ≤ r ∧ r < m ∧ Bx a (c + 1) h0 h' := by
  obtain ⟨A, B, Z, ea, A0, B0, B1, Z0, Z1⟩ := b.at
  have s0 : ∀ {h : PH} {x y z v : U}, h[a]? = some (.lst [x, y, z]) → setP h (.ref a) (.int 0) v = some (h.set a (.lst [v, y, z])) := fun e => setP_lst (k := 0) e (by simp)
  have s1 : ∀ {h : PH} {x y z v : U}, h[a]? = some (.lst [x, y, z]) → setP h (.ref a) (.int 1) v = some (h.set a (.lst [x, v, z])) := fun e => setP_lst (k := 1) e (by simp)
  have s2 : ∀ {h : PH} {x y z v : U}, h[a]? = some (.lst [x, y, z]) → setP h (.ref a) (.int 2) v = some (h.set a (.lst [x, y, v])) := fun e => setP_lst (k := 2) e (by simp)
  have al : a < h.length := (List.getElem?_eq_some_iff.mp ea).1
  have g0 : ∀ x y z : U, atI [x, y, z] 0 = some x := fun _ _ _ => atI_0
  have g1 : ∀ x y z : U, atI [x, y, z] 1 = some y := fun _ _ _ => atI_n (by decide) rfl
  have g2 : ∀ x y z : U, atI [x, y, z] 2 = some z := fun _ _ _ => atI_n (by decide) rfl
  by_cases q : 0 < A
  · refine ⟨A % m, h.set a (.lst [.int (A / m), .int B, .int Z]), ?_, (md m0).1, (md m0).2, b.put ⟨Int.ediv_nonneg A0 (by omega), B0, B1, Z0, by omega⟩⟩
    simp [F_l_take, uIx_ref ea, g0, q, m0, m1, s0 ea]
  · have hset : ∀ o : O, (h.set a o)[a]? = some o := fun o => List.getElem?_set_self al
    have m1e := md (x := (B + 39373 * (Z + 1)) * (48271 + (Z + 1))) (show (0 : Int) < 2147483647 by decide)
    generalize hk : (B + 39373 * (Z + 1)) * (48271 + (Z + 1)) % 2147483647 = k at m1e
    have m2e := md (x := k) (show (0 : Int) < 40009 by decide)
    have m3e := md (x := k * (k % 40009 + 7) + (Z + 1)) (show (0 : Int) < 2147483629 by decide)
    generalize hk2 : (k * (k % 40009 + 7) + (Z + 1)) % 2147483629 = B' at m3e
    have m4e := md (x := B') (show (0 : Int) < 1009 by decide)
    have i1 : IntMulOk 39373 (Z + 1) := mul_l (by decide) (by decide)
    have i2 : IntMulOk (B + 39373 * (Z + 1)) (48271 + (Z + 1)) := mul_l (by omega) (by omega)
    have i3 : IntMulOk k (k % 40009 + 7) := mul_l (by omega) (by omega)
    have i4 : IntMulOk B' (B' % 1009 + 3) := mul_l (by omega) (by omega)
    refine ⟨B' * (B' % 1009 + 3) % 998244353 / 7 % m, h.set a (.lst [.int A, .int B', .int (Z + 1)]), ?_, (md m0).1, (md m0).2, b.put ⟨A0, m3e.1, m3e.2, by omega, by omega⟩⟩
    simp [F_l_take, uIx_ref ea, uIx_ref (hset _), g0, g1, g2, q, s2 ea, s1 (hset _), uMod_int, uMul_int, i1, i2, hk, i3, hk2, i4, BIG_gt (i := 7) (by decide), m0]
end Mine
end
section
set_option Elab.async false
set_option linter.unusedSimpArgs false
set_option maxRecDepth 100000
set_option linter.unusedVariables false
set_option maxHeartbeats 4000000
namespace Mine
open PySem L2
theorem W_finRl {F : FF} {us : List U} {h : PH} {P : U → PH → Prop} (w : W (F us h) fun v h' => ∃ a vs, v = .ref a ∧ h.length ≤ a ∧ h'[a]? = some (.lst vs) ∧ plUs vs = true ∧ CutOk h h' ∧ P (.lst vs) (h'.take h.length)) : W (finR F us h) P := by
  obtain ⟨v, h', e, a, vs, rfl, ha, eh, pv, ok, p⟩ := w
  have fz : frzU h.length h' (.ref a) = .lst vs := by
    rw [frzU, if_neg (by omega), eh]
  refine ⟨.lst vs, h'.take h.length, ?_, p⟩
  unfold finR
  rw [e, bnd_some, fz]
  exact if_pos ⟨ok, plU_blw _ (by rw [plU]; exact pv)⟩
theorem cutU_map {α β : Type} {f : α → β} {l : List α} {lo hi : Option Int} : cutU (l.map f) lo hi = (cutU l lo hi).map f := by
  unfold cutU; rw [List.length_map, ← List.map_drop, ← List.map_take]
theorem plUs_ints (ns : List Int) : plUs (ns.map .int) = true := plUs_of fun u hu => by obtain ⟨i, _, rfl⟩ := List.mem_map.mp hu; rfl
theorem cutOk_app (h X : PH) : CutOk h (h ++ X) := ⟨by rw [List.length_append]; omega, fun i hi => .inl (List.getElem?_append_left hi)⟩
theorem cut_len {α : Type} {l : List α} {K : Nat} : (cutU l none (some (K : Nat))).length = min K l.length := by
  unfold cutU
  have e : HT.sIx l.length l.length (some ((K : Nat) : Int)) = min K l.length := HT.sIx_nat _ _ _
  have e0 : HT.sIx l.length 0 none = 0 := rfl
  rw [e, e0, List.length_take, List.length_drop]; omega
theorem cut_len2 {α : Type} {l : List α} {K M : Nat} : (cutU l (some (K : Nat)) (some (M : Nat))).length = min M l.length - min K l.length := by
  unfold cutU
  have e : HT.sIx l.length l.length (some ((M : Nat) : Int)) = min M l.length := HT.sIx_nat _ _ _
  have e0 : HT.sIx l.length 0 (some ((K : Nat) : Int)) = min K l.length := HT.sIx_nat _ _ _
  rw [e, e0, List.length_take, List.length_drop]; omega
theorem folded_ev {ns : List Int} {k : Int} {h : PH} (k0 : 1 ≤ k) (k1 : k ≤ 1000) (hn : ns.length ≤ 63) : ∃ cs : List Int, F_l_folded [.scr (ns.map .int), .int k] h = some (.lst (cs.map .int), h) ∧ cs.length = min k.toNat ns.length := by
  obtain ⟨K, rfl⟩ : ∃ K : Nat, k = (K : Nat) := ⟨k.toNat, by omega⟩
  have w : W (F_l_folded [.scr (ns.map .int), .int (K : Nat)] h) fun v h' => h' = h ∧ ∃ cs : List Int, v = .lst (cs.map .int) ∧ cs.length = min K ns.length := by
    simp only [F_l_folded]
    refine W_finRl (W_fnR rfl ?_)
    refine W_seq (fun ρ' h' => ρ' = [some (.scr (ns.map .int)), some (.int (K : Nat)), some (.ref h.length), none, none] ∧ h' = h ++ [.lst ((cutU ns none (some (K : Nat))).map .int)]) ?_ ?_
    · simp [uSl, cutU_map]
    rintro _ _ ⟨rfl, rfl⟩
    refine W_seq (fun ρ' h' => ∃ (x3 x4 : Option U) (cs : List Int), ρ' = [some (.scr (ns.map .int)), some (.int (K : Nat)), some (.ref h.length), x3, x4] ∧ h' = h ++ [.lst (cs.map U.int)] ∧ cs.length = min K ns.length) ?_ ?_
    · refine W_sFor (us := enumU ((cutU ns (some (K : Nat)) (some 63)).map .int)) (srcs := []) (h1 := h ++ [.lst ((cutU ns none (some (K : Nat))).map .int)]) (by simp [uSl, cutU_map]) (fun i ρ' h' => ∃ (x3 x4 : Option U) (cs : List Int), ρ' = [some (.scr (ns.map .int)), some (.int (K : Nat)), some (.ref h.length), x3, x4] ∧ h' = h ++ [.lst (cs.map U.int)] ∧ cs.length = min K ns.length) (fun _ _ _ _ => trivial) ⟨_, _, _, rfl, rfl, cut_len⟩ ?_ ?_
      · rintro i u _ _ hu ⟨x3, x4, cs, rfl, rfl, hl⟩
        obtain ⟨v, hv, rfl⟩ := enumU_get hu
        rw [List.getElem?_map] at hv
        obtain ⟨c, hc, rfl⟩ := Option.map_eq_some_iff.mp hv
        have hl2 := (List.getElem?_eq_some_iff.mp hc).1
        rw [show (63 : Int) = ((63 : Nat) : Int) from rfl, cut_len2] at hl2
        have hlt : i % K < cs.length := by have := Nat.mod_lt i (show K > 0 by omega); omega
        have eN : (h ++ [.lst (cs.map U.int)])[h.length]? = some (.lst (cs.map U.int)) := by rw [List.getElem?_append_right (Nat.le_refl _), Nat.sub_self]; rfl
        have em : ((i : Nat) : Int) % ((K : Nat) : Int) = ((i % K : Nat) : Int) := by rw [Int.natCast_emod]
        have ea : atI (cs.map U.int) (((i % K : Nat) : Int)) = some (.int cs[i % K]) := atI_n (by omega) (by rw [Int.toNat_natCast, List.getElem?_map, List.getElem?_eq_getElem hlt]; rfl)
        have ix : uIx (h ++ [.lst (cs.map U.int)]) (.ref h.length) (.int ((i % K : Nat) : Int)) = some (.int cs[i % K], h ++ [.lst (cs.map U.int)]) := by rw [uIx_ref eN, ea]; rfl
        have mo : ∀ h : PH, uMod h (.int (i : Nat)) (.int (K : Nat)) = some (.int ((i % K : Nat) : Int), h) := fun h => by rw [uMod_int (by omega), em]
        have mu : ∀ h : PH, uMul false h (.int c) (.int ((i : Nat) + 2)) = some (.int (c * ((i : Nat) + 2)), h) := fun h => uMul_int (mul_r (by omega) (by omega))
        have st : ∀ v : U, setP (h ++ [.lst (cs.map U.int)]) (.ref h.length) (.int ((i % K : Nat) : Int)) v = some ((h ++ [O.lst (cs.map U.int)]).set h.length (O.lst ((cs.map U.int).set (i % K) v))) := fun v => setP_lst eN (by rw [List.length_map]; exact hlt)
        simp only [gT, gsCons, gN, gsNil, bnd_some, List.length_cons, List.length_nil, if_true, W_some, sAsg, eOp, eVar, eC, gSubU, List.set_cons_succ, List.set_cons_zero, List.getElem?_cons_succ, List.getElem?_cons_zero, W_bnd, mo, ix, uAdd_int, mu, st, W_map, Option.some.injEq, exists_eq_left', Option.map_some]
        refine ⟨_, _, cs.set (i % K) (cs[i % K] + c * ((i : Nat) + 2)), rfl, ?_, by rw [List.length_set]; exact hl⟩
        rw [List.set_append_right _ _ (Nat.le_refl _), Nat.sub_self, ← List.map_set]; rfl
      · rintro ρ h' hI; exact ⟨ρ, rfl, hI⟩
    · rintro _ _ ⟨x3, x4, cs, rfl, rfl, hl⟩
      simp only [sRet, eVar, bnd_some, W_some, W_bnd, List.getElem?_cons_succ, List.getElem?_cons_zero]
      exact ⟨h.length, cs.map .int, rfl, Nat.le_refl _, by rw [List.getElem?_append_right (Nat.le_refl _), Nat.sub_self]; rfl, plUs_ints cs, cutOk_app _ _, List.take_left' rfl, cs, rfl, hl⟩
  obtain ⟨v, h', e, rfl, cs, rfl, hl⟩ := w
  exact ⟨cs, e, by simpa using hl⟩
theorem box_ev {cs : List Int} {j : Nat} {h : PH} (hj : j ≤ 62) (hl : cs.length ≤ 1000) : ∃ A B : Int, F_l_box [.lst (cs.map .int), .int (j : Nat)] h = some (.ref h.length, h ++ [.lst [.int A, .int B, .int 0]]) ∧ 0 ≤ A ∧ 0 ≤ B ∧ B < 2147483629 := by
  have hc : ∃ c : Int, ((cs ++ List.replicate (j + 1) 0))[j]? = some c := ⟨_, List.getElem?_eq_getElem (by rw [List.length_append, List.length_replicate]; omega)⟩
  obtain ⟨c, hc⟩ := hc
  have jj : ((j : Nat) : Int) + 1 = ((j + 1 : Nat) : Int) := rfl
  have fl : (List.replicate (j + 1) [U.int 0]).flatten = (List.replicate (j + 1) (0 : Int)).map .int := by
    induction (j + 1) with
    | zero => rfl
    | succ n ih => rw [List.replicate_succ, List.replicate_succ, List.flatten_cons, ih]; rfl
  have e1 : uMul false h (.lst [.int 0]) (.int ((j : Nat) + 1)) = some (.lst ((List.replicate (j + 1) (0 : Int)).map .int), h) := by
    rw [uMul_lst (us := [.int 0]) rfl (by omega) (by omega) (by simp; omega), jj, Int.toNat_natCast, fl]; rfl
  have e2 : uAdd false h (.lst (cs.map .int)) (.lst ((List.replicate (j + 1) (0 : Int)).map .int)) = some (.lst ((cs ++ List.replicate (j + 1) 0).map .int), h) := by
    rw [uAdd_lst its_lst its_lst (by rw [List.length_map, List.length_map, List.length_replicate]; omega), List.map_append]; rfl
  have e3 : uIx h (.lst ((cs ++ List.replicate (j + 1) 0).map .int)) (.int (j : Nat)) = some (.int c, h) := by
    rw [uIx_lst, atI_n (x := .int c) (by omega) (by rw [Int.toNat_natCast, List.getElem?_map, hc]; rfl)]; rfl
  obtain ⟨t, p18⟩ : ∃ t : Int, ∀ h, uPow h (.int 10) (.int 18) = some (.int t, h) := ⟨_, fun h => uPow_int ⟨by decide, by decide, by decide⟩⟩
  have m1 := md (x := c) (show (0 : Int) < 2147483647 by decide)
  obtain ⟨b, hb⟩ : ∃ b : Bool, ∀ h, uGe h (.int ((c.natAbs : Nat) : Int)) (.int t) = some (.bl b, h) := ⟨_, fun _ => uGe_int⟩
  have i1 : IntMulOk 7919 (j : Nat) := mul_l (by decide) (by decide)
  have i2 : IntMulOk (c % 2147483647 + 7919 * (j : Nat) + 11) 48271 := mul_r (by decide) (by decide)
  have m3 := md (x := (c % 2147483647 + 7919 * (j : Nat) + 11) * 48271) (show (0 : Int) < 2147483629 by decide)
  have i3 : ∀ b : Bool, IntMulOk ((c.natAbs : Nat) : Int) (if b = true then 1 else 0) := fun b => mul_r (by split <;> decide) (by split <;> decide)
  refine ⟨((c.natAbs : Nat) : Int) * (if b = true then 1 else 0), (c % 2147483647 + 7919 * (j : Nat) + 11) * 48271 % 2147483629, ?_, ?_, m3.1, m3.2⟩
  · have i3' := i3 b
    clear fl jj
    generalize List.replicate (j + 1) (0 : Int) = zs at e1 e2 e3
    have ab : cAbs h [.int c] = some (.int ((c.natAbs : Nat) : Int), h) := rfl
    have ci : cInt h [.bl b] = some (.int (if b = true then 1 else 0), h) := rfl
    have x1 : uMul false h (.int ((c.natAbs : Nat) : Int)) (.int (if b = true then 1 else 0)) = some (.int (((c.natAbs : Nat) : Int) * (if b = true then 1 else 0)), h) := uMul_int i3'
    have x2 : uMod h (.int c) (.int 2147483647) = some (.int (c % 2147483647), h) := uMod_int (by decide)
    have x3 : uMul false h (.int 7919) (.int (j : Nat)) = some (.int (7919 * (j : Nat)), h) := uMul_int i1
    have x4 : uMul false h (.int (c % 2147483647 + 7919 * (j : Nat) + 11)) (.int 48271) = some (.int ((c % 2147483647 + 7919 * (j : Nat) + 11) * 48271), h) := uMul_int i2
    have x5 : uMod h (.int ((c % 2147483647 + 7919 * (j : Nat) + 11) * 48271)) (.int 2147483629) = some (.int ((c % 2147483647 + 7919 * (j : Nat) + 11) * 48271 % 2147483629), h) := uMod_int (by decide)
    have x6 : uAdd false h (.int (j : Nat)) (.int 1) = some (.int ((j : Nat) + 1), h) := uAdd_int
    have x7 : uAdd false h (.int (c % 2147483647)) (.int (7919 * (j : Nat))) = some (.int (c % 2147483647 + 7919 * (j : Nat)), h) := uAdd_int
    have x8 : uAdd false h (.int (c % 2147483647 + 7919 * (j : Nat))) (.int 11) = some (.int (c % 2147483647 + 7919 * (j : Nat) + 11), h) := uAdd_int
    have xl : ∀ ρ h, eLst false (aCons (eC (.int 0)) aNil) ρ h = some (.lst [.int 0], h) := fun ρ h => by simp
    have s1 : (eOp uIx (eOp (uAdd false) (eVar 0) (eOp (uMul false) (eLst false (aCons (eC (.int 0)) aNil)) (eOp (uAdd false) (eVar 1) (eC (.int 1))))) (eVar 1)) [some (.lst (cs.map .int)), some (.int (j : Nat)), none] h = some (.int c, h) := by simp -implicitDefEqProofs only [eOp, eVar, eC, eCB, aCons, aNil, bnd_some, List.getElem?_cons_zero, List.getElem?_cons_succ, xl, x6, e1, e2, e3]
    have s2 : (eOp (uMul false) (eCB cAbs (aCons (eVar 2) aNil)) (eCB cInt (aCons (eOp uGe (eCB cAbs (aCons (eVar 2) aNil)) (eOp uPow (eC (.int 10)) (eC (.int 18)))) aNil))) [some (.lst (cs.map .int)), some (.int (j : Nat)), some (.int c)] h = some (.int (((c.natAbs : Nat) : Int) * (if b = true then 1 else 0)), h) := by simp -implicitDefEqProofs only [eOp, eVar, eC, eCB, aCons, aNil, bnd_some, List.getElem?_cons_zero, List.getElem?_cons_succ, p18, hb, ab, ci, x1]
    have s3 : (eOp uMod (eOp (uMul false) (eOp (uAdd false) (eOp (uAdd false) (eOp uMod (eVar 2) (eC (.int 2147483647))) (eOp (uMul false) (eC (.int 7919)) (eVar 1))) (eC (.int 11))) (eC (.int 48271))) (eC (.int 2147483629))) [some (.lst (cs.map .int)), some (.int (j : Nat)), some (.int c)] h = some (.int ((c % 2147483647 + 7919 * (j : Nat) + 11) * 48271 % 2147483629), h) := by simp -implicitDefEqProofs only [eOp, eVar, eC, eCB, aCons, aNil, bnd_some, List.getElem?_cons_zero, List.getElem?_cons_succ, x2, x3, x4, x5, x7, x8]
    have s4 : sRet (eLst true (aCons (eOp (uMul false) (eCB cAbs (aCons (eVar 2) aNil)) (eCB cInt (aCons (eOp uGe (eCB cAbs (aCons (eVar 2) aNil)) (eOp uPow (eC (.int 10)) (eC (.int 18)))) aNil))) (aCons (eOp uMod (eOp (uMul false) (eOp (uAdd false) (eOp (uAdd false) (eOp uMod (eVar 2) (eC (.int 2147483647))) (eOp (uMul false) (eC (.int 7919)) (eVar 1))) (eC (.int 11))) (eC (.int 48271))) (eC (.int 2147483629))) (aCons (eC (.int 0)) aNil)))) [some (.lst (cs.map .int)), some (.int (j : Nat)), some (.int c)] h = some (.rt (.ref h.length), h ++ [.lst [.int (((c.natAbs : Nat) : Int) * (if b = true then 1 else 0)), .int ((c % 2147483647 + 7919 * (j : Nat) + 11) * 48271 % 2147483629), .int 0]]) := by
      simp -implicitDefEqProofs only [sRet, eLst, aCons, aNil, s2, s3, bnd_some, eC, List.length_cons, List.length_nil, Nat.reduceAdd, sl_3, if_true, mk_t]
    unfold F_l_box
    unfold fnR
    rw [if_pos (by rfl)]
    have st : startE 3 [U.lst (cs.map .int), .int (j : Nat)] = [some (.lst (cs.map .int)), some (.int (j : Nat)), none] := rfl
    rw [st, sSeq, sAsg, s1, bnd_some, gN, bnd_some, bnd_some]
    show bnd (sRet _ [some (.lst (cs.map .int)), some (.int (j : Nat)), some (.int c)] h) _ = _
    rw [s4]; rfl
  · exact Int.mul_nonneg (by omega) (by split <;> decide)
end Mine
end
section
set_option Elab.async false
set_option linter.unusedSimpArgs false
set_option maxRecDepth 100000
set_option linter.unusedVariables false
set_option maxHeartbeats 4000000
namespace Mine
open PySem L2
def tmU (m : Int) : Nat → U → Bool
  | 0, _ => false
  | n + 1, .tup (.str hd :: r) =>
    if hd = "is" then (match r with | [.int k] => decide (0 ≤ k) && decide (k < m) | _ => false)
    else if hd = "any" then r.isEmpty
    else if hd = "not" then decide (r.length = 1) && r.all (tmU m n)
    else if hd = "and" ∨ hd = "or" then decide (r.length = 2) && r.all (tmU m n)
    else false
  | _ + 1, _ => false
theorem Bx.step {a : Nat} {c d : Int} {h0 h h' : PH} (b : Bx a c h0 h) (b' : Bx a d h h') : Bx a d h0 h' := by
  obtain ⟨A, B, Z, rfl, r1, r⟩ := b
  obtain ⟨A', B', Z', rfl, _, r'⟩ := b'
  exact ⟨A', B', Z', List.set_set .., r1, r'⟩
theorem tm_any {m : Int} {n : Nat} : tmU m (n + 1) (.tup [.str "any"]) = true := by simp [tmU]
theorem tm_is {m k : Int} {n : Nat} (h0 : 0 ≤ k) (h1 : k < m) : tmU m (n + 1) (.tup [.str "is", .int k]) = true := by simp [tmU, h0, h1]
theorem tm_not {m : Int} {n : Nat} {t : U} (h : tmU m n t = true) : tmU m (n + 1) (.tup [.str "not", t]) = true := by simp [tmU, h]
theorem tm_and {m : Int} {n : Nat} {s t : U} (h : tmU m n s = true) (h' : tmU m n t = true) : tmU m (n + 1) (.tup [.str "and", s, t]) = true := by simp [tmU, h, h']
theorem tm_or {m : Int} {n : Nat} {s t : U} (h : tmU m n s = true) (h' : tmU m n t = true) : tmU m (n + 1) (.tup [.str "or", s, t]) = true := by simp [tmU, h, h']
def KT : Nat → Int
  | 0 => 4
  | n + 1 => 2 * KT n + 4
theorem KT_ge : ∀ n, 4 ≤ KT n
  | 0 => Int.le_refl _
  | n + 1 => by have := KT_ge n; rw [KT]; omega
theorem term_ev {a : Nat} {m : Int} {h0 : PH} (m0 : 1 ≤ m) (m1 : m ≤ 4) : ∀ (n : Nat) (d c : Int) (h : PH), d ≤ (n : Nat) + 1 → Bx a c h0 h → c + KT n < 1000000000000 →
    ∃ t h', F_l_term (n + 1) [.ref a, .int m, .int d] h = some (t, h') ∧ Bx a (c + KT n) h0 h' ∧ tmU m (n + 1) t = true := by
  intro n
  induction n with
  | zero =>
    intro d c h hd b hc
    have hc : c + 4 < 1000000000000 := hc
    obtain ⟨w, h1, e1, w0, w1, b1⟩ := take_ev (m := 10) b (by omega) (by decide) (by decide)
    by_cases q9 : w = 9
    · exact ⟨.tup [.str "any"], h1, by rw [F_l_term]; simp [e1, q9], b1.mono (by show _ ≤ c + 4; omega), tm_any⟩
    · have qd : d < 2 := by omega
      obtain ⟨k, h2, e2, k0, k1, b2⟩ := take_ev (m := m) b1 (by omega) (by omega) (by omega)
      exact ⟨.tup [.str "is", .int k], h2, by rw [F_l_term]; simp [e1, q9, qd, e2], b2.mono (by show _ ≤ c + 4; omega), tm_is k0 k1⟩
  | succ n ih =>
    intro d c h hd b hc
    have ge := KT_ge n
    rw [KT] at hc
    rw [show KT (n + 1) = 2 * KT n + 4 from rfl]
    obtain ⟨w, h1, e1, w0, w1, b1⟩ := take_ev (m := 10) b (by omega) (by decide) (by decide)
    by_cases q9 : w = 9
    · exact ⟨.tup [.str "any"], h1, by rw [F_l_term]; simp [e1, q9], b1.mono (by omega), tm_any⟩
    · by_cases q : d < 2 ∨ w < 5
      · obtain ⟨k, h2, e2, k0, k1, b2⟩ := take_ev (m := m) b1 (by omega) (by omega) (by omega)
        refine ⟨.tup [.str "is", .int k], h2, ?_, b2.mono (by omega), tm_is k0 k1⟩
        by_cases qd : d < 2
        · rw [F_l_term]; simp [e1, q9, qd, e2]
        · have qw : w < 5 := by omega
          rw [F_l_term]; simp [e1, q9, qd, qw, e2]
      · have qd : ¬ d < 2 := by omega
        have qw : ¬ w < 5 := by omega
        by_cases q5 : w = 5
        · obtain ⟨t, h2, e2, b2, t2⟩ := ih (d - 1) (c + 1) h1 (by omega) b1 (by omega)
          exact ⟨.tup [.str "not", t], h2, by rw [F_l_term]; simp [e1, q9, qd, qw, q5, e2], b2.mono (by omega), tm_not t2⟩
        · obtain ⟨k, h2, e2, k0, k1, b2⟩ := take_ev (m := 2) b1 (by omega) (by decide) (by decide)
          obtain ⟨s, h3, e3, b3, t3⟩ := ih (d - 1) (c + 1 + 1) h2 (by omega) b2 (by omega)
          obtain ⟨t, h4, e4, b4, t4⟩ := ih (d - 1) (c + 1 + 1 + KT n) h3 (by omega) b3 (by omega)
          have hk : k = 0 ∨ k = 1 := by omega
          rcases hk with rfl | rfl
          · exact ⟨.tup [.str "and", s, t], h4, by rw [F_l_term]; simp [e1, q9, qd, qw, q5, e2, e3, e4, at0], b4.mono (by omega), tm_and t3 t4⟩
          · exact ⟨.tup [.str "or", s, t], h4, by rw [F_l_term]; simp [e1, q9, qd, qw, q5, e2, e3, e4, at1], b4.mono (by omega), tm_or t3 t4⟩
theorem deep_ev {a : Nat} {m : Int} {h0 : PH} (m0 : 1 ≤ m) (m1 : m ≤ 4) (n : Nat) (d c : Int) (h : PH) (hd : d = (n : Nat) + 1) (hn : n ≤ 20) (b : Bx a c h0 h) (hc : c + 2 + 2 * n < 1000000000000) :
    ∃ t h', F_l_deep_term [.ref a, .int m, .int d] h = some (t, h') ∧ Bx a (c + 2 + 2 * n) h0 h' ∧ tmU m (n + 1) t = true := by
  obtain ⟨k, h1, e1, k0, k1, b1⟩ := take_ev (m := m) b (by omega) (by omega) (by omega)
  obtain ⟨w, h2, e2, w0, w1, b2⟩ := take_ev (m := 6) b1 (by omega) (by decide) (by decide)
  have hx : ∃ t, atI [U.tup [.str "any"], .tup [.str "is", .int k]] (maxL [0, 0]) = some (.tup [.str "any"]) ∧ atI [U.tup [.str "any"], .tup [.str "is", .int k]] (minL [1, w]) = some t ∧ tmU m 1 t = true := by
    by_cases q : w = 0
    · subst q; exact ⟨_, rfl, rfl, tm_any⟩
    · have : minL [1, w] = 1 := by show min 1 w = 1; omega
      rw [this]; exact ⟨_, rfl, rfl, tm_is k0 k1⟩
  obtain ⟨t, _, et, tt⟩ := hx
  have hd1 : d - 1 = (n : Nat) := by omega
  show W (F_l_deep_term [.ref a, .int m, .int d] h) fun t h' => Bx a (c + 2 + 2 * n) h0 h' ∧ tmU m (n + 1) t = true
  simp only [F_l_deep_term]
  simp [e1, e2, et]
  refine W_sForR n (by simp) hd1 (by omega) (fun i ρ h => ∃ t x y z, ρ = [some (.ref a), some (.int m), some (.int d), some t, x, y, z] ∧ Bx a (c + 2 + 2 * i) h0 h ∧ tmU m (i + 1) t = true) ⟨_, _, _, _, rfl, b2.mono (by omega), tt⟩ ?_ ?_
  · rintro i ρ h hi ⟨t, x, y, z, rfl, b, ht⟩
    obtain ⟨w, h3, e3, w0, w1, b3⟩ := take_ev (m := 3) b (by omega) (by decide) (by decide)
    obtain ⟨k, h4, e4, k0, k1, b4⟩ := take_ev (m := m) b3 (by omega) (by omega) (by omega)
    have hw : w = 0 ∨ w = 1 ∨ w = 2 := by omega
    have a2 : ∀ x y z : U, atI [x, y, z] 2 = some z := fun _ _ _ => atI_n (by decide) rfl
    have b4 := b4.mono (d := c + 2 + 2 * ((i + 1 : Nat) : Int)) (by omega)
    rcases hw with rfl | rfl | rfl
    · simp [e3, e4, at0]; exact ⟨b4, tm_not ht⟩
    · simp [e3, e4, at1]; exact ⟨b4, tm_and (tm_is k0 k1) ht⟩
    · simp [e3, e4, a2]; exact ⟨b4, tm_or ht (tm_is k0 k1)⟩
  · rintro ρ h ⟨t, x, y, z, rfl, b, ht⟩
    simp
    exact ⟨b, ht⟩
end Mine
end
section
set_option Elab.async false
set_option linter.unusedSimpArgs false
set_option maxRecDepth 100000
set_option linter.unusedVariables false
set_option maxHeartbeats 4000000
namespace Mine
open PySem L2
inductive Tm where
  | is (k : Nat) | any | not (t : Tm) | and (a b : Tm) | or (a b : Tm)
def Tm.u : Tm → U
  | .is k => .tup [.str "is", .int (k : Nat)]
  | .any => .tup [.str "any"]
  | .not t => .tup [.str "not", t.u]
  | .and a b => .tup [.str "and", a.u, b.u]
  | .or a b => .tup [.str "or", a.u, b.u]
def Tm.dep : Tm → Nat
  | .is _ => 1
  | .any => 1
  | .not t => t.dep + 1
  | .and a b => max a.dep b.dep + 1
  | .or a b => max a.dep b.dep + 1
def Tm.cls : Tm → List Nat
  | .is k => [k]
  | .any => []
  | .not t => t.cls
  | .and a b => a.cls ++ b.cls
  | .or a b => a.cls ++ b.cls
def Tm.ok (m : Nat) (t : Tm) : Prop := ∀ k ∈ t.cls, k < m
def Tm.size : Tm → Nat
  | .is _ => 1
  | .any => 1
  | .not t => t.size + 1
  | .and a b => a.size + b.size + 1
  | .or a b => a.size + b.size + 1
theorem Tm.of {m : Nat} : ∀ (n : Nat) (t : U), tmU (m : Nat) n t = true → ∃ T : Tm, t = T.u ∧ T.dep ≤ n ∧ T.ok m
  | 0, t, h => by simp [tmU] at h
  | n + 1, t, h => by
    cases t with
    | tup us =>
      cases us with
      | nil => simp [tmU] at h
      | cons hd r =>
        cases hd with
        | str x =>
          by_cases q1 : x = "is"
          · subst q1
            match r with
            | [] => simp [tmU] at h
            | [u] =>
              cases u with
              | int k =>
                simp [tmU] at h
                refine ⟨.is k.toNat, ?_, by simp [Tm.dep], fun j hj => ?_⟩
                · have : ((k.toNat : Nat) : Int) = k := by omega
                  simp [Tm.u, this]
                · simp [Tm.cls] at hj; omega
              | _ => simp [tmU] at h
            | _ :: _ :: _ => simp [tmU] at h
          · by_cases q2 : x = "any"
            · subst q2
              cases r with
              | nil => exact ⟨.any, rfl, by simp [Tm.dep], fun j hj => absurd hj (by simp [Tm.cls])⟩
              | cons _ _ => simp [tmU] at h
            · by_cases q3 : x = "not"
              · subst q3
                simp [tmU] at h
                match r, h with
                | [u], h =>
                  obtain ⟨T, rfl, d, o⟩ := Tm.of n u (by simpa using h)
                  exact ⟨.not T, rfl, by simp [Tm.dep]; omega, o⟩
              · by_cases q4 : x = "and"
                · subst q4
                  simp [tmU, q1, q2, q3] at h
                  match r, h with
                  | [u, v], h =>
                    have h := h.2
                    simp at h
                    obtain ⟨T, rfl, d, o⟩ := Tm.of n u h.1
                    obtain ⟨T', rfl, d', o'⟩ := Tm.of n v h.2
                    exact ⟨.and T T', rfl, by simp [Tm.dep]; omega, fun k hk => (List.mem_append.mp hk).elim (o k) (o' k)⟩
                · by_cases q5 : x = "or"
                  · subst q5
                    simp [tmU, q1, q2, q3, q4] at h
                    match r, h with
                    | [u, v], h =>
                      have h := h.2
                      simp at h
                      obtain ⟨T, rfl, d, o⟩ := Tm.of n u h.1
                      obtain ⟨T', rfl, d', o'⟩ := Tm.of n v h.2
                      exact ⟨.or T T', rfl, by simp [Tm.dep]; omega, fun k hk => (List.mem_append.mp hk).elim (o k) (o' k)⟩
                  · simp [tmU, q1, q2, q3, q4, q5] at h
        | _ => simp [tmU] at h
    | _ => simp [tmU] at h
theorem Tm.sz : ∀ T : Tm, T.cls.length ≤ T.size ∧ T.dep ≤ T.size ∧ T.size < 2 ^ T.dep
  | .is k => by simp [Tm.cls, Tm.size, Tm.dep]
  | .any => by simp [Tm.cls, Tm.size, Tm.dep]
  | .not t => by
    obtain ⟨a, b, c⟩ := Tm.sz t
    simp only [Tm.cls, Tm.size, Tm.dep, Nat.pow_succ]
    refine ⟨by omega, by omega, by omega⟩
  | .and s t => by
    obtain ⟨a, b, c⟩ := Tm.sz s
    obtain ⟨a', b', c'⟩ := Tm.sz t
    have h1 : 2 ^ s.dep ≤ 2 ^ (max s.dep t.dep) := Nat.pow_le_pow_right (by decide) (by omega)
    have h2 : 2 ^ t.dep ≤ 2 ^ (max s.dep t.dep) := Nat.pow_le_pow_right (by decide) (by omega)
    simp only [Tm.cls, Tm.size, Tm.dep, Nat.pow_succ, List.length_append]
    refine ⟨by omega, by omega, by omega⟩
  | .or s t => by
    obtain ⟨a, b, c⟩ := Tm.sz s
    obtain ⟨a', b', c'⟩ := Tm.sz t
    have h1 : 2 ^ s.dep ≤ 2 ^ (max s.dep t.dep) := Nat.pow_le_pow_right (by decide) (by omega)
    have h2 : 2 ^ t.dep ≤ 2 ^ (max s.dep t.dep) := Nat.pow_le_pow_right (by decide) (by omega)
    simp only [Tm.cls, Tm.size, Tm.dep, Nat.pow_succ, List.length_append]
    refine ⟨by omega, by omega, by omega⟩
theorem Tm.size_le {T : Tm} {n : Nat} (h : T.dep ≤ n) (hn : n ≤ 9) : T.size < 512 := by
  have := T.sz.2.2
  have h1 : 2 ^ T.dep ≤ 2 ^ 9 := Nat.pow_le_pow_right (by decide) (by omega)
  have : (2 : Nat) ^ 9 = 512 := by decide
  omega
def Tm.parts : Tm → List Tm
  | .is _ => []
  | .any => []
  | .not t => [t]
  | .and a b => [a, b]
  | .or a b => [a, b]
end Mine
end
section
set_option Elab.async false
set_option linter.unusedSimpArgs false
set_option maxRecDepth 100000
set_option linter.unusedVariables false
set_option maxHeartbeats 4000000
namespace Mine
open PySem L2
theorem parts_ev {h : PH} : ∀ T : Tm, F_parts_of [T.u] h = some (.lst (T.parts.map Tm.u), h)
  | .is k => by simp [F_parts_of, Tm.u, Tm.parts, at0, u_PARTS, inP, keysOf, keyU, valK]
  | .any => by simp [F_parts_of, Tm.u, Tm.parts, at0, u_PARTS, inP, keysOf, keyU, valK]
  | .not t => by simp [F_parts_of, Tm.u, Tm.parts, at0, u_PARTS, inP, keysOf, keyU, valK, cut1]
  | .and a b => by simp [F_parts_of, Tm.u, Tm.parts, at0, u_PARTS, inP, keysOf, keyU, valK, cut1]
  | .or a b => by simp [F_parts_of, Tm.u, Tm.parts, at0, u_PARTS, inP, keysOf, keyU, valK, cut1]
theorem depth_ev {h : PH} : ∀ (n : Nat) (T : Tm), T.dep ≤ n → F_depth_of n [T.u] h = some (.int (T.dep : Nat), h)
  | 0, T, hd => by cases T <;> simp [Tm.dep] at hd
  | n + 1, T, hd => by
    have pe := parts_ev (h := h) T
    cases T with
    | is k => simp [F_depth_of, pe, Tm.parts, lcS, maxL, Tm.dep, intsU]
    | any => simp [F_depth_of, pe, Tm.parts, lcS, maxL, Tm.dep, intsU]
    | not t =>
      have e := depth_ev (h := h) n t (by simp [Tm.dep] at hd; omega)
      simp [F_depth_of, pe, Tm.parts, lcS, maxL, Tm.dep, intsU, e]; omega
    | and a b =>
      have e := depth_ev (h := h) n a (by simp [Tm.dep] at hd; omega)
      have e' := depth_ev (h := h) n b (by simp [Tm.dep] at hd; omega)
      simp [F_depth_of, pe, Tm.parts, lcS, maxL, Tm.dep, intsU, e, e']; omega
    | or a b =>
      have e := depth_ev (h := h) n a (by simp [Tm.dep] at hd; omega)
      have e' := depth_ev (h := h) n b (by simp [Tm.dep] at hd; omega)
      simp [F_depth_of, pe, Tm.parts, lcS, maxL, Tm.dep, intsU, e, e']; omega
def natsU (ks : List Nat) : List U := ks.map fun k => .int (k : Nat)
theorem inner_ev {ks : List Nat} {ρ : En} {h : PH} (hl : ρ.length = 3) : lcS (gN 2) bYes (eVar 2) [] ρ (natsU ks) h = some (natsU ks, h) := by
  have := lcS_map (g := gN 2) (f := eVar 2) (srcs := []) (ρ := ρ) (h := h) (us := natsU ks) id trivial fun u hu => ⟨ρ.set 2 (some u), by simp, by simp [hl]⟩
  simpa using this
theorem names_ev {h : PH} : ∀ (n : Nat) (T : Tm), T.dep ≤ n → T.dep ≤ 9 → F_class_names n [T.u] h = some (.lst (natsU T.cls), h)
  | 0, T, hd, _ => by cases T <;> simp [Tm.dep] at hd
  | n + 1, T, hd, h9 => by
    have pe := parts_ev (h := h) T
    have hz : T.cls.length ≤ 1000 := by have := T.sz.1; have := Tm.size_le (T := T) h9 (Nat.le_refl _); omega
    cases T with
    | is k => simp [F_class_names, Tm.u, at0, at1, Tm.cls, natsU]
    | any =>
      have a0 : uIx h Tm.any.u (.int 0) = some (.str "any", h) := by simp [Tm.u, at0]
      simp [F_class_names, a0, pe, Tm.parts, lcS2, Tm.cls, natsU]
    | not t =>
      have e := names_ev (h := h) n t (by simp [Tm.dep] at hd; omega) (by simp [Tm.dep] at h9; omega)
      have hz : (natsU t.cls).length ≤ sizeLine := len_ok (by simp [Tm.cls, natsU] at hz ⊢; omega)
      have a0 : uIx h (Tm.not t).u (.int 0) = some (.str "not", h) := by simp [Tm.u, at0]
      simp [F_class_names, a0, pe, Tm.parts, lcS2, e, inner_ev, hz, Tm.cls]
    | and a b =>
      have e := names_ev (h := h) n a (by simp [Tm.dep] at hd; omega) (by simp [Tm.dep] at h9; omega)
      have e' := names_ev (h := h) n b (by simp [Tm.dep] at hd; omega) (by simp [Tm.dep] at h9; omega)
      have hz : (natsU a.cls ++ natsU b.cls).length ≤ sizeLine := len_ok (by simp [Tm.cls, natsU] at hz ⊢; omega)
      have a0 : uIx h (Tm.and a b).u (.int 0) = some (.str "and", h) := by simp [Tm.u, at0]
      have en : natsU (Tm.and a b).cls = natsU a.cls ++ natsU b.cls := by simp [Tm.cls, natsU]
      rw [en]
      simp [-List.length_append, F_class_names, a0, pe, Tm.parts, lcS2, e, e', inner_ev, hz]
    | or a b =>
      have e := names_ev (h := h) n a (by simp [Tm.dep] at hd; omega) (by simp [Tm.dep] at h9; omega)
      have e' := names_ev (h := h) n b (by simp [Tm.dep] at hd; omega) (by simp [Tm.dep] at h9; omega)
      have hz : (natsU a.cls ++ natsU b.cls).length ≤ sizeLine := len_ok (by simp [Tm.cls, natsU] at hz ⊢; omega)
      have a0 : uIx h (Tm.or a b).u (.int 0) = some (.str "or", h) := by simp [Tm.u, at0]
      have en : natsU (Tm.or a b).cls = natsU a.cls ++ natsU b.cls := by simp [Tm.cls, natsU]
      rw [en]
      simp [-List.length_append, F_class_names, a0, pe, Tm.parts, lcS2, e, e', inner_ev, hz]
def clsI (ks : List Nat) : List Int := ([0, 1, 2, 3] : List Int).filter fun k => (ks.map fun (j : Nat) => (j : Int)).contains k
theorem intsU_nats (ks : List Nat) : intsU (natsU ks) = some (ks.map fun (j : Nat) => (j : Int)) := by
  induction ks with
  | nil => rfl
  | cons k r ih => simp [natsU, intsU] at ih ⊢; simp [ih]
theorem sortSet_ev {m : Bool} {h : PH} {ks : List Nat} (h4 : ∀ k ∈ ks, k < 4) : sortSet m (.lst (natsU ks)) h = mk m ((clsI ks).map .int) h := by
  have e : ((ks.map fun (j : Nat) => (j : Int)).all fun k => decide (0 ≤ k ∧ k < 4)) = true := by
    rw [List.all_eq_true]
    intro k hk
    obtain ⟨j, hj, rfl⟩ := List.mem_map.mp hk
    have := h4 j hj
    simp; omega
  unfold sortSet
  rw [its_lst]
  show ((intsU (natsU ks)).bind _) = _
  rw [intsU_nats]
  show (if _ then _ else _) = _
  rw [if_pos e]; rfl
theorem classes_ev {h : PH} {T : Tm} {m : Nat} (h9 : T.dep ≤ 9) (o : T.ok m) (m4 : m ≤ 4) : F_classes_in [T.u] h = some (.ref h.length, h ++ [.lst ((clsI T.cls).map .int)]) := by
  have e := names_ev (h := h) 12 T (by omega) h9
  have s := sortSet_ev (m := true) (h := h) (ks := T.cls) fun k hk => by have := o k hk; omega
  simp [F_classes_in, e, s]
end Mine
end
section
set_option Elab.async false
set_option linter.unusedSimpArgs false
set_option maxRecDepth 100000
set_option linter.unusedVariables false
set_option maxHeartbeats 4000000
namespace Mine
open PySem L2
def wtU (ws : List (Tm × Nat)) : List U := ws.map fun p => .tup [p.1.u, .int (p.2 : Nat)]
def wsz (ws : List (Tm × Nat)) : Nat := (ws.map fun p => p.1.size).sum
def wdep : List (Tm × Nat) → Nat
  | [] => 0
  | p :: r => max (p.1.dep + p.2 - 1) (wdep r)
def wcls (ws : List (Tm × Nat)) : List Nat := ws.flatMap fun p => p.1.cls
theorem wdep_app (a b : List (Tm × Nat)) : wdep (a ++ b) = max (wdep a) (wdep b) := by
  induction a with
  | nil => simp [wdep]
  | cons p r ih => simp [wdep, ih]
theorem wsz_app (a b : List (Tm × Nat)) : wsz (a ++ b) = wsz a + wsz b := by simp [wsz]
theorem wcls_app (a b : List (Tm × Nat)) : wcls (a ++ b) = wcls a ++ wcls b := by simp [wcls]
theorem Tm.size_pos : ∀ T : Tm, 1 ≤ T.size
  | .is _ => Nat.le_refl _
  | .any => Nat.le_refl _
  | .not _ => Nat.le_add_left _ _
  | .and _ _ => Nat.le_add_left _ _
  | .or _ _ => Nat.le_add_left _ _
theorem wsz_len (ws : List (Tm × Nat)) : ws.length ≤ wsz ws := by
  induction ws with
  | nil => simp [wsz]
  | cons p r ih =>
    have := p.1.size_pos
    have e : wsz (p :: r) = p.1.size + wsz r := by simp [wsz]
    rw [e, List.length_cons]; omega
def WH (h : PH) (ws : List (Tm × Nat)) (nm : List Nat) : PH := h ++ [.lst (wtU ws), .lst (natsU nm)]
theorem WH0 {h : PH} {ws : List (Tm × Nat)} {nm : List Nat} : (WH h ws nm)[h.length]? = some (.lst (wtU ws)) := by
  unfold WH; rw [List.getElem?_append_right (Nat.le_refl _), Nat.sub_self]; rfl
theorem WH1 {h : PH} {ws : List (Tm × Nat)} {nm : List Nat} : (WH h ws nm)[h.length + 1]? = some (.lst (natsU nm)) := by
  unfold WH; rw [List.getElem?_append_right (Nat.le_add_right _ _), Nat.add_sub_cancel_left]; rfl
theorem WHs0 {h : PH} {ws ws' : List (Tm × Nat)} {nm : List Nat} : (WH h ws nm).set h.length (.lst (wtU ws')) = WH h ws' nm := by
  unfold WH; rw [List.set_append_right _ _ (Nat.le_refl _), Nat.sub_self]; rfl
theorem WHs1 {h : PH} {ws : List (Tm × Nat)} {nm nm' : List Nat} : (WH h ws nm).set (h.length + 1) (.lst (natsU nm')) = WH h ws nm' := by
  unfold WH; rw [List.set_append_right _ _ (Nat.le_add_right _ _), Nat.add_sub_cancel_left]; rfl
theorem gd_isN {n : Nat} {k : Int} (h0 : -1000 ≤ k) (h1 : k ≤ 1000) : Gd (n + 1) 6000 (.tup [.str "is", .int k]) :=
  ((Gds.cons (n := n) ((gd_str (x := "is") (by decide +kernel)).up (Nat.zero_le _) (Nat.le_refl _)) (Gds.cons ((gd_small h0 h1).up (Nat.zero_le _) (Nat.le_refl _)) (Gds.nil (c := 0)))).tup).up (Nat.le_refl _) (by decide)
theorem gd_w {n : Nat} {y : Str} (hy : wordOk y = true) : Gd n 1921 (.str y) := (gd_str hy).up (Nat.zero_le _) (Nat.le_refl _)
theorem Tm.gd : ∀ (T : Tm), T.ok 1000 → Gd T.dep (8000 * T.size) T.u
  | .is k, o => (gd_isN (n := 0) (by omega) (by have := o k (by simp [Tm.cls]); omega)).up (Nat.le_refl _) (by simp [Tm.size])
  | .any, _ => ((Gds.cons (gd_w (n := 0) (y := "any") (by decide +kernel)) (Gds.nil (c := 0))).tup).up (Nat.le_refl _) (by simp [Tm.size])
  | .not t, o => ((Gds.cons (gd_w (y := "not") (by decide +kernel)) (Gds.cons (Tm.gd t o) (Gds.nil (c := 0)))).tup).up (Nat.le_refl _) (by simp only [Tm.size]; omega)
  | .and a b, o => by
    have ga := (Tm.gd a fun k hk => o k (List.mem_append_left _ hk)).up (show a.dep ≤ max a.dep b.dep by omega) (Nat.le_refl _)
    have gb := (Tm.gd b fun k hk => o k (List.mem_append_right _ hk)).up (show b.dep ≤ max a.dep b.dep by omega) (Nat.le_refl _)
    exact ((Gds.cons (gd_w (y := "and") (by decide +kernel)) (Gds.cons ga (Gds.cons gb (Gds.nil (c := 0))))).tup).up (Nat.le_refl _) (by simp only [Tm.size]; omega)
  | .or a b, o => by
    have ga := (Tm.gd a fun k hk => o k (List.mem_append_left _ hk)).up (show a.dep ≤ max a.dep b.dep by omega) (Nat.le_refl _)
    have gb := (Tm.gd b fun k hk => o k (List.mem_append_right _ hk)).up (show b.dep ≤ max a.dep b.dep by omega) (Nat.le_refl _)
    exact ((Gds.cons (gd_w (y := "or") (by decide +kernel)) (Gds.cons ga (Gds.cons gb (Gds.nil (c := 0))))).tup).up (Nat.le_refl _) (by simp only [Tm.size]; omega)
theorem eqnil_ref {h : PH} {a n c : Nat} {us : List U} (e : h[a]? = some (.lst us)) (g : Gds n c us) (hn : n + 1 ≤ 64) : eqP h (.ref a) (.lst []) = some us.isEmpty := by
  obtain ⟨ds, e1, f⟩ := g.2
  have q : scalU (.ref a) (.lst []) = none := rfl
  have e2 : dat h (.lst []) = some (.list []) := rfl
  have e3 : dat h (.ref a) = some (.list ds) := by unfold dat; simp only [e, e1]; rfl
  unfold eqP; rw [q]
  simp only [e3, e2, Option.bind_some, if_pos (show SeqAt.shaped (.list ds) = true ∧ SeqAt.shaped (.list []) = true from ⟨f.lst.shaped hn, rfl⟩)]
  cases us with
  | nil => rw [datFs] at e1; cases e1; rfl
  | cons u r =>
    rw [datFs] at e1
    cases q3 : datF u with
    | none => rw [q3] at e1; cases e1
    | some d =>
      cases q4 : datFs r with
      | none => rw [q3, q4] at e1; cases e1
      | some ds' => rw [q3, q4] at e1; cases e1; rfl
def wok (ws : List (Tm × Nat)) : Prop := ∀ p ∈ ws, p.1.ok 4 ∧ p.1.dep ≤ 9 ∧ p.2 ≤ 600 ∧ 1 ≤ p.2
theorem wt_gds : ∀ (ws : List (Tm × Nat)), wok ws → ∃ c, Gds 12 c (wtU ws)
  | [], _ => ⟨0, Gds.nil⟩
  | p :: r, o => by
    obtain ⟨c, g⟩ := wt_gds r fun q hq => o q (List.mem_cons_of_mem _ hq)
    obtain ⟨o1, o2, o3, o4⟩ := o p List.mem_cons_self
    have g1 := (p.1.gd fun k hk => by have := o1 k hk; omega).up (show p.1.dep ≤ 11 by omega) (Nat.le_refl _)
    have g2 : Gd 11 1921 (.int (p.2 : Nat)) := (gd_small (by omega) (by omega)).up (Nat.zero_le _) (Nat.le_refl _)
    exact ⟨_, Gds.cons ((Gds.cons g1 (Gds.cons g2 (Gds.nil (c := 0)))).tup) g⟩
theorem Tm.parts_cls : ∀ T : Tm, (∀ k, T ≠ .is k) → T.cls = T.parts.flatMap Tm.cls
  | .is k, h => absurd rfl (h k)
  | .any, _ => rfl
  | .not t, _ => by simp [Tm.cls, Tm.parts]
  | .and a b, _ => by simp [Tm.cls, Tm.parts]
  | .or a b, _ => by simp [Tm.cls, Tm.parts]
theorem Tm.u_hd : ∀ T : Tm, ∃ x r, T.u = .tup (.str x :: r) ∧ ((∃ k : Nat, T = .is k ∧ x = "is" ∧ r = [.int (k : Nat)]) ∨ ((∀ k, T ≠ .is k) ∧ x ≠ "is" ∧ r = T.parts.map Tm.u))
  | .is k => ⟨_, _, rfl, .inl ⟨k, rfl, rfl, rfl⟩⟩
  | .any => ⟨_, _, rfl, .inr ⟨(fun _ z => nomatch z), by decide, rfl⟩⟩
  | .not _ => ⟨_, _, rfl, .inr ⟨(fun _ z => nomatch z), by decide, rfl⟩⟩
  | .and _ _ => ⟨_, _, rfl, .inr ⟨(fun _ z => nomatch z), by decide, rfl⟩⟩
  | .or _ _ => ⟨_, _, rfl, .inr ⟨(fun _ z => nomatch z), by decide, rfl⟩⟩
end Mine
end
section
set_option Elab.async false
set_option linter.unusedSimpArgs false
set_option maxRecDepth 100000
set_option linter.unusedVariables false
set_option maxHeartbeats 4000000
namespace Mine
open PySem L2
theorem W_while {c : BF} {b : SF} {P : Fl → PH → Prop} (I : Nat → En → PH → Prop) (st : ∀ k ρ h, I k ρ h → (c ρ h = some (false, h) ∧ P (.nx ρ) h) ∨ (c ρ h = some (true, h) ∧ W (b ρ h) fun fl h2 => match fl with
    | .nx ρ2 => ∃ k', k' < k ∧ I k' ρ2 h2
    | .rt v => P (.rt v) h2
    | _ => False)) {k : Nat} {ρ : En} {h : PH} (hi : I k ρ h) : W (sWhile c b ρ h) P := by
  have key : ∀ (B k : Nat) (ρ : En) (h : PH), k ≤ B → I k ρ h → ∃ fl h', whileN c b (B + 1) ρ h = some (fl, h') ∧ P fl h' := by
    intro B
    induction B with
    | zero =>
      intro k ρ h hk hi
      rcases st k ρ h hi with ⟨e, p⟩ | ⟨e, fl, h2, e2, p⟩
      · exact ⟨.nx ρ, h, by rw [whileN, e, bnd_some, if_neg Bool.false_ne_true], p⟩
      · cases fl with
        | nx ρ2 => obtain ⟨k', hk', _⟩ := p; omega
        | rt v =>
          refine ⟨.rt v, h2, ?_, p⟩
          rw [whileN, e, bnd_some, if_pos rfl, e2, bnd_some]
        | _ => exact p.elim
    | succ B ih =>
      intro k ρ h hk hi
      rcases st k ρ h hi with ⟨e, p⟩ | ⟨e, fl, h2, e2, p⟩
      · exact ⟨.nx ρ, h, by rw [whileN, e, bnd_some, if_neg Bool.false_ne_true], p⟩
      · cases fl with
        | nx ρ2 =>
          obtain ⟨k', hk', p⟩ := p
          obtain ⟨fl, h', e3, p3⟩ := ih k' ρ2 h2 (by omega) p
          refine ⟨fl, h', ?_, p3⟩
          rw [whileN, e, bnd_some, if_pos rfl, e2, bnd_some]
          exact e3
        | rt v =>
          refine ⟨.rt v, h2, ?_, p⟩
          rw [whileN, e, bnd_some, if_pos rfl, e2, bnd_some]
        | _ => exact p.elim
  obtain ⟨fl, h', e, p⟩ := key k k ρ h (Nat.le_refl _) hi
  exact ⟨fl, h', sWhile_of e, p⟩
end Mine
end
section
set_option Elab.async false
set_option linter.unusedSimpArgs false
set_option maxRecDepth 100000
set_option linter.unusedVariables false
set_option maxHeartbeats 4000000
namespace Mine
open PySem L2
theorem wtU_app (a b : List (Tm × Nat)) : wtU (a ++ b) = wtU a ++ wtU b := by simp [wtU]
theorem dep_parts (T : Tm) (l : Nat) (hl : 1 ≤ l) : max l (wdep (T.parts.map fun q => (q, l + 1))) = T.dep + l - 1 := by
  cases T <;> simp [Tm.parts, wdep, Tm.dep] <;> omega
theorem size_parts (T : Tm) : wsz (T.parts.map fun q => (q, l)) < T.size := by
  cases T <;> simp [Tm.parts, wsz, Tm.size] <;> omega
theorem cls_parts (T : Tm) (l : Nat) (h : ∀ k, T ≠ .is k) : wcls (T.parts.map fun q => (q, l)) = T.cls := by
  rw [Tm.parts_cls T h]
  simp [wcls, List.flatMap_map]
theorem clsI_congr {a b : List Nat} (h : ∀ k, k ∈ a ↔ k ∈ b) : clsI a = clsI b := by
  unfold clsI
  apply List.filter_congr
  intro k _
  rw [Bool.eq_iff_iff, List.contains_iff_mem, List.contains_iff_mem]
  constructor
  · intro z; obtain ⟨j, hj, e⟩ := List.mem_map.mp z; exact List.mem_map.mpr ⟨j, (h j).mp hj, e⟩
  · intro z; obtain ⟨j, hj, e⟩ := List.mem_map.mp z; exact List.mem_map.mpr ⟨j, (h j).mpr hj, e⟩
theorem ok_parts {T : Tm} {l : Nat} (o : T.ok 4) (d : T.dep ≤ 9) : ∀ q ∈ T.parts, q.ok 4 ∧ q.dep ≤ 9 := by
  intro q hq
  cases T with
  | is _ => exact absurd hq (by simp [Tm.parts])
  | any => exact absurd hq (by simp [Tm.parts])
  | not t => simp [Tm.parts] at hq; subst hq; exact ⟨o, by simp [Tm.dep] at d; omega⟩
  | and a b =>
    simp [Tm.parts] at hq
    simp [Tm.dep] at d
    rcases hq with rfl | rfl
    · exact ⟨fun k hk => o k (List.mem_append_left _ hk), by omega⟩
    · exact ⟨fun k hk => o k (List.mem_append_right _ hk), by omega⟩
  | or a b =>
    simp [Tm.parts] at hq
    simp [Tm.dep] at d
    rcases hq with rfl | rfl
    · exact ⟨fun k hk => o k (List.mem_append_left _ hk), by omega⟩
    · exact ⟨fun k hk => o k (List.mem_append_right _ hk), by omega⟩
theorem inNats {h : PH} {a : Nat} {k : Int} {nm : List Nat} (e : h[a]? = some (.lst (natsU nm))) : inP h (.int k) (.ref a) = some (decide (k ∈ nm.map fun (j : Nat) => (j : Int))) := by
  have e2 : natsU nm = (nm.map fun (j : Nat) => (j : Int)).map U.int := by simp [natsU]
  refine inI (nm.map fun (j : Nat) => (j : Int)) ?_ ?_
  · unfold keysOf; simp only [e]
  · rw [sq_ref, its_ref e, e2]
theorem walked_ev {T : Tm} {h : PH} (o : T.ok 4) (d9 : T.dep ≤ 9) : F_l_walked [T.u] h = some (.tup [.int (T.dep : Nat), .lst ((clsI T.cls).map .int)], h) := by
  have hz := Tm.size_le d9 (Nat.le_refl _)
  have w : W (F_l_walked [T.u] h) fun v h' => v = .tup [.int (T.dep : Nat), .lst ((clsI T.cls).map .int)] ∧ h' = h := by
    simp only [F_l_walked]
    refine W_finR (W_fnR rfl ?_)
    refine W_seq (fun ρ' h' => ρ' = [some T.u, some (.ref h.length), none, none, none, none, none, none] ∧ h' = h ++ [.lst (wtU [(T, 1)])]) ?_ ?_
    · simp -implicitDefEqProofs [wtU]
    rintro _ _ ⟨rfl, rfl⟩
    refine W_seq (fun ρ' h' => ρ' = [some T.u, some (.ref h.length), some (.int 0), some (.ref (h.length + 1)), none, none, none, none] ∧ h' = WH h [(T, 1)] []) ?_ ?_
    · simp -implicitDefEqProofs [WH, natsU]
    rintro _ _ ⟨rfl, rfl⟩
    refine W_seq (fun ρ' h' => ∃ x4 x5 x6 x7 nm, ρ' = [some T.u, some (.ref h.length), some (.int (T.dep : Nat)), some (.ref (h.length + 1)), x4, x5, x6, x7] ∧ h' = WH h [] nm ∧ ∀ k, k ∈ nm ↔ k ∈ T.cls) ?_ ?_
    · refine W_while (fun m ρ h' => ∃ x4 x5 x6 x7 ws nm d, ρ = [some T.u, some (.ref h.length), some (.int ((d : Nat) : Int)), some (.ref (h.length + 1)), x4, x5, x6, x7] ∧ h' = WH h ws nm ∧ m = wsz ws ∧ wok ws ∧ max d (wdep ws) = T.dep ∧ (∀ k, (k ∈ nm ∨ k ∈ wcls ws) ↔ k ∈ T.cls) ∧ nm.length + wsz ws ≤ T.size) ?_ (k := wsz [(T, 1)]) ⟨_, _, _, _, [(T, 1)], [], 0, rfl, rfl, rfl, ?_, by simp [wdep], by simp [wcls], by simp [wsz]⟩
      · rintro k _ _ ⟨x4, x5, x6, x7, ws, nm, d, rfl, rfl, rfl, ok, hd, hm, hl⟩
        obtain ⟨c, g⟩ := wt_gds ws ok
        have eq := eqnil_ref (WH0 (h := h) (ws := ws) (nm := nm)) g (by decide)
        have en : (wtU ws).isEmpty = ws.isEmpty := by cases ws <;> rfl
        rw [en] at eq
        rcases List.eq_nil_or_concat ws with rfl | ⟨init, p, hws⟩
        · left
          refine ⟨by simp -implicitDefEqProofs [uNe, eq], _, rfl, ?_⟩
          have : d = T.dep := by simpa [wdep] using hd
          subst this
          exact ⟨_, _, _, _, nm, rfl, rfl, fun k => by have := hm k; simpa [wcls] using this⟩
        · right
          rw [List.concat_eq_append] at hws
          subst hws
          obtain ⟨P, l⟩ := p
          have okp := ok (P, l) (by simp)
          obtain ⟨o1, o2, o3, o4⟩ := okp
          have o1 : P.ok 4 := o1
          have o2 : P.dep ≤ 9 := o2
          have o3 : l ≤ 600 := o3
          have o4 : 1 ≤ l := o4
          have oki : wok init := fun q hq => ok q (by simp [hq])
          rw [wsz_app] at hl
          have sz1 : wsz [(P, l)] = P.size := by simp [wsz]
          have iL := wsz_len init
          rw [sz1] at hl
          refine ⟨by simp -implicitDefEqProofs [uNe, eq], ?_⟩
          have pop : mPop (WH h (init ++ [(P, l)]) nm) (.ref h.length) [] = some (.tup [P.u, .int (l : Nat)], WH h init nm) := by
            show ((lsAt _ _).bind _) = _
            rw [lsAt_ref WH0]
            show (((wtU (init ++ [(P, l)]))[(wtU (init ++ [(P, l)])).length - 1]?).map _) = _
            rw [wtU_app]
            have e1 : (wtU init ++ wtU [(P, l)])[(wtU init ++ wtU [(P, l)]).length - 1]? = some (.tup [P.u, .int (l : Nat)]) := by
              rw [List.length_append, List.getElem?_append_right (by simp [wtU])]
              simp [wtU]
            have e2 : (wtU init ++ wtU [(P, l)]).dropLast = wtU init := by simp [wtU]
            rw [e1]
            show some (_, (WH h (init ++ [(P, l)]) nm).set h.length (.lst (wtU init ++ wtU [(P, l)]).dropLast)) = _
            rw [e2, WHs0]
          refine W_seq (fun ρ' h' => ρ' = [some T.u, some (.ref h.length), some (.int ((d : Nat) : Int)), some (.ref (h.length + 1)), some P.u, some (.int (l : Nat)), x6, x7] ∧ h' = WH h init nm) ?_ ?_
          · simp -implicitDefEqProofs [-mPop, pop, tyOk_ref WH0]
          rintro _ _ ⟨rfl, rfl⟩
          have mx : maxL [((d : Nat) : Int), ((l : Nat) : Int)] = ((max d l : Nat) : Int) := by show max ((d : Nat) : Int) (l : Nat) = _; omega
          refine W_seq (fun ρ' h' => ρ' = [some T.u, some (.ref h.length), some (.int ((max d l : Nat) : Int)), some (.ref (h.length + 1)), some P.u, some (.int (l : Nat)), x6, x7] ∧ h' = WH h init nm) ?_ ?_
          · simp -implicitDefEqProofs [mx, intsU]
          rintro _ _ ⟨rfl, rfl⟩
          have hd : max d (max (wdep init) (P.dep + l - 1)) = T.dep := by rw [wdep_app] at hd; simpa [wdep] using hd
          obtain ⟨x, r, eu, hx⟩ := P.u_hd
          have ix : ∀ h', uIx h' P.u (.int 0) = some (.str x, h') := fun h' => by rw [eu]; simp [at0]
          have hmc : ∀ k, (k ∈ nm ∨ k ∈ wcls init ∨ k ∈ P.cls) ↔ k ∈ T.cls := fun k => by
            rw [← hm k, wcls_app, List.mem_append]; simp [wcls]
          rcases hx with ⟨kk, rfl, rfl, rfl⟩ | ⟨nis, nx, rfl⟩
          · have ix1 : ∀ h', uIx h' (Tm.is kk).u (.int 1) = some (.int (kk : Nat), h') := fun h' => by simp [Tm.u, at1]
            have app : mApp (WH h init nm) (.ref (h.length + 1)) [.int (kk : Nat)] = some (.non, WH h init (nm ++ [kk])) := by
              have hl1 : (natsU nm).length < sizeLine := len_lt (by simp [natsU]; simp [Tm.size] at hl; omega)
              show ((lsAt _ _).bind _) = _
              rw [lsAt_ref WH1]
              show (if (natsU nm).length < sizeLine then _ else _) = _
              rw [if_pos hl1]
              have : natsU nm ++ [.int (kk : Nat)] = natsU (nm ++ [kk]) := by simp [natsU]
              show some (U.non, (WH h init nm).set (h.length + 1) (.lst (natsU nm ++ [.int (kk : Nat)]))) = _
              rw [this, WHs1]
            refine ⟨.nx [some T.u, some (.ref h.length), some (.int ((max d l : Nat) : Int)), some (.ref (h.length + 1)), some (Tm.is kk).u, some (.int (l : Nat)), x6, x7], WH h init (nm ++ [kk]), by simp -implicitDefEqProofs [-mApp, ix, ix1, app, tyOk_ref WH1], wsz init, ?_, _, _, _, _, init, nm ++ [kk], max d l, rfl, rfl, rfl, oki, ?_, fun k => ?_, ?_⟩
            · rw [wsz_app, sz1]; simp [Tm.size]
            · simp [Tm.dep] at hd; omega
            · rw [← hmc k]; simp [Tm.cls]; constructor
              · rintro ((z | z) | z) <;> simp [z]
              · rintro (z | z | z) <;> simp [z]
            · simp [Tm.size] at hl ⊢; omega
          · have lc : ∀ h', lcS (gN 6) bYes (eTup (aCons (eVar 6) (aCons (eOp (uAdd false) (eVar 5) (eC (.int 1))) aNil))) [] [some T.u, some (.ref h.length), some (.int ((max d l : Nat) : Int)), some (.ref (h.length + 1)), some P.u, some (.int (l : Nat)), none, x7] (P.parts.map Tm.u) h' = some (wtU (P.parts.map fun q => (q, l + 1)), h') := fun h' => by
              have := lcS_map (g := gN 6) (f := eTup (aCons (eVar 6) (aCons (eOp (uAdd false) (eVar 5) (eC (.int 1))) aNil))) (srcs := []) (ρ := [some T.u, some (.ref h.length), some (.int ((max d l : Nat) : Int)), some (.ref (h.length + 1)), some P.u, some (.int (l : Nat)), none, x7]) (h := h') (us := P.parts.map Tm.u) (fun u => .tup [u, .int ((l : Nat) + 1)]) trivial fun u hu => ⟨[some T.u, some (.ref h.length), some (.int ((max d l : Nat) : Int)), some (.ref (h.length + 1)), some P.u, some (.int (l : Nat)), some u, x7], by simp -implicitDefEqProofs, by simp -implicitDefEqProofs⟩
              rw [this]
              simp [wtU, List.map_map, Function.comp_def]
            have ps := size_parts (l := l + 1) P
            have pl : (wtU (P.parts.map fun q => (q, l + 1))).length ≤ 2 := by cases P <;> simp [wtU, Tm.parts]
            have ext : mExtT (WH h init nm) (.ref h.length) [.lst (wtU (P.parts.map fun q => (q, l + 1)))] = some (.non, WH h (init ++ P.parts.map fun q => (q, l + 1)) nm) := by
              have hl1 : (wtU init).length + (wtU (P.parts.map fun q => (q, l + 1))).length ≤ sizeLine := len_ok (by
                have : (wtU init).length = init.length := by simp [wtU]
                omega)
              show ((lsAt _ _).bind _) = _
              rw [lsAt_ref WH0]
              show (if (wtU init).length + (wtU (P.parts.map fun q => (q, l + 1))).length ≤ sizeLine then _ else _) = _
              rw [if_pos hl1, ← wtU_app]
              show some (U.non, (WH h init nm).set h.length (.lst (wtU (init ++ P.parts.map fun q => (q, l + 1))))) = _
              rw [WHs0]
            have sl : ∀ h', uSl false h' P.u (some 1) none = some (.tup (P.parts.map Tm.u), h') := fun h' => by rw [eu]; simp [uSl, cut1]
            have plz : (wtU (P.parts.map fun q => (q, l + 1))).length ≤ sizeLine := len_ok (by omega)
            refine ⟨.nx [some T.u, some (.ref h.length), some (.int ((max d l : Nat) : Int)), some (.ref (h.length + 1)), some P.u, some (.int (l : Nat)), x6, x7], WH h (init ++ P.parts.map fun q => (q, l + 1)) nm, by simp -implicitDefEqProofs [-mExtT, -uSl, ix, nx, sl, lc, plz, ext, tyOk_ref WH0], wsz (init ++ P.parts.map fun q => (q, l + 1)), ?_, _, _, _, _, init ++ P.parts.map fun q => (q, l + 1), nm, max d l, rfl, rfl, rfl, ?_, ?_, fun k => ?_, ?_⟩
            · rw [wsz_app, wsz_app, sz1]; omega
            · intro q hq
              rcases List.mem_append.mp hq with hq | hq
              · exact oki q hq
              · obtain ⟨z, hz, rfl⟩ := List.mem_map.mp hq
                obtain ⟨a, b⟩ := ok_parts (l := 0) o1 o2 z hz
                have : l + P.dep ≤ T.dep + 1 := by omega
                exact ⟨a, b, by show l + 1 ≤ 600; omega, by show 1 ≤ l + 1; omega⟩
            · rw [wdep_app]
              have := dep_parts P l o4
              omega
            · rw [← hmc k, wcls_app, cls_parts P _ nis, List.mem_append]
            · rw [wsz_app]; omega
      · intro q hq
        simp at hq; subst hq
        exact ⟨o, d9, by show 1 ≤ 600; omega, Nat.le_refl _⟩
    · rintro _ _ ⟨x4, x5, x6, x7, nm, rfl, rfl, hm⟩
      have fil := lcS_filter (g := gN 7) (t := bVal (eOp (uIn false) (eVar 7) (eVar 3))) (f := eVar 7) (srcs := []) (ρ := [some T.u, some (.ref h.length), some (.int (T.dep : Nat)), some (.ref (h.length + 1)), x4, x5, x6, none]) (h := WH h [] nm) (us := rngU 0 4) id (fun u => match u with
        | .int k => decide (k ∈ nm.map fun (j : Nat) => (j : Int))
        | _ => false) trivial (fun u hu => by
          obtain ⟨k, rfl⟩ : ∃ k, u = .int k := by
            unfold rngU at hu
            obtain ⟨i, _, rfl⟩ := List.mem_map.mp hu
            exact ⟨_, rfl⟩
          exact ⟨[some T.u, some (.ref h.length), some (.int (T.dep : Nat)), some (.ref (h.length + 1)), x4, x5, x6, some (.int k)], by simp -implicitDefEqProofs, by simp -implicitDefEqProofs [-inP, uIn, inNats WH1], fun _ => by simp -implicitDefEqProofs⟩)
      have res : (((rngU 0 4).filter fun u => match u with
        | .int k => decide (k ∈ nm.map fun (j : Nat) => (j : Int))
        | _ => false).map id) = (clsI T.cls).map U.int := by
        rw [← clsI_congr hm]
        have : rngU 0 4 = ([0, 1, 2, 3] : List Int).map U.int := rfl
        rw [this, List.map_id, List.filter_map]
        unfold clsI
        congr 1
        apply List.filter_congr
        intro k _
        show decide (k ∈ nm.map fun (j : Nat) => (j : Int)) = _
        rw [Bool.eq_iff_iff, decide_eq_true_eq, List.contains_iff_mem]
      rw [res] at fil
      have rl : ((clsI T.cls).map U.int).length ≤ sizeLine := len_ok (by
        rw [List.length_map]
        have : (clsI T.cls).length ≤ 4 := by unfold clsI; exact Nat.le_trans (List.length_filter_le _ _) (by decide)
        omega)
      have r4 : iRng1U (aCons (eC (.int 4)) aNil) [some T.u, some (.ref h.length), some (.int (T.dep : Nat)), some (.ref (h.length + 1)), x4, x5, x6, x7] (WH h [] nm) = some ((rngU 0 4, []), WH h [] nm) := iRng1_ev (n := 4) (by simp -implicitDefEqProofs) rfl (by decide)
      simp -implicitDefEqProofs [-iRng1U, r4, fil, rl]
      refine ⟨by rw [List.length_map] at rl; exact rl, ?_, ?_, ?_⟩
      · simp [plU, plUs, plUs_ints]
      · exact cutOk_app _ _
      · unfold WH; exact List.take_left' rfl
  obtain ⟨v, h', e, rfl, rfl⟩ := w
  exact e
end Mine
end
section
set_option Elab.async false
set_option linter.unusedSimpArgs false
set_option maxRecDepth 100000
set_option linter.unusedVariables false
set_option maxHeartbeats 4000000
namespace Mine
open PySem L2
theorem clsI_len (ks : List Nat) : (clsI ks).length ≤ 4 := Nat.le_trans (List.length_filter_le _ _) (by decide)
theorem eqInts_ref {h : PH} {a : Nat} {xs ys : List Int} (e : h[a]? = some (.lst (xs.map .int))) : eqP h (.ref a) (.lst (ys.map .int)) = some (decide (xs = ys)) := by
  have q : scalU (.ref a) (.lst (ys.map .int)) = none := rfl
  have e2 : dat h (.lst (ys.map .int)) = some (.list (ys.map .int)) := by
    show datF (.lst (ys.map .int)) = _
    rw [datF, datFs_ints]; rfl
  have e3 : dat h (.ref a) = some (.list (xs.map .int)) := by unfold dat; simp only [e, datFs_ints]; rfl
  have sh : ∀ zs : List Int, SeqAt.shaped (.list (zs.map .int)) = true := fun zs => by
    have dp : PyData.depthAll (zs.map .int) = 0 := by
      induction zs with
      | nil => rfl
      | cons z r ih => simp [PyData.depthAll, PyData.depth, ih]
    unfold SeqAt.shaped
    simp [PyData.canLay0, lay_ints, PyData.depth, dp]
  have ev : ∀ xs ys : List Int, PyData.eqv (.list (xs.map .int)) (.list (ys.map .int)) = decide (xs = ys) := by
    intro xs ys
    show PyData.eqvAll (xs.map .int) (ys.map .int) = _
    induction xs generalizing ys with
    | nil => cases ys <;> simp [PyData.eqvAll]
    | cons x r ih =>
      cases ys with
      | nil => simp [PyData.eqvAll]
      | cons y s =>
        simp only [List.map_cons, PyData.eqvAll, ih s]
        rw [Bool.eq_iff_iff]
        simp [PyData.eqv]
  unfold eqP; rw [q]
  simp only [e3, e2, Option.bind_some, if_pos (show SeqAt.shaped (.list (xs.map .int)) = true ∧ SeqAt.shaped (.list (ys.map .int)) = true from ⟨sh xs, sh ys⟩), ev]
def Bxx (a : Nat) (c : Int) (h : PH) : Prop := Bx a c h h
theorem Bx.here {a : Nat} {c : Int} {h h' : PH} (b : Bx a c h h') : Bx a c h' h' := by
  obtain ⟨A, B, Z, e, r⟩ := b.at
  exact Bx.self e r
theorem Bx.grow {a : Nat} {c : Int} {h : PH} (b : Bx a c h h) (X : PH) : Bx a c (h ++ X) (h ++ X) := by
  obtain ⟨A, B, Z, e, r⟩ := b.at
  exact Bx.self (by rw [List.getElem?_append_left (List.getElem?_eq_some_iff.mp e).1]; exact e) r
theorem Bx.set {a i : Nat} {c : Int} {h : PH} {o : O} (b : Bx a c h h) (hi : i ≠ a) : Bx a c (h.set i o) (h.set i o) := by
  obtain ⟨A, B, Z, e, r⟩ := b.at
  exact Bx.self (by rw [List.getElem?_set_ne hi]; exact e) r
theorem right_ev {a : Nat} {h : PH} (b0 : Bx a 0 h h) : W (F_l_right [.ref a] h) fun v h' => v = .bl true := by
  obtain ⟨r, h1, e1, r0, r1, b1⟩ := take_ev (m := 4) b0 (by decide) (by decide) (by decide)
  obtain ⟨m, hm⟩ : ∃ m : Nat, 1 + r = (m : Nat) := ⟨(1 + r).toNat, by omega⟩
  have m1 : 1 ≤ m := by omega
  have m4 : m ≤ 4 := by omega
  have b1 := b1.here
  simp only [F_l_right]
  refine W_fnR rfl ?_
  refine W_seq (fun ρ' h' => ρ' = [some (.ref a), some (.int (m : Nat)), none, none, none, none, none, none, none] ∧ h1 = h') ?_ ?_
  · simp -implicitDefEqProofs [e1, hm]
  rintro _ _ ⟨rfl, rfl⟩
  refine W_seqR ?_
  refine W_sForR (h1 := h1) 8 (j := 8) (by simp -implicitDefEqProofs) (by decide) (by decide) (fun t ρ h' => ∃ x2 x3 x4 x5 x6 x7 x8, ρ = [some (.ref a), some (.int (m : Nat)), x2, x3, x4, x5, x6, x7, x8] ∧ Bx a (1 + 10000 * (t : Nat)) h' h') ⟨_, _, _, _, _, _, _, rfl, b1.mono (by omega)⟩ ?_ ?_
  · rintro t ρ h2 ht ⟨x2, x3, x4, x5, x6, x7, x8, rfl, b2⟩
    obtain ⟨d, h3, e3, d0, d1, b3⟩ := take_ev (m := 5) b2 (by omega) (by decide) (by decide)
    obtain ⟨T, h4, e4, b4, t4⟩ := term_ev (m := (m : Nat)) (by omega) (by omega) 8 (1 + d) _ h3 (by omega) b3 (by have : KT 8 = 2044 := rfl; omega)
    obtain ⟨d', h5, e5, d0', d1', b5⟩ := take_ev (m := 8) b4 (by have : KT 8 = 2044 := rfl; omega) (by decide) (by decide)
    obtain ⟨n, hn⟩ : ∃ n : Nat, 1 + d' = (n : Nat) + 1 := ⟨d'.toNat, by omega⟩
    obtain ⟨T', h6, e6, b6, t6⟩ := deep_ev (m := (m : Nat)) (by omega) (by omega) n (1 + d') _ h5 hn (by omega) b5 (by have : KT 8 = 2044 := rfl; omega)
    obtain ⟨T, rfl, dT, oT⟩ := Tm.of 9 T t4
    obtain ⟨T', rfl, dT', oT'⟩ := Tm.of (n + 1) T' t6
    have b6 := b6.here
    have k8 : KT 8 = 2044 := rfl
    have b6 := b6.mono (d := 1 + 10000 * (t : Nat) + 5000) (by omega)
    simp only [gN, W_some, List.set_cons_succ, List.set_cons_zero]
    refine W_sFor (us := [T.u, T'.u]) (srcs := []) (h1 := h6) (by simp -implicitDefEqProofs [e3, e4, e5, e6]) (fun i ρ h' => ∃ x3 x4 x5 x6 x7 x8, ρ = [some (.ref a), some (.int (m : Nat)), some (.int (t : Nat)), x3, x4, x5, x6, x7, x8] ∧ Bx a (1 + 10000 * (t : Nat) + 5000) h' h') (fun _ _ _ _ => trivial) ⟨_, _, _, _, _, _, rfl, b6⟩ ?_ ?_
    · rintro i u ρ h7 hu ⟨x3, x4, x5, x6, x7, x8, rfl, b7⟩
      obtain ⟨V, rfl, dV, oV⟩ : ∃ V : Tm, u = V.u ∧ V.dep ≤ 9 ∧ V.ok m := by
        have := List.mem_of_getElem? hu
        simp only [List.mem_cons, List.not_mem_nil, or_false] at this
        rcases this with rfl | rfl
        · exact ⟨T, rfl, dT, oT⟩
        · exact ⟨T', rfl, by omega, oT'⟩
      have o4 : V.ok 4 := fun k hk => by have := oV k hk; omega
      have w7 := walked_ev (h := h7) o4 dV
      have d7 := depth_ev (h := h7) 12 V (by omega)
      simp only [gN, W_some, List.set_cons_succ, List.set_cons_zero]
      refine W_seq (fun ρ' h' => ρ' = [some (.ref a), some (.int (m : Nat)), some (.int (t : Nat)), some V.u, some (.int (V.dep : Nat)), some (.lst ((clsI V.cls).map .int)), x6, x7, x8] ∧ h7 = h') ?_ ?_
      · simp -implicitDefEqProofs [w7]
      rintro _ _ ⟨rfl, rfl⟩
      refine W_seq (fun ρ' h' => ρ' = [some (.ref a), some (.int (m : Nat)), some (.int (t : Nat)), some V.u, some (.int (V.dep : Nat)), some (.lst ((clsI V.cls).map .int)), x6, x7, x8] ∧ h7 = h') ?_ ?_
      · simp -implicitDefEqProofs [d7, uNe, isa]
      rintro _ _ ⟨rfl, rfl⟩
      refine W_sForR (h1 := h7) 2 (j := 2) (by simp -implicitDefEqProofs) (by decide) (by decide) (fun s ρ h' => ∃ x6 x7 x8, ρ = [some (.ref a), some (.int (m : Nat)), some (.int (t : Nat)), some V.u, some (.int (V.dep : Nat)), some (.lst ((clsI V.cls).map .int)), x6, x7, x8] ∧ Bx a (1 + 10000 * (t : Nat) + 5000) h' h') ⟨_, _, _, rfl, b7⟩ ?_ ?_
      · rintro s ρ h8 hs ⟨x6, x7, x8, rfl, b8⟩
        have c8 := classes_ev (h := h8) dV oV m4
        have eN : (h8 ++ [O.lst ((clsI V.cls).map .int)])[h8.length]? = some (.lst ((clsI V.cls).map .int)) := by rw [List.getElem?_append_right (Nat.le_refl _), Nat.sub_self]; rfl
        have q8 := eqInts_ref (ys := clsI V.cls) eN
        have lz := clsI_len V.cls
        have la : a < h8.length := by obtain ⟨_, _, _, e, _⟩ := b8.at; exact (List.getElem?_eq_some_iff.mp e).1
        have b9 := b8.grow [O.lst ((clsI V.cls).map .int)]
        generalize hG : h8 ++ [O.lst ((clsI V.cls).map .int)] = G at c8 eN q8 b9
        have lc : lcS (gN 8) bYes (eIsi "bool" (eVar 8)) [(h8.length, (clsI V.cls).map .int)] [some (.ref a), some (.int (m : Nat)), some (.int (t : Nat)), some V.u, some (.int (V.dep : Nat)), some (.lst ((clsI V.cls).map .int)), some (.int (s : Nat)), some (.ref h8.length), none] ((clsI V.cls).map .int) G = some (((clsI V.cls).map U.int).map (fun _ => U.bl false), G) :=
          lcS_map (fun _ => .bl false) (by show _; simp -implicitDefEqProofs [srcOk, itemsU_ref eN, its_ref eN, eN]) fun u hu => by
            obtain ⟨k, _, rfl⟩ := List.mem_map.mp hu
            exact ⟨[some (.ref a), some (.int (m : Nat)), some (.int (t : Nat)), some V.u, some (.int (V.dep : Nat)), some (.lst ((clsI V.cls).map .int)), some (.int (s : Nat)), some (.ref h8.length), some (.int k)], by simp -implicitDefEqProofs, by simp -implicitDefEqProofs [isa]⟩
        have lb : (((clsI V.cls).map U.int).map (fun _ => U.bl false)) = ((clsI V.cls).map fun _ => false).map U.bl := by simp
        have lz1 : (((clsI V.cls).map fun _ => false).map U.bl).length ≤ sizeLine := len_ok (by simp; omega)
        have lz2 : ((clsI V.cls).map U.int).length < sizeLine := len_lt (by simp; omega)
        rw [lb] at lc
        have an : ((clsI V.cls).map fun _ => false).any id = false := by simp
        simp only [gN, W_some, List.set_cons_succ, List.set_cons_zero]
        refine W_seq (fun ρ' h' => ρ' = [some (.ref a), some (.int (m : Nat)), some (.int (t : Nat)), some V.u, some (.int (V.dep : Nat)), some (.lst ((clsI V.cls).map .int)), some (.int (s : Nat)), some (.ref h8.length), x8] ∧ G = h') ?_ ?_
        · simp -implicitDefEqProofs [c8]
        rintro _ _ ⟨rfl, rfl⟩
        refine W_seq (fun ρ' h' => ρ' = [some (.ref a), some (.int (m : Nat)), some (.int (t : Nat)), some V.u, some (.int (V.dep : Nat)), some (.lst ((clsI V.cls).map .int)), some (.int (s : Nat)), some (.ref h8.length), x8] ∧ G = h') ?_ ?_
        · have an2 : eCB cAny (aCons (eLc false (iSeq (eVar 7)) (gN 8) bYes (eIsi "bool" (eVar 8)) [8]) aNil) [some (.ref a), some (.int (m : Nat)), some (.int (t : Nat)), some V.u, some (.int (V.dep : Nat)), some (.lst ((clsI V.cls).map .int)), some (.int (s : Nat)), some (.ref h8.length), x8] G = some (.bl false, G) := by
            have i7 : iSeq (eVar 7) [some (.ref a), some (.int (m : Nat)), some (.int (t : Nat)), some V.u, some (.int (V.dep : Nat)), some (.lst ((clsI V.cls).map .int)), some (.int (s : Nat)), some (.ref h8.length), x8] G = some (((clsI V.cls).map .int, [(h8.length, (clsI V.cls).map .int)]), G) := by
              simp -implicitDefEqProofs [itemsU_ref eN]
            simp -implicitDefEqProofs only [eCB, aCons, aNil, eLc, i7, bnd_some, wipeE, List.set_cons_succ, List.set_cons_zero, lc, if_pos lz1, mk_f]
            simp -implicitDefEqProofs
          generalize hE : eCB cAny (aCons (eLc false (iSeq (eVar 7)) (gN 8) bYes (eIsi "bool" (eVar 8)) [8]) aNil) = EE at an2
          simp -implicitDefEqProofs [isa, tyOk_ref eN, uNe, q8, an2]
          exact ⟨_, its_ref eN⟩
        rintro _ _ ⟨rfl, rfl⟩
        have app : mApp G (.ref h8.length) [.int 9] = some (.non, G.set h8.length (.lst ((clsI V.cls).map U.int ++ [U.int 9]))) := by
          show ((lsAt _ _).bind _) = _
          rw [lsAt_ref eN]
          show (if ((clsI V.cls).map U.int).length < sizeLine then _ else _) = _
          rw [if_pos lz2]
        have lG : h8.length < G.length := by rw [← hG, List.length_append]; simp
        have eN2 : (G.set h8.length (.lst ((clsI V.cls).map U.int ++ [U.int 9])))[h8.length]? = some (.lst ((clsI V.cls).map U.int ++ [U.int 9])) := List.getElem?_set_self lG
        refine W_seq (fun ρ' h' => ρ' = [some (.ref a), some (.int (m : Nat)), some (.int (t : Nat)), some V.u, some (.int (V.dep : Nat)), some (.lst ((clsI V.cls).map .int)), some (.int (s : Nat)), some (.ref h8.length), x8] ∧ h' = G.set h8.length (.lst ((clsI V.cls).map U.int ++ [U.int 9]))) ?_ ?_
        · simp -implicitDefEqProofs [-mApp, app, tyOk_ref eN]
        rintro _ _ ⟨rfl, rfl⟩
        have rev : mRev (G.set h8.length (.lst ((clsI V.cls).map U.int ++ [U.int 9]))) (.ref h8.length) [] = some (.non, (G.set h8.length (.lst ((clsI V.cls).map U.int ++ [U.int 9]))).set h8.length (.lst ((clsI V.cls).map U.int ++ [U.int 9]).reverse)) := by
          show ((lsAt _ _).map _) = _
          rw [lsAt_ref eN2]; rfl
        refine ⟨.nx [some (.ref a), some (.int (m : Nat)), some (.int (t : Nat)), some V.u, some (.int (V.dep : Nat)), some (.lst ((clsI V.cls).map .int)), some (.int (s : Nat)), some (.ref h8.length), x8], (G.set h8.length (.lst ((clsI V.cls).map U.int ++ [U.int 9]))).set h8.length (.lst ((clsI V.cls).map U.int ++ [U.int 9]).reverse), by simp -implicitDefEqProofs only [sEx, eM, aNil, eVar, bnd_some, List.getElem?_cons_succ, List.getElem?_cons_zero, tyOk_ref eN2, if_true, rev], ?_⟩
        exact ⟨_, _, _, rfl, (b9.set (by omega)).set (by omega)⟩
      · rintro ρ h8 ⟨x6, x7, x8, rfl, b8⟩
        exact ⟨_, _, _, _, _, _, rfl, b8⟩
    · rintro ρ h8 ⟨x3, x4, x5, x6, x7, x8, rfl, b8⟩
      exact ⟨_, _, _, _, _, _, _, rfl, b8.mono (by omega)⟩
  · rintro ρ h2 ⟨x2, x3, x4, x5, x6, x7, x8, rfl, b⟩
    simp
end Mine
end
section
set_option Elab.async false
set_option linter.unusedSimpArgs false
set_option maxRecDepth 100000
set_option linter.unusedVariables false
set_option maxHeartbeats 4000000
namespace Mine
open PySem L2
theorem law_pure : ∀ ns : List Int, ns.length ≤ 63 → ∃ h', F_law [.scr (ns.map .int)] [] = some (.bl true, h') := by
  intro ns hn
  obtain ⟨cs, ec, hl⟩ := folded_ev (ns := ns) (k := 6) (h := []) (by decide) (by decide) hn
  have l6 : cs.length ≤ 6 := by rw [hl]; show min 6 _ ≤ 6; omega
  obtain ⟨n, en⟩ : ∃ n : Nat, maxL [1, ((cs.length : Nat) : Int)] = (n : Nat) := ⟨max 1 cs.length, by show max 1 ((cs.length : Nat) : Int) = _; omega⟩
  have n6 : n ≤ 6 := by
    have e2 : max 1 ((cs.length : Nat) : Int) = ((n : Nat) : Int) := en
    omega
  have w : W (F_law [.scr (ns.map .int)] []) fun v h' => v = .bl true := by
    simp only [F_law]
    refine W_fnR rfl ?_
    refine W_seq (fun ρ' h' => ρ' = [some (.scr (ns.map .int)), some (.lst (cs.map .int)), none] ∧ [] = h') ?_ ?_
    · simp -implicitDefEqProofs [ec]
    rintro _ _ ⟨rfl, rfl⟩
    have rg : iRng1U (aCons (eCB cMax2 (aCons (eC (.int 1)) (aCons (eCB cLen (aCons (eVar 1) aNil)) aNil))) aNil) [some (.scr (ns.map .int)), some (.lst (cs.map .int)), none] [] = some ((rngU 0 n, []), []) := by
      refine iRng1_ev (j := (n : Nat)) ?_ rfl (by omega)
      simp -implicitDefEqProofs [intsU, en]
    obtain ⟨ys, h2, elc, hy⟩ := lcS_inv (g := gN 2) (f := eCall F_l_right (aCons (eCall F_l_box (aCons (eVar 1) (aCons (eVar 2) aNil))) aNil)) (srcs := []) (ρ := [some (.scr (ns.map .int)), some (.lst (cs.map .int)), none]) (h := []) (fun i acc h => acc = List.replicate i (U.bl true)) (us := rngU 0 n) (fun _ _ _ _ => trivial) rfl (by
      rintro i u acc h hu rfl
      have hi : i < n := by have := (List.getElem?_eq_some_iff.mp hu).1; rwa [rngU_len] at this
      rw [rngU_get hi] at hu
      cases hu
      obtain ⟨A, B, eb, A0, B0, B1⟩ := box_ev (cs := cs) (j := i) (h := h) (by omega) (by omega)
      have bx : Bx h.length 0 (h ++ [.lst [.int A, .int B, .int 0]]) (h ++ [.lst [.int A, .int B, .int 0]]) := Bx.self (by rw [List.getElem?_append_right (Nat.le_refl _), Nat.sub_self]; rfl) ⟨A0, B0, B1, by omega, by omega⟩
      obtain ⟨v, h', er, rfl⟩ := right_ev bx
      have z : (0 : Int) + (i : Nat) = (i : Nat) := by omega
      refine ⟨[some (.scr (ns.map .int)), some (.lst (cs.map .int)), some (.int (i : Nat))], h, .bl true, h', by simp -implicitDefEqProofs, by simp -implicitDefEqProofs [eb, er], ?_⟩
      rw [List.replicate_succ'])
    rw [rngU_len] at hy
    subst hy
    have hz : (List.replicate n (U.bl true)).length ≤ sizeLine := len_ok (by simp; omega)
    have hb : List.replicate n (U.bl true) = (List.replicate n true).map U.bl := by simp
    have an : cAll h2 [.lst (List.replicate n (U.bl true))] = some (.bl true, h2) := by
      simp -implicitDefEqProofs
      exact ⟨List.replicate n true, by rw [hb, blsU_map], by simp⟩
    refine ⟨.rt (.bl true), h2, ?_, rfl⟩
    simp -implicitDefEqProofs only [sRet, eCB, aCons, aNil, eLc, rg, bnd_some, wipeE, List.set_cons_succ, List.set_cons_zero, elc, if_pos hz, mk_f, an]
  obtain ⟨v, h', e, rfl⟩ := w
  exact ⟨h', e⟩
end Mine
end
section
set_option Elab.async false
set_option linter.unusedSimpArgs false
set_option maxRecDepth 100000
set_option linter.unusedVariables false
set_option maxHeartbeats 4000000
namespace Mine
open PySem L2
section
variable {P : Program} {w : World} {K : PySem.W.Frag} {mg : Str → Option Value} {base : Heap} {cl : Str → Addr} {tb : Str → Addr × Addr}
theorem K_l_box (Z : Cz P w K mg base tb) : Kn P w K mg base "_law_box" ["_law_script", "_law_k"] 1 (spS (SZ P w K cl tb) F_l_box) := by
  exact (Z.D_l_box.okR sc_l_box fun f cdv A outer s H E hr => (rss_cons (rs_set (i := 2) sc_l_box.nd rfl (by first | exact Or.inl rfl | exact Or.inr rfl) (rs_ix ⟨rfl, rfl, rfl⟩ (rs_op (oS_add ⟨rfl, rfl, rfl⟩) (rsv 0) (rs_op (oS_mul ⟨rfl, rfl, rfl⟩) (rs_lst (m := false) (rsa_cons rs_int rsa_nil)) (rs_op (oS_add ⟨rfl, rfl, rfl⟩) (rsv 1) rs_int))) (rsv 1) (fun _ _ => rfl))) (rss_one (rs_ret (rs_lst (m := true) (rsa_cons (rs_op (oS_mul ⟨rfl, rfl, rfl⟩) (rcallB (id := "abs") cS_abs (by rfl) Z.B.abs (by decide +kernel) (rsa_cons (rsv 2) rsa_nil)) (rcallTy (T := "int") cS_int (by rfl) Z.B.int (by decide +kernel) (rsa_cons (rs_cmp oS_ge (rcallB (id := "abs") cS_abs (by rfl) Z.B.abs (by decide +kernel) (rsa_cons (rsv 2) rsa_nil)) (rs_op oS_pow rs_int rs_int) (nomark _)) rsa_nil))) (rsa_cons (rs_op oS_mod (rs_op (oS_mul ⟨rfl, rfl, rfl⟩) (rs_op (oS_add ⟨rfl, rfl, rfl⟩) (rs_op (oS_add ⟨rfl, rfl, rfl⟩) (rs_op oS_mod (rsv 2) rs_int) (rs_op (oS_mul ⟨rfl, rfl, rfl⟩) rs_int (rsv 1))) rs_int) rs_int) rs_int) (rsa_cons rs_int rsa_nil))))))))
theorem K_l_folded (Z : Cz P w K mg base tb) : Kn P w K mg base "_law_folded" ["_law_script", "_law_many"] 1 (spS (SZ P w K cl tb) F_l_folded) := by
  exact Kn.fin (Z.D_l_folded.okR sc_l_folded fun f cdv A outer s H E hr => (rss_cons (rs_set (i := 2) sc_l_folded.nd rfl (by first | exact Or.inl rfl | exact Or.inr rfl) (rcallTy (T := "list") (cS_list ⟨rfl, rfl, rfl⟩ (m := true)) (by rfl) Z.B.list (by decide +kernel) (rsa_cons (rs_sl (m := false) ⟨rfl, rfl, rfl⟩ (rsv 0) rso_none (rso_some (rsv 1))) rsa_nil))) (rss_cons (rs_for PassesOwn.never rfl (rsi_enum ⟨rfl, rfl, rfl⟩ (by rfl) Z.B.enumerate (rs_sl (m := false) ⟨rfl, rfl, rfl⟩ (rsv 0) (rso_some (rsv 1)) (rso_some rs_int))) (rsg_tup (n := 2) ⟨rfl, rfl, rfl⟩ rfl (rsgs_cons (rsg_name (i := 3) sc_l_folded.nd rfl (by first | exact Or.inl rfl | exact Or.inr rfl)) (rsgs_cons (rsg_name (i := 4) sc_l_folded.nd rfl (by first | exact Or.inl rfl | exact Or.inr rfl)) rsgs_nil))) (rss_one (rs_asg (rs_op (oS_add ⟨rfl, rfl, rfl⟩) (rs_ix ⟨rfl, rfl, rfl⟩ (rsv 2) (rs_op oS_mod (rsv 3) (rsv 1)) (fun _ _ => rfl)) (rs_op (oS_mul ⟨rfl, rfl, rfl⟩) (rsv 4) (rs_op (oS_add ⟨rfl, rfl, rfl⟩) (rsv 3) rs_int))) (rsg_sub hr.units (rsv 2) (rs_op oS_mod (rsv 3) (rsv 1)))))) (rss_one (rs_ret (rsv 2))))))
theorem K_parts_of (Z : Cz P w K mg base tb) : Kn P w K mg base "parts_of" ["term"] 1 (spS (SZ P w K cl tb) F_parts_of) := by
  obtain ⟨gPARTS, qPARTS, hPARTS⟩ := Z.G_PARTS
  exact (Z.D_parts_of.okR sc_parts_of fun f cdv A outer s H E hr => (rss_cons (rs_ifS (rb_cmp (oS_inF ⟨rfl, rfl, rfl⟩ hr.units) (rs_ix ⟨rfl, rfl, rfl⟩ (rsv 0) rs_int (fun _ _ => rfl)) (rglob (v := .ref gPARTS) (by rfl) hPARTS.1.mg rfl fun _ _ => hPARTS.2 _ _ _ rfl rfl rfl) (by with_unfolding_all rfl)) (rss_one (rs_ret (rcallTy (T := "list") (cS_list ⟨rfl, rfl, rfl⟩ (m := false)) (by rfl) Z.B.list (by decide +kernel) (rsa_cons (rs_sl (m := false) ⟨rfl, rfl, rfl⟩ (rsv 0) (rso_some rs_int) rso_none) rsa_nil)))) rss_nil) (rss_one (rs_ret (rs_lst (m := false) rsa_nil)))))
theorem K_depth_of (Z : Cz P w K mg base tb) : ∀ n, Kn P w K mg base "depth_of" ["term"] (1 + 1 * n) (spS (SZ P w K cl tb) (F_depth_of n))
  | 0 => noS Z.D_depth_of
  | n + 1 => by
    have ih := K_depth_of Z n
    refine FnLift (k := 1 + 1 * n + 1) ?_ (by omega)
    exact (Z.D_depth_of.okR sc_depth_of fun f cdv A outer s H E hr => (rss_one (rs_ret (rs_op (oS_add ⟨rfl, rfl, rfl⟩) rs_int (rmaxD ⟨rfl, rfl, rfl⟩ rfl (by rfl) Z.B.max (rs_lc (m := false) (own := [("part", 1)]) rfl sc_depth_of.nd (rsi_seq ⟨rfl, rfl, rfl⟩ (rs_kn (K_parts_of Z) (hr.mono (by omega)) (by rfl) (rsa_cons (rsv 0) rsa_nil))) (blkOk_by (own := [("part", 1)]) (N := ["term", "part"]) (sc := (defScope s_depth_of)) (by decide +kernel)) (fun _ _ _ _ _ => (rsg_name (i := 1) sc_depth_of.nd rfl (by first | exact Or.inl rfl | exact Or.inr rfl))) (fun _ _ _ _ _ => rsts_nil) (fun _ _ _ _ _ => (rs_kn ih (hr.mono (by omega)) (by rfl) (rsa_cons (rsv 1) rsa_nil)))) rs_int)))))
theorem K_class_names (Z : Cz P w K mg base tb) : ∀ n, Kn P w K mg base "class_names" ["term"] (1 + 1 * n) (spS (SZ P w K cl tb) (F_class_names n))
  | 0 => noS Z.D_class_names
  | n + 1 => by
    have ih := K_class_names Z n
    refine FnLift (k := 1 + 1 * n + 1) ?_ (by omega)
    exact (Z.D_class_names.okR sc_class_names fun f cdv A outer s H E hr => (rss_cons (rs_ifS (rb_cmp (oS_eq ⟨rfl, rfl, rfl⟩ hr.units) (rs_ix ⟨rfl, rfl, rfl⟩ (rsv 0) rs_int (fun _ _ => rfl)) rs_str (nomark _)) (rss_one (rs_ret (rs_lst (m := false) (rsa_cons (rs_ix ⟨rfl, rfl, rfl⟩ (rsv 0) rs_int (fun _ _ => rfl)) rsa_nil)))) rss_nil) (rss_one (rs_ret (rs_lc2 (m := false) (own := [("part", 1), ("name", 2)]) rfl sc_class_names.nd (rsi_seq ⟨rfl, rfl, rfl⟩ (rs_kn (K_parts_of Z) (hr.mono (by omega)) (by rfl) (rsa_cons (rsv 0) rsa_nil))) (blkOk_by (own := [("part", 1), ("name", 2)]) (N := ["term", "part", "name"]) (sc := (defScope s_class_names)) (by decide +kernel)) (fun _ _ _ _ _ => (rsg_name (i := 1) sc_class_names.nd rfl (by first | exact Or.inl rfl | exact Or.inr rfl))) (fun _ _ _ _ _ => rsts_nil) (fun _ _ _ _ _ => (rsi_seq ⟨rfl, rfl, rfl⟩ (rs_kn ih (hr.mono (by omega)) (by rfl) (rsa_cons (rsv 1) rsa_nil)))) (fun _ _ _ _ _ => (rsg_name (i := 2) sc_class_names.nd rfl (by first | exact Or.inl rfl | exact Or.inr rfl))) (fun _ _ _ _ _ => rsts_nil) (fun _ _ _ _ _ => (rsv 2)))))))
theorem K_classes_in (Z : Cz P w K mg base tb) : Kn P w K mg base "classes_in" ["term"] 14 (spS (SZ P w K cl tb) F_classes_in) := by
  exact (Z.D_classes_in.okR sc_classes_in fun f cdv A outer s H E hr => (rss_one (rs_ret (rsortSet ⟨rfl, rfl, rfl⟩ (m := true) rfl (by rfl) Z.B.sorted (by rfl) Z.B.set (rs_kn (K_class_names Z 12) (hr.mono (by omega)) (by rfl) (rsa_cons (rsv 0) rsa_nil))))))
theorem K_l_take (Z : Cz P w K mg base tb) : Kn P w K mg base "_law_take" ["_law_box_here", "_law_many"] 1 (spS (SZ P w K cl tb) F_l_take) := by
  exact (Z.D_l_take.okR sc_l_take fun f cdv A outer s H E hr => (rss_cons (rs_ifS (rb_cmp oS_gt (rs_ix ⟨rfl, rfl, rfl⟩ (rsv 0) rs_int (fun _ _ => rfl)) rs_int (nomark _)) (rss_cons (rs_asg (rcallB (id := "divmod") cS_divmod (by rfl) Z.B.divmod (by decide +kernel) (rsa_cons (rs_ix ⟨rfl, rfl, rfl⟩ (rsv 0) rs_int (fun _ _ => rfl)) (rsa_cons (rsv 1) rsa_nil))) (rsg_tup (n := 2) ⟨rfl, rfl, rfl⟩ rfl (rsgs_cons (rsg_sub hr.units (rsv 0) rs_int) (rsgs_cons (rsg_name (i := 2) sc_l_take.nd rfl (by first | exact Or.inl rfl | exact Or.inr rfl)) rsgs_nil)))) (rss_one (rs_ret (rsv 2)))) rss_nil) (rss_cons (rs_asg (rs_op (oS_add ⟨rfl, rfl, rfl⟩) (rs_ix ⟨rfl, rfl, rfl⟩ (rsv 0) rs_int (fun _ _ => rfl)) rs_int) (rsg_sub hr.units (rsv 0) rs_int)) (rss_cons (rs_set (i := 3) sc_l_take.nd rfl (by first | exact Or.inl rfl | exact Or.inr rfl) (rs_op oS_mod (rs_op (oS_mul ⟨rfl, rfl, rfl⟩) (rs_op (oS_add ⟨rfl, rfl, rfl⟩) (rs_ix ⟨rfl, rfl, rfl⟩ (rsv 0) rs_int (fun _ _ => rfl)) (rs_op (oS_mul ⟨rfl, rfl, rfl⟩) rs_int (rs_ix ⟨rfl, rfl, rfl⟩ (rsv 0) rs_int (fun _ _ => rfl)))) (rs_op (oS_add ⟨rfl, rfl, rfl⟩) rs_int (rs_ix ⟨rfl, rfl, rfl⟩ (rsv 0) rs_int (fun _ _ => rfl)))) rs_int)) (rss_cons (rs_asg (rs_op oS_mod (rs_op (oS_add ⟨rfl, rfl, rfl⟩) (rs_op (oS_mul ⟨rfl, rfl, rfl⟩) (rsv 3) (rs_op (oS_add ⟨rfl, rfl, rfl⟩) (rs_op oS_mod (rsv 3) rs_int) rs_int)) (rs_ix ⟨rfl, rfl, rfl⟩ (rsv 0) rs_int (fun _ _ => rfl))) rs_int) (rsg_sub hr.units (rsv 0) rs_int)) (rss_one (rs_ret (rs_op oS_mod (rs_op oS_div (rs_op oS_mod (rs_op (oS_mul ⟨rfl, rfl, rfl⟩) (rs_ix ⟨rfl, rfl, rfl⟩ (rsv 0) rs_int (fun _ _ => rfl)) (rs_op (oS_add ⟨rfl, rfl, rfl⟩) (rs_op oS_mod (rs_ix ⟨rfl, rfl, rfl⟩ (rsv 0) rs_int (fun _ _ => rfl)) rs_int) rs_int)) rs_int) rs_int) (rsv 1)))))))))
theorem K_l_term (Z : Cz P w K mg base tb) : ∀ n, Kn P w K mg base "_law_term" ["_law_box_here", "_law_many", "_law_deep"] (1 + 1 * n) (spS (SZ P w K cl tb) (F_l_term n))
  | 0 => noS Z.D_l_term
  | n + 1 => by
    have ih := K_l_term Z n
    refine FnLift (k := 1 + 1 * n + 1) ?_ (by omega)
    exact (Z.D_l_term.okR sc_l_term fun f cdv A outer s H E hr => (rss_cons (rs_set (i := 3) sc_l_term.nd rfl (by first | exact Or.inl rfl | exact Or.inr rfl) (rs_kn (K_l_take Z) (hr.mono (by omega)) (by rfl) (rsa_cons (rsv 0) (rsa_cons rs_int rsa_nil)))) (rss_cons (rs_ifS (rb_cmp (oS_eq ⟨rfl, rfl, rfl⟩ hr.units) (rsv 3) rs_int (nomark _)) (rss_one (rs_ret (rs_tup (rsa_cons rs_str rsa_nil)))) rss_nil) (rss_cons (rs_ifS (SW.pt (rw_or (rb_cmp (oS_lt ⟨rfl, rfl, rfl⟩ hr.units) (rsv 2) rs_int (nomark _)) (rw_or1 (rb_cmp (oS_lt ⟨rfl, rfl, rfl⟩ hr.units) (rsv 3) rs_int (nomark _))))) (rss_one (rs_ret (rs_tup (rsa_cons rs_str (rsa_cons (rs_kn (K_l_take Z) (hr.mono (by omega)) (by rfl) (rsa_cons (rsv 0) (rsa_cons (rsv 1) rsa_nil))) rsa_nil))))) rss_nil) (rss_cons (rs_ifS (rb_cmp (oS_eq ⟨rfl, rfl, rfl⟩ hr.units) (rsv 3) rs_int (nomark _)) (rss_one (rs_ret (rs_tup (rsa_cons rs_str (rsa_cons (rs_kn ih (hr.mono (by omega)) (by rfl) (rsa_cons (rsv 0) (rsa_cons (rsv 1) (rsa_cons (rs_op oS_sub (rsv 2) rs_int) rsa_nil)))) rsa_nil))))) rss_nil) (rss_cons (rs_set (i := 4) sc_l_term.nd rfl (by first | exact Or.inl rfl | exact Or.inr rfl) (rs_ix ⟨rfl, rfl, rfl⟩ (rs_lst (m := false) (rsa_cons rs_str (rsa_cons rs_str rsa_nil))) (rs_kn (K_l_take Z) (hr.mono (by omega)) (by rfl) (rsa_cons (rsv 0) (rsa_cons rs_int rsa_nil))) (fun _ _ => rfl))) (rss_one (rs_ret (rs_tup (rsa_cons (rsv 4) (rsa_cons (rs_kn ih (hr.mono (by omega)) (by rfl) (rsa_cons (rsv 0) (rsa_cons (rsv 1) (rsa_cons (rs_op oS_sub (rsv 2) rs_int) rsa_nil)))) (rsa_cons (rs_kn ih (hr.mono (by omega)) (by rfl) (rsa_cons (rsv 0) (rsa_cons (rsv 1) (rsa_cons (rs_op oS_sub (rsv 2) rs_int) rsa_nil)))) rsa_nil))))))))))))
theorem K_l_deep_term (Z : Cz P w K mg base tb) : Kn P w K mg base "_law_deep_term" ["_law_box_here", "_law_many", "_law_deep"] 2 (spS (SZ P w K cl tb) F_l_deep_term) := by
  exact (Z.D_l_deep_term.okR sc_l_deep_term fun f cdv A outer s H E hr => (rss_cons (rs_set (i := 3) sc_l_deep_term.nd rfl (by first | exact Or.inl rfl | exact Or.inr rfl) (rs_ix ⟨rfl, rfl, rfl⟩ (rs_lst (m := false) (rsa_cons (rs_tup (rsa_cons rs_str rsa_nil)) (rsa_cons (rs_tup (rsa_cons rs_str (rsa_cons (rs_kn (K_l_take Z) (hr.mono (by omega)) (by rfl) (rsa_cons (rsv 0) (rsa_cons (rsv 1) rsa_nil))) rsa_nil))) rsa_nil))) (rcallB (id := "min") (cS_min2 rfl) (by rfl) Z.B.min (by decide +kernel) (rsa_cons rs_int (rsa_cons (rs_kn (K_l_take Z) (hr.mono (by omega)) (by rfl) (rsa_cons (rsv 0) (rsa_cons rs_int rsa_nil))) rsa_nil))) (fun _ _ => rfl))) (rss_cons (rs_for PassesOwn.never rfl (rsi_rng1 (by rfl) Z.B.range (rsa_cons (rs_op oS_sub (rsv 2) rs_int) rsa_nil)) (rsg_name (i := 4) sc_l_deep_term.nd rfl (by first | exact Or.inl rfl | exact Or.inr rfl)) (rss_cons (rs_set (i := 5) sc_l_deep_term.nd rfl (by first | exact Or.inl rfl | exact Or.inr rfl) (rs_kn (K_l_take Z) (hr.mono (by omega)) (by rfl) (rsa_cons (rsv 0) (rsa_cons rs_int rsa_nil)))) (rss_cons (rs_set (i := 6) sc_l_deep_term.nd rfl (by first | exact Or.inl rfl | exact Or.inr rfl) (rs_tup (rsa_cons rs_str (rsa_cons (rs_kn (K_l_take Z) (hr.mono (by omega)) (by rfl) (rsa_cons (rsv 0) (rsa_cons (rsv 1) rsa_nil))) rsa_nil)))) (rss_one (rs_set (i := 3) sc_l_deep_term.nd rfl (by first | exact Or.inl rfl | exact Or.inr rfl) (rs_ix ⟨rfl, rfl, rfl⟩ (rs_lst (m := false) (rsa_cons (rs_tup (rsa_cons rs_str (rsa_cons (rsv 3) rsa_nil))) (rsa_cons (rs_tup (rsa_cons rs_str (rsa_cons (rsv 6) (rsa_cons (rsv 3) rsa_nil)))) (rsa_cons (rs_tup (rsa_cons rs_str (rsa_cons (rsv 3) (rsa_cons (rsv 6) rsa_nil)))) rsa_nil)))) (rsv 5) (fun _ _ => rfl))))))) (rss_one (rs_ret (rsv 3))))))
theorem K_l_walked (Z : Cz P w K mg base tb) : Kn P w K mg base "_law_walked" ["_law_term_here"] 1 (spS (SZ P w K cl tb) F_l_walked) := by
  exact Kn.fin (Z.D_l_walked.okR sc_l_walked fun f cdv A outer s H E hr => (rss_cons (rs_set (i := 1) sc_l_walked.nd rfl (by first | exact Or.inl rfl | exact Or.inr rfl) (rs_lst (m := true) (rsa_cons (rs_tup (rsa_cons (rsv 0) (rsa_cons rs_int rsa_nil))) rsa_nil))) (rss_cons (rs_asg (rs_tup (rsa_cons rs_int (rsa_cons (rs_lst (m := true) rsa_nil) rsa_nil))) (rsg_tup (n := 2) ⟨rfl, rfl, rfl⟩ rfl (rsgs_cons (rsg_name (i := 2) sc_l_walked.nd rfl (by first | exact Or.inl rfl | exact Or.inr rfl)) (rsgs_cons (rsg_name (i := 3) sc_l_walked.nd rfl (by first | exact Or.inl rfl | exact Or.inr rfl)) rsgs_nil)))) (rss_cons (rs_while PassesOwn.never (rb_cmp (oS_ne ⟨rfl, rfl, rfl⟩ hr.units) (rsv 1) (rs_lst (m := false) rsa_nil) (nomark _)) (rss_cons (rs_asg (rbm0 ⟨rfl, rfl, rfl⟩ PySem.F.plainAttrs_list PySem.F.slot_list_pop PySem.F.type_list_pop mS_pop (rsv 1)) (rsg_tup (n := 2) ⟨rfl, rfl, rfl⟩ rfl (rsgs_cons (rsg_name (i := 4) sc_l_walked.nd rfl (by first | exact Or.inl rfl | exact Or.inr rfl)) (rsgs_cons (rsg_name (i := 5) sc_l_walked.nd rfl (by first | exact Or.inl rfl | exact Or.inr rfl)) rsgs_nil)))) (rss_cons (rs_set (i := 2) sc_l_walked.nd rfl (by first | exact Or.inl rfl | exact Or.inr rfl) (rcallB (id := "max") (cS_max2 rfl) (by rfl) Z.B.max (by decide +kernel) (rsa_cons (rsv 2) (rsa_cons (rsv 5) rsa_nil)))) (rss_one (rs_ifS (rb_cmp (oS_eq ⟨rfl, rfl, rfl⟩ hr.units) (rs_ix ⟨rfl, rfl, rfl⟩ (rsv 4) rs_int (fun _ _ => rfl)) rs_str (nomark _)) (rss_one (rs_expr (rbm ⟨rfl, rfl, rfl⟩ PySem.F.plainAttrs_list PySem.F.slot_list_append PySem.F.type_list_append mS_app (rsv 3) (rsa_cons (rs_ix ⟨rfl, rfl, rfl⟩ (rsv 4) rs_int (fun _ _ => rfl)) rsa_nil)))) (rss_one (rs_expr (rbm ⟨rfl, rfl, rfl⟩ PySem.F.plainAttrs_list PySem.F.slot_list_extend PySem.F.type_list_extend (mS_extT ⟨rfl, rfl, rfl⟩) (rsv 1) (rsa_cons (rs_lc (m := false) (own := [("_law_inner", 6)]) rfl sc_l_walked.nd (rsi_seq ⟨rfl, rfl, rfl⟩ (rs_sl (m := false) ⟨rfl, rfl, rfl⟩ (rsv 4) (rso_some rs_int) rso_none)) (blkOk_by (own := [("_law_inner", 6)]) (N := ["_law_term_here", "_law_waiting", "_law_deep", "_law_named", "_law_part", "_law_level", "_law_inner", "_law_k"]) (sc := (defScope s_l_walked)) (by decide +kernel)) (fun _ _ _ _ _ => (rsg_name (i := 6) sc_l_walked.nd rfl (by first | exact Or.inl rfl | exact Or.inr rfl))) (fun _ _ _ _ _ => rsts_nil) (fun _ _ _ _ _ => (rs_tup (rsa_cons (rsv 6) (rsa_cons (rs_op (oS_add ⟨rfl, rfl, rfl⟩) (rsv 5) rs_int) rsa_nil))))) rsa_nil))))))))) (rss_one (rs_ret (rs_tup (rsa_cons (rsv 2) (rsa_cons (rs_lc (m := false) (own := [("_law_k", 7)]) rfl sc_l_walked.nd (rsi_rng1 (by rfl) Z.B.range (rsa_cons rs_int rsa_nil)) (blkOk_by (own := [("_law_k", 7)]) (N := ["_law_term_here", "_law_waiting", "_law_deep", "_law_named", "_law_part", "_law_level", "_law_inner", "_law_k"]) (sc := (defScope s_l_walked)) (by decide +kernel)) (fun _ _ _ _ _ => (rsg_name (i := 7) sc_l_walked.nd rfl (by first | exact Or.inl rfl | exact Or.inr rfl))) (fun _ _ _ _ _ => (rts_one (rb_cmp (oS_inF ⟨rfl, rfl, rfl⟩ hr.units) (rsv 7) (rsv 3) (by with_unfolding_all rfl)))) (fun _ _ _ _ _ => (rsv 7))) rsa_nil)))))))))
theorem K_l_right (Z : Cz P w K mg base tb) : Kn P w K mg base "_law_right" ["_law_box_here"] 15 (spS (SZ P w K cl tb) F_l_right) := by
  exact (Z.D_l_right.okR sc_l_right fun f cdv A outer s H E hr => (rss_cons (rs_set (i := 1) sc_l_right.nd rfl (by first | exact Or.inl rfl | exact Or.inr rfl) (rs_op (oS_add ⟨rfl, rfl, rfl⟩) rs_int (rs_kn (K_l_take Z) (hr.mono (by omega)) (by rfl) (rsa_cons (rsv 0) (rsa_cons rs_int rsa_nil))))) (rss_cons (rs_for PassesOwn.never rfl (rsi_rng1 (by rfl) Z.B.range (rsa_cons rs_int rsa_nil)) (rsg_name (i := 2) sc_l_right.nd rfl (by first | exact Or.inl rfl | exact Or.inr rfl)) (rss_one (rs_for PassesOwn.never rfl (rsi_seq ⟨rfl, rfl, rfl⟩ (rs_tup (rsa_cons (rs_kn (K_l_term Z 9) (hr.mono (by omega)) (by rfl) (rsa_cons (rsv 0) (rsa_cons (rsv 1) (rsa_cons (rs_op (oS_add ⟨rfl, rfl, rfl⟩) rs_int (rs_kn (K_l_take Z) (hr.mono (by omega)) (by rfl) (rsa_cons (rsv 0) (rsa_cons rs_int rsa_nil)))) rsa_nil)))) (rsa_cons (rs_kn (K_l_deep_term Z) (hr.mono (by omega)) (by rfl) (rsa_cons (rsv 0) (rsa_cons (rsv 1) (rsa_cons (rs_op (oS_add ⟨rfl, rfl, rfl⟩) rs_int (rs_kn (K_l_take Z) (hr.mono (by omega)) (by rfl) (rsa_cons (rsv 0) (rsa_cons rs_int rsa_nil)))) rsa_nil)))) rsa_nil)))) (rsg_name (i := 3) sc_l_right.nd rfl (by first | exact Or.inl rfl | exact Or.inr rfl)) (rss_cons (rs_asg (rs_kn (K_l_walked Z) (hr.mono (by omega)) (by rfl) (rsa_cons (rsv 3) rsa_nil)) (rsg_tup (n := 2) ⟨rfl, rfl, rfl⟩ rfl (rsgs_cons (rsg_name (i := 4) sc_l_right.nd rfl (by first | exact Or.inl rfl | exact Or.inr rfl)) (rsgs_cons (rsg_name (i := 5) sc_l_right.nd rfl (by first | exact Or.inl rfl | exact Or.inr rfl)) rsgs_nil)))) (rss_cons (rs_ifS (SW.pt (rw_or (rb_cmp (oS_ne ⟨rfl, rfl, rfl⟩ hr.units) (rs_kn (K_depth_of Z 12) (hr.mono (by omega)) (by rfl) (rsa_cons (rsv 3) rsa_nil)) (rsv 4) (nomark _)) (rw_or1 (rb_tru ⟨rfl, rfl, rfl⟩ (risi ⟨rfl, rfl, rfl⟩ (by first | exact .inl rfl | exact .inr (.inl rfl) | exact .inr (.inr (.inl rfl)) | exact .inr (.inr (.inr (.inl rfl))) | exact .inr (.inr (.inr (.inr rfl)))) (by rfl) Z.B.isinstance (by rfl) Z.B.bool (by decide +kernel) rfl (rs_kn (K_depth_of Z 12) (hr.mono (by omega)) (by rfl) (rsa_cons (rsv 3) rsa_nil))) (by intro _; rfl))))) (rss_one (rs_ret rs_bl)) rss_nil) (rss_one (rs_for PassesOwn.never rfl (rsi_rng1 (by rfl) Z.B.range (rsa_cons rs_int rsa_nil)) (rsg_name (i := 6) sc_l_right.nd rfl (by first | exact Or.inl rfl | exact Or.inr rfl)) (rss_cons (rs_set (i := 7) sc_l_right.nd rfl (by first | exact Or.inl rfl | exact Or.inr rfl) (rs_kn (K_classes_in Z) (hr.mono (by omega)) (by rfl) (rsa_cons (rsv 3) rsa_nil))) (rss_cons (rs_ifS (SW.pt (rw_or (rb_not (rb_tru ⟨rfl, rfl, rfl⟩ (risi ⟨rfl, rfl, rfl⟩ (by first | exact .inl rfl | exact .inr (.inl rfl) | exact .inr (.inr (.inl rfl)) | exact .inr (.inr (.inr (.inl rfl))) | exact .inr (.inr (.inr (.inr rfl)))) (by rfl) Z.B.isinstance (by rfl) Z.B.list (by decide +kernel) rfl (rsv 7)) (by intro _; rfl))) (rw_or (rb_cmp (oS_ne ⟨rfl, rfl, rfl⟩ hr.units) (rsv 7) (rsv 5) (nomark _)) (rw_or1 (rb_tru ⟨rfl, rfl, rfl⟩ (rcallB (id := "any") (cS_any ⟨rfl, rfl, rfl⟩ rfl) (by rfl) Z.B.any (by decide +kernel) (rsa_cons (rs_lc (m := false) (own := [("_law_k", 8)]) rfl sc_l_right.nd (rsi_seq ⟨rfl, rfl, rfl⟩ (rsv 7)) (blkOk_by (own := [("_law_k", 8)]) (N := ["_law_box_here", "_law_many", "_law_turn", "_law_term_here", "_law_deep", "_law_named", "_law_again", "_law_found", "_law_k"]) (sc := (defScope s_l_right)) (by decide +kernel)) (fun _ _ _ _ _ => (rsg_name (i := 8) sc_l_right.nd rfl (by first | exact Or.inl rfl | exact Or.inr rfl))) (fun _ _ _ _ _ => rsts_nil) (fun _ _ _ _ _ => (risi ⟨rfl, rfl, rfl⟩ (by first | exact .inl rfl | exact .inr (.inl rfl) | exact .inr (.inr (.inl rfl)) | exact .inr (.inr (.inr (.inl rfl))) | exact .inr (.inr (.inr (.inr rfl)))) (by rfl) Z.B.isinstance (by rfl) Z.B.bool (by decide +kernel) rfl (rsv 8)))) rsa_nil)) (by intro _; rfl)))))) (rss_one (rs_ret rs_bl)) rss_nil) (rss_cons (rs_expr (rbm ⟨rfl, rfl, rfl⟩ PySem.F.plainAttrs_list PySem.F.slot_list_append PySem.F.type_list_append mS_app (rsv 7) (rsa_cons rs_int rsa_nil))) (rss_one (rs_expr (rbm0 ⟨rfl, rfl, rfl⟩ PySem.F.plainAttrs_list PySem.F.slot_list_reverse PySem.F.type_list_reverse mS_rev (rsv 7)))))))))))))) (rss_one (rs_ret rs_bl)))))
theorem K_law (Z : Cz P w K mg base tb) {fa : Addr} {fd : FuncData} (F : Fun K "law" "law" s_law fa fd) : FnOk P w K mg base CX0 16 fa fd ["_law_script"] (spS (SZ P w K cl tb) F_law) := by
  exact F.okR sc_law fun cdv A outer s H E hr => (rss_cons (rs_set (i := 1) sc_law.nd rfl (by first | exact Or.inl rfl | exact Or.inr rfl) (rs_kn (K_l_folded Z) (hr.mono (by omega)) (by rfl) (rsa_cons (rsv 0) (rsa_cons rs_int rsa_nil)))) (rss_one (rs_ret (rcallB (id := "all") (cS_all ⟨rfl, rfl, rfl⟩ rfl) (by rfl) Z.B.all (by decide +kernel) (rsa_cons (rs_lc (m := false) (own := [("_law_k", 2)]) rfl sc_law.nd (rsi_rng1 (by rfl) Z.B.range (rsa_cons (rcallB (id := "max") (cS_max2 rfl) (by rfl) Z.B.max (by decide +kernel) (rsa_cons rs_int (rsa_cons (rcallB (id := "len") (cS_len ⟨rfl, rfl, rfl⟩) (by rfl) Z.B.len (by decide +kernel) (rsa_cons (rsv 1) rsa_nil)) rsa_nil))) rsa_nil)) (blkOk_by (own := [("_law_k", 2)]) (N := ["_law_script", "_law_cells", "_law_k"]) (sc := (defScope s_law)) (by decide +kernel)) (fun _ _ _ _ _ => (rsg_name (i := 2) sc_law.nd rfl (by first | exact Or.inl rfl | exact Or.inr rfl))) (fun _ _ _ _ _ => rsts_nil) (fun _ _ _ _ _ => (rs_kn (K_l_right Z) (hr.mono (by omega)) (by rfl) (rsa_cons (rs_kn (K_l_box Z) (hr.mono (by omega)) (by rfl) (rsa_cons (rsv 1) (rsa_cons (rsv 2) rsa_nil))) rsa_nil)))) rsa_nil)))))
end
end Mine
end
set_option Elab.async false
set_option linter.unusedSimpArgs false
set_option maxRecDepth 100000
set_option linter.unusedVariables false
set_option maxHeartbeats 4000000
namespace Mine
open PySem L2
def kv_PARTS : List (Str × V) := [("not", .int 1), ("and", .int 2), ("or", .int 2)]
theorem top_PARTS {P : Program} {w : World} {K : PySem.W.Frag} {mg : Str → Option Value} {g : Addr} (G : GDict P w K mg "PARTS" g (kv_PARTS ))  : ∃ g kv, GDict P w K mg "PARTS" g kv ∧ ∀ (S : Sx) (α : Am) (H : Hp), S.P = P → S.w = w → S.K = K → RU S α H u_PARTS (.ref g) :=
  ⟨_, _, G, fun S α H hP hw hK => by subst hP; subst hw; subst hK; exact .dct (.inr G.kd) (.cons (.int _) (.cons (.int _) (.cons (.int _) .nil)))⟩
section
variable {P : Program} {w : World} {K : PySem.W.Frag} {mg : Str → Option Value} {base : Heap} {tb : Str → Addr × Addr}
theorem law_all (Z : Cz P w K mg base tb) {fa : Addr} {fd : FuncData} (F : Fun K "law" "law" s_law fa fd) : FnOk P w K mg base CX0 16 fa fd ["_law_script"] (spLS K (tnames.map fun y => (tb y).2)) := (K_law (cl := fun _ => 0) Z F).imp fun vs H Q E => law_sp (S := SZ P w K (fun _ => 0) tb) law_pure
end
theorem all_mk {l : PySem.W.OpenLaw} {w : World} {K : PySem.W.Frag} {h : Heap} {mg : Str → Option Value} {fa f0 f1 f2 f3 f4 f5 f6 f7 f8 f9 f10 f11 : Addr} (X : K.In h) (G : h.Ns mainGlobals mg) (hfa : mg "law" = some (.ref fa))
    {od0 an0 od1 an1 od2 an2 od3 an3 od4 an4 od5 an5 od6 an6 od7 an7 od8 an8 od9 an9 od10 an10 od11 an11 : Option Addr} {sl0 sl1 sl2 sl3 sl4 sl5 sl6 sl7 sl8 sl9 sl10 sl11 : Array (Option Value)} {oc0 kV0 dc0 pm0 cd0 ct0 oc1 kV1 dc1 pm1 cd1 ct1 oc2 kV2 dc2 pm2 cd2 ct2 oc3 kV3 dc3 pm3 cd3 ct3 oc4 kV4 dc4 pm4 cd4 ct4 oc5 kV5 dc5 pm5 cd5 ct5 oc6 kV6 dc6 pm6 cd6 ct6 oc7 kV7 dc7 pm7 cd7 ct7 oc8 kV8 dc8 pm8 cd8 ct8 oc9 kV9 dc9 pm9 cd9 ct9 oc10 kV10 dc10 pm10 cd10 ct10 oc11 kV11 dc11 pm11 cd11 ct11 : Value}
    (a0 : PySem.W.nsIn K mainGlobals "_law_box" = some (some (.ref f0))) (l0 : K.lookup f0 = some ⟨oc0, od0, .func (PySem.W.fnOf "_law_box" "_law_box" (defArgs s_l_box) (defBody s_l_box) (defScope s_l_box) .none kV0 dc0 pm0 an0 cd0 ct0), sl0⟩) (c0 : PySem.W.codeIn K cd0 "_law_box" = true) (k0 : PySem.W.keepIn K (.ref f0) = true)
    (a1 : PySem.W.nsIn K mainGlobals "_law_folded" = some (some (.ref f1))) (l1 : K.lookup f1 = some ⟨oc1, od1, .func (PySem.W.fnOf "_law_folded" "_law_folded" (defArgs s_l_folded) (defBody s_l_folded) (defScope s_l_folded) .none kV1 dc1 pm1 an1 cd1 ct1), sl1⟩) (c1 : PySem.W.codeIn K cd1 "_law_folded" = true) (k1 : PySem.W.keepIn K (.ref f1) = true)
    (a2 : PySem.W.nsIn K mainGlobals "parts_of" = some (some (.ref f2))) (l2 : K.lookup f2 = some ⟨oc2, od2, .func (PySem.W.fnOf "parts_of" "parts_of" (defArgs s_parts_of) (defBody s_parts_of) (defScope s_parts_of) .none kV2 dc2 pm2 an2 cd2 ct2), sl2⟩) (c2 : PySem.W.codeIn K cd2 "parts_of" = true) (k2 : PySem.W.keepIn K (.ref f2) = true)
    (a3 : PySem.W.nsIn K mainGlobals "depth_of" = some (some (.ref f3))) (l3 : K.lookup f3 = some ⟨oc3, od3, .func (PySem.W.fnOf "depth_of" "depth_of" (defArgs s_depth_of) (defBody s_depth_of) (defScope s_depth_of) .none kV3 dc3 pm3 an3 cd3 ct3), sl3⟩) (c3 : PySem.W.codeIn K cd3 "depth_of" = true) (k3 : PySem.W.keepIn K (.ref f3) = true)
    (a4 : PySem.W.nsIn K mainGlobals "class_names" = some (some (.ref f4))) (l4 : K.lookup f4 = some ⟨oc4, od4, .func (PySem.W.fnOf "class_names" "class_names" (defArgs s_class_names) (defBody s_class_names) (defScope s_class_names) .none kV4 dc4 pm4 an4 cd4 ct4), sl4⟩) (c4 : PySem.W.codeIn K cd4 "class_names" = true) (k4 : PySem.W.keepIn K (.ref f4) = true)
    (a5 : PySem.W.nsIn K mainGlobals "classes_in" = some (some (.ref f5))) (l5 : K.lookup f5 = some ⟨oc5, od5, .func (PySem.W.fnOf "classes_in" "classes_in" (defArgs s_classes_in) (defBody s_classes_in) (defScope s_classes_in) .none kV5 dc5 pm5 an5 cd5 ct5), sl5⟩) (c5 : PySem.W.codeIn K cd5 "classes_in" = true) (k5 : PySem.W.keepIn K (.ref f5) = true)
    (a6 : PySem.W.nsIn K mainGlobals "_law_take" = some (some (.ref f6))) (l6 : K.lookup f6 = some ⟨oc6, od6, .func (PySem.W.fnOf "_law_take" "_law_take" (defArgs s_l_take) (defBody s_l_take) (defScope s_l_take) .none kV6 dc6 pm6 an6 cd6 ct6), sl6⟩) (c6 : PySem.W.codeIn K cd6 "_law_take" = true) (k6 : PySem.W.keepIn K (.ref f6) = true)
    (a7 : PySem.W.nsIn K mainGlobals "_law_term" = some (some (.ref f7))) (l7 : K.lookup f7 = some ⟨oc7, od7, .func (PySem.W.fnOf "_law_term" "_law_term" (defArgs s_l_term) (defBody s_l_term) (defScope s_l_term) .none kV7 dc7 pm7 an7 cd7 ct7), sl7⟩) (c7 : PySem.W.codeIn K cd7 "_law_term" = true) (k7 : PySem.W.keepIn K (.ref f7) = true)
    (a8 : PySem.W.nsIn K mainGlobals "_law_deep_term" = some (some (.ref f8))) (l8 : K.lookup f8 = some ⟨oc8, od8, .func (PySem.W.fnOf "_law_deep_term" "_law_deep_term" (defArgs s_l_deep_term) (defBody s_l_deep_term) (defScope s_l_deep_term) .none kV8 dc8 pm8 an8 cd8 ct8), sl8⟩) (c8 : PySem.W.codeIn K cd8 "_law_deep_term" = true) (k8 : PySem.W.keepIn K (.ref f8) = true)
    (a9 : PySem.W.nsIn K mainGlobals "_law_walked" = some (some (.ref f9))) (l9 : K.lookup f9 = some ⟨oc9, od9, .func (PySem.W.fnOf "_law_walked" "_law_walked" (defArgs s_l_walked) (defBody s_l_walked) (defScope s_l_walked) .none kV9 dc9 pm9 an9 cd9 ct9), sl9⟩) (c9 : PySem.W.codeIn K cd9 "_law_walked" = true) (k9 : PySem.W.keepIn K (.ref f9) = true)
    (a10 : PySem.W.nsIn K mainGlobals "_law_right" = some (some (.ref f10))) (l10 : K.lookup f10 = some ⟨oc10, od10, .func (PySem.W.fnOf "_law_right" "_law_right" (defArgs s_l_right) (defBody s_l_right) (defScope s_l_right) .none kV10 dc10 pm10 an10 cd10 ct10), sl10⟩) (c10 : PySem.W.codeIn K cd10 "_law_right" = true) (k10 : PySem.W.keepIn K (.ref f10) = true)
    (a11 : PySem.W.nsIn K mainGlobals "law" = some (some (.ref f11))) (l11 : K.lookup f11 = some ⟨oc11, od11, .func (PySem.W.fnOf "law" "law" (defArgs s_law) (defBody s_law) (defScope s_law) .none kV11 dc11 pm11 an11 cd11 ct11), sl11⟩) (c11 : PySem.W.codeIn K cd11 "law" = true) (k11 : PySem.W.keepIn K (.ref f11) = true)
    (z0 : PySem.W.nsIn K mainGlobals "abs" = some none)
    (z1 : PySem.W.nsIn K mainGlobals "all" = some none)
    (z2 : PySem.W.nsIn K mainGlobals "any" = some none)
    (z3 : PySem.W.nsIn K mainGlobals "bool" = some none)
    (z4 : PySem.W.nsIn K mainGlobals "divmod" = some none)
    (z5 : PySem.W.nsIn K mainGlobals "enumerate" = some none)
    (z6 : PySem.W.nsIn K mainGlobals "int" = some none)
    (z7 : PySem.W.nsIn K mainGlobals "isinstance" = some none)
    (z8 : PySem.W.nsIn K mainGlobals "len" = some none)
    (z9 : PySem.W.nsIn K mainGlobals "list" = some none)
    (z10 : PySem.W.nsIn K mainGlobals "max" = some none)
    (z11 : PySem.W.nsIn K mainGlobals "min" = some none)
    (z12 : PySem.W.nsIn K mainGlobals "range" = some none)
    (z13 : PySem.W.nsIn K mainGlobals "set" = some none)
    (z14 : PySem.W.nsIn K mainGlobals "sorted" = some none)
    {gPARTS : Addr} {giPARTS : Array DictEntry} {gnPARTS : Nat} (taPARTS : PySem.W.nsIn K mainGlobals "PARTS" = some (some (.ref gPARTS))) (tlPARTS : K.lookup gPARTS = some ⟨.type "dict", none, .dict giPARTS gnPARTS, #[]⟩) (tzPARTS : (gPARTS == sysModules) = false) (trPARTS : RowsOk w giPARTS.toList (kv_PARTS ))
    : ∃ fd : FuncData, (∀ (s : Shared) (v : Value), BindsTo s fd ⟨[v], []⟩ [("_law_script", v)]) ∧ ∀ base : Heap, K.In base → base.Ns mainGlobals mg → FnOk l.prog w K mg base CX0 16 fa fd ["_law_script"] (spLS K []) := by
  have e := hfa.symm.trans (PySem.W.mg_of X G a11)
  cases e
  have B : Bts mg := ⟨PySem.W.mg_none_of X G z0, PySem.W.mg_none_of X G z1, PySem.W.mg_none_of X G z2, PySem.W.mg_none_of X G z3, PySem.W.mg_none_of X G z4, PySem.W.mg_none_of X G z5, PySem.W.mg_none_of X G z6, PySem.W.mg_none_of X G z7, PySem.W.mg_none_of X G z8, PySem.W.mg_none_of X G z9, PySem.W.mg_none_of X G z10, PySem.W.mg_none_of X G z11, PySem.W.mg_none_of X G z12, PySem.W.mg_none_of X G z13, PySem.W.mg_none_of X G z14⟩
  refine ⟨PySem.W.fnOf "law" "law" (defArgs s_law) (defBody s_law) (defScope s_law) .none kV11 dc11 pm11 an11 cd11 ct11, fun s v => .of_eq rfl, fun base KX0 _ => ?_⟩
  have F := fun_mk (st := s_law) l11 c11 k11
  let tb : Str → Addr × Addr := fun _ => (0, 0)
  have D0 : Df K mg "_law_box" ["_law_script", "_law_k"] s_l_box := df_mk (fun _ _ _ _ _ _ us hl => match us, hl with | [_, _], _ => rfl) l0 c0 k0 (PySem.W.mg_of X G a0)
  have D1 : Df K mg "_law_folded" ["_law_script", "_law_many"] s_l_folded := df_mk (fun _ _ _ _ _ _ us hl => match us, hl with | [_, _], _ => rfl) l1 c1 k1 (PySem.W.mg_of X G a1)
  have D2 : Df K mg "parts_of" ["term"] s_parts_of := df_mk (fun _ _ _ _ _ _ us hl => match us, hl with | [_], _ => rfl) l2 c2 k2 (PySem.W.mg_of X G a2)
  have D3 : Df K mg "depth_of" ["term"] s_depth_of := df_mk (fun _ _ _ _ _ _ us hl => match us, hl with | [_], _ => rfl) l3 c3 k3 (PySem.W.mg_of X G a3)
  have D4 : Df K mg "class_names" ["term"] s_class_names := df_mk (fun _ _ _ _ _ _ us hl => match us, hl with | [_], _ => rfl) l4 c4 k4 (PySem.W.mg_of X G a4)
  have D5 : Df K mg "classes_in" ["term"] s_classes_in := df_mk (fun _ _ _ _ _ _ us hl => match us, hl with | [_], _ => rfl) l5 c5 k5 (PySem.W.mg_of X G a5)
  have D6 : Df K mg "_law_take" ["_law_box_here", "_law_many"] s_l_take := df_mk (fun _ _ _ _ _ _ us hl => match us, hl with | [_, _], _ => rfl) l6 c6 k6 (PySem.W.mg_of X G a6)
  have D7 : Df K mg "_law_term" ["_law_box_here", "_law_many", "_law_deep"] s_l_term := df_mk (fun _ _ _ _ _ _ us hl => match us, hl with | [_, _, _], _ => rfl) l7 c7 k7 (PySem.W.mg_of X G a7)
  have D8 : Df K mg "_law_deep_term" ["_law_box_here", "_law_many", "_law_deep"] s_l_deep_term := df_mk (fun _ _ _ _ _ _ us hl => match us, hl with | [_, _, _], _ => rfl) l8 c8 k8 (PySem.W.mg_of X G a8)
  have D9 : Df K mg "_law_walked" ["_law_term_here"] s_l_walked := df_mk (fun _ _ _ _ _ _ us hl => match us, hl with | [_], _ => rfl) l9 c9 k9 (PySem.W.mg_of X G a9)
  have D10 : Df K mg "_law_right" ["_law_box_here"] s_l_right := df_mk (fun _ _ _ _ _ _ us hl => match us, hl with | [_], _ => rfl) l10 c10 k10 (PySem.W.mg_of X G a10)
  have Z : Cz l.prog w K mg base tb := ⟨KX0, B, D0, D1, D2, D3, D4, D5, D6, D7, D8, D9, D10, (top_PARTS ⟨PySem.W.mg_of X G taPARTS, kdict_mk tzPARTS tlPARTS trPARTS (by show (["not", "and", "or"] : List Str).Nodup; decide +kernel)⟩ )⟩
  exact law_all Z F
theorem walk {l : PySem.W.OpenLaw} {q : Program} {loose : List Str} {XP : (Str → Option Value) → Heap → Prop} {YP : World → Heap → Prop} {d : DefRec} {K : Params → PySem.W.Frag} (hn : l.most = some 63) (hdf : d.params.defaults = [])
    (hY : ∀ (w : World) (h : Heap), YP w h → (K w.params).In h)
    (F : ∀ (w : World) (mg : Str → Option Value) (fa : Addr) (h : Heap), (K w.params).In h → h.Ns mainGlobals mg → mg d.name = some (.ref fa) →
      ∃ fd : FuncData, (∀ (s : Shared) (u : Value), BindsTo s fd ⟨[u], []⟩ [("_law_script", u)]) ∧ ∀ base : Heap, (K w.params).In base → base.Ns mainGlobals mg → FnOk l.prog w (K w.params) mg base CX0 16 fa fd ["_law_script"] (spLS (K w.params) [])) :
    PySem.W.WalkO q loose XP YP l.row.toRowW d [] (fun f vs => PySem.call f vs) :=
  L2.walk_of (n := 63) (k := 16) (x := "_law_script") (CX := fun _ => CX0) (sp := fun w => spLS (K w.params) []) hn (by decide) hdf ⟨rfl, rfl, by decide, by decide⟩ hY F (fun _ _ a ns hl _ hS => ⟨a, ns, rfl, hS, hl, (fun p hp => absurd hp (by simp)), fun _ _ => rfl⟩) fun _ _ _ _ _ z => z
end Mine
open PySem PySem.W PyProof.Rows
set_option maxRecDepth 100000 in
set_option maxHeartbeats 0 in
theorem PySem.Challenge.cw_somesay_k03_deep_and_named_holds : PySem.Challenge.rw_somesay_k03_deep_and_named.Holds := by
  w_on; o_law; k_head; (case hw => w_witness2)
  k_fill
  refine Mine.walk (l := PySem.Challenge.rw_somesay_k03_deep_and_named) rfl rfl (fun w h Y => PySem.W.kIn_of Y) ?F
  case F =>
    intro w mg fa h KX G hmg
    refine' Mine.all_mk KX G hmg ?a0 ?l0 ?c0 ?k0 ?a1 ?l1 ?c1 ?k1 ?a2 ?l2 ?c2 ?k2 ?a3 ?l3 ?c3 ?k3 ?a4 ?l4 ?c4 ?k4 ?a5 ?l5 ?c5 ?k5 ?a6 ?l6 ?c6 ?k6 ?a7 ?l7 ?c7 ?k7 ?a8 ?l8 ?c8 ?k8 ?a9 ?l9 ?c9 ?k9 ?a10 ?l10 ?c10 ?k10 ?a11 ?l11 ?c11 ?k11 ?z0 ?z1 ?z2 ?z3 ?z4 ?z5 ?z6 ?z7 ?z8 ?z9 ?z10 ?z11 ?z12 ?z13 ?z14 ?taPARTS ?tlPARTS ?tzPARTS ?trPARTS
    (case a0 => k_is)
    (case l0 => k_is)
    (case c0 => k_is)
    (case k0 => k_is)
    (case a1 => k_is)
    (case l1 => k_is)
    (case c1 => k_is)
    (case k1 => k_is)
    (case a2 => k_is)
    (case l2 => k_is)
    (case c2 => k_is)
    (case k2 => k_is)
    (case a3 => k_is)
    (case l3 => k_is)
    (case c3 => k_is)
    (case k3 => k_is)
    (case a4 => k_is)
    (case l4 => k_is)
    (case c4 => k_is)
    (case k4 => k_is)
    (case a5 => k_is)
    (case l5 => k_is)
    (case c5 => k_is)
    (case k5 => k_is)
    (case a6 => k_is)
    (case l6 => k_is)
    (case c6 => k_is)
    (case k6 => k_is)
    (case a7 => k_is)
    (case l7 => k_is)
    (case c7 => k_is)
    (case k7 => k_is)
    (case a8 => k_is)
    (case l8 => k_is)
    (case c8 => k_is)
    (case k8 => k_is)
    (case a9 => k_is)
    (case l9 => k_is)
    (case c9 => k_is)
    (case k9 => k_is)
    (case a10 => k_is)
    (case l10 => k_is)
    (case c10 => k_is)
    (case k10 => k_is)
    (case a11 => k_is)
    (case l11 => k_is)
    (case c11 => k_is)
    (case k11 => k_is)
    (case z0 => k_is)
    (case z1 => k_is)
    (case z2 => k_is)
    (case z3 => k_is)
    (case z4 => k_is)
    (case z5 => k_is)
    (case z6 => k_is)
    (case z7 => k_is)
    (case z8 => k_is)
    (case z9 => k_is)
    (case z10 => k_is)
    (case z11 => k_is)
    (case z12 => k_is)
    (case z13 => k_is)
    (case z14 => k_is)
    (case taPARTS => k_is)
    (case tlPARTS => k_is)
    (case tzPARTS => decide)
    (case trPARTS => exact (.cons rfl rfl ⟨_, rfl⟩ (.cons rfl rfl ⟨_, rfl⟩ (.cons rfl rfl ⟨_, rfl⟩ .nil))))
